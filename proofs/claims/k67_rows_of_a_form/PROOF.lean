import PyProof.Rows.All
import Wide.All
import OpenK.AllK
import Wide.FinOn
import Lean
import PyProof.EqAt
import PyProof.EqKinds
import PyProof.TupleCall
import KE.KIntText
import KE.KTryMore
import KE.KIsAll
import PyProof.ZipIter
import KE.KRevIter
import PySem.Challenge.RW_rowjudge_k67_rows_of_a_form
set_option Elab.async false
set_option linter.all false
set_option maxRecDepth 100000
/-! THE HAND LAYER, for ints, bools, texts, own classes, LISTS and tuples (index, slices, in, append, pop ..), calls, loops. Paste it whole ahead of your own text; what your proof does not reach may be deleted. -/
namespace L2
open PySem PySem.Spec PyProof.Rows

/-- a key: an int or a str -/
abbrev Key := Sum Int Str
def keyIs : Key → Value → Bool
  | .inl k, v => Value.isInt k v
  | .inr x, v => Value.isStrOf x v
def keyH (w : World) : Key → Int
  | .inl k => hashInt k
  | .inr x => hashStr w x
theorem keyIs_shape : ∀ {k : Key} {v : Value}, keyIs k v = true → (∃ i t, k = Sum.inl i ∧ v = Value.int i t) ∨ (∃ x t, k = Sum.inr x ∧ v = Value.str x t)
  | .inl i, v, h => by
    obtain ⟨t, e⟩ := Value.isInt_shape (k := i) (v := v) h
    exact .inl ⟨i, t, rfl, e⟩
  | .inr x, v, h => by
    obtain ⟨t, e⟩ := Value.isStrOf_shape (x := x) (v := v) h
    exact .inr ⟨x, t, rfl, e⟩
theorem key_ll (a b : Int) : decide ((Sum.inl a : Key) = Sum.inl b) = (a == b) := by
  by_cases e : a = b
  · subst e; simp
  · have h : ¬ (Sum.inl a : Key) = Sum.inl b := fun q => e (Sum.inl.inj q)
    rw [decide_eq_false h]
    exact (beq_eq_false_iff_ne.mpr e).symm
theorem key_rr (a b : Str) : decide ((Sum.inr a : Key) = Sum.inr b) = decide (a = b) := by
  by_cases e : a = b
  · subst e; simp
  · have h : ¬ (Sum.inr a : Key) = Sum.inr b := fun q => e (Sum.inr.inj q)
    rw [decide_eq_false h, decide_eq_false e]
theorem key_lr (a : Int) (b : Str) : decide ((Sum.inl a : Key) = Sum.inr b) = false := decide_eq_false (fun q => nomatch q)
theorem key_rl (a : Str) (b : Int) : decide ((Sum.inr a : Key) = Sum.inl b) = false := decide_eq_false (fun q => nomatch q)

def mixKind (prog : Program) (w : World) : PySem.KeyKind prog w Key where
  is := keyIs
  hash := keyH w
  inj := fun v a b ha hb => by
    rcases keyIs_shape ha with ⟨i, t, rfl, rfl⟩ | ⟨x, t, rfl, rfl⟩
    · rcases keyIs_shape hb with ⟨j, u, rfl, e⟩ | ⟨y, u, rfl, e⟩
      · injection e with e1 _; rw [e1]
      · exact nomatch e
    · rcases keyIs_shape hb with ⟨j, u, rfl, e⟩ | ⟨y, u, rfl, e⟩
      · exact nomatch e
      · injection e with e1 _; rw [e1]
  byValue := fun k v h => by
    rcases keyIs_shape h with ⟨i, t, rfl, rfl⟩ | ⟨x, t, rfl, rfl⟩ <;> rfl
  pyHash := fun hv h => by
    rcases keyIs_shape hv with ⟨i, t, rfl, rfl⟩ | ⟨x, t, rfl, rfl⟩
    · exact wpAny_pyHash_int h
    · exact wpAny_pyHash_str h
  eqBool := fun hu hv h => by
    rcases keyIs_shape hu with ⟨i, t, rfl, rfl⟩ | ⟨x, t, rfl, rfl⟩
    · rcases keyIs_shape hv with ⟨j, u, rfl, rfl⟩ | ⟨y, u, rfl, rfl⟩
      · rw [key_ll] at h; exact wpAny_eqBool_int h
      · rw [key_lr] at h; exact SeqAt.EqAt.int_str i t y u _ _ _ _ h
    · rcases keyIs_shape hv with ⟨j, u, rfl, rfl⟩ | ⟨y, u, rfl, rfl⟩
      · rw [key_rl] at h; exact SeqAt.EqAt.str_int x t j u _ _ _ _ h
      · rw [key_rr] at h; exact wpAny_eqBool_str h
  «strs» := fun k x t v h => by
    rcases keyIs_shape h with ⟨i, u, rfl, e⟩ | ⟨y, u, rfl, e⟩
    · exact nomatch e
    · injection e with e1 _
      subst e1
      cases v <;> rfl

end L2

namespace L2
open PySem PySem.Spec PyProof.Rows

/-- a value, without the heap -/
inductive V where
  | non | bl (b : Bool) | int (i : Int) | str (x : Str) | byt (b : Array UInt8) | flt (b : UInt64) | ref (a : Addr) | ty (n : String)
  deriving DecidableEq

def RelV : V → Value → Prop
  | .non, u => u = Value.none
  | .bl b, u => u = Value.bool b
  | .int i, u => ∃ t, u = Value.int i t
  | .str x, u => ∃ t, u = Value.str x t
  | .byt b, u => ∃ t, u = Value.bytes b t
  | .flt b, u => ∃ t, u = Value.float b t
  | .ref a, u => u = Value.ref a
  | .ty n, u => u = Value.type n

abbrev Vals : List V → List Value → Prop := Paired RelV
theorem Vals.length {xs : List V} {us : List Value} (r : Vals xs us) : xs.length = us.length := Paired.length r
theorem Vals.get : ∀ {xs : List V} {us : List Value} {i : Nat} {x : V}, Vals xs us → xs[i]? = some x → ∃ u, us[i]? = some u ∧ RelV x u
  | _, _, _, _, .nil, e => by simp at e
  | _, _, 0, _, .cons r _, e => by simp at e; subst e; exact ⟨_, rfl, r⟩
  | _, _, i + 1, x, .cons _ t, e => by
    obtain ⟨u, h1, h2⟩ := Vals.get (i := i) (x := x) t (by simpa using e)
    exact ⟨u, by simpa using h1, h2⟩
theorem Vals.set {x : V} {u : Value} (r : RelV x u) : ∀ {xs : List V} {us : List Value} (i : Nat), Vals xs us → Vals (xs.set i x) (us.set i u)
  | _, _, _, .nil => .nil
  | _, _, 0, .cons _ t => .cons r t
  | _, _, i + 1, .cons q t => .cons q (Vals.set r i t)
theorem Vals.append : ∀ {xs ys : List V} {us ws : List Value}, Vals xs us → Vals ys ws → Vals (xs ++ ys) (us ++ ws)
  | _, _, _, _, .nil, s => s
  | _, _, _, _, .cons r t, s => .cons r (Vals.append t s)
theorem Vals.take : ∀ {xs : List V} {us : List Value} (n : Nat), Vals xs us → Vals (xs.take n) (us.take n)
  | _, _, 0, _ => .nil
  | _, _, _ + 1, .nil => .nil
  | _, _, n + 1, .cons r t => .cons r (Vals.take n t)
theorem Vals.drop : ∀ {xs : List V} {us : List Value} (n : Nat), Vals xs us → Vals (xs.drop n) (us.drop n)
  | _, _, 0, r => r
  | _, _, _ + 1, .nil => .nil
  | _, _, n + 1, .cons _ t => Vals.drop n t
def RelO : Option V → Option Value → Prop
  | some v, some u => RelV v u
  | none, none => True
  | _, _ => False
def KV {κ : Type} : List (κ × V) → List (κ × Value) → Prop := Paired fun (p : κ × V) (q : κ × Value) => p.1 = q.1 ∧ RelV p.2 q.2

/-- a key of a dict (00_mix): an int or a text -/
def kV : Key → V
  | .inl i => .int i
  | .inr x => .str x

/-- what stands at a tracked address -/
inductive HO where
  /-- a list -/
  | lst (xs : List V)
  /-- a tuple (never changes) -/
  | tup (xs : List V)
  /-- a dict whose keys are ints and texts; one whose keys are tuples of ints and texts (the empty one is both) -/
  | dK (kvs : List (Key × V)) | dT (kvs : List (List Key × V))
  /-- a set of ints: its members, its size -/
  | set (S : Int → Bool) (n : Nat)
  /-- an instance of the class at C, its dict at dx, its attributes -/
  | ins (C dx : Addr) (fs : List (Str × V))
  /-- the dict of the instance at x -/
  | own (x : Addr)
  /-- the dict of an exception -/
  | xd (fs : List (Str × V))
  /-- a bound method, f of x -/
  | met (f x : Addr)
  /-- a range object lo, lo + 1, .. below hi -/
  | rng (lo hi : Int)
  /-- a thing that is known to the object (the script; a dict while a loop walks it): read, never written while it is so -/
  | frz (o : Obj) (u : HO)
  /-- a code object's table -/
  | tbl (ps : Array Value)
  /-- any other thing, by what is true of its one object (a def of one's own: SetO a S n := HO.ext fun h => ..) -/
  | ext (φ : Heap → Prop)

abbrev Hp := Addr → Option HO
def upd (H : Hp) (a : Addr) (o : HO) : Hp := fun b => if b = a then some o else H b
theorem upd_same {H : Hp} {a : Addr} {o : HO} : upd H a o a = some o := by unfold upd; rw [if_pos rfl]
theorem upd_ne {H : Hp} {a b : Addr} {o : HO} (h : b ≠ a) : upd H a o b = H b := by unfold upd; rw [if_neg h]
/-- two objects of different content stand apart -/
theorem ne_of {H : Hp} {a b : Addr} {o u : HO} (h : H a = some o) (h' : H b = some u) (d : o ≠ u) : a ≠ b := by
  intro e; subst e; rw [h] at h'; exact d (Option.some.inj h')
theorem ne_of_none {H : Hp} {a b : Addr} {o : HO} (h : H a = some o) (h' : H b = none) : a ≠ b := by
  intro e; subst e; rw [h] at h'; cases h'

section
variable (P : Program) (w : World)
def ObjOk (H : Hp) (h : Heap) (a : Addr) : HO → Prop
  | .lst xs => xs.length ≤ sizeLine ∧ ∃ (its : List Value) (n : Nat), Vals xs its ∧ h.get? a = some { cls := .type "list", data := .seq its.toArray n }
  | .tup xs => xs.length ≤ sizeLine ∧ ∃ its : List Value, Vals xs its ∧ IsTup h a its.toArray
  | .dK kvs => kvs.length ≤ sizeLine ∧ (a == sysModules) = false ∧ ∃ vs, KV kvs vs ∧ h.DictOf (mixKind P w) a vs
  | .dT kvs => kvs.length ≤ sizeLine ∧ (a == sysModules) = false ∧ ∃ xs : List (List Key × Addr × Value),
      Paired (fun (p : List Key × V) (q : List Key × Addr × Value) => p.1 = q.1 ∧ H q.2.1 = some (.tup (p.1.map kV)) ∧ RelV p.2 q.2.2) kvs xs ∧
      ∃ o es ep, h.get? a = some o ∧ o.ExactDict ∧ o.data = .dict es ep ∧ es.toList = xs.map (entryOfKey (tupleKind (mixKind P w))) ∧ (xs.map (·.1)).Nodup
  | .set S n => h.SetOf (intKind P w) a S n
  | .ins C dx fs => H dx = some (.own a) ∧ fs.length ≤ 1000 ∧ dx ≠ a ∧ h.get? a = some (PySem.W.instObj C dx) ∧
      ∃ mA, h.Ns1 dx mA ∧ (∀ f, RelO (fs.lookup f) (mA f)) ∧ PySem.Within mA (fs.map (·.1))
  | .own _ => ∃ o, h.get? a = some o
  | .xd fs => ∃ mA, h.Ns1 a mA ∧ ∀ f, RelO (fs.lookup f) (mA f)
  | .rng lo hi => ∃ t u v, h.get? a = some { cls := .type "range", data := .fields #[.int lo t, .int hi u, .int 1 v] }
  | .frz o u => h.get? a = some o ∧ ObjOk H h a u
  | .tbl ps => h.get? a = some { cls := .none, data := .fields ps }
  | .met f x => h.get? a = some (PySem.W.methodObj (.ref f) (.ref x))
  | .ext φ => φ h ∧ (∃ o, h.get? a = some o) ∧ ∀ h1 h2 : Heap, φ h1 → (∀ o, h1.get? a = some o → h2.get? a = some o) → φ h2
/-- the abstract heap is held -/
def HOk (H : Hp) (h : Heap) : Prop := ∀ a o, H a = some o → ObjOk P w H h a o
end

section
variable {P : Program} {w : World} {H H' : Hp} {h h' : Heap} {a : Addr} {o : HO}
theorem ObjOk.lt (x : ObjOk P w H h a o) : a < h.objs.size := by
  cases o with
  | lst xs => obtain ⟨_, _, _, _, e⟩ := x; exact Heap.lt_size e
  | tup xs => obtain ⟨_, _, _, p⟩ := x; exact p.lt
  | dK kvs => obtain ⟨_, _, _, _, o, _, _, e, _⟩ := x; exact Heap.lt_size e
  | dT kvs => obtain ⟨_, _, _, _, o, _, _, e, _⟩ := x; exact Heap.lt_size e
  | set S n => obtain ⟨o, _, _, _, e, _⟩ := x; exact Heap.lt_size e
  | ins C dx fs => obtain ⟨_, _, _, e, _⟩ := x; exact Heap.lt_size e
  | own y => obtain ⟨_, e⟩ := x; exact Heap.lt_size e
  | xd fs => obtain ⟨_, ⟨_, _, _, e, _⟩, _⟩ := x; exact Heap.lt_size e
  | rng lo hi => obtain ⟨_, _, _, e⟩ := x; exact Heap.lt_size e
  | frz ob u => obtain ⟨e, _⟩ := x; exact Heap.lt_size e
  | tbl ps => exact Heap.lt_size (show h.get? a = some _ from x)
  | met f y => exact Heap.lt_size (show h.get? a = some _ from x)
  | ext φ => obtain ⟨_, ⟨_, e⟩, _⟩ := x; exact Heap.lt_size e
theorem Paired.mapP {α β : Type} {F G : α → β → Prop} : ∀ {l₁ : List α} {l₂ : List β}, Paired F l₁ l₂ → (∀ a b, F a b → G a b) → Paired G l₁ l₂
  | _, _, .nil, _ => .nil
  | _, _, .cons r t, f => .cons (f _ _ r) (Paired.mapP t f)
/-- what an object's description leans on: its own object, its own dict, the tuples -/
theorem ObjOk.stay (x : ObjOk P w H h a o) (k : ∀ b u, (b = a ∨ H b = some (.own a)) → h.get? b = some u → h'.get? b = some u)
    (ho : ∀ b, H b = some (.own a) → H' b = some (.own a)) (ht : ∀ b xs, H b = some (.tup xs) → H' b = some (.tup xs)) : ObjOk P w H' h' a o := by
  induction o with
  | lst xs => obtain ⟨z, its, n, r, e⟩ := x; exact ⟨z, its, n, r, k _ _ (.inl rfl) e⟩
  | tup xs => obtain ⟨z, its, r, ob, e, c⟩ := x; exact ⟨z, its, r, ob, k _ _ (.inl rfl) e, c⟩
  | dK kvs => obtain ⟨z, y, vs, r, ob, es, ep, e, c⟩ := x; exact ⟨z, y, vs, r, ob, es, ep, k _ _ (.inl rfl) e, c⟩
  | dT kvs =>
    obtain ⟨z, y, xs, r, ob, es, ep, e, c⟩ := x
    exact ⟨z, y, xs, Paired.mapP r fun p q z => ⟨z.1, ht _ _ z.2.1, z.2.2⟩, ob, es, ep, k _ _ (.inl rfl) e, c⟩
  | set S n => obtain ⟨ob, es, ep, t, e, c⟩ := x; exact ⟨ob, es, ep, t, k _ _ (.inl rfl) e, c⟩
  | ins C dx fs =>
    obtain ⟨d, z, ne, e, mA, ⟨od, es, ep, e2, c⟩, r⟩ := x
    exact ⟨ho _ d, z, ne, k _ _ (.inl rfl) e, mA, ⟨od, es, ep, k _ _ (.inr d) e2, c⟩, r⟩
  | own y => obtain ⟨ob, e⟩ := x; exact ⟨ob, k _ _ (.inl rfl) e⟩
  | xd fs => obtain ⟨mA, ⟨od, es, ep, e, c⟩, r⟩ := x; exact ⟨mA, ⟨od, es, ep, k _ _ (.inl rfl) e, c⟩, r⟩
  | rng lo hi => obtain ⟨t, u, v, e⟩ := x; exact ⟨t, u, v, k _ _ (.inl rfl) e⟩
  | frz ob u ih => obtain ⟨e, q⟩ := x; exact ⟨k _ _ (.inl rfl) e, ih q⟩
  | tbl ps =>
    have e : h.get? a = some { cls := .none, data := .fields ps } := x
    show h'.get? a = some { cls := .none, data := .fields ps }
    exact k a _ (.inl rfl) e
  | met f y =>
    have e : h.get? a = some (PySem.W.methodObj (.ref f) (.ref y)) := x
    show h'.get? a = some (PySem.W.methodObj (.ref f) (.ref y))
    exact k a _ (.inl rfl) e
  | ext φ => obtain ⟨p, ⟨o, e⟩, st⟩ := x; exact ⟨st _ _ p fun o q => k _ _ (.inl rfl) q, ⟨o, k _ _ (.inl rfl) e⟩, st⟩
theorem HOk.lt (x : HOk P w H h) (e : H a = some o) : a < h.objs.size := (x a o e).lt
theorem HOk.fresh (x : HOk P w H h) (e : h.objs.size ≤ a) : H a = none := by
  cases q : H a with
  | none => rfl
  | some u => exact absurd (Nat.lt_of_lt_of_le (x.lt q) e) (Nat.lt_irrefl _)
/-- every object of the heap is kept -/
theorem HOk.kept (x : HOk P w H h) (k : ∀ b u, h.get? b = some u → h'.get? b = some u) : HOk P w H h' := fun a o e =>
  (x a o e).stay (fun b u _ q => k b u q) (fun _ q => q) fun _ _ q => q
/-- a new object is laid and tracked -/
theorem HOk.laid (x : HOk P w H h) (k : ∀ b u, h.get? b = some u → h'.get? b = some u) (hp : h.objs.size ≤ a) (new : ObjOk P w (upd H a o) h' a o) : HOk P w (upd H a o) h' := fun b u e => by
  have hn := x.fresh hp
  by_cases hb : b = a
  · subst hb; rw [upd_same] at e; cases e; exact new
  · rw [upd_ne hb] at e
    exact (x b u e).stay (fun c v _ q => k c v q) (fun c q => by rw [upd_ne (ne_of_none q hn)]; exact q) fun c xs q => by rw [upd_ne (ne_of_none q hn)]; exact q
end

/-- what may be read as u: it is u, or a known u -/
def Rd (H : Hp) (a : Addr) (u : HO) : Prop := H a = some u ∨ ∃ o, H a = some (.frz o u)
theorem Rd.ok {P : Program} {w : World} {H : Hp} {h : Heap} {a : Addr} {u : HO} (r : Rd H a u) (x : HOk P w H h) : ObjOk P w H h a u := by
  rcases r with r | ⟨o, r⟩
  · exact x a u r
  · obtain ⟨_, q⟩ := x a _ r
    exact q
/-- what may be written -/
def Mut : Option HO → Prop
  | some (.lst _) => True
  | some (.dK _) => True
  | some (.dT _) => True
  | some (.set _ _) => True
  | some (.ins _ _ _) => True
  | some (.ext _) => True
  | _ => False
section
variable {P : Program} {w : World} {H : Hp} {h h' : Heap} {x e : Addr} {o' : HO}
/-- the object at e is changed: x itself, or the dict of the instance x -/
theorem HOk.write (ok : HOk P w H h) (mu : Mut (H x)) (he : e = x ∨ H e = some (.own x)) (k : ∀ b u, b ≠ e → h.get? b = some u → h'.get? b = some u) (heo : ∃ u, h'.get? e = some u)
    (new : ObjOk P w (upd H x o') h' x o') : HOk P w (upd H x o') h' := fun b u q => by
  have nown : ∀ c y, H c = some (.own y) → c ≠ x := fun c y r z => by subst z; rw [r] at mu; exact mu
  have ntup : ∀ c xs, H c = some (.tup xs) → c ≠ x := fun c xs r z => by subst z; rw [r] at mu; exact mu
  by_cases hb : b = x
  · subst hb; rw [upd_same] at q; cases q; exact new
  · rw [upd_ne hb] at q
    by_cases hbe : b = e
    · have q' : H b = some (.own x) := by
        rcases he with z | z
        · exact absurd (hbe.trans z) hb
        · rw [hbe]; exact z
      rw [q] at q'; cases q'
      obtain ⟨v, hv⟩ := heo
      exact ⟨v, by rw [hbe]; exact hv⟩
    · refine (ok b u q).stay (fun c v hc r => k c v ?_ r) (fun c r => by rw [upd_ne (nown c b r)]; exact r) fun c xs r => by rw [upd_ne (ntup c xs r)]; exact r
      rcases hc with rfl | hc
      · exact hbe
      · rintro rfl
        rcases he with z | z
        · exact nown c b hc z
        · rw [hc] at z; cases z; exact hb rfl
end

/-! ### kept unless tracked; of the frames at fs (the callers') the slots may change (an exception that passes writes there); of the records at ex (iterators) nothing is said -/
structure Un (fs ex : List Addr) (H H' : Hp) (h h' : Heap) : Prop where
  keep : ∀ b o, h.get? b = some o → H b = none → b ∉ fs → b ∉ ex → h'.get? b = some o
  slot : ∀ b o, h.get? b = some o → H b = none → b ∈ fs → b ∉ ex → ∃ sl, h'.get? b = some { o with slots := sl }
  free : ∀ b o, h.get? b = some o → H b = none → b ∉ ex → H' b = none
  there : ∀ b o, h.get? b = some o → b ∉ ex → ∃ o', h'.get? b = some o'
  tups : ∀ b xs, H b = some (.tup xs) → H' b = some (.tup xs)
  frzs : ∀ b o u, H b = some (.frz o u) → H' b = some (.frz o u)
  tbls : ∀ b ps, H b = some (.tbl ps) → ∃ more, H' b = some (.tbl (ps ++ more))
section
variable {fs fs' ex ex' : List Addr} {H H1 H2 : Hp} {h h1 h2 h' : Heap} {a x e : Addr} {o : HO}
theorem Un.any (u : Un fs ex H H1 h h1) {b : Addr} {ob : Obj} (q : h.get? b = some ob) (n : H b = none) (hx : b ∉ ex) : ∃ sl, h1.get? b = some { ob with slots := sl } := by
  by_cases hb : b ∈ fs
  · exact u.slot b ob q n hb hx
  · exact ⟨ob.slots, u.keep b ob q n hb hx⟩
theorem Un.kept (k : ∀ b u, h.get? b = some u → h'.get? b = some u) : Un fs ex H H h h' :=
  ⟨fun b ob q _ _ _ => k b ob q, fun b ob q _ _ _ => ⟨ob.slots, k b ob q⟩, fun _ _ _ n _ => n, fun b ob q _ => ⟨ob, k b ob q⟩, fun _ _ q => q, fun _ _ _ q => q, fun _ ps q => ⟨#[], by rw [q]; simp⟩⟩
theorem Un.refl : Un fs ex H H h h := Un.kept fun _ _ q => q
theorem Un.laid (k : ∀ b u, h.get? b = some u → h'.get? b = some u) (hp : h.objs.size ≤ a) (hn : H a = none) : Un fs ex H (upd H a o) h h' where
  keep := fun b u q _ _ _ => k b u q
  slot := fun b u q _ _ _ => ⟨u.slots, k b u q⟩
  free := fun b u q n _ => by rw [upd_ne (Nat.ne_of_lt (Nat.lt_of_lt_of_le (Heap.lt_size q) hp))]; exact n
  there := fun b u q _ => ⟨u, k b u q⟩
  tups := fun b xs q => by rw [upd_ne (ne_of_none q hn)]; exact q
  frzs := fun b u xs q => by rw [upd_ne (ne_of_none q hn)]; exact q
  tbls := fun b ps q => ⟨#[], by rw [upd_ne (ne_of_none q hn), q]; simp⟩
theorem Un.write (mu : Mut (H x)) (he : e = x ∨ H e = some (.own x)) (k : ∀ b u, b ≠ e → h.get? b = some u → h'.get? b = some u) (heo : ∃ u, h'.get? e = some u) : Un fs ex H (upd H x o) h h' := by
  have hx : ∀ b, H b = none → b ≠ x := fun b n z => by subst z; rw [n] at mu; exact mu
  have hb : ∀ b, H b = none → b ≠ e := fun b n z => by
    subst z
    rcases he with r | r
    · exact hx b n r
    · rw [n] at r; cases r
  have hm : ∀ b u, H b = some u → ¬ Mut (some u) → b ≠ x := fun b u q nm z => by subst z; rw [q] at mu; exact nm mu
  refine ⟨fun b u q n _ _ => k b u (hb b n) q, fun b u q n _ _ => ⟨u.slots, k b u (hb b n) q⟩, fun b u q n _ => by rw [upd_ne (hx b n)]; exact n, fun b u q _ => ?_,
    fun b xs q => by rw [upd_ne (hm b _ q fun z => z)]; exact q, fun b u xs q => by rw [upd_ne (hm b _ q fun z => z)]; exact q, fun b ps q => ⟨#[], by rw [upd_ne (hm b _ q fun z => z), q]; simp⟩⟩
  by_cases hbe : b = e
  · subst hbe; exact heo
  · exact ⟨u, k b u hbe q⟩
end

/-! ### the heap without what is tracked -/
def trk (h : Heap) (H : Hp) : List Addr := (List.range h.objs.size).filter fun a => (H a).isSome
def hidT (h : Heap) (H : Hp) : Heap := PySem.W.hideAll h (trk h H)
theorem hidT_size (h : Heap) (H : Hp) : (hidT h H).objs.size = h.objs.size := PySem.W.hideAll_size _ _
theorem hidT_get {h : Heap} {H : Hp} {b : Addr} {o : Obj} (e : h.get? b = some o) (n : H b = none) : (hidT h H).get? b = some o :=
  PySem.W.hideAll_get _ e fun hm => by
    have q : (H b).isSome = true := (List.mem_filter.mp hm).2
    rw [n] at q; simp at q
theorem of_hidT {h : Heap} {H : Hp} {b : Addr} {o : Obj} (e : (hidT h H).get? b = some o) : h.get? b = some o ∧ H b = none := by
  have e' : h.get? b = some o := PySem.W.of_hideAll (trk h H) e
  refine ⟨e', ?_⟩
  cases q : H b with
  | none => rfl
  | some x =>
    have hm : b ∈ trk h H := List.mem_filter.mpr ⟨List.mem_range.mpr (Heap.lt_size e'), by simp [q]⟩
    have z : (hidT h H).get? b = none := PySem.W.hideAll_none (trk h H) hm
    rw [z] at e; cases e

/-! ### OpenK's ledger, filled with every new object but one -/
def allNews (g h : Heap) (L : Addr) : List (Addr × Obj) := (List.range h.objs.size).filterMap fun a => if a = L ∨ (g.get? a).isSome = true then none else (h.get? a).map fun o => (a, o)
def rest (g h : Heap) (L d : Addr) : List (Addr × Obj) := (allNews g h L).filter fun p => decide (p.1 ≠ d)
end L2

namespace L2
open PySem PySem.Spec PyProof.Rows

/-- the module's facts, over the base: the heap at the law's entry without what is tracked there -/
structure Mod (K : PySem.W.Frag) (mg : Str → Option Value) (base : Heap) : Prop where
  kin : K.In base
  glob : base.Ns mainGlobals mg
  blt : ∃ mb, base.Ns builtinsNs mb ∧ ∀ x : Str, x ≠ "__name__" → mb x = bootBuiltins x
  nolimit : base.NoLimit

/-- the context: a def's body (or a comprehension's block) running. base: fixed through the whole law; s₀, H₀: the entry; outer: the frames whose slots others may change (a def's callers); stack: all frames that run;
   ex: iterators that were made ahead of the entry and are walked here (a comprehension's); fn: the names whose cells were made at the entry (a def: all; a comprehension's block: its own); calm: not within an except suite; pn: pins that every state bears; xe: what is wanted of an exception that leaves the code -/
structure Cx where
  prog : Program
  w : World
  K : PySem.W.Frag
  mg : Str → Option Value
  base : Heap
  A : Around
  N : List Str
  s₀ : Shared
  H₀ : Hp
  env : Env
  outer : List Env
  stack : List Env
  ex : List Addr
  fn : Str → Bool
  calm : Bool
  pn : List (Addr × Obj)
  xe : Value → Shared → Prop
/-- the callers' frames -/
def frs (l : List Env) : List Addr := l.filterMap (·.frame)
abbrev Cx.fs (X : Cx) : List Addr := frs X.outer

def Vis (sc : Scope) (x : Str) : Prop := sc.names.lookup x = some .local ∨ sc.names.lookup x = some .cell ∨ sc.names.lookup x = some .free
def Loc (sc : Scope) (x : Str) : Prop := sc.names.lookup x = some .local ∨ sc.names.lookup x = some .cell
def Look (env : Env) (h : Heap) (m : Str → Option Value) (x : Str) (u : Value) : Prop :=
  (env.kindOf x = some .local ∧ m x = some u) ∨ ((env.kindOf x = some .cell ∨ env.kindOf x = some .free) ∧ ∃ c, env.cells.lookup x = some c ∧ h.IsCell c (some u))

structure Cx.Ok (X : Cx) : Prop where
  mod : Mod X.K X.mg X.base
  kind : X.env.scope.kind = .function
  glob : X.env.globals = mainGlobals
  blt : X.env.builtins = builtinsNs
  above : X.s₀.heap.objs.size ≤ X.env.locals
  inj : ∀ x y c, X.env.cells.lookup x = some c → X.env.cells.lookup y = some c → x = y
  has : ∀ x, (X.env.kindOf x = some .cell ∨ X.env.kindOf x = some .free) → ∃ c, X.env.cells.lookup x = some c
  cab : ∀ x c, X.fn x = true → X.env.cells.lookup x = some c → X.s₀.heap.objs.size ≤ c
  hd : X.calm = true → X.A.handled = none
  frames : X.A.frames = some X.stack
  stk : X.stack = X.outer ∨ (X.stack = X.env :: X.outer ∧ X.env.frame = some X.env.locals)
  exf : ∀ b ∈ X.ex, b ≠ X.env.locals ∧ ∀ x c, X.env.cells.lookup x = some c → c ≠ b
  bs : ∀ b o, X.base.get? b = some o → X.s₀.heap.get? b = some o ∧ X.H₀ b = none
  bsz : X.base.objs.size ≤ X.s₀.heap.objs.size
  noex : ∀ b o, X.base.get? b = some o → b ∉ X.ex
  exfs : ∀ b ∈ X.ex, b ∉ X.fs
  funs : X.s₀.heap.FunFrames X.base X.outer
  frf : ∀ b ∈ X.fs, X.H₀ b = none

structure Inv (X : Cx) (pins : List (Addr × Obj)) (σ : List (Option V)) (H : Hp) (s : Shared) : Prop where
  ok : X.Ok
  os : s.os = X.s₀.os
  bare : AllBare s.gens
  base : Un X.fs X.ex X.H₀ H X.s₀.heap s.heap
  loc : ∃ m, s.heap.Ns X.env.locals m ∧ ∀ (i : Nat) (x : Str) (v : V), X.N[i]? = some x → σ[i]? = some (some v) → Vis X.env.scope x → ∃ u, RelV v u ∧ Look X.env s.heap m x u
  cell : ∀ x c, X.env.cells.lookup x = some c → ∃ v, s.heap.IsCell c v
  free : H X.env.locals = none
  freeC : ∀ x c, X.env.cells.lookup x = some c → H c = none
  pin : ∀ p ∈ X.pn ++ pins, s.heap.get? p.1 = some p.2 ∧ H p.1 = none ∧ p.1 ≠ X.env.locals ∧ p.1 ∉ X.fs ∧ ∀ v, p.2.data ≠ .cell v
  hok : HOk X.prog X.w H s.heap
  len : σ.length = X.N.length

section
variable {X : Cx} {pins : List (Addr × Obj)} {σ : List (Option V)} {H H' : Hp} {s : Shared} {h' : Heap}

theorem Cx.Ok.nofr (ok : X.Ok) {b : Addr} {o : Obj} (e : X.base.get? b = some o) : b ∉ X.fs := fun hb => by
  have := (ok.funs.mem hb).1
  rw [e] at this; cases this
theorem Inv.bs (I : Inv X pins σ H s) : ∀ b o, X.base.get? b = some o → s.heap.get? b = some o ∧ H b = none := fun b o e =>
  ⟨I.base.keep b o (I.ok.bs b o e).1 (I.ok.bs b o e).2 (I.ok.nofr e) (I.ok.noex b o e), I.base.free b o (I.ok.bs b o e).1 (I.ok.bs b o e).2 (I.ok.noex b o e)⟩
theorem Inv.bk (I : Inv X pins σ H s) : ∀ b o, X.base.get? b = some o → s.heap.get? b = some o := fun b o e => (I.bs b o e).1
theorem Inv.mod (I : Inv X pins σ H s) : Mod X.K X.mg X.base := I.ok.mod
theorem Inv.kIn (I : Inv X pins σ H s) : X.K.In s.heap := I.ok.mod.kin.keeps I.bk
theorem Inv.lt (I : Inv X pins σ H s) : X.env.locals < s.heap.objs.size := let ⟨_, hn, _⟩ := I.loc; hn.lt
theorem Inv.sz (I : Inv X pins σ H s) : X.s₀.heap.objs.size ≤ s.heap.objs.size := Nat.le_trans I.ok.above (Nat.le_of_lt I.lt)
theorem Inv.nofs (I : Inv X pins σ H s) {a : Addr} (h : s.heap.objs.size ≤ a) : a ∉ X.fs := fun hb => by
  obtain ⟨_, o, ho, _⟩ := I.ok.funs.mem hb
  exact absurd (Nat.lt_of_lt_of_le (Heap.lt_size ho) (Nat.le_trans I.sz h)) (Nat.lt_irrefl _)
theorem Inv.cne (I : Inv X pins σ H s) : ∀ x c, X.env.cells.lookup x = some c → c ≠ X.env.locals := fun x c e z => by
  obtain ⟨v, o, ho, hd⟩ := I.cell x c e
  obtain ⟨m, ⟨o', es, ep, ho', hd', _⟩, _⟩ := I.loc
  rw [z, ho'] at ho; cases ho; rw [hd'] at hd; cases hd
theorem Inv.funs (I : Inv X pins σ H s) : s.heap.FunFrames X.base X.outer := by
  have all : ∀ (l : List Env), (∀ b ∈ frs l, b ∈ X.fs) → X.s₀.heap.FunFrames X.base l → s.heap.FunFrames X.base l := by
    intro l
    induction l with
    | nil => intro _ _; trivial
    | cons env r ih =>
      intro hs hl
      obtain ⟨hk, ⟨L, o, hf, hn, ho, hd⟩, hr⟩ := hl
      have hL : L ∈ X.fs := hs L (by unfold frs; rw [List.filterMap_cons, hf]; exact List.mem_cons_self)
      obtain ⟨sl, e⟩ := I.base.slot L o ho (I.ok.frf L hL) hL fun z => I.ok.exfs L z hL
      exact ⟨hk, ⟨L, _, hf, hn, e, hd⟩, ih (fun b hb => hs b (by unfold frs; rw [List.filterMap_cons, hf]; exact List.mem_cons_of_mem _ hb)) hr⟩
  exact all X.outer (fun _ hb => hb) I.ok.funs

/-- the frames that run, for a call -/
theorem Inv.stack (I : Inv X pins σ H s) : s.heap.FunFrames X.base X.stack := by
  rcases I.ok.stk with e | ⟨e, hf⟩
  · rw [e]; exact I.funs
  · rw [e]
    obtain ⟨m, hn, _⟩ := I.loc
    refine .cons (by rw [I.ok.kind]; decide) hf hn ?_ I.funs
    exact Heap.get?_none_of_le (Nat.le_trans I.ok.bsz I.ok.above)
theorem Inv.stkSub (I : Inv X pins σ H s) : ∀ b ∈ frs X.stack, b ∈ X.env.locals :: X.fs := fun b hb => by
  rcases I.ok.stk with e | ⟨e, hf⟩
  · rw [e] at hb; exact List.mem_cons_of_mem _ hb
  · rw [e] at hb
    unfold frs at hb
    rw [List.filterMap_cons, hf] at hb
    exact hb
theorem Inv.stkFree (I : Inv X pins σ H s) : ∀ b ∈ frs X.stack, H b = none := fun b hb => by
  rcases List.mem_cons.mp (I.stkSub b hb) with e | hb
  · rw [e]; exact I.free
  · obtain ⟨_, o, ho, _⟩ := I.ok.funs.mem hb
    exact I.base.free b o ho (I.ok.frf b hb) fun z => I.ok.exfs b z hb

/-- THE STEP: the untracked objects but the frame and the records at ch are kept (the callers' frames up to slots), the frame's map is kept, the new abstract heap is held -/
theorem Inv.step {g' : Array GenState} {t' : Nat} {d' : Drawn} {ch : List Addr} (I : Inv X pins σ H s)
    (hch : ∀ b ∈ ch, (b ∈ X.ex ∨ X.s₀.heap.objs.size ≤ b) ∧ b ≠ X.env.locals ∧ (∀ x c, X.env.cells.lookup x = some c → c ≠ b) ∧ ∀ p ∈ X.pn ++ pins, p.1 ≠ b)
    (keep : ∀ b o, b ≠ X.env.locals → b ∉ X.fs → b ∉ ch → s.heap.get? b = some o → H b = none → h'.get? b = some o)
    (slot : ∀ b o, b ≠ X.env.locals → b ∈ X.fs → b ∉ ch → s.heap.get? b = some o → H b = none → ∃ sl, h'.get? b = some { o with slots := sl }) (free : ∀ b o, b ∉ ch → s.heap.get? b = some o → H b = none → H' b = none)
    (there : ∀ b o, b ∉ ch → s.heap.get? b = some o → ∃ o', h'.get? b = some o')
    (tups : ∀ b xs, H b = some (.tup xs) → H' b = some (.tup xs)) (frzs : ∀ b o u, H b = some (.frz o u) → H' b = some (.frz o u)) (tbls : ∀ b ps, H b = some (.tbl ps) → ∃ more, H' b = some (.tbl (ps ++ more)))
    (ns : ∀ m, s.heap.Ns X.env.locals m → h'.Ns X.env.locals m) (hok : HOk X.prog X.w H' h') (hg : AllBare g') :
    Inv X pins σ H' { s with heap := h', gens := g', drawn := d', toks := t' } := by
  have neL : ∀ b o, X.s₀.heap.get? b = some o → b ≠ X.env.locals := fun b o e => Nat.ne_of_lt (Nat.lt_of_lt_of_le (Heap.lt_size e) I.ok.above)
  have neC : ∀ b o, X.s₀.heap.get? b = some o → b ∉ X.ex → b ∉ ch := fun b o e hx hb => by
    rcases (hch b hb).1 with z | z
    · exact hx z
    · exact absurd (Nat.lt_of_lt_of_le (Heap.lt_size e) z) (Nat.lt_irrefl _)
  have cellK : ∀ x c, X.env.cells.lookup x = some c → ∀ v, s.heap.IsCell c v → h'.IsCell c v := fun x c e v ⟨o, ho, hd⟩ => by
    have nch : c ∉ ch := fun z => (hch c z).2.2.1 x c e rfl
    by_cases hc : c ∈ X.fs
    · obtain ⟨sl, q⟩ := slot c o (I.cne x c e) hc nch ho (I.freeC x c e)
      exact ⟨_, q, hd⟩
    · exact ⟨o, keep c o (I.cne x c e) hc nch ho (I.freeC x c e), hd⟩
  refine ⟨I.ok, I.os, hg, ⟨fun b o e n hb hx => ?_, fun b o e n hb hx => ?_, fun b o e n hx => ?_, fun b o e hx => ?_, fun b xs e => tups b xs (I.base.tups b xs e), fun b o xs e => frzs b o xs (I.base.frzs b o xs e), fun b ps e => ?_⟩, ?_, fun x c e => ?_, ?_, fun x c e => ?_, fun p hp => ?_, hok, I.len⟩
  · exact keep b o (neL b o e) hb (neC b o e hx) (I.base.keep b o e n hb hx) (I.base.free b o e n hx)
  · obtain ⟨sl, e1⟩ := I.base.slot b o e n hb hx
    obtain ⟨sl', e2⟩ := slot b _ (neL b o e) hb (neC b o e hx) e1 (I.base.free b o e n hx)
    exact ⟨sl', e2⟩
  · obtain ⟨o', e1⟩ := I.base.there b o e hx
    exact free b o' (neC b o e hx) e1 (I.base.free b o e n hx)
  · obtain ⟨o', e1⟩ := I.base.there b o e hx
    exact there b o' (neC b o e hx) e1
  · obtain ⟨m1, e1⟩ := I.base.tbls b ps e
    obtain ⟨m2, e2⟩ := tbls b _ e1
    exact ⟨m1 ++ m2, by rw [e2, Array.append_assoc]⟩
  · obtain ⟨m, hn, hl⟩ := I.loc
    refine ⟨m, ns m hn, fun i x v e1 e2 e3 => ?_⟩
    obtain ⟨u, r, l⟩ := hl i x v e1 e2 e3
    refine ⟨u, r, ?_⟩
    rcases l with l | ⟨k, c, e, z⟩
    · exact .inl l
    · exact .inr ⟨k, c, e, cellK x c e _ z⟩
  · obtain ⟨v, z⟩ := I.cell x c e
    exact ⟨v, cellK x c e v z⟩
  · obtain ⟨m, ⟨o, _, _, ho, _⟩, _⟩ := I.loc
    exact free _ o (fun z => (hch _ z).2.1 rfl) ho I.free
  · obtain ⟨v, o, ho, hd⟩ := I.cell x c e
    exact free c o (fun z => (hch c z).2.2.1 x c e rfl) ho (I.freeC x c e)
  · obtain ⟨e, n, ne, nf, d⟩ := I.pin p hp
    have nch : p.1 ∉ ch := fun z => (hch p.1 z).2.2.2 p hp rfl
    exact ⟨keep p.1 p.2 ne nf nch e n, free p.1 p.2 nch e n, ne, nf, d⟩
/-- .. where the frame's own object is kept too -/
theorem Inv.un {t' : Nat} (I : Inv X pins σ H s) (u : Un X.fs [] H H' s.heap h') (hok : HOk X.prog X.w H' h') : Inv X pins σ H' { s with heap := h', toks := t' } := by
  obtain ⟨m, ⟨o, es, ep, ho, r⟩, _⟩ := id I.loc
  obtain ⟨sl, hL⟩ := u.any ho I.free (by simp)
  exact I.step (g' := s.gens) (d' := s.drawn) (ch := []) (fun _ z => nomatch z) (fun b o _ hb _ e n => u.keep b o e n hb (by simp)) (fun b o _ hb _ e n => u.slot b o e n hb (by simp)) (fun b o _ e n => u.free b o e n (by simp)) (fun b o _ e => u.there b o e (by simp)) u.tups u.frzs u.tbls (fun m' hm => by
    obtain ⟨o', es', ep', ho', r'⟩ := hm
    rw [ho] at ho'; cases ho'
    exact ⟨_, es', ep', hL, r'⟩) hok I.bare
/-- behind a call (or a comprehension's block): the slots of this frame may have changed too, the records at ch may have turned -/
theorem Inv.call {g' : Array GenState} {t' : Nat} {d' : Drawn} {ch : List Addr} (I : Inv X pins σ H s) (u : Un (frs X.stack) ch H H' s.heap h') (hok : HOk X.prog X.w H' h') (hg : AllBare g')
    (hch : ∀ b ∈ ch, (b ∈ X.ex ∨ X.s₀.heap.objs.size ≤ b) ∧ b ≠ X.env.locals ∧ (∀ x c, X.env.cells.lookup x = some c → c ≠ b) ∧ ∀ p ∈ X.pn ++ pins, p.1 ≠ b) :
    Inv X pins σ H' { s with heap := h', gens := g', drawn := d', toks := t' } := by
  obtain ⟨m, ⟨o, es, ep, ho, r⟩, _⟩ := id I.loc
  obtain ⟨sl, hL⟩ := u.any ho I.free fun z => (hch _ z).2.1 rfl
  exact I.step (ch := ch) hch (fun b o hL hb hc e n => u.keep b o e n (fun z => (List.mem_cons.mp (I.stkSub b z)).elim hL hb) hc) (fun b o _ _ hc e n => u.any e n hc) (fun b o hc e n => u.free b o e n hc) (fun b o hc e => u.there b o e hc) u.tups u.frzs u.tbls (fun m' hm => by
    obtain ⟨o', es', ep', ho', r'⟩ := hm
    rw [ho] at ho'; cases ho'
    exact ⟨_, es', ep', hL, r'⟩) hok hg
/-- an untracked record of ours (an iterator) has turned -/
theorem Inv.turned {t' : Nat} {it : Addr} (I : Inv X pins σ H s) (k : ∀ b o, b ≠ it → s.heap.get? b = some o → h'.get? b = some o) (hn : H it = none) (hL : it ≠ X.env.locals)
    (h1 : it ∈ X.ex ∨ X.s₀.heap.objs.size ≤ it) (h2 : ∀ x c, X.env.cells.lookup x = some c → c ≠ it) (h3 : ∀ p ∈ X.pn ++ pins, p.1 ≠ it) : Inv X pins σ H { s with heap := h', toks := t' } := by
  have nit : ∀ b u, H b = some u → b ≠ it := fun b u e z => by rw [z, hn] at e; cases e
  refine I.step (g' := s.gens) (d' := s.drawn) (ch := [it]) (fun b hb => ?_) (fun b o _ _ hc e _ => k b o (fun z => hc (by simp [z])) e) (fun b o _ _ hc e _ => ⟨o.slots, k b o (fun z => hc (by simp [z])) e⟩) (fun _ _ _ _ n => n)
    (fun b o hc e => ⟨o, k b o (fun z => hc (by simp [z])) e⟩) (fun _ _ e => e) (fun _ _ _ e => e) (fun b ps e => ⟨#[], by rw [e]; simp⟩) (fun m hm => ?_) (fun b u e => ?_) I.bare
  · have e : b = it := by simpa using hb
    subst e
    exact ⟨h1, hL, h2, h3⟩
  · obtain ⟨o, es, ep, ho, r⟩ := hm
    exact ⟨o, es, ep, k _ o (Ne.symm hL) ho, r⟩
  · refine (I.hok b u e).stay (fun c v hc q => k c v ?_ q) (fun _ q => q) fun _ _ q => q
    rcases hc with z | z
    · rw [z]; exact nit b u e
    · exact nit c _ z
theorem Inv.tok (I : Inv X pins σ H s) (t : Nat) : Inv X pins σ H { s with toks := t } := I.un (h' := s.heap) (t' := t) Un.refl I.hok
/-- all objects kept -/
theorem Inv.kept {t' : Nat} (I : Inv X pins σ H s) (k : ∀ b u, s.heap.get? b = some u → h'.get? b = some u) : Inv X pins σ H { s with heap := h', toks := t' } := I.un (Un.kept k) (I.hok.kept k)
/-- a new object laid and tracked -/
theorem Inv.laid {a : Addr} {o : HO} {t' : Nat} (I : Inv X pins σ H s) (k : ∀ b u, s.heap.get? b = some u → h'.get? b = some u) (hp : s.heap.objs.size ≤ a) (new : ObjOk X.prog X.w (upd H a o) h' a o) :
    Inv X pins σ (upd H a o) { s with heap := h', toks := t' } := I.un (Un.laid k hp (I.hok.fresh hp)) (I.hok.laid k hp new)
/-- an object written -/
theorem Inv.write {x e : Addr} {o : HO} {t' : Nat} (I : Inv X pins σ H s) (mu : Mut (H x)) (he : e = x ∨ H e = some (.own x)) (k : ∀ b u, b ≠ e → s.heap.get? b = some u → h'.get? b = some u) (heo : ∃ u, h'.get? e = some u)
    (new : ObjOk X.prog X.w (upd H x o) h' x o) : Inv X pins σ (upd H x o) { s with heap := h', toks := t' } := I.un (Un.write mu he k heo) (I.hok.write mu he k heo new)
theorem Inv.pins_of {pins' : List (Addr × Obj)} (I : Inv X pins σ H s) (h : ∀ p ∈ pins', s.heap.get? p.1 = some p.2 ∧ H p.1 = none ∧ p.1 ≠ X.env.locals ∧ p.1 ∉ X.fs ∧ ∀ v, p.2.data ≠ .cell v) : Inv X pins' σ H s :=
  ⟨I.ok, I.os, I.bare, I.base, I.loc, I.cell, I.free, I.freeC, fun p hp => (List.mem_append.mp hp).elim (fun z => I.pin p (List.mem_append_left _ z)) (h p), I.hok, I.len⟩

theorem nodup_ix {N : List Str} (hN : N.Nodup) {i j : Nat} {x : Str} (a : N[i]? = some x) (b : N[j]? = some x) : i = j := by
  obtain ⟨h1, e1⟩ := List.getElem?_eq_some_iff.mp a
  obtain ⟨h2, e2⟩ := List.getElem?_eq_some_iff.mp b
  exact (List.getElem_inj hN).mp (e1.trans e2.symm)

/-- a name is stored; what changed -/
theorem store_ok2 {M : Model} {A : Around} {E : Value → Shared → Prop} {i : Nat} {x : Str} {v : V} {u : Value} {Q : Unit → Shared → Prop} (I : Inv X pins σ H s) (hN : X.N.Nodup) (hi : X.N[i]? = some x) (hx : Loc X.env.scope x) (r : RelV v u)
    (h : ∀ s', Inv X pins (σ.set i (some v)) H s' → (∃ a, Heap.SameBut a s.heap s'.heap ∧ (a = X.env.locals ∨ X.env.cells.lookup x = some a)) → Q () s') (hf : X.fn x = true ∨ X.env.scope.names.lookup x = some .local := by first | exact .inl rfl | exact .inr rfl | assumption) : wpAny M A (storeName X.env x u) Q E s := by
  obtain ⟨m, hn, hl⟩ := id I.loc
  have hcls : (X.env.scope.kind == .class || (X.env.scope.kind == .module && X.env.locals != X.env.globals)) = false := by rw [I.ok.kind]; rfl
  have hiσ : i < σ.length := by rw [I.len]; exact (List.getElem?_eq_some_iff.mp hi).1
  have cne := I.cne
  have tracked : ∀ {a : Addr} {h' : Heap}, (∃ o, s.heap.get? a = some o ∧ H a = none) → Heap.SameBut a s.heap h' → HOk X.prog X.w H h' := fun {a h'} ha hs b ob e => by
    obtain ⟨_, _, hfree⟩ := ha
    refine (I.hok b ob e).stay (fun c w' hc q => (hs.2 c ?_).trans q) (fun _ q => q) fun _ _ q => q
    rintro rfl
    rcases hc with rfl | hc
    · rw [hfree] at e; cases e
    · rw [hfree] at hc; cases hc
  rcases hx with hk | hk
  · refine wpAny_storeName_local hk hn (fun h' hn' hs => ?_) hcls
    obtain ⟨oL, _, _, hoL, _⟩ := id hn
    refine h _ ⟨I.ok, I.os, I.bare, ⟨fun b o e n hb hx => ?_, fun b o e n hb hx => ?_, I.base.free, fun b o e hx => ?_, I.base.tups, I.base.frzs, I.base.tbls⟩, ⟨_, hn', fun j y v' e1 e2 e3 => ?_⟩, fun y c e => ?_, I.free, I.freeC, fun p hp => ?_, tracked ⟨oL, hoL, I.free⟩ hs, by simpa using I.len⟩ ⟨_, hs, .inl rfl⟩
    · exact (hs.2 b (Nat.ne_of_lt (Nat.lt_of_lt_of_le (Heap.lt_size e) I.ok.above))).trans (I.base.keep b o e n hb hx)
    · obtain ⟨sl, e1⟩ := I.base.slot b o e n hb hx
      exact ⟨sl, (hs.2 b (Nat.ne_of_lt (Nat.lt_of_lt_of_le (Heap.lt_size e) I.ok.above))).trans e1⟩
    · obtain ⟨o', e1⟩ := I.base.there b o e hx
      exact ⟨o', (hs.2 b (Nat.ne_of_lt (Nat.lt_of_lt_of_le (Heap.lt_size e) I.ok.above))).trans e1⟩
    · by_cases hj : j = i
      · subst hj
        rw [hi] at e1; cases e1
        rw [List.getElem?_set_self hiσ] at e2
        cases e2
        exact ⟨u, r, .inl ⟨hk, by simp⟩⟩
      · rw [List.getElem?_set_ne (Ne.symm hj)] at e2
        obtain ⟨u', r', q⟩ := hl j y v' e1 e2 e3
        refine ⟨u', r', ?_⟩
        rcases q with ⟨k, e⟩ | ⟨k, c, e, z⟩
        · refine .inl ⟨k, ?_⟩
          have : y ≠ x := fun e => hj (nodup_ix hN e1 (e ▸ hi))
          simp [this, e]
        · exact .inr ⟨k, c, e, z.sameBut hs (cne y c e)⟩
    · obtain ⟨w', z⟩ := I.cell y c e
      exact ⟨w', z.sameBut hs (cne y c e)⟩
    · obtain ⟨e, n, ne, nf, d⟩ := I.pin p hp
      exact ⟨(hs.2 p.1 ne).trans e, n, ne, nf, d⟩
  · have hfn : X.fn x = true := by
      rcases hf with z | z
      · exact z
      · rw [z] at hk; cases hk
    obtain ⟨c, hc⟩ := I.ok.has x (.inl hk)
    obtain ⟨w', z⟩ := I.cell x c hc
    refine wpAny_storeName_cell I.ok.kind hk hc z (fun h' hc' hs => ?_)
    obtain ⟨oc, hoc, hocd⟩ := id z
    refine h { s with heap := h' } ⟨I.ok, I.os, I.bare, ⟨fun b o e n hb hx => ?_, fun b o e n hb hx => ?_, I.base.free, fun b o e hx => ?_, I.base.tups, I.base.frzs, I.base.tbls⟩, ⟨m, hn.sameBut hs (Ne.symm (cne x c hc)), fun j y v' e1 e2 e3 => ?_⟩, fun y c' e => ?_, I.free, I.freeC, fun p hp => ?_, tracked ⟨oc, hoc, I.freeC x c hc⟩ hs, by simpa using I.len⟩ ⟨c, hs, .inr hc⟩
    · exact (hs.2 b (Nat.ne_of_lt (Nat.lt_of_lt_of_le (Heap.lt_size e) (I.ok.cab x c hfn hc)))).trans (I.base.keep b o e n hb hx)
    · obtain ⟨sl, e1⟩ := I.base.slot b o e n hb hx
      exact ⟨sl, (hs.2 b (Nat.ne_of_lt (Nat.lt_of_lt_of_le (Heap.lt_size e) (I.ok.cab x c hfn hc)))).trans e1⟩
    · obtain ⟨o', e1⟩ := I.base.there b o e hx
      exact ⟨o', (hs.2 b (Nat.ne_of_lt (Nat.lt_of_lt_of_le (Heap.lt_size e) (I.ok.cab x c hfn hc)))).trans e1⟩
    · by_cases hj : j = i
      · subst hj
        rw [hi] at e1; cases e1
        rw [List.getElem?_set_self hiσ] at e2
        cases e2
        exact ⟨u, r, .inr ⟨.inl hk, c, hc, hc'⟩⟩
      · rw [List.getElem?_set_ne (Ne.symm hj)] at e2
        obtain ⟨u', r', q⟩ := hl j y v' e1 e2 e3
        refine ⟨u', r', ?_⟩
        rcases q with q | ⟨k, c', e, z'⟩
        · exact .inl q
        · refine .inr ⟨k, c', e, z'.sameBut hs ?_⟩
          rintro rfl
          exact hj (nodup_ix hN e1 (I.ok.inj _ _ _ e hc ▸ hi))
    · by_cases hcc : c' = c
      · subst hcc; exact ⟨_, hc'⟩
      · obtain ⟨w2, z2⟩ := I.cell y c' e
        exact ⟨w2, z2.sameBut hs hcc⟩
    · obtain ⟨e, n, ne, nf, d⟩ := I.pin p hp
      refine ⟨(hs.2 p.1 ?_).trans e, n, ne, nf, d⟩
      intro q
      rw [q, hoc] at e
      have q' : oc = p.2 := Option.some.inj e
      exact d w' (by rw [← q']; exact hocd)
theorem store_ok {M : Model} {A : Around} {E : Value → Shared → Prop} {i : Nat} {x : Str} {v : V} {u : Value} {Q : Unit → Shared → Prop} (I : Inv X pins σ H s) (hN : X.N.Nodup) (hi : X.N[i]? = some x) (hx : Loc X.env.scope x) (r : RelV v u)
    (h : ∀ s', Inv X pins (σ.set i (some v)) H s' → Q () s') (hf : X.fn x = true ∨ X.env.scope.names.lookup x = some .local := by first | exact .inl rfl | exact .inr rfl | assumption) : wpAny M A (storeName X.env x u) Q E s :=
  store_ok2 I hN hi hx r (fun s' I' _ => h s' I') hf
/-- behind a call or a block, the state as it is -/
theorem Inv.call' {s' : Shared} {ch : List Addr} (I : Inv X pins σ H s) (ho : s'.os = s.os) (u : Un (frs X.stack) ch H H' s.heap s'.heap) (hok : HOk X.prog X.w H' s'.heap) (hg : AllBare s'.gens)
    (hch : ∀ b ∈ ch, (b ∈ X.ex ∨ X.s₀.heap.objs.size ≤ b) ∧ b ≠ X.env.locals ∧ (∀ x c, X.env.cells.lookup x = some c → c ≠ b) ∧ ∀ p ∈ X.pn ++ pins, p.1 ≠ b) : Inv X pins σ H' s' := by
  obtain ⟨h', g', d', t', o'⟩ := s'
  have e : o' = s.os := ho
  subst e
  exact I.call (g' := g') (t' := t') (d' := d') u hok hg hch
end

/-! ### the judgements -/
/-- an exception: its class, its own dict's address (where it has one), the abstract heap behind it -/
abbrev XK := Value → Option Addr → Hp → Prop
abbrev St := List (Option V)
abbrev VK := V → Hp → Prop
/-- an expression's reading; a test's; an argument list's -/
abbrev TE := St → Hp → VK → Prop
abbrev TT := St → Hp → (Bool → Hp → Prop) → Prop
abbrev TA := St → Hp → (List V → Hp → Prop) → Prop
/-- what is wanted behind a statement -/
structure Ends where
  nx : St → Hp → Prop
  rt : VK
  bk : St → Hp → Prop := fun _ _ => False
  ct : St → Hp → Prop := fun _ _ => False
abbrev TS := Ends → St → Hp → Prop

def EP (X : Cx) (pins : List (Addr × Obj)) (σ : St) (Q : VK) (u : Value) (s' : Shared) : Prop := ∃ v H', Inv X pins σ H' s' ∧ RelV v u ∧ Q v H'
def TP (X : Cx) (pins : List (Addr × Obj)) (σ : St) (Q : Bool → Hp → Prop) (b : Bool) (s' : Shared) : Prop := ∃ H', Inv X pins σ H' s' ∧ Q b H'
def AP (X : Cx) (pins : List (Addr × Obj)) (σ : St) (Q : List V → Hp → Prop) (us : List Value) (s' : Shared) : Prop := ∃ vs H', Inv X pins σ H' s' ∧ Vals vs us ∧ Q vs H'
def SP (X : Cx) (pins : List (Addr × Obj)) (D : Ends) (f : Flow) (s' : Shared) : Prop :=
  match f with
  | .next => ∃ σ' H', Inv X pins σ' H' s' ∧ D.nx σ' H'
  | .brk => ∃ σ' H', Inv X pins σ' H' s' ∧ D.bk σ' H'
  | .cont => ∃ σ' H', Inv X pins σ' H' s' ∧ D.ct σ' H'
  | .ret u => ∃ v σ' H', Inv X pins σ' H' s' ∧ RelV v u ∧ D.rt v H'

def PE (X : Cx) (e : Expr) (t : TE) : Prop :=
  ∀ (pins : List (Addr × Obj)) (s : Shared) (σ : St) (H : Hp) (Q : VK), Inv X pins σ H s → t σ H Q → wpAny (model X.prog X.w) X.A (eval e X.env) (EP X pins σ Q) X.xe s
def PT (X : Cx) (e : Expr) (t : TT) : Prop :=
  ∀ (pins : List (Addr × Obj)) (s : Shared) (σ : St) (H : Hp) (Q : Bool → Hp → Prop), Inv X pins σ H s → t σ H Q → wpAny (model X.prog X.w) X.A (isTrue e X.env (eval e X.env)) (TP X pins σ Q) X.xe s
/-- a test whatever its 'whole' is (and, or) -/
def PW (X : Cx) (e : Expr) (t : TT) : Prop :=
  ∀ (whole : Sem Value) (pins : List (Addr × Obj)) (s : Shared) (σ : St) (H : Hp) (Q : Bool → Hp → Prop), Inv X pins σ H s → t σ H Q → wpAny (model X.prog X.w) X.A (isTrue e X.env whole) (TP X pins σ Q) X.xe s
theorem PW.pt {X : Cx} {e : Expr} {t : TT} (h : PW X e t) : PT X e t := h _
/-- an argument list (no star), from the left -/
def PA (X : Cx) (es : List Expr) (t : TA) : Prop :=
  ∀ (pos : Pos) (pins : List (Addr × Obj)) (s : Shared) (σ : St) (H : Hp) (Q : List V → Hp → Prop), Inv X pins σ H s → t σ H Q → wpAny (model X.prog X.w) X.A (spliced (backTo pos (starEach es X.env))) (AP X pins σ Q) X.xe s
def PS (X : Cx) (st : Stmt) (t : TS) : Prop :=
  ∀ (pins : List (Addr × Obj)) (s : Shared) (σ : St) (H : Hp) (D : Ends), Inv X pins σ H s → t D σ H → wpAny (model X.prog X.w) X.A (exec st X.env) (SP X pins D) X.xe s
def PSs (X : Cx) (st : List Stmt) (t : TS) : Prop :=
  ∀ (pins : List (Addr × Obj)) (s : Shared) (σ : St) (H : Hp) (D : Ends), Inv X pins σ H s → t D σ H → wpAny (model X.prog X.w) X.A (execs st X.env) (SP X pins D) X.xe s
/-- weaken the end -/
theorem thn {α : Type} {t : Sem α} {Q Q' : α → Shared → Prop} {M : Model} {A : Around} {E : Value → Shared → Prop} {s : Shared} (h : wpAny M A t Q E s) (hQ : ∀ a s, Q a s → Q' a s) : wpAny M A t Q' E s := wpAny_mono h hQ fun _ _ x => x
end L2

namespace L2
open PySem PySem.Spec PyProof.Rows
section
variable {X : Cx}

/-! ### names and constants -/
def tVar (i : Nat) : TE := fun σ H Q => ∃ v, σ[i]? = some (some v) ∧ Q v H
def tC (v : V) : TE := fun _ H Q => Q v H
theorem pe_var {i : Nat} {x : Str} {pos : Pos} (hN : X.N[i]? = some x) (hv : Vis X.env.scope x) (hd : (x == ("__debug__" : Str)) = false := by decide) (hcd : (x == ("__classdict__" : Str)) = false := by decide) : PE X (.Name x pos) (tVar i) := by
  intro pins s σ H Q I h
  obtain ⟨v, e, h⟩ := h
  obtain ⟨m, hn, hl⟩ := I.loc
  obtain ⟨u, r, l⟩ := hl i x v hN e hv
  have fin : EP X pins σ Q u s := ⟨v, H, I, r, h⟩
  rcases l with ⟨hk, hm⟩ | ⟨hk, c, hc, hcell⟩
  · exact wpAny_Name (wpAny_loadName_local I.ok.kind hk hn hm fin) hd
  · rcases hk with hk | hk
    · exact wpAny_Name (wpAny_loadName_cell I.ok.kind hk hc hcell fin) hd
    · exact wpAny_Name (wpAny_loadName_free I.ok.kind hk hc hcell fin hcd) hd
theorem pe_int {i j pos} : PE X (.Constant (.int i) j pos) (tC (.int i)) := fun _ _ _ H _ I h => wpAny_Constant_int ⟨.int i, H, I.tok _, ⟨_, rfl⟩, h⟩
theorem pe_bl {b j pos} : PE X (.Constant (.bool b) j pos) (tC (.bl b)) := fun _ _ _ H _ I h => Constant_bool ⟨.bl b, H, I, rfl, h⟩
theorem pe_str {x j pos} : PE X (.Constant (.str x) j pos) (tC (.str x)) := fun _ _ _ H _ I h => Calls.Constant_str ⟨.str x, H, I.tok _, ⟨_, rfl⟩, h⟩

/-- a global name of the def -/
def Gl (X : Cx) (x : Str) : Prop := X.env.kindOf x = some .globalImplicit
theorem ld_glob {E : Value → Shared → Prop} {pins : List (Addr × Obj)} {s : Shared} {σ : St} {H : Hp} {x : Str} {u : Value} {pos : Pos} {Q : Value → Shared → Prop} (I : Inv X pins σ H s) (hg : Gl X x) (hm : X.mg x = some u) (h : Q u s)
    (hd : (x == ("__debug__" : Str)) = false := by decide) : wpAny (model X.prog X.w) X.A (eval (.Name x pos) X.env) Q E s :=
  Calls.Name_function_global I.ok.kind hg (Calls.loadGlobal_global (by rw [I.ok.glob]; exact I.mod.glob.keeps I.bk) hm h) hd
theorem ld_blt {E : Value → Shared → Prop} {pins : List (Addr × Obj)} {s : Shared} {σ : St} {H : Hp} {x : Str} {u : Value} {pos : Pos} {Q : Value → Shared → Prop} (I : Inv X pins σ H s) (hg : Gl X x) (hm : X.mg x = none) (hv : bootBuiltins x = some u) (h : Q u s)
    (hn : x ≠ "__name__" := by decide) (hd : (x == ("__debug__" : Str)) = false := by decide) : wpAny (model X.prog X.w) X.A (eval (.Name x pos) X.env) Q E s := by
  obtain ⟨mb, h1, h2⟩ := I.mod.blt
  exact Calls.Name_function_global I.ok.kind hg (Calls.loadGlobal_builtin (by rw [I.ok.glob]; exact I.mod.glob.keeps I.bk) hm (by rw [I.ok.blt]; exact h1.keeps I.bk) ((h2 x hn).trans hv) h) hd
theorem pe_bltn {x : Str} {v : V} {u : Value} {pos : Pos} (hg : Gl X x) (hm : X.mg x = none) (hv : bootBuiltins x = some u) (r : RelV v u) (hn : x ≠ "__name__" := by decide) (hd : (x == ("__debug__" : Str)) = false := by decide) : PE X (.Name x pos) (tC v) :=
  fun _ _ _ H _ I h => ld_blt I hg hm hv ⟨v, H, I, r, h⟩ hn hd

/-! ### arithmetic -/
/-- two ints -/
def t2I (ta tb : TE) (k : Int → Int → Hp → Prop) : St → Hp → Prop := fun σ H => ta σ H fun x H1 => tb σ H1 fun y H2 => ∃ i j, x = .int i ∧ y = .int j ∧ k i j H2
def tAdd (ta tb : TE) : TE := fun σ H Q => t2I ta tb (fun i j H2 => Q (.int (i + j)) H2) σ H
def tSub (ta tb : TE) : TE := fun σ H Q => t2I ta tb (fun i j H2 => Q (.int (i - j)) H2) σ H
/-- the left factor below 2^64 -/
def tMul (ta tb : TE) : TE := fun σ H Q => t2I ta tb (fun i j H2 => (-(2 ^ 64) < i ∧ i < 2 ^ 64) ∧ Q (.int (i * j)) H2) σ H
variable {a b : Expr} {ta tb : TE} {pos : Pos}
/-! ### comparisons -/
def PC (X : Cx) (op : CmpOp) (a b : Expr) (t : TE) : Prop :=
  ∀ (pins : List (Addr × Obj)) (s : Shared) (σ : St) (H : Hp) (Q : VK), Inv X pins σ H s → t σ H Q →
    wpAny (model X.prog X.w) X.A (eval a X.env) (fun v s₁ => wpAny (model X.prog X.w) X.A (eval b X.env) (fun u s₂ => wpAny (model X.prog X.w) X.A (compareOp op v u) (EP X pins σ Q) X.xe s₂) X.xe s₁) X.xe s
def tCmp (p : Int → Int → Bool) (ta tb : TE) : TE := fun σ H Q => t2I ta tb (fun i j H2 => Q (.bl (p i j)) H2) σ H
abbrev tLt : TE → TE → TE := tCmp fun i j => decide (i < j)
abbrev tLe : TE → TE → TE := tCmp fun i j => decide (i ≤ j)
abbrev tGt : TE → TE → TE := tCmp fun i j => decide (j < i)
abbrev tGe : TE → TE → TE := tCmp fun i j => decide (j ≤ i)
abbrev tEqI : TE → TE → TE := tCmp fun i j => decide (i = j)
abbrev tNeI : TE → TE → TE := tCmp fun i j => !decide (i = j)
/-- is None -/
def tIsN (ta : TE) : TE := fun σ H Q => ta σ H fun x H1 => Q (.bl (decide (x = .non))) H1
def tNotN (ta : TE) : TE := fun σ H Q => ta σ H fun x H1 => Q (.bl (!decide (x = .non))) H1
/-- a comparison as a value, as a test -/
def tB (t : TE) : TT := fun σ H Q => t σ H fun x H1 => ∃ c, x = .bl c ∧ Q c H1
/-- an expression whose value is a bool, as a test -/
theorem pt_val {e : Expr} {t : TE} (h : PE X e t) (he : ∀ whole, isTrue e X.env whole = (do let v ← whole; standAt e.pos; holding [v] (truthy v)) := by intro _; rfl) : PT X e (tB t) := by
  intro pins s σ H Q I hw
  refine isTrue_plain (thn (h pins s σ H _ I hw) fun v s1 ⟨x, H1, I1, r1, q1⟩ => ?_) (he _)
  obtain ⟨d, rfl, q⟩ := q1
  cases r1
  exact wpAny_truthy_bool ⟨H1, I1, q⟩

/-! ### and, or, not -/
variable {tA tB' : TT} {rest : List Expr}
def tAnd (t u : TT) : TT := fun σ H Q => t σ H fun c H1 => if c = true then u σ H1 Q else Q false H1
def tOr (t u : TT) : TT := fun σ H Q => t σ H fun c H1 => if c = true then Q true H1 else u σ H1 Q
def tNot (t : TT) : TT := fun σ H Q => t σ H fun c H1 => Q (!c) H1
theorem pw_and1 (ha : PT X a tA) : PW X (.BoolOp .And [a] pos) tA := by
  intro wh pins s σ H Q I h
  refine isTrue_and (thn (ha pins s σ H Q I h) fun c s1 e => ?_)
  cases c with
  | true => exact isTrue_and_nil e
  | false => exact e
theorem pw_or1 (ha : PT X a tA) : PW X (.BoolOp .Or [a] pos) tA := by
  intro wh pins s σ H Q I h
  refine isTrue_or (thn (ha pins s σ H Q I h) fun c s1 e => ?_)
  cases c with
  | false => exact isTrue_or_nil e
  | true => exact e
theorem pw_and (ha : PT X a tA) (hb : PW X (.BoolOp .And (b :: rest) pos) tB') : PW X (.BoolOp .And (a :: b :: rest) pos) (tAnd tA tB') := by
  intro wh pins s σ H Q I h
  refine isTrue_and (thn (ha pins s σ H _ I h) fun c s1 ⟨H1, I1, q1⟩ => ?_)
  cases c with
  | true => exact hb wh pins s1 σ H1 Q I1 q1
  | false => exact ⟨H1, I1, q1⟩
theorem pw_or (ha : PT X a tA) (hb : PW X (.BoolOp .Or (b :: rest) pos) tB') : PW X (.BoolOp .Or (a :: b :: rest) pos) (tOr tA tB') := by
  intro wh pins s σ H Q I h
  refine isTrue_or (thn (ha pins s σ H _ I h) fun c s1 ⟨H1, I1, q1⟩ => ?_)
  cases c with
  | true => exact ⟨H1, I1, q1⟩
  | false => exact hb wh pins s1 σ H1 Q I1 q1
theorem pt_not (ha : PT X a tA) : PT X (.UnaryOp .Not a pos) (tNot tA) := by
  intro pins s σ H Q I h
  exact isTrue_not (ha pins s σ H (fun c H1 => Q (!c) H1) I h)
/-- .. as values (bools) -/
def tAndV (ta tb : TE) : TE := fun σ H Q => ta σ H fun x H1 => ∃ c, x = .bl c ∧ if c = true then tb σ H1 Q else Q (.bl false) H1
def tOrV (ta tb : TE) : TE := fun σ H Q => ta σ H fun x H1 => ∃ c, x = .bl c ∧ if c = true then Q (.bl true) H1 else tb σ H1 Q
def tNotV (ta : TE) : TE := fun σ H Q => ta σ H fun x H1 => ∃ c, x = .bl c ∧ Q (.bl (!c)) H1
theorem pe_one {op} {t : TE} (h : PE X a t) : PE X (.BoolOp op [a] pos) t := fun pins s σ H Q I hw => BoolOp_one (h pins s σ H Q I hw)
theorem pe_and (ha : PE X a ta) (hb : PE X (.BoolOp .And (b :: rest) pos) tb) : PE X (.BoolOp .And (a :: b :: rest) pos) (tAndV ta tb) := by
  intro pins s σ H Q I h
  refine BoolOp_and (thn (ha pins s σ H _ I h) fun v s1 ⟨x, H1, I1, r1, q1⟩ => ?_)
  obtain ⟨c, rfl, q1⟩ := q1
  cases r1
  refine wpAny_truthy_bool ?_
  cases c with
  | true => exact hb pins s1 σ H1 Q I1 q1
  | false => exact ⟨.bl false, H1, I1, rfl, q1⟩
/-- a if t else b -/
def tIf (t : TT) (ta tb : TE) : TE := fun σ H Q => t σ H fun c H1 => if c = true then ta σ H1 Q else tb σ H1 Q
end
end L2

namespace L2
open PySem PySem.Spec PyProof.Rows

/-! ### a list, a tuple that is read: tracked, frozen, or an object of the module -/
def SqL (K : PySem.W.Frag) (H : Hp) (a : Addr) (xs : List V) : Prop :=
  Rd H a (.lst xs) ∨
    ∃ (o : Obj) (its : Array Value) (n : Nat), K.lookup a = some o ∧ o.cls = .type "list" ∧ o.dict = none ∧ o.data = .seq its n ∧ its.size ≤ sizeLine ∧ Vals xs its.toList
def SqT (K : PySem.W.Frag) (H : Hp) (a : Addr) (xs : List V) : Prop :=
  Rd H a (.tup xs) ∨
    ∃ (o : Obj) (its : Array Value) (n : Nat), K.lookup a = some o ∧ o.cls = .type "tuple" ∧ o.data = .seq its n ∧ its.size ≤ sizeLine ∧ Vals xs its.toList
def absV : Value → Option V
  | .none => some .non
  | .bool b => some (.bl b)
  | .int i _ => some (.int i)
  | .str x _ => some (.str x)
  | .bytes b _ => some (.byt b)
  | .float b _ => some (.flt b)
  | .ref a => some (.ref a)
  | .type n => some (.ty n)
  | _ => none
theorem RelV.abs {x : V} {u : Value} (r : RelV x u) : absV u = some x := by
  cases x with
  | non => cases r; rfl
  | bl _ => cases r; rfl
  | int _ => obtain ⟨t, rfl⟩ := r; rfl
  | str _ => obtain ⟨t, rfl⟩ := r; rfl
  | byt _ => obtain ⟨t, rfl⟩ := r; rfl
  | flt _ => obtain ⟨t, rfl⟩ := r; rfl
  | ref _ => cases r; rfl
  | ty _ => cases r; rfl
theorem RelV.inj {x y : V} {u : Value} (r : RelV x u) (q : RelV y u) : x = y := Option.some.inj (r.abs.symm.trans q.abs)
theorem Vals.inj : ∀ {xs ys : List V} {us : List Value}, Vals xs us → Vals ys us → xs = ys
  | _, _, _, .nil, .nil => rfl
  | _, _, _, .cons r t, .cons r' t' => by rw [r.inj r', Vals.inj t t']
section
variable {X : Cx} {pins : List (Addr × Obj)} {σ : St} {H : Hp} {s : Shared} {a : Addr} {xs ys : List V}
theorem SqL.of {K : PySem.W.Frag} (h : H a = some (.lst xs)) : SqL K H a xs := .inl (.inl h)
theorem SqT.of {K : PySem.W.Frag} (h : H a = some (.tup xs)) : SqT K H a xs := .inl (.inl h)
theorem Inv.list (I : Inv X pins σ H s) (h : SqL X.K H a xs) : ∃ its : List Value, Vals xs its ∧ PlainL s.heap a its.toArray ∧ xs.length ≤ sizeLine := by
  rcases h with h | ⟨o, its, n, hk, hc, hd, hs, hz, r⟩
  · obtain ⟨z, its, n, r, e⟩ := h.ok I.hok
    exact ⟨its, r, ⟨_, n, e, rfl, rfl, rfl⟩, z⟩
  · refine ⟨its.toList, r, ⟨o, n, I.kIn a o hk, hc, hd, by simpa using hs⟩, ?_⟩
    have e := r.length
    simp only [Array.length_toList] at e
    omega
theorem Inv.tuple (I : Inv X pins σ H s) (h : SqT X.K H a xs) : ∃ its : List Value, Vals xs its ∧ IsTup s.heap a its.toArray ∧ xs.length ≤ sizeLine := by
  rcases h with h | ⟨o, its, n, hk, hc, hs, hz, r⟩
  · obtain ⟨z, its, r, p⟩ := h.ok I.hok
    exact ⟨its, r, p, z⟩
  · refine ⟨its.toList, r, ⟨o, I.kIn a o hk, hc, n, by simpa using hs⟩, ?_⟩
    have e := r.length
    simp only [Array.length_toList] at e
    omega
theorem Inv.list_inj (I : Inv X pins σ H s) (h : SqL X.K H a xs) (h' : SqL X.K H a ys) : xs = ys := by
  obtain ⟨its, r, ⟨o, n, e, _, _, d⟩, _⟩ := I.list h
  obtain ⟨its', r', ⟨o', n', e', _, _, d'⟩, _⟩ := I.list h'
  rw [e] at e'; cases e'
  rw [d] at d'
  injection d' with d1 _
  have : its = its' := by simpa using congrArg Array.toList d1
  subst this
  exact r.inj r'
theorem Inv.tuple_inj (I : Inv X pins σ H s) (h : SqT X.K H a xs) (h' : SqT X.K H a ys) : xs = ys := by
  obtain ⟨its, r, ⟨o, e, _, n, d⟩, _⟩ := I.tuple h
  obtain ⟨its', r', ⟨o', e', _, n', d'⟩, _⟩ := I.tuple h'
  rw [e] at e'; cases e'
  rw [d] at d'
  injection d' with d1 _
  have : its = its' := by simpa using congrArg Array.toList d1
  subst this
  exact r.inj r'
end

/-! ### another wish about exceptions -/
abbrev Cx.wish (X : Cx) (E : Value → Shared → Prop) : Cx := { X with xe := E }
/-- no exception leaves -/
abbrev Cx.nox (X : Cx) : Cx := X.wish fun _ _ => False
theorem Cx.Ok.wish {X : Cx} (ok : X.Ok) (E : Value → Shared → Prop) : (X.wish E).Ok :=
  ⟨ok.mod, ok.kind, ok.glob, ok.blt, ok.above, ok.inj, ok.has, ok.cab, ok.hd, ok.frames, ok.stk, ok.exf, ok.bs, ok.bsz, ok.noex, ok.exfs, ok.funs, ok.frf⟩
theorem Cx.Ok.unwish {X : Cx} {E : Value → Shared → Prop} (ok : (X.wish E).Ok) : X.Ok :=
  ⟨ok.mod, ok.kind, ok.glob, ok.blt, ok.above, ok.inj, ok.has, ok.cab, ok.hd, ok.frames, ok.stk, ok.exf, ok.bs, ok.bsz, ok.noex, ok.exfs, ok.funs, ok.frf⟩
section
variable {X : Cx} {pins : List (Addr × Obj)} {σ : St} {H : Hp} {s : Shared} {E : Value → Shared → Prop}
theorem Inv.wish (I : Inv X pins σ H s) (E : Value → Shared → Prop) : Inv (X.wish E) pins σ H s := ⟨I.ok.wish E, I.os, I.bare, I.base, I.loc, I.cell, I.free, I.freeC, I.pin, I.hok, I.len⟩
theorem Inv.unwish (I : Inv (X.wish E) pins σ H s) : Inv X pins σ H s := ⟨I.ok.unwish, I.os, I.bare, I.base, I.loc, I.cell, I.free, I.freeC, I.pin, I.hok, I.len⟩
theorem SP.unwish {D : Ends} {f : Flow} {s' : Shared} (h : SP (X.wish E) pins D f s') : SP X pins D f s' := by
  cases f with
  | next => obtain ⟨σ', H', I, q⟩ := h; exact ⟨σ', H', I.unwish, q⟩
  | brk => obtain ⟨σ', H', I, q⟩ := h; exact ⟨σ', H', I.unwish, q⟩
  | cont => obtain ⟨σ', H', I, q⟩ := h; exact ⟨σ', H', I.unwish, q⟩
  | ret u => obtain ⟨v, σ', H', I, r, q⟩ := h; exact ⟨v, σ', H', I.unwish, r, q⟩
theorem PSs.nox {st : List Stmt} {t : TS} (h : PSs X.nox st t) : PSs X st t := fun pins s σ H D I hw =>
  wpAny_mono (h pins s σ H D (I.wish _) hw) (fun _ _ q => q.unwish) fun _ _ z => False.elim z
end

/-! ### blocks and small statements -/
section
variable {X : Cx} {st : Stmt} {rest : List Stmt} {t u : TS} {e : Expr} {te : TE} {pos : Pos}
def tNext : TS := fun D σ H => D.nx σ H
def tSeq (t u : TS) : TS := fun D σ H => t { D with nx := u D } σ H
theorem pss_nil : PSs X [] tNext := fun _ _ σ H _ I h => wpAny_execs_nil ⟨σ, H, I, h⟩
theorem pss_cons (h1 : PS X st t) (h2 : PSs X rest u) : PSs X (st :: rest) (tSeq t u) := by
  intro pins s σ H D I h
  refine wpAny_execs_cons (thn (h1 pins s σ H { D with nx := u D } I h) fun f s1 q => ?_)
  cases f with
  | next =>
    obtain ⟨σ', H', I', q⟩ := q
    exact h2 pins s1 σ' H' D I' q
  | ret v => exact q
  | brk => exact q
  | cont => exact q
theorem pss_one (h1 : PS X st t) : PSs X [st] t := by
  intro pins s σ H D I h
  refine wpAny_execs_cons (thn (h1 pins s σ H D I h) fun f s1 q => ?_)
  cases f with
  | next => exact wpAny_execs_nil q
  | ret v => exact q
  | brk => exact q
  | cont => exact q
def tBreak : TS := fun D σ H => D.bk σ H
def tCont : TS := fun D σ H => D.ct σ H
/-- in a def's body nothing is shown -/
theorem Inv.quiet {pins : List (Addr × Obj)} {σ : St} {H : Hp} {s : Shared} (I : Inv X pins σ H s) : interactive X.env = false := by simp [interactive, I.ok.kind]
/-- an expression whose value is dropped -/
def tDrop (te : TE) : TS := fun D σ H => te σ H fun _ H1 => D.nx σ H1
theorem ps_expr (he : PE X e te) (hs : swapsWith e none pos.line X.env = pure false := by rfl) : PS X (.Expr e pos) (tDrop te) := by
  intro pins s σ H D I h
  exact wpAny_Expr_any (thn (he pins s σ H _ I h) fun v s1 ⟨x, H1, I1, r1, q1⟩ => ⟨σ, H1, I1, q1⟩) I.quiet hs
def tRet (te : TE) : TS := fun D σ H => te σ H D.rt
theorem ps_ret (he : PE X e te) : PS X (.Return (some e) pos) (tRet te) := by
  intro pins s σ H D I h
  exact wpAny_Return_some (thn (he pins s σ H _ I h) fun v s1 ⟨x, H1, I1, r1, q1⟩ => ⟨x, σ, H1, I1, r1, q1⟩)
def tRetN : TS := fun D _ H => D.rt .non H
def tIfS (c : TT) (t u : TS) : TS := fun D σ H => c σ H fun b H1 => if b = true then t D σ H1 else u D σ H1
theorem ps_if {c : Expr} {a b : List Stmt} {tc : TT} (hc : PT X c tc) (ha : PSs X a t) (hb : PSs X b u) : PS X (.If c a b pos) (tIfS tc t u) := by
  intro pins s σ H D I h
  refine wpAny_If (thn (hc pins s σ H _ I h) fun d s1 ⟨H1, I1, q1⟩ => ?_)
  cases d with
  | true => exact ha pins s1 σ H1 D I1 q1
  | false => exact hb pins s1 σ H1 D I1 q1
/-- code that the proof never comes to -/
def tNever : TS := fun _ _ _ => False
end

/-! ### targets -/
abbrev TG := V → St → Hp → (St → Hp → Prop) → Prop
abbrev TGs := List V → St → Hp → (St → Hp → Prop) → Prop
def PG (X : Cx) (target : Expr) (t : TG) : Prop :=
  ∀ (pins : List (Addr × Obj)) (s : Shared) (σ : St) (H : Hp) (v : V) (u : Value) (Q : St → Hp → Prop), Inv X pins σ H s → RelV v u → t v σ H Q →
    wpAny (model X.prog X.w) X.A (assign target X.env u) (fun _ s' => ∃ σ' H', Inv X pins σ' H' s' ∧ Q σ' H') X.xe s
/-- several targets, one after another -/
def PGs (X : Cx) (ts : List Expr) (t : TGs) : Prop :=
  ∀ (pins : List (Addr × Obj)) (s : Shared) (σ : St) (H : Hp) (vs : List V) (us : List Value) (Q : St → Hp → Prop), Inv X pins σ H s → Vals vs us → t vs σ H Q →
    wpAny (model X.prog X.w) X.A (assignInOrder ((assignEach ts X.env).map (·.2)) us) (fun _ s' => ∃ σ' H', Inv X pins σ' H' s' ∧ Q σ' H') X.xe s
/-- o[i] = v, by values -/
abbrev TSet := V → V → V → Hp → (Hp → Prop) → Prop
def PSet (X : Cx) (t : TSet) : Prop :=
  ∀ (pins : List (Addr × Obj)) (s : Shared) (σ : St) (H : Hp) (o i v : V) (ov iv u : Value) (Q : Hp → Prop), Inv X pins σ H s → RelV o ov → RelV i iv → RelV v u → t o i v H Q →
    wpAny (model X.prog X.w) X.A (setItem ov iv u) (fun _ s' => ∃ H', Inv X pins σ H' s' ∧ Q H') X.xe s
/-- a op= b, by values -/
abbrev TIp := V → V → Hp → VK → Prop
def PIp (X : Cx) (op : Operator) (t : TIp) : Prop :=
  ∀ (pins : List (Addr × Obj)) (s : Shared) (σ : St) (H : Hp) (x y : V) (v u : Value) (Q : VK), Inv X pins σ H s → RelV x v → RelV y u → t x y H Q →
    wpAny (model X.prog X.w) X.A (inplaceOp op v u) (EP X pins σ Q) X.xe s
section
variable {X : Cx} {pos : Pos}
def gName (i : Nat) : TG := fun v σ H Q => Q (σ.set i (some v)) H
theorem pg_name {i : Nat} {x : Str} (hN : X.N.Nodup) (hi : X.N[i]? = some x) (hx : Loc X.env.scope x) (hf : X.fn x = true ∨ X.env.scope.names.lookup x = some .local := by first | exact .inl rfl | exact .inr rfl | assumption) : PG X (.Name x pos) (gName i) := by
  intro pins s σ H v u Q I r h
  exact wpAny_assign_Name (store_ok I hN hi hx r (fun s' I' => ⟨_, H, I', h⟩) hf)
def gNil : TGs := fun vs σ H Q => vs = [] ∧ Q σ H
def gCons (t : TG) (u : TGs) : TGs := fun vs σ H Q => ∃ v r, vs = v :: r ∧ t v σ H fun σ' H' => u r σ' H' Q
theorem pgs_nil : PGs X [] gNil := by
  intro pins s σ H vs us Q I r h
  obtain ⟨e, h⟩ := h
  subst e
  cases r
  exact assignInOrder_nil ⟨σ, H, I, h⟩
theorem pgs_cons {e : Expr} {es : List Expr} {t : TG} {u : TGs} (h1 : PG X e t) (h2 : PGs X es u)
    (hs : (assignEach (e :: es) X.env).map (·.2) = assign e X.env :: (assignEach es X.env).map (·.2) := by rfl) : PGs X (e :: es) (gCons t u) := by
  intro pins s σ H vs us Q I r h
  obtain ⟨v, vr, e1, h⟩ := h
  subst e1
  cases r with
  | cons r rr =>
    rw [hs]
    refine assignInOrder_cons (thn (h1 pins s σ H _ _ _ I r h) fun _ s1 ⟨σ1, H1, I1, q1⟩ => ?_)
    exact h2 pins s1 σ1 H1 _ _ Q I1 rr q1
/-- (a, b, ..) = a tuple of that length -/
def gTup (K : PySem.W.Frag) (n : Nat) (t : TGs) : TG := fun v σ H Q => ∃ a xs, v = .ref a ∧ SqT K H a xs ∧ xs.length = n ∧ t xs σ H Q
theorem pg_tup {es : List Expr} {k : Nat} {t : TGs} {n : Nat} (hc : X.calm = true) (h : PGs X es t)
    (hn : (assignEach es X.env).length = n := by rfl) (hst : (assignEach es X.env).findIdx? (·.1) = none := by rfl) : PG X (.Tuple es k pos) (gTup X.K n t) := by
  intro pins s σ H v u Q I r hw
  obtain ⟨a, xs, e1, hq, hl, hw⟩ := hw
  subst e1
  cases r
  obtain ⟨its, rv, ht, hz⟩ := I.tuple hq
  refine assign_Tuple_tuple (I.ok.hd hc) ht (by simp [hn, ← hl, rv.length]) hst fun h' hx => ?_
  have I1 : Inv X pins σ H { s with heap := h' } := I.kept (t' := s.toks) fun b o e => hx b o (Nat.ne_of_lt (Heap.lt_size e)) e
  exact h pins _ σ H xs _ Q I1 (by simpa using rv) hw
/-- o[i] = .. -/
def gSub (to ti : TE) (t : TSet) : TG := fun v σ H Q => to σ H fun o H1 => ti σ H1 fun i H2 => t o i v H2 fun H3 => Q σ H3
theorem pg_sub {o i : Expr} {to ti : TE} {t : TSet} (ho : PE X o to) (hi : PE X i ti) (hs : PSet X t)
    (ha : ∀ v, assign (.Subscript o i pos) X.env v = (do
      let ov ← holding [v] (eval o X.env)
      let iv ← holding [v, ov] (eval i X.env)
      standAt pos
      holding [v, ov, iv] (setItem ov iv v)
      release [v, ov, iv] []) := by intro _; rfl) : PG X (.Subscript o i pos) (gSub to ti t) := by
  intro pins s σ H v u Q I r h
  rw [ha]
  refine wpAny_bind (wpAny_holding (thn (ho pins s σ H _ I h) fun ov s1 ⟨x, H1, I1, r1, q1⟩ => ?_))
  refine wpAny_bind (wpAny_holding (thn (hi pins s1 σ H1 _ I1 q1) fun iv s2 ⟨y, H2, I2, r2, q2⟩ => ?_))
  refine wpAny_bind (wpAny_standAt (wpAny_bind (wpAny_holding (thn (hs pins s2 σ H2 x y v ov iv u _ I2 r1 r2 r q2) fun _ s3 ⟨H3, I3, q3⟩ => ?_))))
  exact wpAny_release ⟨σ, H3, I3, q3⟩
/-- target = value -/
def tAsg (te : TE) (g : TG) : TS := fun D σ H => te σ H fun x H1 => g x σ H1 D.nx
theorem ps_asg {tg e : Expr} {te : TE} {g : TG} (he : PE X e te) (hg : PG X tg g) (hs : swapsWithSole [tg] e pos.line X.env = pure false := by rfl) (hw : swappedStores [tg] e X.env = pure none := by rfl)
    (h1 : (assignEach [tg] X.env).map (·.2) = [assign tg X.env] := by rfl) : PS X (.Assign [tg] e pos) (tAsg te g) := by
  intro pins s σ H D I h
  refine wpAny_Assign_stores (thn (he pins s σ H _ I h) fun v s1 ⟨x, H1, I1, r1, q1⟩ => ?_) hs hw
  rw [h1]
  exact thn (hg pins s1 σ H1 x v _ I1 r1 q1) fun _ s2 q => q
/-- name = value -/
theorem ps_set {i : Nat} {x : Str} {e : Expr} {te : TE} {pos' : Pos} (hN : X.N.Nodup) (hi : X.N[i]? = some x) (hx : Loc X.env.scope x) (he : PE X e te) (hs : swapsWith e (some (.Name x pos')) pos.line X.env = pure false := by rfl) (hf : X.fn x = true ∨ X.env.scope.names.lookup x = some .local := by first | exact .inl rfl | exact .inr rfl | assumption) :
    PS X (.Assign [.Name x pos'] e pos) (tAsg te (gName i)) := by
  intro pins s σ H D I h
  refine wpAny_Assign_Name (thn (he pins s σ H _ I h) fun v s1 ⟨y, H1, I1, r1, q1⟩ => ?_) hs
  exact store_ok I1 hN hi hx r1 (fun s2 I2 => ⟨_, H1, I2, q1⟩) hf
/-- a, b = x, y with plain local names: stored from the right; the pair itself is not tracked (the opening rows as in PyProof/Rows/TupAssign.lean:23) -/
def tPar (i j : Nat) (ta : TA) : TS := fun D σ H => ta σ H fun vs H1 => ∃ v w, vs = [v, w] ∧ D.nx ((σ.set i (some v)).set j (some w)) H1
/-- name op= e -/
def tAug (i : Nat) (te : TE) (ti : TIp) : TS := fun D σ H => ∃ x, σ[i]? = some (some x) ∧ te σ H fun y H1 => ti x y H1 fun z H2 => D.nx (σ.set i (some z)) H2
/-- o[i] op= e -/
def tAugS (to ti te : TE) (tget : V → V → Hp → VK → Prop) (tip : TIp) (tset : TSet) : TS := fun D σ H => to σ H fun o H1 => ti σ H1 fun i H2 => tget o i H2 fun x H3 => te σ H3 fun y H4 => tip x y H4 fun z H5 => tset o i z H5 fun H6 => D.nx σ H6
/-- o[i], by values -/
def PGet (X : Cx) (t : V → V → Hp → VK → Prop) : Prop :=
  ∀ (pins : List (Addr × Obj)) (s : Shared) (σ : St) (H : Hp) (o i : V) (ov iv : Value) (Q : VK), Inv X pins σ H s → RelV o ov → RelV i iv → t o i H Q →
    wpAny (model X.prog X.w) X.A (getItem ov iv) (EP X pins σ Q) X.xe s
/-- ints -/
def ipI (f : Int → Int → Int) : TIp := fun x y H Q => ∃ i j, x = .int i ∧ y = .int j ∧ Q (.int (f i j)) H
end

/-! ### while -/
section
variable {X : Cx} {pos : Pos}
/-- the invariant W with its measure -/
def tWhile (c : TT) (tb : TS) : TS := fun D σ H => ∃ W : Nat → St → Hp → Prop, (∃ m, W m σ H) ∧ ∀ m σ H, W m σ H →
  c σ H fun b H1 => if b = true then ∃ N : St → Hp → Prop, (∀ σ' H', N σ' H' → ∃ m', m' < m ∧ W m' σ' H') ∧ tb { D with nx := N, ct := N, bk := D.nx } σ H1 else D.nx σ H1
end

/-! ### what a loop or a comprehension walks -/
/-- at turn i: it yields x (the heap may grow), or it stops -/
structure It where
  go : Nat → Hp → Prop
  yld : Nat → Hp → V → Hp → Prop
  stop : Nat → Hp → Prop
/-- the iterator's own objects may turn: they are not the frame's, not pinned, younger than the entry (or a comprehension's own) -/
def FpOk (X : Cx) (pins : List (Addr × Obj)) (H : Hp) (b : Addr) : Prop :=
  H b = none ∧ b ≠ X.env.locals ∧ b ∉ X.fs ∧ (b ∈ X.ex ∨ X.s₀.heap.objs.size ≤ b) ∧ (∀ x c, X.env.cells.lookup x = some c → c ≠ b) ∧ ∀ p ∈ X.pn ++ pins, p.1 ≠ b
theorem Inv.fpOk {X : Cx} {pins : List (Addr × Obj)} {σ : St} {H H' : Hp} {s : Shared} {b : Addr} (I : Inv X pins σ H s) (hb : s.heap.objs.size ≤ b) (hn : H' b = none) : FpOk X pins H' b := by
  refine ⟨hn, Nat.ne_of_gt (Nat.lt_of_lt_of_le I.lt hb), I.nofs hb, .inr (Nat.le_trans I.sz hb), fun x c e z => ?_, fun p hp z => ?_⟩
  · obtain ⟨v, q⟩ := I.cell x c e
    exact absurd (Nat.lt_of_lt_of_le q.lt (by rw [z]; exact hb)) (Nat.lt_irrefl _)
  · exact absurd (Nat.lt_of_lt_of_le (Heap.lt_size (I.pin p hp).1) (by rw [z]; exact hb)) (Nat.lt_irrefl _)
structure Turn (P : Program) (w : World) (K : PySem.W.Frag) (tg : Expr) (J : It) (fp : List Addr) (it : Addr) (tn : Nat → Heap → Prop) : Prop where
  mem : it ∈ fp
  obj : ∀ i h, tn i h → ∀ b ∈ fp, ∃ o, h.get? b = some o ∧ ∀ v, o.data ≠ .cell v
  keep : ∀ i h h', tn i h → (∀ b ∈ fp, ∀ o, h.get? b = some o → h'.get? b = some o) → tn i h'
  item : ∀ (X : Cx), X.prog = P → X.w = w → X.K = K → X.calm = true → ∀ (i : Nat) (pins : List (Addr × Obj)) (s : Shared) (σ : St) (H : Hp) (E : Value → Shared → Prop), Inv X pins σ H s → (∀ b ∈ fp, FpOk X pins H b) → tn i s.heap → J.go i H →
    wpAny (model P w) X.A (pyNext (.ref it)) (fun r s1 => ∃ u, r = some u ∧
      wpAny (model P w) X.A (letOwnedTupleGo tg (.ref it) u) (fun _ s2 => ∃ x H', Inv X pins σ H' s2 ∧ RelV x u ∧ J.yld i H x H' ∧ tn (i + 1) s2.heap ∧ ∀ b ∈ fp, H' b = none) E s1) E s
  done : ∀ (X : Cx), X.prog = P → X.w = w → X.K = K → X.calm = true → ∀ (i : Nat) (pins : List (Addr × Obj)) (s : Shared) (σ : St) (H : Hp) (E : Value → Shared → Prop), Inv X pins σ H s → (∀ b ∈ fp, FpOk X pins H b) → tn i s.heap → J.stop i H →
    wpAny (model P w) X.A (pyNext (.ref it)) (fun r s1 => r = none ∧ Inv X pins σ H s1) E s
  self : ∀ (A : Around) (i : Nat) (s : Shared) (Q : Value → Shared → Prop) (E : Value → Shared → Prop), tn i s.heap → Q (.ref it) s → wpAny (model P w) A (pyIter (.ref it)) Q E s
abbrev TI := St → Hp → (It → Hp → Prop) → Prop
/-- an iterator has come -/
def PIE (X : Cx) (pins : List (Addr × Obj)) (σ : St) (tg : Expr) (R : It → Hp → Prop) (itv : Value) (s2 : Shared) : Prop :=
  ∃ (it : Addr) (fp : List Addr) (tn : Nat → Heap → Prop) (J : It) (H' : Hp), itv = .ref it ∧ Inv X pins σ H' s2 ∧ Turn X.prog X.w X.K tg J fp it tn ∧ tn 0 s2.heap ∧ (∀ b ∈ fp, FpOk X pins H' b) ∧ R J H'
def PI (X : Cx) (tg iter : Expr) (wi : TI) : Prop :=
  ∀ (pins : List (Addr × Obj)) (s : Shared) (σ : St) (H : Hp) (R : It → Hp → Prop), Inv X pins σ H s → wi σ H R →
    wpAny (model X.prog X.w) X.A (eval iter X.env) (fun v s1 => wpAny (model X.prog X.w) X.A (pyIter v) (PIE X pins σ tg R) X.xe s1) X.xe s

/-- the step ahead of the store is nothing for an iterator that keeps no tuple -/
theorem go_of {M : Model} {A : Around} {E : Value → Shared → Prop} {s : Shared} {tg : Expr} {it : Addr} {u : Value} {o : Obj} {n : String} {vs : Array Value} {Q : Unit → Shared → Prop} (ho : s.heap.get? it = some o) (hc : o.cls = .type n) (hd : o.data = .fields vs)
    (hn : ["enumerate", "zip", "dict_itemiterator", "dict_reverseitemiterator", "odict_iterator", "itertools.zip_longest", "itertools.pairwise"].contains n = false) (hQ : Q () s) : wpAny M A (letOwnedTupleGo tg (.ref it) u) Q E s := by
  unfold letOwnedTupleGo
  cases tg <;> first
    | exact wpAny_pure hQ
    | (cases u <;> first
        | exact wpAny_pure hQ
        | (refine wpAny_bind (wpAny_load ho ?_)
           rw [hc, hd]
           show wpAny M A (if (["enumerate", "zip", "dict_itemiterator", "dict_reverseitemiterator", "odict_iterator", "itertools.zip_longest", "itertools.pairwise"].contains n && vs[0]? == some (rawInt _)) = true then _ else _) Q E s
           rw [if_neg (by intro h; rw [hn, Bool.false_and] at h; cases h)]
           exact wpAny_pure hQ))

/-- the list at a, as it stands at each turn (a loop may append to it) -/
def Itl (K : PySem.W.Frag) (a : Addr) : It :=
  ⟨fun i H => ∃ xs x, SqL K H a xs ∧ xs[i]? = some x, fun i H x H' => H' = H ∧ ∀ xs, SqL K H a xs → xs[i]? = some x, fun i H => ∃ xs, SqL K H a xs ∧ xs.length ≤ i⟩
def Itt (K : PySem.W.Frag) (a : Addr) : It :=
  ⟨fun i H => ∃ xs x, SqT K H a xs ∧ xs[i]? = some x, fun i H x H' => H' = H ∧ ∀ xs, SqT K H a xs → xs[i]? = some x, fun i H => ∃ xs, SqT K H a xs ∧ xs.length ≤ i⟩
/-- lo, lo + 1, .. (n of them) -/
def Itr (lo : Int) (n : Nat) : It := ⟨fun i _ => i < n, fun i H x H' => H' = H ∧ x = .int (lo + i), fun i _ => n ≤ i⟩
theorem turn_list {P : Program} {w : World} {K : PySem.W.Frag} {tg : Expr} (a it : Addr) : Turn P w K tg (Itl K a) [it] it (fun i h => h.IsListIter it a i) where
  mem := by simp
  obj := fun i h st b hb => by
    have e : b = it := by simpa using hb
    subst e
    obtain ⟨o, e, c, d⟩ := st
    exact ⟨o, e, fun v z => by rw [d] at z; cases z⟩
  keep := fun i h h' st k => st.at fun o e => k it (by simp) o e
  item := by
    intro X hP hw hK hc i pins s σ H E I hf st hg
    subst hP hw hK
    obtain ⟨xs, x, hq, hx⟩ := hg
    obtain ⟨its, rv, p, hz⟩ := I.list hq
    obtain ⟨u, hu, ru⟩ := rv.get hx
    obtain ⟨f0, f1, f2, f3, f4, f5⟩ := hf it (by simp)
    refine wpAny_pyNext_list_item st p.isList (x := u) (by simpa using hu) fun h' st' sb => ?_
    have I1 : Inv X pins σ H { s with heap := h' } := I.turned (t' := s.toks) (fun b o hb e => (sb.2 b hb).trans e) f0 f1 f3 f4 f5
    obtain ⟨o, e, c, d⟩ := id st'
    exact ⟨u, rfl, go_of (s := { s with heap := h' }) e c d (by decide) ⟨x, H, I1, ru, ⟨rfl, fun ys hy => by rw [I.list_inj hy hq]; exact hx⟩, st', fun b hb => (hf b hb).1⟩⟩
  done := by
    intro X hP hw hK hc i pins s σ H E I hf st hg
    subst hP hw hK
    obtain ⟨xs, hq, hx⟩ := hg
    obtain ⟨its, rv, p, hz⟩ := I.list hq
    obtain ⟨f0, f1, f2, f3, f4, f5⟩ := hf it (by simp)
    have hl := rv.length
    exact wpAny_pyNext_list_end (I.ok.hd hc) st p.isList (by simp; omega) fun h' eb => ⟨rfl, I.turned (t' := s.toks) (fun b o hb e => eb b o hb e) f0 f1 f3 f4 f5⟩
  self := fun _ _ _ _ _ st h => wpAny_pyIter_listiter st h
theorem turn_tuple {P : Program} {w : World} {K : PySem.W.Frag} {tg : Expr} (a it : Addr) : Turn P w K tg (Itt K a) [it] it (fun i h => h.IsTupleIter it a i) where
  mem := by simp
  obj := fun i h st b hb => by
    have e : b = it := by simpa using hb
    subst e
    obtain ⟨o, e, c, d⟩ := st
    exact ⟨o, e, fun v z => by rw [d] at z; cases z⟩
  keep := fun i h h' st k => st.at fun o e => k it (by simp) o e
  item := by
    intro X hP hw hK hc i pins s σ H E I hf st hg
    subst hP hw hK
    obtain ⟨xs, x, hq, hx⟩ := hg
    obtain ⟨its, rv, p, hz⟩ := I.tuple hq
    obtain ⟨u, hu, ru⟩ := rv.get hx
    obtain ⟨f0, f1, f2, f3, f4, f5⟩ := hf it (by simp)
    refine wpAny_pyNext_tuple_item st (show s.heap.IsTuple a its.toArray from p) (x := u) (by simpa using hu) fun h' st' sb => ?_
    have I1 : Inv X pins σ H { s with heap := h' } := I.turned (t' := s.toks) (fun b o hb e => (sb.2 b hb).trans e) f0 f1 f3 f4 f5
    obtain ⟨o, e, c, d⟩ := id st'
    exact ⟨u, rfl, go_of (s := { s with heap := h' }) e c d (by decide) ⟨x, H, I1, ru, ⟨rfl, fun ys hy => by rw [I.tuple_inj hy hq]; exact hx⟩, st', fun b hb => (hf b hb).1⟩⟩
  done := by
    intro X hP hw hK hc i pins s σ H E I hf st hg
    subst hP hw hK
    obtain ⟨xs, hq, hx⟩ := hg
    obtain ⟨its, rv, p, hz⟩ := I.tuple hq
    obtain ⟨f0, f1, f2, f3, f4, f5⟩ := hf it (by simp)
    have hl := rv.length
    exact wpAny_pyNext_tuple_end (I.ok.hd hc) st (show s.heap.IsTuple a its.toArray from p) (by simp; omega) fun h' eb => ⟨rfl, I.turned (t' := s.toks) (fun b o hb e => eb b o hb e) f0 f1 f3 f4 f5⟩
  self := fun _ _ _ _ _ st h => wpAny_pyIter_tupleiter st h
theorem turn_range {P : Program} {w : World} {K : PySem.W.Frag} {tg : Expr} (it : Addr) (lo : Int) (n : Nat) : Turn P w K tg (Itr lo n) [it] it (fun i h => IsRangeIter h it (lo + (i : Nat) * 1) ((n : Int) - (i : Nat)) 1) where
  mem := by simp
  obj := fun i h st b hb => by
    have e : b = it := by simpa using hb
    subst e
    exact ⟨_, st, fun v z => by
      have z' : Data.fields _ = Data.cell v := z
      cases z'⟩
  keep := fun i h h' st k => k it (by simp) _ st
  item := by
    intro X hP hw hK hc i pins s σ H E I hf st hg
    subst hP hw hK
    obtain ⟨f0, f1, f2, f3, f4, f5⟩ := hf it (by simp)
    have W := Walks.range (prog := X.prog) (w := X.w) (I.ok.hd hc) it lo 1 n
    refine W.item i s _ _ hg st fun v h' tk hv st' kk => ?_
    obtain ⟨t, rfl⟩ := hv
    have I1 : Inv X pins σ H { s with heap := h', toks := tk } := I.turned (fun b o hb e => kk b o (by simpa using hb) e) f0 f1 f3 f4 f5
    refine ⟨_, rfl, go_of (s := { s with heap := h', toks := tk }) (n := "range_iterator") st' rfl rfl (by decide) ⟨.int (lo + i), H, I1, ⟨t, ?_⟩, ⟨rfl, rfl⟩, st', fun b hb => (hf b hb).1⟩⟩
    rw [Int.mul_one]
  done := by
    intro X hP hw hK hc i pins s σ H E I hf st hg
    subst hP hw hK
    obtain ⟨f0, f1, f2, f3, f4, f5⟩ := hf it (by simp)
    exact wpAny_pyNext_range_end (I.ok.hd hc) st (by have : n ≤ i := hg; omega) fun h' eb => ⟨rfl, I.turned (t' := s.toks) (fun b o hb e => eb b o hb e) f0 f1 f3 f4 f5⟩
  self := fun _ _ _ _ _ st h => wpAny_pyIter_rangeiter st h
end L2

namespace L2
open PySem PySem.Spec PyProof.Rows
section
variable {X : Cx} {tg : Expr}
def iList (K : PySem.W.Frag) (tl : TE) : TI := fun σ H R => tl σ H fun x H1 => ∃ a, x = .ref a ∧ (∃ xs, SqL K H1 a xs) ∧ R (Itl K a) H1
def iTup (K : PySem.W.Frag) (tl : TE) : TI := fun σ H R => tl σ H fun x H1 => ∃ a, x = .ref a ∧ (∃ xs, SqT K H1 a xs) ∧ R (Itt K a) H1
theorem pi_list {l : Expr} {tl : TE} (hl : PE X l tl) : PI X tg l (iList X.K tl) := by
  intro pins s σ H R I h
  refine thn (hl pins s σ H _ I h) fun v s1 ⟨x, H1, I1, r1, q1⟩ => ?_
  obtain ⟨a, e, ⟨xs, hq⟩, q⟩ := q1
  subst e
  cases r1
  obtain ⟨its, rv, p, hz⟩ := I1.list hq
  refine wpAny_pyIter_list p.isList ?_
  refine ⟨s1.heap.objs.size, [s1.heap.objs.size], _, _, H1, rfl, I1.kept (t' := s1.toks) fun b o e => Heap.get?_push_of_some _ e, turn_list a _, ⟨_, Heap.get?_push_size _ rfl, rfl, rfl⟩, fun b hb => ?_, q⟩
  have e : b = s1.heap.objs.size := by simpa using hb
  subst e
  exact I1.fpOk (Nat.le_refl _) (I1.hok.fresh (Nat.le_refl _))
theorem pi_tup {l : Expr} {tl : TE} (hl : PE X l tl) : PI X tg l (iTup X.K tl) := by
  intro pins s σ H R I h
  refine thn (hl pins s σ H _ I h) fun v s1 ⟨x, H1, I1, r1, q1⟩ => ?_
  obtain ⟨a, e, ⟨xs, hq⟩, q⟩ := q1
  subst e
  cases r1
  obtain ⟨its, rv, p, hz⟩ := I1.tuple hq
  refine wpAny_pyIter_tuple (show s1.heap.IsTuple a its.toArray from p) ?_
  refine ⟨s1.heap.objs.size, [s1.heap.objs.size], _, _, H1, rfl, I1.kept (t' := s1.toks) fun b o e => Heap.get?_push_of_some _ e, turn_tuple a _, ⟨_, Heap.get?_push_size _ rfl, rfl, rfl⟩, fun b hb => ?_, q⟩
  have e : b = s1.heap.objs.size := by simpa using hb
  subst e
  exact I1.fpOk (Nat.le_refl _) (I1.hok.fresh (Nat.le_refl _))
/-- a range object just made, walked -/
theorem range_it {pins : List (Addr × Obj)} {σ : St} {H : Hp} {s : Shared} {R : It → Hp → Prop} {E : Value → Shared → Prop} {lo hi : Int} {t u v : Tok} {tk : Nat} (I : Inv X pins σ H s) (h1 : -(2 ^ 62) ≤ lo) (h2 : lo < 2 ^ 62) (h3 : -(2 ^ 62) ≤ hi) (h4 : hi < 2 ^ 62)
    (q : R (Itr lo (hi - lo).toNat) H) : wpAny (model X.prog X.w) X.A (pyIter (.ref s.heap.objs.size)) (PIE X pins σ tg R) E { s with heap := s.heap.push { cls := .type "range", data := .fields #[.int lo t, .int hi u, .int 1 v] }, toks := tk } := by
  refine wpAny_pyIter_range (IsRange.new ..) (small_one h1 h2 h3 h4) ?_
  have I1 : Inv X pins σ H { s with heap := s.heap.push { cls := .type "range", data := .fields #[.int lo t, .int hi u, .int 1 v] }, toks := tk } := I.kept fun b o e => Heap.get?_push_of_some _ e
  refine ⟨(s.heap.push { cls := .type "range", data := .fields #[.int lo t, .int hi u, .int 1 v] }).objs.size, [(s.heap.push { cls := .type "range", data := .fields #[.int lo t, .int hi u, .int 1 v] }).objs.size], _, _, H, rfl,
    I1.kept (t' := tk) fun b o e => Heap.get?_push_of_some _ e, turn_range _ lo (hi - lo).toNat, ?_, fun b hb => ?_, q⟩
  · have e1 : lo + ((0 : Nat) : Int) * 1 = lo := by simp
    have e2 : (((hi - lo).toNat : Nat) : Int) - ((0 : Nat) : Int) = Builtin.Range.rangeSize lo hi 1 := by rw [rangeSize_one]; split <;> omega
    show IsRangeIter _ _ (lo + ((0 : Nat) : Int) * 1) ((((hi - lo).toNat : Nat) : Int) - ((0 : Nat) : Int)) 1
    rw [e1, e2]
    exact Heap.get?_push_size _ rfl
  · have e : b = (s.heap.push { cls := .type "range", data := .fields #[.int lo t, .int hi u, .int 1 v] }).objs.size := by simpa using hb
    subst e
    exact I1.fpOk (Nat.le_refl _) (I1.hok.fresh (Nat.le_refl _))
def iRng1 (ta : TA) : TI := fun σ H R => ta σ H fun vs H1 => ∃ j : Int, vs = [.int j] ∧ -(2 ^ 62) ≤ j ∧ j < 2 ^ 62 ∧ R (Itr 0 j.toNat) H1
def iRng2 (ta : TA) : TI := fun σ H R => ta σ H fun vs H1 => ∃ i j : Int, vs = [.int i, .int j] ∧ (-(2 ^ 62) ≤ i ∧ i < 2 ^ 62 ∧ -(2 ^ 62) ≤ j ∧ j < 2 ^ 62) ∧ R (Itr i (j - i).toNat) H1
theorem pi_range1 {a : Expr} {ta : TA} {p pos : Pos} (hg : Gl X "range") (hm : X.mg "range" = none) (ha : PA X [a] ta) (hs : starEach [a] X.env = [(false, eval a X.env)] := by rfl) : PI X tg (.Call (.Name "range" p) [a] [] pos) (iRng1 ta) := by
  intro pins s σ H R I h
  refine Call_ (ld_blt I hg hm boot_range (PyProof.Rows.callWith_type1 (thn (ha pos pins s σ H _ I h) fun us s1 ⟨vs, H1, I1, r1, q1⟩ => ?_) hs rfl))
  obtain ⟨j, e, q1, q2, q⟩ := q1
  subst e
  cases r1 with
  | cons r rr =>
    cases rr
    obtain ⟨t, rfl⟩ := r
    exact call_range_1 (range_it I1 (by omega) (by omega) q1 q2 (by simpa using q))
/-! ### for -/
/-- W: the invariant by the turn and a measure; N: what the body is to reach -/
def tFor (wi : TI) (g : TG) (tb : TS) : TS := fun D σ H => wi σ H fun J H1 => ∃ W : Nat → Nat → St → Hp → Prop, (∃ m, W 0 m σ H1) ∧ ∀ i m σ H, W i m σ H →
  (J.stop i H ∧ D.nx σ H) ∨ (J.go i H ∧ ∃ N : St → Hp → Prop, (∀ σ' H', N σ' H' → ∃ m', m' < m ∧ W (i + 1) m' σ' H') ∧ ∀ x H', J.yld i H x H' → g x σ H' fun σ2 H2 => tb { D with nx := N, ct := N, bk := D.nx } σ2 H2)
/-- the records at fp as they stand -/
def pinsAt (fp : List Addr) (h : Heap) : List (Addr × Obj) := fp.filterMap fun b => (h.get? b).map fun o => (b, o)
theorem mem_pinsAt {fp : List Addr} {h : Heap} {b : Addr} {o : Obj} (hb : b ∈ fp) (e : h.get? b = some o) : (b, o) ∈ pinsAt fp h := List.mem_filterMap.mpr ⟨b, hb, by rw [e]; rfl⟩
theorem of_pinsAt {fp : List Addr} {h : Heap} {p : Addr × Obj} (hp : p ∈ pinsAt fp h) : p.1 ∈ fp ∧ h.get? p.1 = some p.2 := by
  obtain ⟨b, hb, e⟩ := List.mem_filterMap.mp hp
  cases q : h.get? b with
  | none => rw [q] at e; cases e
  | some o =>
    rw [q] at e
    have e' : (b, o) = p := Option.some.inj e
    subst e'
    exact ⟨hb, q⟩
theorem Inv.pinned {pins : List (Addr × Obj)} {σ : St} {H : Hp} {s : Shared} {fp : List Addr} (I : Inv X pins σ H s) (hf : ∀ b ∈ fp, FpOk X pins H b) (ho : ∀ b ∈ fp, ∃ o, s.heap.get? b = some o ∧ ∀ v, o.data ≠ .cell v) : Inv X (pins ++ pinsAt fp s.heap) σ H s :=
  I.pins_of fun p hp => (List.mem_append.mp hp).elim (fun z => I.pin p (List.mem_append_right _ z)) fun z => by
    obtain ⟨hb, e⟩ := of_pinsAt z
    obtain ⟨f0, f1, f2, _⟩ := hf p.1 hb
    obtain ⟨o, e', d⟩ := ho p.1 hb
    rw [e] at e'; cases e'
    exact ⟨e, f0, f1, f2, d⟩
theorem Inv.unpinned {pins pl : List (Addr × Obj)} {σ : St} {H : Hp} {s : Shared} (I : Inv X (pins ++ pl) σ H s) : Inv X pins σ H s := I.pins_of fun p hp => I.pin p (List.mem_append_right _ (List.mem_append_left _ hp))
theorem ps_for {iter : Expr} {body : List Stmt} {wi : TI} {g : TG} {tb : TS} {pos : Pos} (hp : PassesOwn (model X.prog X.w) X.A X.env X.xe) (hc : X.calm = true) (hi : PI X tg iter wi) (hg : PG X tg g) (hb : PSs X body tb)
    (hs : ∀ x, foldedSetIterable iter X.env x = pure x := by intro _; rfl) : PS X (.For tg iter body [] pos) (tFor wi g tb) := by
  intro pins s σ H D I h
  refine wpAny_For (thn (hi pins s σ H _ I h) fun v s1 h1 => thn h1 fun itv s2 h2 => ?_) hs
  obtain ⟨it, fp, tn, J, H2, e, I2, T, st2, f2, W, ⟨m0, w0⟩, turn⟩ := h2
  subst e
  -- what stays true of the iterator's objects through the loop
  have stat : ∀ {H' : Hp}, (∀ b ∈ fp, H' b = none) → ∀ b ∈ fp, FpOk X pins H' b := fun hn b hb => ⟨hn b hb, (f2 b hb).2⟩
  refine codeAny_forLoop_any (fun n s' => ∃ i σ' H', Inv X pins σ' H' s' ∧ tn i s'.heap ∧ (∀ b ∈ fp, H' b = none) ∧ W i n σ' H') ?_ m0 ⟨0, σ, H2, I2, st2, fun b hb => (f2 b hb).1, w0⟩
  rintro n s3 ⟨i, σ3, H3, I3, st3, fr3, w3⟩
  rcases turn i n σ3 H3 w3 with ⟨stop, qn⟩ | ⟨go, N, hN, step⟩
  · refine wpAny_passesOwn hp (thn (T.done X rfl rfl rfl hc i pins s3 σ3 H3 X.xe I3 (stat fr3) st3 stop) fun r s4 ⟨hr, I4⟩ => ?_)
    subst hr
    exact wpAny_execs_nil ⟨σ3, H3, I4, qn⟩
  · refine wpAny_passesOwn hp (thn (T.item X rfl rfl rfl hc i pins s3 σ3 H3 X.xe I3 (stat fr3) st3 go) fun r s4 ⟨u, hr, h4⟩ => ?_)
    subst hr
    refine wpAny_passesOwn hp (thn h4 fun _ s5 ⟨x, H5, I5, r5, y5, st5, fr5⟩ => ?_)
    have I5' := I5.pinned (stat fr5) (T.obj _ _ st5)
    refine wpAny_passesOwn hp (thn (hg _ s5 σ3 H5 x u _ I5' r5 (step x H5 y5)) fun _ s6 ⟨σ6, H6, I6, q6⟩ => ?_)
    refine wpAny_passesOwn hp (thn (hb _ s6 σ6 H6 _ I6 q6) fun f s7 q7 => ?_)
    have again : ∀ {σ7 : St} {H7 : Hp}, Inv X (pins ++ pinsAt fp s5.heap) σ7 H7 s7 → N σ7 H7 → ∃ m, m < n ∧ ∃ i σ' H', Inv X pins σ' H' s7 ∧ tn i s7.heap ∧ (∀ b ∈ fp, H' b = none) ∧ W i m σ' H' := fun {σ7 H7} I7 n7 => by
      obtain ⟨m', hm, w7⟩ := hN σ7 H7 n7
      refine ⟨m', hm, i + 1, σ7, H7, I7.unpinned, T.keep _ _ _ st5 fun b hb o e => (I7.pin (b, o) (List.mem_append_right _ (List.mem_append_right _ (mem_pinsAt hb e)))).1, fun b hb => ?_, w7⟩
      obtain ⟨o, e, d⟩ := T.obj _ _ st5 b hb
      exact (I7.pin (b, o) (List.mem_append_right _ (List.mem_append_right _ (mem_pinsAt hb e)))).2.1
    cases f with
    | next => obtain ⟨σ7, H7, I7, n7⟩ := q7; exact again I7 n7
    | cont => obtain ⟨σ7, H7, I7, n7⟩ := q7; exact again I7 n7
    | brk => obtain ⟨σ7, H7, I7, q7⟩ := q7; exact ⟨σ7, H7, I7.unpinned, q7⟩
    | ret v => obtain ⟨x7, σ7, H7, I7, r7, q7⟩ := q7; exact ⟨x7, σ7, H7, I7.unpinned, r7, q7⟩
end

/-! ### the forms one uses -/
/-- over a list that the body leaves as it is -/
theorem for_list {K : PySem.W.Frag} {a : Addr} {xs : List V} {g : TG} {tb : TS} {D : Ends} {σ : St} {H : Hp} (Pv : Nat → St → Hp → Prop) (h0 : Pv 0 σ H) (hl : ∀ i σ H, i ≤ xs.length → Pv i σ H → SqL K H a xs)
    (hs : ∀ i x σ H, xs[i]? = some x → Pv i σ H → g x σ H fun σ2 H2 => tb { D with nx := Pv (i + 1), ct := Pv (i + 1), bk := D.nx } σ2 H2) (hd : ∀ σ H, Pv xs.length σ H → D.nx σ H) :
    ∃ W : Nat → Nat → St → Hp → Prop, (∃ m, W 0 m σ H) ∧ ∀ i m σ H, W i m σ H →
      ((Itl K a).stop i H ∧ D.nx σ H) ∨ ((Itl K a).go i H ∧ ∃ N : St → Hp → Prop, (∀ σ' H', N σ' H' → ∃ m', m' < m ∧ W (i + 1) m' σ' H') ∧ ∀ x H', (Itl K a).yld i H x H' → g x σ H' fun σ2 H2 => tb { D with nx := N, ct := N, bk := D.nx } σ2 H2) := by
  refine ⟨fun i m σ H => m = xs.length - i ∧ i ≤ xs.length ∧ Pv i σ H, ⟨xs.length, by simp, Nat.zero_le _, h0⟩, ?_⟩
  rintro i m σ H ⟨rfl, hi, p⟩
  have q := hl i σ H hi p
  by_cases hlt : i < xs.length
  · refine .inr ⟨⟨xs, xs[i], q, by simp [hlt]⟩, Pv (i + 1), fun σ' H' p' => ⟨xs.length - (i + 1), by omega, rfl, hlt, p'⟩, fun x H' y => ?_⟩
    obtain ⟨e, y⟩ := y
    subst e
    exact hs i x σ _ (y xs q) p
  · have e : i = xs.length := by omega
    subst e
    exact .inl ⟨⟨xs, q, Nat.le_refl _⟩, hd σ H p⟩
theorem for_tup {K : PySem.W.Frag} {a : Addr} {xs : List V} {g : TG} {tb : TS} {D : Ends} {σ : St} {H : Hp} (Pv : Nat → St → Hp → Prop) (h0 : Pv 0 σ H) (hl : ∀ i σ H, i ≤ xs.length → Pv i σ H → SqT K H a xs)
    (hs : ∀ i x σ H, xs[i]? = some x → Pv i σ H → g x σ H fun σ2 H2 => tb { D with nx := Pv (i + 1), ct := Pv (i + 1), bk := D.nx } σ2 H2) (hd : ∀ σ H, Pv xs.length σ H → D.nx σ H) :
    ∃ W : Nat → Nat → St → Hp → Prop, (∃ m, W 0 m σ H) ∧ ∀ i m σ H, W i m σ H →
      ((Itt K a).stop i H ∧ D.nx σ H) ∨ ((Itt K a).go i H ∧ ∃ N : St → Hp → Prop, (∀ σ' H', N σ' H' → ∃ m', m' < m ∧ W (i + 1) m' σ' H') ∧ ∀ x H', (Itt K a).yld i H x H' → g x σ H' fun σ2 H2 => tb { D with nx := N, ct := N, bk := D.nx } σ2 H2) := by
  refine ⟨fun i m σ H => m = xs.length - i ∧ i ≤ xs.length ∧ Pv i σ H, ⟨xs.length, by simp, Nat.zero_le _, h0⟩, ?_⟩
  rintro i m σ H ⟨rfl, hi, p⟩
  have q := hl i σ H hi p
  by_cases hlt : i < xs.length
  · refine .inr ⟨⟨xs, xs[i], q, by simp [hlt]⟩, Pv (i + 1), fun σ' H' p' => ⟨xs.length - (i + 1), by omega, rfl, hlt, p'⟩, fun x H' y => ?_⟩
    obtain ⟨e, y⟩ := y
    subst e
    exact hs i x σ _ (y xs q) p
  · have e : i = xs.length := by omega
    subst e
    exact .inl ⟨⟨xs, q, Nat.le_refl _⟩, hd σ H p⟩
theorem for_range {lo : Int} {n : Nat} {g : TG} {tb : TS} {D : Ends} {σ : St} {H : Hp} (Pv : Nat → St → Hp → Prop) (h0 : Pv 0 σ H)
    (hs : ∀ i σ H, i < n → Pv i σ H → g (.int (lo + i)) σ H fun σ2 H2 => tb { D with nx := Pv (i + 1), ct := Pv (i + 1), bk := D.nx } σ2 H2) (hd : ∀ σ H, Pv n σ H → D.nx σ H) :
    ∃ W : Nat → Nat → St → Hp → Prop, (∃ m, W 0 m σ H) ∧ ∀ i m σ H, W i m σ H →
      ((Itr lo n).stop i H ∧ D.nx σ H) ∨ ((Itr lo n).go i H ∧ ∃ N : St → Hp → Prop, (∀ σ' H', N σ' H' → ∃ m', m' < m ∧ W (i + 1) m' σ' H') ∧ ∀ x H', (Itr lo n).yld i H x H' → g x σ H' fun σ2 H2 => tb { D with nx := N, ct := N, bk := D.nx } σ2 H2) := by
  refine ⟨fun i m σ H => m = n - i ∧ i ≤ n ∧ Pv i σ H, ⟨n, by simp, Nat.zero_le _, h0⟩, ?_⟩
  rintro i m σ H ⟨rfl, hi, p⟩
  by_cases hlt : i < n
  · refine .inr ⟨hlt, Pv (i + 1), fun σ' H' p' => ⟨n - (i + 1), by omega, rfl, hlt, p'⟩, fun x H' y => ?_⟩
    obtain ⟨e, y⟩ := y
    subst e y
    exact hs i σ _ hlt p
  · have e : i = n := by omega
    subst e
    exact .inl ⟨Nat.le_refl _, hd σ H p⟩
end L2

namespace L2
open PySem PySem.Spec PyProof.Rows

abbrev R2 := V → V → Hp → VK → Prop
/-- a two-place operation on values: f is binaryOp op, inplaceOp op or compareOp op -/
def OpR (X : Cx) (f : Value → Value → Sem Value) (r : R2) : Prop :=
  ∀ (pins : List (Addr × Obj)) (s : Shared) (σ : St) (H : Hp) (x y : V) (v u : Value) (Q : VK), Inv X pins σ H s → RelV x v → RelV y u → r x y H Q →
    wpAny (model X.prog X.w) X.A (f v u) (EP X pins σ Q) X.xe s
/-- a one-place operation -/
def UnR (X : Cx) (f : Value → Sem Value) (r : V → Hp → VK → Prop) : Prop :=
  ∀ (pins : List (Addr × Obj)) (s : Shared) (σ : St) (H : Hp) (x : V) (v : Value) (Q : VK), Inv X pins σ H s → RelV x v → r x H Q →
    wpAny (model X.prog X.w) X.A (f v) (EP X pins σ Q) X.xe s
/-- a call of a value that is known (a builtin, a type) with values -/
def CallR (X : Cx) (f : Value) (r : List V → Hp → VK → Prop) : Prop :=
  ∀ (pins : List (Addr × Obj)) (s : Shared) (σ : St) (H : Hp) (xs : List V) (us : List Value) (Q : VK), Inv X pins σ H s → Vals xs us → r xs H Q →
    wpAny (model X.prog X.w) X.A (call f us) (EP X pins σ Q) X.xe s
/-- a value's truth -/
def TruR (X : Cx) (r : V → Hp → (Bool → Hp → Prop) → Prop) : Prop :=
  ∀ (pins : List (Addr × Obj)) (s : Shared) (σ : St) (H : Hp) (x : V) (v : Value) (Q : Bool → Hp → Prop), Inv X pins σ H s → RelV x v → r x H Q →
    wpAny (model X.prog X.w) X.A (truthy v) (TP X pins σ Q) X.xe s

def tOp (r : R2) (ta tb : TE) : TE := fun σ H Q => ta σ H fun x H1 => tb σ H1 fun y H2 => r x y H2 Q
def tUn (r : V → Hp → VK → Prop) (ta : TE) : TE := fun σ H Q => ta σ H fun x H1 => r x H1 Q
/-- ints in, under C, and a value out -/
def rI (C : Int → Int → Prop) (g : Int → Int → V) : R2 := fun x y H Q => ∃ i j, x = .int i ∧ y = .int j ∧ C i j ∧ Q (g i j) H
def rI0 (g : Int → Int → V) : R2 := fun x y H Q => ∃ i j, x = .int i ∧ y = .int j ∧ Q (g i j) H
def rU (g : Int → V) : V → Hp → VK → Prop := fun x H Q => ∃ i, x = .int i ∧ Q (g i) H

section
variable {X : Cx} {a b c : Expr} {ta tb tc : TE} {pos : Pos}

theorem binT (ha : PE X a ta) (hb : PE X b tb) {pins : List (Addr × Obj)} {s : Shared} {σ : St} {H : Hp} {R : V → V → Hp → Prop} (I : Inv X pins σ H s)
    (h : ta σ H fun x H1 => tb σ H1 fun y H2 => R x y H2) {Q : Value → Shared → Prop} {f : Value → Value → Sem Value}
    (hf : ∀ v u s2 x y H2, Inv X pins σ H2 s2 → RelV x v → RelV y u → R x y H2 → wpAny (model X.prog X.w) X.A (f v u) Q X.xe s2) :
    wpAny (model X.prog X.w) X.A (eval a X.env) (fun v s₁ => wpAny (model X.prog X.w) X.A (eval b X.env) (fun u s₂ => wpAny (model X.prog X.w) X.A (f v u) Q X.xe s₂) X.xe s₁) X.xe s := by
  refine thn (ha pins s σ H _ I h) fun v s1 ⟨x, H1, I1, r1, q1⟩ => ?_
  refine thn (hb pins s1 σ H1 _ I1 q1) fun u s2 ⟨y, H2, I2, r2, q2⟩ => ?_
  exact hf v u s2 x y H2 I2 r1 r2 q2

theorem pe_op {op : Operator} {r : R2} (ho : OpR X (binaryOp op) r) (ha : PE X a ta) (hb : PE X b tb) : PE X (.BinOp a op b pos) (tOp r ta tb) := by
  intro pins s σ H Q I h
  exact wpAny_BinOp (binT ha hb I h fun v u s2 x y H2 I2 rx ry q => ho pins s2 σ H2 x y v u Q I2 rx ry q)
theorem pe_un {op : UnaryOp} {r : V → Hp → VK → Prop} (ho : UnR X (unaryOp op) r) (ha : PE X a ta) : PE X (.UnaryOp op a pos) (tUn r ta) := by
  intro pins s σ H Q I h
  exact UnaryOp_ (thn (ha pins s σ H _ I h) fun v s1 ⟨x, H1, I1, r1, q1⟩ => ho pins s1 σ H1 x v Q I1 r1 q1)
/-! ### ints -/
theorem opI {f : Value → Value → Sem Value} {C : Int → Int → Prop} {g : Int → Int → Int}
    (rule : ∀ (i j : Int) (t u : Tok) (s : Shared) (Q : Value → Shared → Prop) (E : Value → Shared → Prop), C i j → Q (.int (g i j) s.toks) { s with toks := s.toks + 1 } → wpAny (model X.prog X.w) X.A (f (.int i t) (.int j u)) Q E s) :
    OpR X f (rI C fun i j => .int (g i j)) := by
  intro pins s σ H x y v u Q I rx ry h
  obtain ⟨i, j, rfl, rfl, hc, q⟩ := h
  obtain ⟨t, rfl⟩ := rx
  obtain ⟨t', rfl⟩ := ry
  exact rule i j t t' s _ _ hc ⟨.int (g i j), H, I.tok _, ⟨_, rfl⟩, q⟩
theorem opI0 {f : Value → Value → Sem Value} {g : Int → Int → Int}
    (rule : ∀ (i j : Int) (t u : Tok) (s : Shared) (Q : Value → Shared → Prop) (E : Value → Shared → Prop), Q (.int (g i j) s.toks) { s with toks := s.toks + 1 } → wpAny (model X.prog X.w) X.A (f (.int i t) (.int j u)) Q E s) :
    OpR X f (rI0 fun i j => .int (g i j)) := by
  intro pins s σ H x y v u Q I rx ry h
  obtain ⟨i, j, rfl, rfl, q⟩ := h
  obtain ⟨t, rfl⟩ := rx
  obtain ⟨t', rfl⟩ := ry
  exact rule i j t t' s _ _ ⟨.int (g i j), H, I.tok _, ⟨_, rfl⟩, q⟩
theorem opB0 {f : Value → Value → Sem Value} {g : Int → Int → Bool}
    (rule : ∀ (i j : Int) (t u : Tok) (s : Shared) (Q : Value → Shared → Prop) (E : Value → Shared → Prop), Q (.bool (g i j)) s → wpAny (model X.prog X.w) X.A (f (.int i t) (.int j u)) Q E s) :
    OpR X f (rI0 fun i j => .bl (g i j)) := by
  intro pins s σ H x y v u Q I rx ry h
  obtain ⟨i, j, rfl, rfl, q⟩ := h
  obtain ⟨t, rfl⟩ := rx
  obtain ⟨t', rfl⟩ := ry
  exact rule i j t t' s _ _ ⟨.bl (g i j), H, I, rfl, q⟩

def CDiv (i j : Int) : Prop := 0 < j ∧ j < 1073741824
def CDivN (i j : Int) : Prop := j ≠ 0 ∧ j.natAbs < 1073741824
def CPow (i j : Int) : Prop := 0 ≤ j ∧ j ≤ 1000000 ∧ i.natAbs < 2 ^ 64
def CMul (i j : Int) : Prop := (-(2 ^ 64) < i ∧ i < 2 ^ 64) ∨ (-(2 ^ 64) < j ∧ j < 2 ^ 64)
theorem CMul.ok {i j : Int} (h : CMul i j) : IntMulOk i j := by
  rcases h with ⟨h1, h2⟩ | ⟨h1, h2⟩
  · exact .of_left (intBits_le_64 h1 h2)
  · exact .of_right (intBits_le_64 h1 h2)
theorem op_add : OpR X (binaryOp .Add) (rI0 fun i j => .int (i + j)) := opI0 fun _ _ _ _ _ _ _ q => add_int q
theorem op_sub : OpR X (binaryOp .Sub) (rI0 fun i j => .int (i - j)) := opI0 fun _ _ _ _ _ _ _ q => sub_int q
theorem op_mul : OpR X (binaryOp .Mult) (rI CMul fun i j => .int (i * j)) := opI fun _ _ _ _ _ _ _ hc q => mul_int q hc.ok
/-- // by a positive divisor -/
theorem op_fdiv : OpR X (binaryOp .FloorDiv) (rI CDiv fun i j => .int (i / j)) := opI fun i j _ _ _ _ _ hc q => by
  have h1 : (0 : Int) < j := hc.1
  have h2 : j < 1073741824 := hc.2
  exact floordiv_int (by omega) (by rw [Int.fdiv_eq_ediv_of_nonneg i (by omega)]; exact q) (.inl (PyProof.noPylong_small (by omega)))
/-- % by a positive divisor of any size -/
theorem op_mod : OpR X (binaryOp .Mod) (rI (fun _ j => 0 < j) fun i j => .int (i % j)) := opI fun i j _ _ _ _ _ hc q => by
  have h1 : (0 : Int) < j := hc
  exact mod_int' (by omega) (by rw [Int.fmod_eq_emod_of_nonneg i (by omega)]; exact q)
theorem op_pow : OpR X (binaryOp .Pow) (rI CPow fun i j => .int (i ^ j.toNat)) := opI fun _ _ _ _ _ _ _ hc q => pow_int_small hc.1 hc.2.1 hc.2.2 q
theorem unI {f : Value → Sem Value} {g : Int → Int}
    (rule : ∀ (i : Int) (t : Tok) (s : Shared) (Q : Value → Shared → Prop) (E : Value → Shared → Prop), Q (.int (g i) s.toks) { s with toks := s.toks + 1 } → wpAny (model X.prog X.w) X.A (f (.int i t)) Q E s) :
    UnR X f (rU fun i => .int (g i)) := by
  intro pins s σ H x v Q I rx h
  obtain ⟨i, rfl, q⟩ := h
  obtain ⟨t, rfl⟩ := rx
  exact rule i t s _ _ ⟨.int (g i), H, I.tok _, ⟨_, rfl⟩, q⟩
theorem un_neg : UnR X (unaryOp .USub) (rU fun i => .int (-i)) := unI fun _ _ _ _ _ q => neg_int q
/-! ### bools among ints: n += (a < b) -/
end

/-! ### comparisons -/
/-- the scalars that == tells apart as data does -/
def scal : V → V → Bool
  | .non, .non => true | .non, .int _ => true | .int _, .non => true | .non, .bl _ => true | .bl _, .non => true | .non, .str _ => true | .str _, .non => true
  | .int _, .int _ => true | .bl _, .bl _ => true | .str _, .str _ => true | .byt _, .byt _ => true
  | .int _, .str _ => true | .str _, .int _ => true | .bl _, .str _ => true | .str _, .bl _ => true
  | _, _ => false
def rEq : R2 := fun x y H Q => scal x y = true ∧ Q (.bl (decide (x = y))) H
def rNe : R2 := fun x y H Q => scal x y = true ∧ Q (.bl (!decide (x = y))) H

theorem dec_int {i j : Int} : decide (V.int i = V.int j) = (i == j) := by
  rw [Bool.eq_iff_iff]
  simp
theorem dec_bl {i j : Bool} : decide (V.bl i = V.bl j) = (i == j) := by
  rw [Bool.eq_iff_iff]
  simp
theorem dec_str {i j : Str} : decide (V.str i = V.str j) = (i == j) := by
  rw [Bool.eq_iff_iff]
  simp
theorem dec_byt {i j : Array UInt8} : decide (V.byt i = V.byt j) = (i.toList == j.toList) := by
  rw [Bool.eq_iff_iff]
  cases i
  cases j
  simp

section
variable {X : Cx} {a b c : Expr} {ta tb tc : TE} {pos : Pos}
theorem fin_bl {pins : List (Addr × Obj)} {σ : St} {H : Hp} {s : Shared} {Q : VK} {k k' : Bool} (I : Inv X pins σ H s) (q : Q (.bl k) H) (e : k = k') : EP X pins σ Q (.bool k') s := by
  subst e
  exact ⟨.bl k, H, I, rfl, q⟩
theorem op_eq : OpR X (compareOp .Eq) rEq := by
  intro pins s σ H x y v u Q I rx ry h
  obtain ⟨hs, q⟩ := h
  cases x with
  | non =>
    cases rx
    cases y with
    | non => cases ry; exact PySem.EqNone.eq_none_none (fin_bl I q (by simp))
    | bl j => cases ry; exact PySem.EqNone.eq_none_bool (fin_bl I q (by simp))
    | int j => obtain ⟨t', rfl⟩ := ry; exact PySem.EqNone.eq_none_int (fin_bl I q (by simp))
    | str j => obtain ⟨t', rfl⟩ := ry; exact PySem.EqNone.eq_none_str (fin_bl I q (by simp))
    | _ => exact absurd (show false = true from hs) Bool.false_ne_true
  | bl i =>
    cases rx
    cases y with
    | non => cases ry; exact PySem.EqNone.eq_bool_none (fin_bl I q (by simp))
    | bl j => cases ry; exact eq_bool (fin_bl I q dec_bl)
    | str j => obtain ⟨t', rfl⟩ := ry; exact PySem.EqMixed.eq_bool_str (fin_bl I q (by simp))
    | _ => exact absurd (show false = true from hs) Bool.false_ne_true
  | int i =>
    obtain ⟨t, rfl⟩ := rx
    cases y with
    | non => cases ry; exact PySem.EqNone.eq_int_none (fin_bl I q (by simp))
    | int j => obtain ⟨t', rfl⟩ := ry; exact eq_int (fin_bl I q dec_int)
    | str j => obtain ⟨t', rfl⟩ := ry; exact PySem.EqMixed.eq_int_str (fin_bl I q (by simp))
    | _ => exact absurd (show false = true from hs) Bool.false_ne_true
  | str i =>
    obtain ⟨t, rfl⟩ := rx
    cases y with
    | non => cases ry; exact PySem.EqNone.eq_str_none (fin_bl I q (by simp))
    | bl j => cases ry; exact PySem.EqMixed.eq_str_bool (fin_bl I q (by simp))
    | int j => obtain ⟨t', rfl⟩ := ry; exact PySem.EqMixed.eq_str_int (fin_bl I q (by simp))
    | str j => obtain ⟨t', rfl⟩ := ry; exact eq_str (fin_bl I q dec_str)
    | _ => exact absurd (show false = true from hs) Bool.false_ne_true
  | byt i =>
    obtain ⟨t, rfl⟩ := rx
    cases y with
    | byt j => obtain ⟨t', rfl⟩ := ry; exact PySem.W.eq_bytes (fin_bl I q dec_byt)
    | _ => exact absurd (show false = true from hs) Bool.false_ne_true
  | _ => cases y <;> exact absurd (show false = true from hs) Bool.false_ne_true
theorem op_ne : OpR X (compareOp .NotEq) rNe := by
  intro pins s σ H x y v u Q I rx ry h
  obtain ⟨hs, q⟩ := h
  cases x with
  | non =>
    cases rx
    cases y with
    | non => cases ry; exact PySem.EqNone.ne_none_none (fin_bl I q (by simp))
    | bl j => cases ry; exact PySem.EqNone.ne_none_bool (fin_bl I q (by simp))
    | int j => obtain ⟨t', rfl⟩ := ry; exact PySem.EqNone.ne_none_int (fin_bl I q (by simp))
    | str j => obtain ⟨t', rfl⟩ := ry; exact PySem.EqNone.ne_none_str (fin_bl I q (by simp))
    | _ => exact absurd (show false = true from hs) Bool.false_ne_true
  | bl i =>
    cases rx
    cases y with
    | non => cases ry; exact PySem.EqNone.ne_bool_none (fin_bl I q (by simp))
    | bl j => cases ry; exact ne_bool (fin_bl I q (congrArg not dec_bl))
    | str j => obtain ⟨t', rfl⟩ := ry; exact PySem.EqMixed.ne_bool_str (fin_bl I q (by simp))
    | _ => exact absurd (show false = true from hs) Bool.false_ne_true
  | int i =>
    obtain ⟨t, rfl⟩ := rx
    cases y with
    | non => cases ry; exact PySem.EqNone.ne_int_none (fin_bl I q (by simp))
    | int j => obtain ⟨t', rfl⟩ := ry; exact ne_int (fin_bl I q (congrArg not dec_int))
    | str j => obtain ⟨t', rfl⟩ := ry; exact PySem.EqMixed.ne_int_str (fin_bl I q (by simp))
    | _ => exact absurd (show false = true from hs) Bool.false_ne_true
  | str i =>
    obtain ⟨t, rfl⟩ := rx
    cases y with
    | non => cases ry; exact PySem.EqNone.ne_str_none (fin_bl I q (by simp))
    | bl j => cases ry; exact PySem.EqMixed.ne_str_bool (fin_bl I q (by simp))
    | int j => obtain ⟨t', rfl⟩ := ry; exact PySem.EqMixed.ne_str_int (fin_bl I q (by simp))
    | str j => obtain ⟨t', rfl⟩ := ry; exact ne_str (fin_bl I q (congrArg not dec_str))
    | _ => exact absurd (show false = true from hs) Bool.false_ne_true
  | byt i =>
    obtain ⟨t, rfl⟩ := rx
    cases y with
    | byt j => obtain ⟨t', rfl⟩ := ry; exact PySem.W.ne_bytes (fin_bl I q (congrArg not dec_byt))
    | _ => exact absurd (show false = true from hs) Bool.false_ne_true
  | _ => cases y <;> exact absurd (show false = true from hs) Bool.false_ne_true

theorem op_lt : OpR X (compareOp .Lt) (rI0 fun i j => .bl (decide (i < j))) := opB0 fun _ _ _ _ _ _ _ q => lt_int q
theorem op_le : OpR X (compareOp .LtE) (rI0 fun i j => .bl (decide (i ≤ j))) := opB0 fun _ _ _ _ _ _ _ q => le_int q
theorem op_gt : OpR X (compareOp .Gt) (rI0 fun i j => .bl (decide (j < i))) := opB0 fun _ _ _ _ _ _ _ q => gt_int q
/-- is, is not of two objects that are tracked lists or instances -/
def isObj : HO → Bool
  | .lst _ => true
  | .ins _ _ _ => true
  | _ => false
theorem nomark (b : Expr) {op : CmpOp} (h : op ≠ .In := by decide) (h2 : op ≠ .NotIn := by decide) : behindInMarks op b = false := by
  have e1 : (op == CmpOp.In) = false := by cases op <;> first | rfl | exact absurd rfl h
  have e2 : (op == CmpOp.NotIn) = false := by cases op <;> first | rfl | exact absurd rfl h2
  cases b <;> simp [behindInMarks, e1, e2]
/-- a comparison as a value; hm: nomark b, or (for in, not in) by with_unfolding_all rfl -/
theorem pe_cmpR {op : CmpOp} {r : R2} (ho : OpR X (compareOp op) r) (ha : PE X a ta) (hb : PE X b tb) (hm : behindInMarks op b = false) : PE X (.Compare a [op] [b] pos) (tOp r ta tb) := by
  intro pins s σ H Q I h
  exact wpAny_Compare1 (binT ha hb I h fun v u s2 x y H2 I2 rx ry q => ho pins s2 σ H2 x y v u Q I2 rx ry q) hm
/-- a reading of a value as a test -/
def tTest (t : TE) : TT := fun σ H Q => t σ H fun x H' => ∃ k, x = .bl k ∧ Q k H'
theorem pt_cmpR {op : CmpOp} {r : R2} (ho : OpR X (compareOp op) r) (ha : PE X a ta) (hb : PE X b tb) (hm : behindInMarks op b = false) : PT X (.Compare a [op] [b] pos) (tTest (tOp r ta tb)) := by
  intro pins s σ H Q I h
  refine wpAny_isTrue_Compare1 (thn (ha pins s σ H _ I h) fun v s1 ⟨x, H1, I1, r1, q1⟩ => thn (hb pins s1 σ H1 _ I1 q1) fun u s2 ⟨y, H2, I2, r2, q2⟩ =>
    thn (ho pins s2 σ H2 x y v u _ I2 r1 r2 q2) fun c s3 ⟨z, H3, I3, r3, k, e, q3⟩ => ?_) hm
  subst e
  cases r3
  exact wpAny_truthy_bool ⟨H3, I3, q3⟩
/-- a op1 b op2 c -/
def tChain (r r' : R2) (ta tb tc : TE) : TE := fun σ H Q => ta σ H fun x H1 => tb σ H1 fun y H2 => r x y H2 fun z H3 => ∃ k, z = .bl k ∧
  (if k = true then tc σ H3 fun w' H4 => r' y w' H4 Q else Q (.bl false) H3)
/-! ### truth -/
/-- a value's truth by the abstract heap -/
def TruV (K : PySem.W.Frag) (x : V) (H : Hp) (k : Bool) : Prop :=
  match x with
  | .non => k = false
  | .bl b => k = b
  | .int i => k = (i != 0)
  | .str y => y.length ≤ sizeLine ∧ k = ((y.length : Int) != 0)
  | .byt y => y.size ≤ sizeLine ∧ k = ((y.size : Int) != 0)
  | .ref p => (∃ xs, SqL K H p xs ∧ k = !xs.isEmpty) ∨ (∃ xs, SqT K H p xs ∧ k = !xs.isEmpty) ∨ ∃ kvs, H p = some (.dK kvs) ∧ k = !kvs.isEmpty
  | _ => False
theorem line63 : (sizeLine : Nat) < 2 ^ 63 := by rw [sizeLine_eq]; decide
/-! ### strs and bytes -/
theorem op_add_byt : OpR X (binaryOp .Add) (fun x y H Q => ∃ i j, x = .byt i ∧ y = .byt j ∧ i.size + j.size ≤ 16777216 ∧ Q (.byt (i ++ j)) H) := by
  intro pins s σ H x y v u Q I rx ry h
  obtain ⟨i, j, rfl, rfl, hz, q⟩ := h
  obtain ⟨t, rfl⟩ := rx
  obtain ⟨t', rfl⟩ := ry
  exact PySem.W.KBy.add_bytes hz (fun t' tk => ⟨.byt (i ++ j), H, I.tok _, ⟨_, rfl⟩, q⟩)

def PlainIxT (b : Expr) : Prop := ∀ o i, subscripted b false o i = operate [o, i] (getItem o i)
/-! ### scalar builtins, by CallR -/
theorem vals1 {x : V} {us : List Value} (r : Vals [x] us) : ∃ u, us = [u] ∧ RelV x u := by
  cases r with
  | cons r1 r2 => cases r2; exact ⟨_, rfl, r1⟩
/-- len of a str, a bytes, a list, a tuple -/
def LenV (K : PySem.W.Frag) (x : V) (H : Hp) (n : Nat) : Prop :=
  match x with
  | .str y => y.length ≤ sizeLine ∧ n = y.length
  | .byt y => y.size ≤ sizeLine ∧ n = y.size
  | .ref p => (∃ xs, SqL K H p xs ∧ n = xs.length) ∨ ∃ xs, SqT K H p xs ∧ n = xs.length
  | _ => False
end
end L2

namespace L2
open PySem PySem.Spec PyProof.Rows

/-! ### an instance, its attributes a map -/
structure ObjM (h : Heap) (x dx C : Addr) (mA : Str → Option Value) : Prop where
  obj : h.get? x = some (PySem.W.instObj C dx)
  ns : h.Ns1 dx mA
  ne : dx ≠ x

theorem lookIn_ns {h : Heap} {dx : Addr} {mA : Str → Option Value} (n : h.Ns1 dx mA) : ∃ od, h.get? dx = some od ∧ ∀ name, PySem.W.lookIn name od = some (mA name) := by
  obtain ⟨o, es, ep, ho, hd, hk, _, hm⟩ := n
  refine ⟨o, ho, fun name => ?_⟩
  have e := hm name
  unfold nsFind findBy at e
  rw [← Array.find?_toList] at e
  unfold PySem.W.lookIn
  rw [hd]
  dsimp only
  split
  · rename_i y q
    rw [q] at e
    exact congrArg some e
  · rename_i q
    rw [q] at e
    have a : es.toList.any (·.refKey) = false := by
      rw [List.any_eq_false]
      intro y hy
      obtain ⟨z, t, hkey⟩ := hk y (Array.mem_toList_iff.mp hy)
      simp [DictEntry.refKey, hkey]
    have a' : ¬ es.toList.any (·.refKey) = true := by rw [a]; exact Bool.false_ne_true
    rw [if_neg a']
    exact congrArg some e

theorem ObjM.look {h : Heap} {x dx C : Addr} {mA : Str → Option Value} (I : ObjM h x dx C mA) : ∃ od, PySem.W.InstAt h x (PySem.W.instObj C dx) C (some od) ∧ ∀ name, PySem.W.lookIn name od = some (mA name) :=
  let ⟨od, ho, hl⟩ := lookIn_ns I.ns
  ⟨od, ⟨I.obj, rfl, rfl, ho⟩, hl⟩

section
variable {prog : Program} {w : World} {A : Around} {E : Value → Shared → Prop} {s : Shared} {K : PySem.W.Frag} {x dx C f : Addr} {mA : Str → Option Value} {name : Str} {v : Value}

end

/-! ### the attributes as a list of pairs -/
def putF (f : Str) (v : V) : List (Str × V) → List (Str × V)
  | [] => [(f, v)]
  | (g, x) :: r => if g = f then (g, v) :: r else (g, x) :: putF f v r
section
variable {P : Program} {w : World} {H H' : Hp} {h h' : Heap} {a C dx : Addr} {fs fs' : List (Str × V)}
theorem ins_get (hok : HOk P w H h) (e : H a = some (.ins C dx fs)) : ∃ mA, ObjM h a dx C mA ∧ (∀ f, RelO (fs.lookup f) (mA f)) ∧ PySem.Within mA (fs.map (·.1)) ∧ fs.length ≤ 1000 ∧ H dx = some (.own a) := by
  obtain ⟨d, z, ne, ob, mA, n, r, q⟩ := (show ObjOk P w H h a (.ins C dx fs) from hok a _ e)
  exact ⟨mA, ⟨ob, n, ne⟩, r, q, z, d⟩
end

/-! ### what of the text a class must have -/
structure Cls (K : PySem.W.Frag) (C : Addr) : Prop where
  pg : PySem.W.plainGet K C Str.empty = true
  hd : PySem.W.hasDictIn K C = true
  po : PySem.W.plainOver K C = true
  sa : PySem.W.findIn K (.ref C) "__setattr__" = some (some (.builtin "object.__setattr__"))
theorem Cls.get {K : PySem.W.Frag} {C : Addr} (c : Cls K C) (f : Str) : PySem.W.plainGet K C f = true := c.pg
/-- no class of it has the name -/
def NoAttr (K : PySem.W.Frag) (C : Addr) (f : Str) : Prop := PySem.W.findIn K (.ref C) f = some none
/-- a constant of the class -/
structure Con (K : PySem.W.Frag) (C : Addr) (f : Str) (v : V) (u : Value) : Prop where
  at_ : PySem.W.findIn K (.ref C) f = some (some u)
  rel : RelV v u
  get : PySem.W.specialIn K u "__get__" = some none
  cp : PySem.W.copiedNames.contains f = false
/-- a method: a plain def of the class or of one above it -/
structure Meth (K : PySem.W.Frag) (C : Addr) (m : Str) (f : Addr) : Prop where
  at_ : PySem.W.findIn K (.ref C) m = some (some (.ref f))
  fn : PySem.W.isFn K (.ref f) = true
  kp : PySem.W.keepIn K (.ref f) = true

section
variable {X : Cx} {pins : List (Addr × Obj)} {σ : St} {H : Hp} {s : Shared} {a C dx : Addr} {fs : List (Str × V)} {f : Str} {v : V} {A : Around} {E : Value → Shared → Prop}

end

/-! ### readings and rules -/
/-- e.f, an attribute of the instance -/
def tFld (K : PySem.W.Frag) (ta : TE) (f : Str) : TE := fun σ H Q => ta σ H fun x H1 => ∃ a C dx fs v, x = .ref a ∧ H1 a = some (.ins C dx fs) ∧ Cls K C ∧ NoAttr K C f ∧ fs.lookup f = some v ∧ Q v H1
/-- e.f, a constant of the class -/
def tCon (K : PySem.W.Frag) (ta : TE) (f : Str) : TE := fun σ H Q => ta σ H fun x H1 => ∃ a C dx fs v u, x = .ref a ∧ H1 a = some (.ins C dx fs) ∧ Cls K C ∧ Con K C f v u ∧ fs.lookup f = none ∧ Q v H1
/-- e.f = value -/
def sFld (K : PySem.W.Frag) (ta tv : TE) (f : Str) : TS := fun D σ H => tv σ H fun y H1 => ta σ H1 fun x H2 => ∃ a C dx fs, x = .ref a ∧ H2 a = some (.ins C dx fs) ∧ Cls K C ∧ NoAttr K C f ∧ fs.length < 1000 ∧
  D.nx σ (upd H2 a (.ins C dx (putF f y fs)))
/-- an augmented operator on two values -/
def InOp (X : Cx) (op : Operator) (rd : V → V → Hp → VK → Prop) : Prop :=
  ∀ (pins : List (Addr × Obj)) (s : Shared) (σ : St) (H : Hp) (x y : V) (u v : Value) (Q : VK), Inv X pins σ H s → RelV x u → RelV y v → rd x y H Q → wpAny (model X.prog X.w) X.A (inplaceOp op u v) (EP X pins σ Q) X.xe s
/-- e.f op= value -/
def sFldAug (K : PySem.W.Frag) (ta tv : TE) (rd : V → V → Hp → VK → Prop) (f : Str) : TS := fun D σ H => ta σ H fun x H1 => ∃ a C dx fs v, x = .ref a ∧ H1 a = some (.ins C dx fs) ∧ Cls K C ∧ NoAttr K C f ∧ fs.lookup f = some v ∧
  tv σ H1 fun y H2 => rd v y H2 fun z H3 => ∃ dx' fs', H3 a = some (.ins C dx' fs') ∧ fs'.length < 1000 ∧ D.nx σ (upd H3 a (.ins C dx' (putF f z fs')))

section
variable {X : Cx} {o e value : Expr} {f : Str} {pos pos' tpos : Pos} {ta tv : TE}
def rAdd : V → V → Hp → VK → Prop := fun x y H Q => ∃ i j, x = .int i ∧ y = .int j ∧ Q (.int (i + j)) H
def rSub : V → V → Hp → VK → Prop := fun x y H Q => ∃ i j, x = .int i ∧ y = .int j ∧ Q (.int (i - j)) H
end

/-! ### isinstance -/
section
variable {X : Cx} {pins : List (Addr × Obj)} {σ : St} {H : Hp} {s : Shared} {A : Around} {E : Value → Shared → Prop} {Q : Value → Shared → Prop} {c : Value} {b : Bool}
/-- the type of a value, as the fragment's deciders take it; for an instance its class -/
inductive TyOf (K : PySem.W.Frag) (H : Hp) : V → Value → Prop where
  | non : TyOf K H .non (.type "NoneType")
  | bl (x : Bool) : TyOf K H (.bl x) (.type "bool")
  | int (i : Int) : TyOf K H (.int i) (.type "int")
  | str (x : Str) : TyOf K H (.str x) (.type "str")
  | flt (x : UInt64) : TyOf K H (.flt x) (.type "float")
  | lst {a : Addr} {xs : List V} (e : H a = some (.lst xs)) : TyOf K H (.ref a) (.type "list")
  | frz {a : Addr} {o : Obj} {xs : List V} (e : H a = some (.frz o (.lst xs))) : TyOf K H (.ref a) (.type "list")
  | tup {a : Addr} {xs : List V} (e : H a = some (.tup xs)) : TyOf K H (.ref a) (.type "tuple")
  | dK {a : Addr} {kvs : List (Key × V)} (e : H a = some (.dK kvs)) : TyOf K H (.ref a) (.type "dict")
  | dT {a : Addr} {kvs : List (List Key × V)} (e : H a = some (.dT kvs)) : TyOf K H (.ref a) (.type "dict")
  | ins {a C dx : Addr} {fs : List (Str × V)} (e : H a = some (.ins C dx fs)) (cl : Cls K C) (ha : PySem.W.findIn K (.ref C) "__class__" = some (some (.builtin "object.__class__")))
      (hn : PySem.W.specialIn K (.builtin "object.__class__") "__get__" = some (some (.builtin "getset_descriptor.__get__"))) (htk : PySem.W.takesIn K (.builtin "object.__class__") = some true)
      (hm : PySem.W.mroIn K C (.type "object") = some true) : TyOf K H (.ref a) (.ref C)
/-- isinstance(x, c) for one class c, a built-in or an own one: kitOne's answer -/
theorem isinst_ok {x : V} {u t : Value} (I : Inv X pins σ H s) (rx : RelV x u) (ty : TyOf X.K H x t) (e : PySem.W.kitOne X.K t c = some b) (h : ∀ tk, Q (.bool b) { s with toks := tk }) :
    wpAny (model X.prog X.w) A (call (.builtin "isinstance") [u, c]) Q E s := by
  cases ty with
  | non => cases (show u = Value.none from rx); exact PySem.W.kia_one PySem.W.kitx_none I.kIn True.intro e (fun z => nomatch z) h
  | bl y => cases (show u = Value.bool y from rx); exact PySem.W.kia_one PySem.W.kitx_bool I.kIn True.intro e (fun z => nomatch z) h
  | int i => obtain ⟨t, q⟩ := (show ∃ t, u = Value.int i t from rx); cases q; exact PySem.W.kia_one PySem.W.kitx_int I.kIn True.intro e (fun z => nomatch z) h
  | str y => obtain ⟨t, q⟩ := (show ∃ t, u = Value.str y t from rx); cases q; exact PySem.W.kia_one PySem.W.kitx_str I.kIn True.intro e (fun z => nomatch z) h
  | flt y => obtain ⟨t, q⟩ := (show ∃ t, u = Value.float y t from rx); cases q; exact PySem.W.kia_one PySem.W.kitx_float I.kIn True.intro e (fun z => nomatch z) h
  | @lst a xs ea =>
    cases (show u = Value.ref a from rx)
    obtain ⟨_, _, n, _, h1⟩ := (show ObjOk X.prog X.w H s.heap a (.lst xs) from I.hok a _ ea)
    exact PySem.W.kia_one PySem.W.kitx_list I.kIn ⟨_, h1, rfl⟩ e (fun z => nomatch z) h
  | @frz a ob xs ea =>
    cases (show u = Value.ref a from rx)
    obtain ⟨_, _, _, n, _, h1⟩ := (show ObjOk X.prog X.w H s.heap a (.frz ob (.lst xs)) from I.hok a _ ea)
    exact PySem.W.kia_one PySem.W.kitx_list I.kIn ⟨_, h1, rfl⟩ e (fun z => nomatch z) h
  | @tup a xs ea =>
    cases (show u = Value.ref a from rx)
    obtain ⟨_, _, _, p⟩ := (show ObjOk X.prog X.w H s.heap a (.tup xs) from I.hok a _ ea)
    obtain ⟨o, h1, h2, _⟩ := p
    exact PySem.W.kia_one PySem.W.kitx_tuple I.kIn ⟨o, h1, h2⟩ e (fun z => nomatch z) h
  | @dK a kvs ea =>
    cases (show u = Value.ref a from rx)
    obtain ⟨_, _, vs, _, p⟩ := (show ObjOk X.prog X.w H s.heap a (.dK kvs) from I.hok a _ ea)
    obtain ⟨o, es, ep, h1, h2, _⟩ := p
    exact PySem.W.kia_one PySem.W.kitx_dict I.kIn ⟨o, h1, h2.1⟩ e (fun z => nomatch z) h
  | @dT a kvs ea =>
    cases (show u = Value.ref a from rx)
    obtain ⟨_, _, xs, _, o, es, ep, h1, h2, _⟩ := (show ObjOk X.prog X.w H s.heap a (.dT kvs) from I.hok a _ ea)
    exact PySem.W.kia_one PySem.W.kitx_dict I.kIn ⟨o, h1, h2.1⟩ e (fun z => nomatch z) h
  | @ins a C dx fs ea cl ha hn htk hm =>
    cases (show u = Value.ref a from rx)
    obtain ⟨mA, O, _⟩ := ins_get I.hok ea
    obtain ⟨od, J, _⟩ := O.look
    exact PySem.W.kia_one (PySem.W.kitx_own (cl.get _) cl.hd ha hn htk hm) I.kIn J e (fun z => nomatch z) h
end
end L2

namespace L2
open PySem PySem.Spec PyProof.Rows

/-! ### room -/
structure Room (k : Nat) (A : Around) : Prop where
  hd : A.handled = none
  dp : A.depth + 3 * k + 5 < recursionLimit
  un : A.units + 16 * k + 200 < cLine
theorem Room.mono {j k : Nat} {A : Around} (r : Room k A) (h : j ≤ k) : Room j A := ⟨r.hd, by have := r.dp; omega, by have := r.un; omega⟩
theorem Room.deeper {k : Nat} {A : Around} (r : Room (k + 1) A) (env : Env) : Room k (A.deeper env) :=
  ⟨r.hd, by have := r.dp; show A.depth + 1 + 3 * k + 5 < _; omega, by have := r.un; show A.units + 3 + 16 * k + 200 < _; omega⟩
theorem Room.depth {k : Nat} {A : Around} (r : Room k A) : A.depth < recursionLimit := by have := r.dp; omega
theorem Room.units {k : Nat} {A : Around} (r : Room k A) : A.units + 64 < cLine := by have := r.un; omega
/-! ### argument lists and displays -/
def tNil : TA := fun _ H Q => Q [] H
def tCons (ta : TE) (tr : TA) : TA := fun σ H Q => ta σ H fun x H1 => tr σ H1 fun xs H2 => Q (x :: xs) H2
section
variable {X : Cx} {e : Expr} {es : List Expr} {te : TE} {t : TA} {pos : Pos}
theorem pa_nil : PA X [] tNil := fun _ _ _ _ H Q I h => Calls.spliced_nil ⟨[], H, I, .nil, h⟩
theorem pa_cons (ha : PE X e te) (hr : PA X es t) (hs : starEach (e :: es) X.env = (false, eval e X.env) :: starEach es X.env := by rfl) : PA X (e :: es) (tCons te t) := by
  intro pos pins s σ H Q I h
  rw [hs]
  show wpAny _ _ (spliced ((false, eval e X.env) :: backTo pos (starEach es X.env))) _ _ s
  refine Calls.spliced_cons (thn (ha pins s σ H _ I h) fun u s1 ⟨x, H1, I1, r1, q1⟩ => ?_)
  exact thn (hr pos pins s1 σ H1 _ I1 q1) fun us s2 ⟨xs, H2, I2, r2, q2⟩ => ⟨x :: xs, H2, I2, .cons r1 r2, q2⟩

/-- a tuple, a list of written items -/
def tTup (t : TA) : TE := fun σ H Q => t σ H fun xs H1 => xs.length ≤ sizeLine ∧ ∀ p, H1 p = none → Q (.ref p) (upd H1 p (.tup xs))
def tLst (t : TA) : TE := fun σ H Q => t σ H fun xs H1 => xs.length ≤ sizeLine ∧ ∀ p, H1 p = none → Q (.ref p) (upd H1 p (.lst xs))
theorem pe_tup {x1} (h : PA X es t) : PE X (.Tuple es x1 pos) (tTup t) := by
  intro pins s σ H Q I hq
  refine wpAny_Tuple_spliced (thn (h pos pins s σ H _ I hq) fun us s1 ⟨xs, H1, I1, r, z, q⟩ => ⟨by rw [← r.length]; exact z, ?_⟩)
  have hf : H1 s1.heap.objs.size = none := I1.hok.fresh (Nat.le_refl _)
  refine ⟨.ref s1.heap.objs.size, upd H1 s1.heap.objs.size (.tup xs), I1.laid (t' := s1.toks) (fun b u e => Heap.get?_push_of_some _ e) (Nat.le_refl _) ?_, rfl, q _ hf⟩
  exact ⟨z, us, r, ⟨_, Heap.get?_push_size _ rfl, rfl, _, rfl⟩⟩
theorem pe_lst (h : PA X es t) : PE X (.List es pos) (tLst t) := by
  intro pins s σ H Q I hq
  refine wpAny_List_spliced (thn (h pos pins s σ H _ I hq) fun us s1 ⟨xs, H1, I1, r, z, q⟩ => ⟨by rw [← r.length]; exact z, ?_⟩)
  have hf : H1 s1.heap.objs.size = none := I1.hok.fresh (Nat.le_refl _)
  refine ⟨.ref s1.heap.objs.size, upd H1 s1.heap.objs.size (.lst xs), I1.laid (t' := s1.toks) (fun b u e => Heap.get?_push_of_some _ e) (Nat.le_refl _) ?_, rfl, q _ hf⟩
  exact ⟨z, us, 0, r, Heap.get?_push_size _ rfl⟩
end

/-! ### what a def promises -/
/-- a def's promise: the bound arguments in the parameters' order, the heap, the wanted end, the wanted exception -/
abbrev Sp := List V → Hp → VK → XK → Prop
/-- how an exception lies behind a call (file 08 gives it): the callers' frames, abstract heap and state ahead of the call, the wish, the exception, the state -/
abbrev CXT := List Env → Hp → Shared → XK → Value → Shared → Prop

/-- the state at a call -/
structure Env0 (P : Program) (w : World) (K : PySem.W.Frag) (mg : Str → Option Value) (base : Heap) (A : Around) (outer : List Env) (s : Shared) (H : Hp) : Prop where
  frames : A.frames = some outer
  mod : Mod K mg base
  bs : ∀ b o, base.get? b = some o → s.heap.get? b = some o ∧ H b = none
  bsz : base.objs.size ≤ s.heap.objs.size
  funs : s.heap.FunFrames base outer
  frf : ∀ b ∈ frs outer, H b = none
  hok : HOk P w H s.heap
  bare : AllBare s.gens
/-- a call's end -/
def CE (outer : List Env) (P : Program) (w : World) (H : Hp) (s : Shared) (Q : VK) (u : Value) (s' : Shared) : Prop :=
  ∃ v H', s'.os = s.os ∧ AllBare s'.gens ∧ Un (frs outer) [] H H' s.heap s'.heap ∧ HOk P w H' s'.heap ∧ RelV v u ∧ Q v H'
def CR (CX : CXT) (outer : List Env) (P : Program) (w : World) (H : Hp) (s : Shared) (Q : VK) (E : XK) (r : Result) (s' : Shared) : Prop :=
  match r with
  | .ok (.ret u) => CE outer P w H s Q u s'
  | .ok _ => False
  | .error e => CX outer H s E e s'
structure FnOk (P : Program) (w : World) (K : PySem.W.Frag) (mg : Str → Option Value) (base : Heap) (CX : CXT) (k : Nat) (f : Addr) (fd : FuncData) (ps : List Str) (sp : Sp) : Prop where
  len : ∀ vs H Q E, sp vs H Q E → vs.length = ps.length
  run : ∀ (A : Around) (outer : List Env) (s : Shared) (H : Hp) (args : Args) (us : List Value) (vs : List V) (Q : VK) (E : XK), Room k A → Env0 P w K mg base A outer s H → BindsTo s fd args (ps.zip us) → Vals vs us → sp vs H Q E →
    codeAny (model P w) A (.call (.ref f) args) (CR CX outer P w H s Q E) s
theorem FnOk.mono {P : Program} {w : World} {K : PySem.W.Frag} {mg : Str → Option Value} {base : Heap} {CX : CXT} {j k : Nat} {f : Addr} {fd : FuncData} {ps : List Str} {sp : Sp} (F : FnOk P w K mg base CX j f fd ps sp) (h : j ≤ k) :
    FnOk P w K mg base CX k f fd ps sp := ⟨F.len, fun A outer s H args us vs Q E hr => F.run A outer s H args us vs Q E (hr.mono h)⟩
section
variable {X : Cx} {pins : List (Addr × Obj)} {σ : St} {H : Hp} {s s' : Shared}
/-- from a body: what a callee wants -/
theorem Inv.env0 (I : Inv X pins σ H s) : Env0 X.prog X.w X.K X.mg X.base X.A X.stack s H :=
  ⟨I.ok.frames, I.ok.mod, I.bs, Nat.le_trans I.ok.bsz I.sz, I.stack, I.stkFree, I.hok, I.bare⟩
/-- behind a call -/
theorem Inv.after {Q : VK} {u : Value} (I : Inv X pins σ H s) (h : CE X.stack X.prog X.w H s Q u s') : EP X pins σ Q u s' := by
  obtain ⟨v, H', os, bare, un, hok, r, q⟩ := h
  obtain ⟨hh, g, d, t, os'⟩ := s'
  obtain rfl : os' = s.os := os
  exact ⟨v, H', I.call (h' := hh) (g' := g) (d' := d) (t' := t) (ch := []) un hok bare (fun b z => absurd z (by simp)), r, q⟩
end

/-! ### calls -/
/-- f(..): the written arguments, then the defaults dvs; E: what is wanted of an exception -/
def tCall (sp : Sp) (dvs : List V) (E : XK) (t : TA) : TE := fun σ H Q => t σ H fun vs H1 => sp (vs ++ dvs) H1 Q E
/-- o.m(..) of an instance of the class at C -/
def tMeth (C : Addr) (m : Str) (sp : Sp) (dvs : List V) (E : XK) (ta : TE) (t : TA) : TE := fun σ H Q => ta σ H fun x H1 => ∃ a dx fs, x = .ref a ∧ H1 a = some (.ins C dx fs) ∧ fs.lookup m = none ∧
  t σ H1 fun vs H2 => sp (x :: (vs ++ dvs)) H2 Q E
/-- C(..): a new instance and its dict, then __init__ -/
def tMake (C : Addr) (sp : Sp) (dvs : List V) (E : XK) (t : TA) : TE := fun σ H Q => t σ H fun vs H1 => ∀ x dx, H1 x = none → H1 dx = none → dx ≠ x →
  sp (.ref x :: (vs ++ dvs)) (upd (upd H1 dx (.own x)) x (.ins C dx [])) (fun v H2 => v = .non ∧ Q (.ref x) H2) E

/-- how the parameters are bound: us the positional arguments, kw the keywords' values by name, ds the defaults that fill up -/
def Binds (K : PySem.W.Frag) (fd : FuncData) (ps : List Str) (ds : List Value) : Prop :=
  ∀ (s : Shared) (us : List Value), K.In s.heap → (us ++ ds).length = ps.length → BindsTo s fd ⟨us, []⟩ (ps.zip (us ++ ds))
/-- every parameter is given -/
theorem Binds.all {K : PySem.W.Frag} {fd : FuncData} {ps : List Str} (h : ∀ us : List Value, us.length = ps.length → bindArgs fd ⟨us, []⟩ = pure (ps.zip us)) : Binds K fd ps [] := fun s us _ hl => by
  rw [List.append_nil] at hl ⊢
  exact .of_eq (h us hl)

/-- an exception of a callee reaches what this body wants of exceptions -/
def Passes (CX : CXT) (X : Cx) (E : XK) : Prop := ∀ (pins : List (Addr × Obj)) (σ : St) (H : Hp) (s : Shared) (e : Value) (s' : Shared), Inv X pins σ H s → CX X.stack H s E e s' → X.xe e s'

section
variable {X : Cx} {CX : CXT} {k : Nat} {f C : Addr} {fd : FuncData} {ps : List Str} {sp : Sp} {dvs : List V} {ds : List Value} {E : XK} {x m : Str} {p pos apos : Pos} {e o : Expr} {es : List Expr} {ta : TE} {t : TA}

/-- the callee runs -/
theorem run_fn {pins : List (Addr × Obj)} {σ : St} {H : Hp} {s : Shared} {Q : VK} {us : List Value} {vs : List V} (F : FnOk X.prog X.w X.K X.mg X.base CX k f fd ps sp) (hr : Room k X.A) (hb : Binds X.K fd ps ds) (hd : Vals dvs ds) (hx : Passes CX X E)
    (I : Inv X pins σ H s) (r : Vals vs us) (h : sp (vs ++ dvs) H Q E) : wpAny (model X.prog X.w) X.A (call (.ref f) us) (EP X pins σ Q) X.xe s := by
  have r2 : Vals (vs ++ dvs) (us ++ ds) := r.append hd
  have hl : (us ++ ds).length = ps.length := by rw [← r2.length]; exact F.len _ _ _ _ h
  refine wpAny_call (codeAny_mono (F.run X.A X.stack s H ⟨us, []⟩ (us ++ ds) (vs ++ dvs) Q E hr I.env0 (hb s us I.kIn hl) r2 h) fun r s' hq => ?_)
  cases r with
  | error e => exact hx pins σ H s e s' I hq
  | ok fl =>
    cases fl with
    | ret u => exact I.after hq
    | next => exact False.elim hq
    | brk => exact False.elim hq
    | cont => exact False.elim hq

theorem pe_call (F : FnOk X.prog X.w X.K X.mg X.base CX k f fd ps sp) (hr : Room k X.A) (hg : Gl X x) (hm : X.mg x = some (.ref f)) (hk : PySem.W.keepIn X.K (.ref f) = true) (hb : Binds X.K fd ps ds) (hd : Vals dvs ds) (hx : Passes CX X E)
    (ha : PA X (e :: es) t) (hdb : (x == ("__debug__" : Str)) = false := by decide) (he : starEach (e :: es) X.env = (false, eval e X.env) :: starEach es X.env := by rfl) (hpl : (backTo pos (starEach es X.env)).any (·.1) = false := by rfl) :
    PE X (.Call (.Name x p) (e :: es) [] pos) (tCall sp dvs E t) := by
  intro pins s σ H Q I h
  refine wpAny_Call_Name_kw (ld_glob I hg hm ?_ hdb)
  refine PySem.W.callWith_K (h₀ := X.base) I.ok.mod.kin hk (thn (ha pos pins s σ H _ I h) fun us s1 ⟨vs, H1, I1, r, q⟩ => ⟨I1.kIn, ?_⟩) he hpl
  exact run_fn F hr hb hd hx I1 r q
/-- what a class must have to be made -/
structure Mk (K : PySem.W.Frag) (C f : Addr) : Prop where
  makes : PySem.W.makesIn K C = true
  init : PySem.W.findIn K (.ref C) "__init__" = some (some (.ref f))
  fn : PySem.W.isFn K (.ref f) = true
  kp : PySem.W.keepIn K (.ref C) = true

end

/-! ### keywords -/
/-- the values of the keywords, from the left -/
def PK (X : Cx) (kws : List Keyword) (t : TA) : Prop :=
  ∀ (pos : Pos) (pins : List (Addr × Obj)) (s : Shared) (σ : St) (H : Hp) (Q : List V → Hp → Prop), Inv X pins σ H s → t σ H Q → wpAny (model X.prog X.w) X.A (evalAll ((backToKw pos (keywordEach kws X.env)).map (·.2))) (AP X pins σ Q) X.xe s
section
variable {X : Cx} {CX : CXT} {k : Nat} {f C : Addr} {fd : FuncData} {ps ks : List Str} {sp : Sp} {E : XK} {x m : Str} {p pos apos kpos : Pos} {e o : Expr} {es : List Expr} {kws : List Keyword} {te ta : TE} {t tk : TA} {nm : Option Str}
/-- how a call with keywords binds: g puts the positional values us and the keywords' values ws (names ks) in the parameters' order, defaults among them -/
structure KBinds (K : PySem.W.Frag) (fd : FuncData) (ps ks : List Str) (g : List Value → List Value → List Value) (gV : List V → List V → List V) : Prop where
  to : ∀ (s : Shared) (us ws : List Value), K.In s.heap → (g us ws).length = ps.length → BindsTo s fd ⟨us, ks.zip ws⟩ (ps.zip (g us ws))
  rel : ∀ {vs : List V} {us : List Value} {zs : List V} {ws : List Value}, Vals vs us → Vals zs ws → Vals (gV vs zs) (g us ws)
def tCallK (sp : Sp) (gV : List V → List V → List V) (E : XK) (t tk : TA) : TE := fun σ H Q => t σ H fun vs H1 => tk σ H1 fun zs H2 => sp (gV vs zs) H2 Q E
variable {g : List Value → List Value → List Value} {gV : List V → List V → List V}
end

/-! ### a def's body keeps its promise -/
/-- names: the parameters first -/
structure FnScope (N P : List Str) (sc : Scope) : Prop where
  kind : sc.kind = .function
  co : sc.isCoroutine = false
  gen : sc.isGenerator = false
  nd : N.Nodup
  pre : N.take P.length = P
  par : ∀ x ∈ P, sc.names.lookup x = some .local ∨ sc.names.lookup x = some .cell
  nofree : ∀ y ∈ sc.names, y.2 ≠ .free

theorem bindL_out {kindOf : Str → Option NameKind} {x : Str} : ∀ {binds : List (Str × Value)} {m : Str → Option Value}, (∀ v, (x, v) ∉ binds) → bindL kindOf binds m x = m x
  | [], _, _ => rfl
  | (n, v) :: r, m, h => by
    unfold bindL
    rw [bindL_out fun w hw => h w (List.mem_cons_of_mem _ hw)]
    split
    · have : x ≠ n := by rintro rfl; exact h v List.mem_cons_self
      simp [this]
    · rfl
theorem bindC_out {kindOf : Str → Option NameKind} {x : Str} : ∀ {binds : List (Str × Value)} {m : Str → Option Value}, (∀ v, (x, v) ∉ binds) → bindC kindOf binds m x = m x
  | [], _, _ => rfl
  | (n, v) :: r, m, h => by
    unfold bindC
    rw [bindC_out fun w hw => h w (List.mem_cons_of_mem _ hw)]
    split
    · rfl
    · have : x ≠ n := by rintro rfl; exact h v List.mem_cons_self
      simp [this]
theorem bindL_get {kindOf : Str → Option NameKind} {x : Str} {v : Value} : ∀ {P : List Str} {vs : List Value} {i : Nat} {m : Str → Option Value}, P.Nodup → P[i]? = some x → vs[i]? = some v → kindOf x = some .local →
    bindL kindOf (P.zip vs) m x = some v
  | [], _, _, _, _, h, _, _ => by simp at h
  | _ :: _, [], _, _, _, _, h, _ => by simp at h
  | p :: P, w :: vs, 0, m, nd, h1, h2, hk => by
    simp at h1 h2; subst h1; subst h2
    show bindL kindOf ((p, w) :: P.zip vs) m p = _
    unfold bindL
    rw [bindL_out fun v hv => (List.nodup_cons.mp nd).1 (List.of_mem_zip hv).1, if_pos hk]
    simp
  | p :: P, w :: vs, i + 1, m, nd, h1, h2, hk => by
    show bindL kindOf ((p, w) :: P.zip vs) m x = _
    unfold bindL
    exact bindL_get (i := i) (List.nodup_cons.mp nd).2 (by simpa using h1) (by simpa using h2) hk
theorem bindC_get {kindOf : Str → Option NameKind} {x : Str} {v : Value} : ∀ {P : List Str} {vs : List Value} {i : Nat} {m : Str → Option Value}, P.Nodup → P[i]? = some x → vs[i]? = some v → kindOf x ≠ some .local →
    bindC kindOf (P.zip vs) m x = some v
  | [], _, _, _, _, h, _, _ => by simp at h
  | _ :: _, [], _, _, _, _, h, _ => by simp at h
  | p :: P, w :: vs, 0, m, nd, h1, h2, hk => by
    simp at h1 h2; subst h1; subst h2
    show bindC kindOf ((p, w) :: P.zip vs) m p = _
    unfold bindC
    rw [bindC_out fun v hv => (List.nodup_cons.mp nd).1 (List.of_mem_zip hv).1, if_neg hk]
    simp
  | p :: P, w :: vs, i + 1, m, nd, h1, h2, hk => by
    show bindC kindOf ((p, w) :: P.zip vs) m x = _
    unfold bindC
    exact bindC_get (i := i) (List.nodup_cons.mp nd).2 (by simpa using h1) (by simpa using h2) hk

/-- the names' values at the entry -/
def start (N : List Str) (vs : List V) : St := vs.map some ++ List.replicate (N.length - vs.length) none

/-- the context of a def's body, at its entry; an exception leaves the frame, then lies as CX says -/
def cxOf (CX : CXT) (P : Program) (w : World) (K : PySem.W.Frag) (mg : Str → Option Value) (base : Heap) (N : List Str) (qual : Str) (scope : Scope) (f : Addr) (cd : Value) (A : Around) (outer : List Env) (s : Shared) (H : Hp) (E : XK) : Cx where
  prog := P
  w := w
  K := K
  mg := mg
  base := base
  A := A.deeper (envOfC qual scope s.heap.objs.size f cd)
  N := N
  s₀ := s
  H₀ := H
  env := envOfC qual scope s.heap.objs.size f cd
  outer := outer
  stack := envOfC qual scope s.heap.objs.size f cd :: outer
  ex := []
  calm := true
  fn := fun _ => true
  pn := []
  xe := fun e s' => wpAny (model P w) (A.deeper (envOfC qual scope s.heap.objs.size f cd)) (leaving (envOfC qual scope s.heap.objs.size f cd) e) (fun _ s'' => CX outer H s E e s'') (fun e' s'' => CX outer H s E e' s'') s'

theorem cell_has {sc : Scope} {n : Nat} {x : Str} (h : sc.names.lookup x = some .cell) : ∃ c, (cellsFrom n sc.names []).lookup x = some c := by
  have q := PySem.W.cellsFrom_some sc.names n [] (.inl h)
  exact Option.isSome_iff_exists.mp q

theorem inv_start {CX : CXT} {P : Program} {w : World} {K : PySem.W.Frag} {mg : Str → Option Value} {base : Heap} {N ps : List Str} {qual : Str} {scope : Scope} {f : Addr} {cd : Value} {A : Around} {outer : List Env} {s s1 : Shared} {H : Hp} {E : XK} {us : List Value} {vs : List V}
    (S : FnScope N ps scope) (hd : A.handled = none) (e0 : Env0 P w K mg base A outer s H) (hl : vs.length = ps.length) (r : Vals vs us)
    (x : InCallC s s.heap.objs.size (bindL (envOfC qual scope s.heap.objs.size f cd).kindOf (ps.zip us) fun _ => none) (cellsFrom (s.heap.objs.size + 1) scope.names []) (bindC (envOfC qual scope s.heap.objs.size f cd).kindOf (ps.zip us) fun _ => none) s1) :
    Inv (cxOf CX P w K mg base N qual scope f cd A outer s H E) [] (start N vs) H s1 := by
  have hpl : ps.length ≤ N.length := by have := congrArg List.length S.pre; rw [List.length_take] at this; omega
  obtain ⟨h1, tk, rfl, hk⟩ := x.done
  have noA : ∀ b : Addr, b ∉ (cxOf CX P w K mg base N qual scope f cd A outer s H E).ex := fun b z => absurd (show b ∈ ([] : List Addr) from z) (by simp)
  refine ⟨⟨e0.mod, S.kind, rfl, rfl, Nat.le_refl _, fun y z c h1 h2 => ?_, fun y hy => ?_, fun y c _ h => ?_, fun _ => hd, Around.frames_deeper e0.frames, .inr ⟨rfl, rfl⟩, fun b z => absurd z (noA b), e0.bs, e0.bsz, fun b _ _ => noA b, fun b z => absurd z (noA b), e0.funs, e0.frf⟩,
    rfl, e0.bare, Un.kept hk, ⟨_, x.toInCall.ns, fun i y v h1 h2 h3 => ?_⟩, fun y c h => ⟨_, x.cell y c h⟩, e0.hok.fresh (Nat.le_refl _), fun y c h => ?_, fun p hp => absurd (show p ∈ ([] : List (Addr × Obj)) from hp) (by simp), e0.hok.kept hk, ?_⟩
  · exact name_of_addr x.apart (PySem.mem_of_lookup h1) (PySem.mem_of_lookup h2)
  · have hy : scope.names.lookup y = some .cell ∨ scope.names.lookup y = some .free := hy
    rcases hy with hy | hy
    · exact cell_has hy
    · exact absurd rfl (S.nofree _ (PySem.mem_of_lookup hy))
  · exact Nat.le_of_lt (x.above y c (PySem.mem_of_lookup h))
  · have hi : i < vs.length := by
      unfold start at h2
      by_cases hi : i < vs.length
      · exact hi
      · rw [List.getElem?_append_right (by simpa using hi)] at h2
        rw [List.getElem?_replicate] at h2
        split at h2 <;> cases h2
    have ha : vs[i]? = some v := by
      unfold start at h2
      rw [List.getElem?_append_left (by simpa using hi), List.getElem?_map] at h2
      cases e : vs[i]? with
      | none => rw [e] at h2; cases h2
      | some a => rw [e] at h2; cases h2; rfl
    obtain ⟨u, hu, rv⟩ := r.get ha
    have hp : ps[i]? = some y := by
      rw [← S.pre, List.getElem?_take_of_lt (by omega)]; exact h1
    have ndP : ps.Nodup := by rw [← S.pre]; exact S.nd.sublist (List.take_sublist _ _)
    refine ⟨u, rv, ?_⟩
    rcases S.par y (List.mem_of_getElem? hp) with k | k
    · exact .inl ⟨k, bindL_get ndP hp hu k⟩
    · obtain ⟨c, e⟩ := cell_has (n := s.heap.objs.size + 1) k
      refine .inr ⟨.inl k, c, e, ?_⟩
      have q := x.cell y c e
      rw [bindC_get ndP hp hu (by show scope.names.lookup y ≠ _; rw [k]; decide)] at q
      exact q
  · exact e0.hok.fresh (Nat.le_of_lt (x.above y c (PySem.mem_of_lookup h)))
  · unfold start
    show _ = N.length
    rw [List.length_append, List.length_map, List.length_replicate]
    omega

/-- THE RULE: a def (or a method) of the text, by its body. The body's reading t is chosen for each entry; it is run at the parameters' values -/
theorem fn_of {CX : CXT} {P : Program} {w : World} {K : PySem.W.Frag} {mg : Str → Option Value} {base : Heap} {k : Nat} {f : Addr} {name qual : Str} {params : Arguments} {body : List Stmt} {scope : Scope} {dV kV doc pm cdv ct oc : Value} {an od : Option Addr}
    {osl : Array (Option Value)} {N ps : List Str} {sp : Sp} (lk : K.lookup f = some ⟨oc, od, .func (PySem.W.fnOf name qual params body scope dV kV doc pm an cdv ct), osl⟩) (hcd : PySem.W.codeIn K cdv qual = true) (S : FnScope N ps scope)
    (len : ∀ vs H Q E, sp vs H Q E → vs.length = ps.length)
    (hbody : ∀ (A : Around) (outer : List Env) (s : Shared) (H : Hp) (vs : List V) (Q : VK) (E : XK), Room k (A.deeper (envOfC qual scope s.heap.objs.size f cdv)) → sp vs H Q E →
      ∃ t, PSs (cxOf CX P w K mg base N qual scope f cdv A outer s H E) body t ∧ t { nx := fun _ H' => Q .non H', rt := Q } (start N vs) H) :
    FnOk P w K mg base CX (k + 1) f (PySem.W.fnOf name qual params body scope dV kV doc pm an cdv ct) ps sp := by
  refine ⟨len, fun A outer s H args us vs Q E hr e0 hb r hsp => ?_⟩
  have hl := len _ _ _ _ hsp
  have KX : K.In s.heap := e0.mod.kin.keeps fun b o e => (e0.bs b o e).1
  have lim : s.heap.NoLimit := e0.mod.nolimit.keeps fun b o e => (e0.bs b o e).1
  have hkind : ∀ y ∈ ps.zip us, scope.names.lookup y.1 = some .local ∨ (scope.names.lookup y.1 = some .cell ∧ ((cellsFrom (s.heap.objs.size + 1) scope.names []).lookup y.1).isSome = true) := fun ⟨n, v⟩ hy => by
    rcases S.par n (List.of_mem_zip hy).1 with q | q
    · exact .inl q
    · exact .inr ⟨q, PySem.W.cellsFrom_some _ _ _ (.inl q)⟩
  refine codeAny_call_function hr.depth (KX _ _ lk) rfl S.co S.gen rfl (PySem.W.codeRec_of KX hcd) (hb _ _ _ _ ?_)
  refine wpAny_newFunctionEnv_cells S.kind hkind fun env he s1 x => ?_
  subst he
  refine ⟨lim.keeps x.toInCall.keep, codeAny_func ?_⟩
  obtain ⟨t, ht, hq⟩ := hbody A outer s H vs Q E (hr.deeper _) hsp
  have I : Inv (cxOf CX P w K mg base N qual scope f cdv A outer s H E) [] (start N vs) H s1 := inv_start S hr.hd e0 hl r x
  refine wpAny_mono (ht [] s1 (start N vs) H _ I hq) (fun fl s' hs => ?_) fun e s' hs => hs
  have fin : ∀ {σ' : St} {H' : Hp} {v : V} {u : Value}, Inv (cxOf CX P w K mg base N qual scope f cdv A outer s H E) [] σ' H' s' → RelV v u → Q v H' → CE outer P w H s Q u s' :=
    fun {σ' H' v u} J rv q => ⟨v, H', J.os, J.bare, J.base, J.hok, rv, q⟩
  cases fl with
  | ret u =>
    obtain ⟨v, σ', H', J, rv, q⟩ := hs
    exact fin J rv q
  | next =>
    obtain ⟨σ', H', J, q⟩ := hs
    exact fin (v := V.non) (u := Value.none) J rfl q
  | brk =>
    obtain ⟨_, _, _, q⟩ := hs
    exact False.elim q
  | cont =>
    obtain ⟨_, _, _, q⟩ := hs
    exact False.elim q
end L2

namespace L2
open PySem PySem.Spec PyProof.Rows
section
variable {X : Cx} {x : Str} {p pos : Pos} {e : Expr} {es : List Expr} {t : TA} {id T : String} {r : List V → Hp → VK → Prop}

def tCB (r : List V → Hp → VK → Prop) (t : TA) : TE := fun σ H Q => t σ H fun vs H1 => r vs H1 Q
/-- f(e, ..), f a built-in function -/
theorem pe_callB (hc : CallR X (.builtin id) r) (hg : Gl X x) (hm : X.mg x = none) (hv : bootBuiltins x = some (.builtin id)) (ha : PA X (e :: es) t) (hn : x ≠ "__name__" := by decide) (hdb : (x == ("__debug__" : Str)) = false := by decide)
    (he : starEach (e :: es) X.env = (false, eval e X.env) :: starEach es X.env := by rfl) (hpl : (backTo pos (starEach es X.env)).any (·.1) = false := by rfl) : PE X (.Call (.Name x p) (e :: es) [] pos) (tCB r t) := by
  intro pins s σ H Q I h
  refine wpAny_Call_Name_kw (ld_blt I hg hm hv ?_ hn hdb)
  exact PyProof.Rows.callWith_builtin1 (thn (ha pos pins s σ H _ I h) fun us s1 ⟨vs, H1, I1, r1, q1⟩ => hc pins s1 σ H1 vs us Q I1 r1 q1) he hpl
/-- T(e, ..), T a built-in type -/
theorem pe_callTy (hc : CallR X (.type T) r) (hg : Gl X x) (hm : X.mg x = none) (hv : bootBuiltins x = some (.type T)) (ha : PA X (e :: es) t) (hn : x ≠ "__name__" := by decide) (hdb : (x == ("__debug__" : Str)) = false := by decide)
    (he : starEach (e :: es) X.env = (false, eval e X.env) :: starEach es X.env := by rfl) (hpl : (backTo pos (starEach es X.env)).any (·.1) = false := by rfl) : PE X (.Call (.Name x p) (e :: es) [] pos) (tCB r t) := by
  intro pins s σ H Q I h
  refine wpAny_Call_Name_kw (ld_blt I hg hm hv ?_ hn hdb)
  exact PyProof.Rows.callWith_type1 (thn (ha pos pins s σ H _ I h) fun us s1 ⟨vs, H1, I1, r1, q1⟩ => hc pins s1 σ H1 vs us Q I1 r1 q1) he hpl
end
end L2

namespace HT
open PySem PyProof.Rows

/-- t < u of tuples of ints -/
def lexLt : List Int → List Int → Bool
  | [], [] => false
  | [], _ :: _ => true
  | _ :: _, [] => false
  | x :: xs, y :: ys => if x = y then lexLt xs ys else decide (x < y)
section
open PySem.SeqAt
open PySem.AutoSeq1 (wpAny_loadPart')
open PySem.MeetsSeq PySem.MeetsSeq2 PySem.MeetsSeq3

end

section
variable {prog : Program} {w : World} {A : Around} {E : Value → Shared → Prop} {s : Shared}

/-- t + u, t not empty -/
theorem cat_tup {t b : Addr} {vs ws : List Value} {Q : Value → Shared → Prop} (ht : IsTup s.heap t vs.toArray) (hb : IsTup s.heap b ws.toArray) (hv : vs ≠ [])
    (h1 : ws = [] → Q (.ref t) s) (h2 : ws ≠ [] → Q (.ref s.heap.objs.size) { s with heap := s.heap.push { cls := .type "tuple", data := .seq (vs ++ ws).toArray } })
    (hsz : vs.length + ws.length ≤ sizeLine) : wpAny (model prog w) A (binaryOp .Add (.ref t) (.ref b)) Q E s := by
  obtain ⟨⟨cls, dd, data, sl⟩, ho, hc, n, hd⟩ := id ht
  obtain ⟨⟨cls2, dd2, data2, sl2⟩, ho2, hc2, n2, hd2⟩ := id hb
  simp only at hc hd hc2 hd2
  subst hc hd hc2 hd2
  have e : vs.toArray ++ ws.toArray = (vs ++ ws).toArray := by simp
  by_cases hw : ws = []
  · exact concat_meets ⟨_, ho, rfl⟩ ⟨_, ho2, rfl⟩ noFill_tuple_add seq_tuple_add PySem.F.slot_tuple_add PySem.F.entry_tuple_add (PySem.F.args_tuple_add_2 _ _)
      (tuple_addW1 t b vs.toArray ws.toArray n n2 dd dd2 sl sl2 (by simpa using hv) (by simp [hw])) ⟨ho, ho2, h1 hw⟩
  · refine concat_meets ⟨_, ho, rfl⟩ ⟨_, ho2, rfl⟩ noFill_tuple_add seq_tuple_add PySem.F.slot_tuple_add PySem.F.entry_tuple_add (PySem.F.args_tuple_add_2 _ _)
      (tuple_addW2 t b vs.toArray ws.toArray n n2 dd dd2 sl sl2 (by simpa using hv) (by simpa using hw) (by rw [List.size_toArray, List.size_toArray]; exact hsz)) ⟨ho, ho2, ?_⟩
    rw [e]
    exact h2 hw

/-! ### t[a:b], not the whole -/
/-- a slice's bound as a place among n (d where it is left out) -/
def sIx (n d : Nat) : Option Int → Nat
  | none => d
  | some v => if v < 0 then (v + (n : Int)).toNat else min v.toNat n
end
end HT

namespace L2
open PySem PySem.Spec PyProof.Rows

/-! ### the parts of a slice -/
abbrev TO := St → Hp → (Option Int → Hp → Prop) → Prop
/-- a slice's part (left out, or an int) -/
def PO (X : Cx) (e : Option Expr) (t : TO) : Prop :=
  ∀ (pins : List (Addr × Obj)) (s : Shared) (σ : St) (H : Hp) (Q : Option Int → Hp → Prop), Inv X pins σ H s → t σ H Q →
    wpAny (model X.prog X.w) X.A (evalPart e X.env) (fun u s' => ∃ o H', Inv X pins σ H' s' ∧ IsPart u o ∧ Q o H') X.xe s
def tNoPart : TO := fun _ H Q => Q none H
def tPart (t : TE) : TO := fun σ H Q => t σ H fun x H1 => ∃ i, x = .int i ∧ Q (some i) H1

section
variable {X : Cx} {e : Expr} {te : TE} {lo hi : Option Expr} {tl th : TO} {pos p2 : Pos}

theorem po_none : PO X none tNoPart := by
  intro pins s σ H Q I h
  rw [evalPart_none]
  exact wpAny_pure ⟨none, H, I, .none, h⟩
theorem po_some (h : PE X e te) : PO X (some e) (tPart te) := by
  intro pins s σ H Q I hw
  rw [evalPart_some]
  refine thn (h pins s σ H _ I hw) fun u s1 ⟨x, H1, I1, r1, q1⟩ => ?_
  obtain ⟨i, rfl, q⟩ := q1
  obtain ⟨t, rfl⟩ := r1
  exact ⟨some i, H1, I1, .int i t, q⟩

/-- what a slice of a value is, by values: the slice object stands at sl -/
def SlR (X : Cx) (r : V → Option Int → Option Int → Hp → VK → Prop) : Prop :=
  ∀ (pins : List (Addr × Obj)) (s : Shared) (σ : St) (H : Hp) (x : V) (v vl vu : Value) (lo hi : Option Int) (sl : Addr) (Q : VK), Inv X pins σ H s → RelV x v → s.heap.IsSliceOf sl vl vu .none → IsPart vl lo → IsPart vu hi → r x lo hi H Q →
    ∃ T id, typeLookup (.type T) "__getitem__" = pure (some (.builtin id)) ∧ s.TypeIs v T ∧ wpAny (model X.prog X.w) X.A (getItem v (.ref sl)) (EP X pins σ Q) X.xe s
def tSl (r : V → Option Int → Option Int → Hp → VK → Prop) (te : TE) (tl th : TO) : TE := fun σ H Q => te σ H fun x H1 => tl σ H1 fun l H2 => th σ H2 fun u H3 => r x l u H3 Q
/-- a[lo:hi], any a -/
theorem pe_slice {r : V → Option Int → Option Int → Hp → VK → Prop} (hr : SlR X r) (he : PE X e te) (hl : PO X lo tl) (hu : PO X hi th) : PE X (.Subscript e (.Slice lo hi none p2) pos) (tSl r te tl th) := by
  intro pins s σ H Q I h
  refine Subscript_ (thn (he pins s σ H _ I h) fun v s1 ⟨x, H1, I1, r1, q1⟩ => ?_)
  refine wpAny_Slice (thn (hl pins s1 σ H1 _ I1 q1) fun vl s2 ⟨l, H2, I2, pl, q2⟩ => thn (hu pins s2 σ H2 _ I2 q2) fun vu s3 ⟨u, H3, I3, pu, q3⟩ => ?_)
  rw [evalPart_none]
  refine wpAny_pure ?_
  have I4 : Inv X pins σ H3 { s3 with heap := s3.heap.push { cls := .type "slice", data := .fields #[vl, vu, .none] } } := I3.kept (t' := s3.toks) fun b ob q => Heap.get?_push_of_some _ q
  obtain ⟨T, id, hT, ht, hg⟩ := hr pins { s3 with heap := s3.heap.push { cls := .type "slice", data := .fields #[vl, vu, .none] } } σ H3 x v vl vu l u s3.heap.objs.size Q I4 r1 (Heap.IsSliceOf.new ..) pl pu q3
  show wpAny (model X.prog X.w) X.A (subscriptTail e (.Slice lo hi none p2) v (.ref s3.heap.objs.size)) (EP X pins σ Q) X.xe { s3 with heap := s3.heap.push { cls := .type "slice", data := .fields #[vl, vu, .none] } }
  exact tail_any (ops := [.ref s3.heap.objs.size, v]) ht hT hg (by with_unfolding_all rfl)

/-- the items of xs[lo:hi] -/
def cutV (xs : List V) (lo hi : Option Int) : List V := (xs.drop (HT.sIx xs.length 0 lo)).take (HT.sIx xs.length xs.length hi - HT.sIx xs.length 0 lo)
theorem cutV_length (xs : List V) (lo hi : Option Int) : (cutV xs lo hi).length ≤ xs.length := by
  unfold cutV
  rw [List.length_take, List.length_drop]
  omega
/-- t[lo:hi], not the whole of it (the whole would be t itself) -/
def rSlT (K : PySem.W.Frag) : V → Option Int → Option Int → Hp → VK → Prop := fun x lo hi H Q => ∃ a xs, x = .ref a ∧ SqT K H a xs ∧
  ¬ (HT.sIx xs.length 0 lo = 0 ∧ HT.sIx xs.length xs.length hi = xs.length) ∧ ∀ p, H p = none → Q (.ref p) (upd H p (.tup (cutV xs lo hi)))
/-! ### t < u, t + u -/
def rLtT (K : PySem.W.Frag) : R2 := fun x y H Q => ∃ a b ns ms, x = .ref a ∧ y = .ref b ∧ SqT K H a (ns.map V.int) ∧ SqT K H b (ms.map V.int) ∧ Q (.bl (HT.lexLt ns ms)) H
/-- t + u, t not empty: u empty gives t itself -/
def rCatT (K : PySem.W.Frag) : R2 := fun x y H Q => ∃ a b xs ys, x = .ref a ∧ y = .ref b ∧ SqT K H a xs ∧ SqT K H b ys ∧ xs ≠ [] ∧ xs.length + ys.length ≤ sizeLine ∧
  (ys = [] → Q (.ref a) H) ∧ (ys ≠ [] → ∀ p, H p = none → Q (.ref p) (upd H p (.tup (xs ++ ys))))
theorem Vals.nil_iff {xs : List V} {us : List Value} (r : Vals xs us) : us = [] ↔ xs = [] := by
  cases r with
  | nil => simp
  | cons _ _ => simp
theorem op_catT : OpR X (binaryOp .Add) (rCatT X.K) := by
  intro pins s σ H x y v u Q I rx ry h
  obtain ⟨a, b, xs, ys, rfl, rfl, ha, hb, hx, hz, q1, q2⟩ := h
  cases rx
  cases ry
  obtain ⟨its, r1, p1, _⟩ := I.tuple ha
  obtain ⟨its2, r2, p2, _⟩ := I.tuple hb
  refine HT.cat_tup p1 p2 (fun z => hx (r1.nil_iff.mp z)) (fun z => ⟨.ref a, H, I, rfl, q1 (r2.nil_iff.mp z)⟩) (fun z => ?_) (by rw [← r1.length, ← r2.length]; exact hz)
  refine ⟨.ref s.heap.objs.size, _, I.laid (t' := s.toks) (o := .tup (xs ++ ys)) (fun b ob q => Heap.get?_push_of_some _ q) (Nat.le_refl _) ?_, rfl, q2 (fun w => z (r2.nil_iff.mpr w)) _ (I.hok.fresh (Nat.le_refl _))⟩
  exact ⟨by rw [List.length_append]; exact hz, _, r1.append r2, IsTup.new _ _⟩
end
end L2

namespace L2
open PySem PySem.Spec PyProof.Rows

/-! ### places -/
/-- the place that an index of any sign means -/
def ixN (n : Nat) (i : Int) : Option Nat := if 0 ≤ i then (if i < n then some i.toNat else none) else if -(n : Int) ≤ i then some (i + n).toNat else none
def atI {α : Type} (xs : List α) (i : Int) : Option α := (ixN xs.length i).bind fun j => xs[j]?
theorem ixN_seq {n : Nat} {i : Int} {j : Nat} (h : ixN n i = some j) : seqIndex? i n = some j ∧ j < n ∧ -(n : Int) ≤ i ∧ i < n := by
  unfold ixN at h
  by_cases h0 : 0 ≤ i
  · rw [if_pos h0] at h
    by_cases h1 : i < n
    · rw [if_pos h1] at h
      have e : i.toNat = j := Option.some.inj h
      exact ⟨by rw [seqIndex_of h0 h1, e], by omega, by omega, h1⟩
    · rw [if_neg h1] at h; cases h
  · rw [if_neg h0] at h
    by_cases h1 : -(n : Int) ≤ i
    · rw [if_pos h1] at h
      have e : (i + n).toNat = j := Option.some.inj h
      exact ⟨by rw [seqIndex_neg (by omega) h1, e], by omega, h1, by omega⟩
    · rw [if_neg h1] at h; cases h
theorem atI_get {α : Type} {xs : List α} {i : Int} {v : α} (h : atI xs i = some v) : ∃ j, seqIndex? i xs.length = some j ∧ xs[j]? = some v ∧ j < xs.length ∧ -(xs.length : Int) ≤ i ∧ i < xs.length := by
  unfold atI at h
  cases e : ixN xs.length i with
  | none => rw [e] at h; cases h
  | some j =>
    rw [e] at h
    obtain ⟨h1, h2, h3, h4⟩ := ixN_seq e
    exact ⟨j, h1, h, h2, h3, h4⟩
theorem atI_nat {α : Type} {xs : List α} {j : Nat} {v : α} (h : xs[j]? = some v) : atI xs (j : Int) = some v := by
  have hj : j < xs.length := (List.getElem?_eq_some_iff.mp h).1
  have e : ixN xs.length (j : Int) = some j := by
    unfold ixN
    rw [if_pos (by omega), if_pos (by omega)]; simp
  unfold atI; rw [e]; exact h
theorem atI_last {α : Type} (xs : List α) (v : α) : atI (xs ++ [v]) (-1) = some v := by
  have hl : (xs ++ [v]).length = xs.length + 1 := by simp
  have e : ixN (xs ++ [v]).length (-1) = some xs.length := by
    unfold ixN
    rw [hl, if_neg (by decide), if_pos (by omega)]
    congr 1
    omega
  unfold atI
  rw [e]
  show (xs ++ [v])[xs.length]? = some v
  simp

/-! ### what may be subscripted -/
/-- what stands as an index of a plain subscript -/
def PlainIx (b : Expr) : Prop := ∀ o i, subscripted b false o i = operate [o, i] (getItem o i)
/-- a subscript by values -/
def IxR (X : Cx) (r : R2) : Prop :=
  ∀ (value slice : Expr) (pins : List (Addr × Obj)) (s : Shared) (σ : St) (H : Hp) (x y : V) (v u : Value) (Q : VK), Inv X pins σ H s → RelV x v → RelV y u → r x y H Q →
    subscripted slice false v u = operate [v, u] (getItem v u) → wpAny (model X.prog X.w) X.A (subscriptTail value slice v u) (EP X pins σ Q) X.xe s
/-- a call of a builtin's method by values: the receiver, the arguments -/
def MtR (X : Cx) (id : String) (r : V → List V → Hp → VK → Prop) : Prop :=
  ∀ (pins : List (Addr × Obj)) (s : Shared) (σ : St) (H : Hp) (x : V) (xs : List V) (v : Value) (us : List Value) (Q : VK), Inv X pins σ H s → RelV x v → Vals xs us → r x xs H Q →
    wpAny (model X.prog X.w) X.A (call (.builtin id) (v :: us)) (EP X pins σ Q) X.xe s
section
variable {X : Cx} {a b : Expr} {ta tb : TE} {pos : Pos}
/-- a[b] -/
theorem pe_ix {r : R2} (hr : IxR X r) (ha : PE X a ta) (hb : PE X b tb) (hs : PlainIx b) : PE X (.Subscript a b pos) (tOp r ta tb) := by
  intro pins s σ H Q I h
  exact Subscript_ (binT ha hb I h fun v u s2 x y H2 I2 rx ry q => hr a b pins s2 σ H2 x y v u Q I2 rx ry q (hs _ _))

def rIxL (K : PySem.W.Frag) : R2 := fun x y H Q => ∃ p xs i v, x = .ref p ∧ y = .int i ∧ SqL K H p xs ∧ atI xs i = some v ∧ Q v H
def rIxT (K : PySem.W.Frag) : R2 := fun x y H Q => ∃ p xs i v, x = .ref p ∧ y = .int i ∧ SqT K H p xs ∧ atI xs i = some v ∧ Q v H
def rIxS : R2 := fun x y H Q => ∃ z i c, x = .str z ∧ y = .int i ∧ z.length ≤ sizeLine ∧ atI z.cps.toList i = some c ∧ Q (.str ⟨#[c]⟩) H
theorem ix_list : IxR X (rIxL X.K) := by
  intro value slice pins s σ H x y v u Q I rx ry h hs
  obtain ⟨p, xs, i, z, rfl, rfl, hq, he, q⟩ := h
  cases rx
  obtain ⟨t, rfl⟩ := ry
  obtain ⟨its, r, pl, hz⟩ := I.list hq
  obtain ⟨j, h1, h2, h3, h4, h5⟩ := atI_get he
  obtain ⟨w, ew, rw'⟩ := r.get h2
  have hl := r.length
  have hn := line63
  have fin : EP X pins σ Q w s := ⟨z, H, I, rw', q⟩
  by_cases h0 : 0 ≤ i
  · have hj : i.toNat = j := by
      rw [seqIndex_of h0 h5] at h1
      exact Option.some.inj h1
    exact item_listR pl.isList h0 (by omega) (by rw [hj]; simpa using ew) fin hs
  · have hj : (i + (its.toArray.size : Int)).toNat = j := by
      rw [seqIndex_neg (by omega) h4] at h1
      rw [List.size_toArray, ← hl]
      exact Option.some.inj h1
    exact subscriptTail_builtinR (x := w) pl.isList.typeIs slot_list_getitem.lookup
      (wpAny_getItem_list_neg (Q := fun r s' => r = w ∧ EP X pins σ Q r s') pl.isList (by omega) (by rw [List.size_toArray] <;> omega) (by omega) (by rw [hj]; simpa using ew) ⟨rfl, fin⟩) hs
theorem ix_tup : IxR X (rIxT X.K) := by
  intro value slice pins s σ H x y v u Q I rx ry h hs
  obtain ⟨p, xs, i, z, rfl, rfl, hq, he, q⟩ := h
  cases rx
  obtain ⟨t, rfl⟩ := ry
  obtain ⟨its, r, pl, hz⟩ := I.tuple hq
  obtain ⟨j, h1, h2, h3, h4, h5⟩ := atI_get he
  obtain ⟨w, ew, rw'⟩ := r.get h2
  have hl := r.length
  have hn := line63
  have fin : EP X pins σ Q w s := ⟨z, H, I, rw', q⟩
  exact subscriptTail_builtinR (x := w) pl.typeIs slot_tuple_getitem.lookup
    (getItem_tuple (j := j) (Q := fun r s' => r = w ∧ EP X pins σ Q r s') pl (by omega) (by omega) (by rw [List.size_toArray, ← hl]; exact h1) (by simpa using ew) ⟨rfl, fin⟩) hs
/-- list, tuple or str -/
def rIx (K : PySem.W.Frag) : R2 := fun x y H Q => rIxL K x y H Q ∨ rIxT K x y H Q ∨ rIxS x y H Q
/-! ### xs[i] = v, any sign -/
/-- the list's object behind a store -/
theorem mapSeq_set (its : List Value) (n j : Nat) (u : Value) : Obj.mapSeq (·.setIfInBounds j u) { cls := .type "list", data := .seq its.toArray n } = { cls := .type "list", data := .seq (its.set j u).toArray n } := by
  simp [Obj.mapSeq]
theorem Inv.lst {pins : List (Addr × Obj)} {σ : St} {H : Hp} {s : Shared} {p : Addr} {xs : List V} (I : Inv X pins σ H s) (h : H p = some (.lst xs)) :
    ∃ (its : List Value) (n : Nat), Vals xs its ∧ s.heap.get? p = some { cls := .type "list", data := .seq its.toArray n } ∧ xs.length ≤ sizeLine := by
  obtain ⟨z, its, n, r, e⟩ := I.hok p _ h
  exact ⟨its, n, r, e, z⟩
/-- the list at p is written by an update of its object -/
theorem Inv.lstUpd {pins : List (Addr × Obj)} {σ : St} {H : Hp} {s : Shared} {p : Addr} {xs ys : List V} {its its' : List Value} {n n' : Nat} {f : Obj → Obj} (I : Inv X pins σ H s) (h : H p = some (.lst xs))
    (ho : s.heap.get? p = some { cls := .type "list", data := .seq its.toArray n }) (hf : f { cls := .type "list", data := .seq its.toArray n } = { cls := .type "list", data := .seq its'.toArray n' }) (r : Vals ys its') (hz : ys.length ≤ sizeLine) (t : Nat) :
    Inv X pins σ (upd H p (.lst ys)) { s with heap := s.heap.update p f, toks := t } := by
  have e : (s.heap.update p f).get? p = some { cls := .type "list", data := .seq its'.toArray n' } := by
    rw [Heap.get?_update_self f ho (by rw [hf] <;> rfl), hf]
  refine I.write (x := p) (e := p) (by rw [h]; trivial) (.inl rfl) (fun b u hb q => (Heap.get?_update_other _ _ (Ne.symm hb)).trans q) ⟨_, e⟩ ?_
  exact ⟨hz, its', n', r, e⟩
def rSetL : V → V → V → Hp → (Hp → Prop) → Prop := fun o i v H Q => ∃ p xs k j, o = .ref p ∧ i = .int k ∧ H p = some (.lst xs) ∧ ixN xs.length k = some j ∧ Q (upd H p (.lst (xs.set j v)))
theorem set_list : PSet X rSetL := by
  intro pins s σ H o i v ov iv u Q I ro ri rv h
  obtain ⟨p, xs, k, j, rfl, rfl, hp, hj, q⟩ := h
  cases ro
  obtain ⟨t, rfl⟩ := ri
  obtain ⟨its, n, r, ho, hz⟩ := I.lst hp
  obtain ⟨h1, h2, h3, h4⟩ := ixN_seq hj
  have hl := r.length
  have hn := line63
  have I' : Inv X pins σ (upd H p (.lst (xs.set j v))) { s with heap := s.heap.update p (Obj.mapSeq (·.setIfInBounds j u)) } :=
    I.lstUpd hp ho (mapSeq_set its n j u) (r.set rv j) (by rw [List.length_set]; exact hz) s.toks
  by_cases h0 : 0 ≤ k
  · have hk : k.toNat = j := by
      rw [seqIndex_of h0 h4] at h1
      exact Option.some.inj h1
    exact PySem.W.ki_setAt ho h0 (by omega) (by rw [List.size_toArray, ← hl]; exact h4) (by rw [hk]; exact ⟨_, I', q⟩)
  · have hk : (k + (its.toArray.size : Int)).toNat = j := by
      rw [seqIndex_neg (by omega) h3] at h1
      rw [List.size_toArray, ← hl]
      exact Option.some.inj h1
    exact PySem.W.ki_setBack ho (by omega) (by rw [List.size_toArray, ← hl]; exact h3) (by omega) (by rw [hk]; exact ⟨_, I', q⟩)

/-! ### slices -/
theorem slice_bounds (lo hi : Option Int) (n : Nat) : (sliceBounds lo hi none n).1 = ((HT.sIx n 0 lo : Nat) : Int) ∧ (sliceBounds lo hi none n).2.1 = ((HT.sIx n n hi : Nat) : Int) ∧ (sliceBounds lo hi none n).2.2 = 1 := by
  refine ⟨?_, ?_, rfl⟩
  · cases lo with
    | none => simp [sliceBounds, HT.sIx]
    | some i =>
      simp only [sliceBounds, HT.sIx, Option.getD_none, show (1 : Int) > 0 by decide, if_true]
      by_cases h : i < 0
      · simp only [h, if_true] <;> omega
      · simp only [h, if_false] <;> omega
  · cases hi with
    | none => simp [sliceBounds, HT.sIx]
    | some i =>
      simp only [sliceBounds, HT.sIx, Option.getD_none, show (1 : Int) > 0 by decide, if_true]
      by_cases h : i < 0
      · simp only [h, if_true] <;> omega
      · simp only [h, if_false] <;> omega
theorem slicePick_cut (its : List Value) (lo hi : Option Int) : slicePick its.toArray lo hi none = ((its.drop (HT.sIx its.length 0 lo)).take (HT.sIx its.length its.length hi - HT.sIx its.length 0 lo)).toArray := by
  obtain ⟨h1, h2, h3⟩ := slice_bounds lo hi its.toArray.size
  unfold slicePick
  rw [h1, h2, h3]
  simp only [sliceRange_one, pick_run, List.size_toArray] <;> rfl
/-- xs[lo:hi] of a list: a new list -/
def rSlL (K : PySem.W.Frag) : V → Option Int → Option Int → Hp → VK → Prop := fun x lo hi H Q => ∃ a xs, x = .ref a ∧ SqL K H a xs ∧ ∀ p, H p = none → Q (.ref p) (upd H p (.lst (cutV xs lo hi)))
theorem sl_list : SlR X (rSlL X.K) := by
  intro pins s σ H x v vl vu lo hi sl Q I rx hs pl pu h
  obtain ⟨a, xs, rfl, hx, q⟩ := h
  cases rx
  obtain ⟨its, r, ht, hz⟩ := I.list hx
  have hlen := r.length
  refine ⟨"list", _, slot_list_getitem.lookup, ht.isList.typeIs, ?_⟩
  refine wpAny_getItem_list_slice ht.isList hs pl pu .none (by simp) ?_ (by rw [List.size_toArray] <;> omega)
  rw [slicePick_cut, ← hlen]
  refine ⟨.ref s.heap.objs.size, _, I.laid (t' := s.toks) (o := .lst (cutV xs lo hi)) (fun b ob q => Heap.get?_push_of_some _ q) (Nat.le_refl _) ?_, rfl, q _ (I.hok.fresh (Nat.le_refl _))⟩
  exact ⟨Nat.le_trans (cutV_length xs lo hi) hz, _, 0, (r.drop (HT.sIx xs.length 0 lo)).take (HT.sIx xs.length xs.length hi - HT.sIx xs.length 0 lo), Heap.get?_push_size _ rfl⟩

/-! ### in, not in: flat items -/
def flatV : V → Bool
  | .non => true
  | .bl _ => true
  | .int _ => true
  | .str _ => true
  | _ => false
/-- == of flat values -/
def eqV : V → V → Bool
  | .non, .non => true
  | .bl a, .bl b => a == b
  | .bl a, .int b => (if a then 1 else 0) == b
  | .int a, .bl b => a == (if b then 1 else 0)
  | .int a, .int b => a == b
  | .str a, .str b => a == b
  | _, _ => false
theorem eqAt_V {A : Around} {s : Shared} {y x : V} {u v : Value} (ry : RelV y u) (rx : RelV x v) (fy : flatV y = true) (fx : flatV x = true) : SeqAt.EqAt A s u v (eqV y x) := by
  cases y with
  | non =>
    cases ry
    cases x with
    | non => cases rx; exact SeqAt.EqAt.same _
    | bl b => cases rx; exact SeqAt.EqAt.none_bool b
    | int b => obtain ⟨t, rfl⟩ := rx; exact SeqAt.EqAt.none_int b t
    | str b => obtain ⟨t, rfl⟩ := rx; exact SeqAt.EqAt.none_str b t
    | _ => exact absurd (show false = true from fx) Bool.false_ne_true
  | bl a =>
    cases ry
    cases x with
    | non => cases rx; exact SeqAt.EqAt.bool_none a
    | bl b => cases rx; exact SeqAt.EqAt.bool_bool a b
    | int b => obtain ⟨t, rfl⟩ := rx; exact SeqAt.EqAt.bool_int a b t
    | str b => obtain ⟨t, rfl⟩ := rx; exact SeqAt.EqAt.bool_str a b t
    | _ => exact absurd (show false = true from fx) Bool.false_ne_true
  | int a =>
    obtain ⟨t', rfl⟩ := ry
    cases x with
    | non => cases rx; exact SeqAt.EqAt.int_none a t'
    | bl b => cases rx; exact SeqAt.EqAt.int_bool a t' b
    | int b => obtain ⟨t, rfl⟩ := rx; exact SeqAt.EqAt.int_int a t' b t
    | str b => obtain ⟨t, rfl⟩ := rx; exact SeqAt.EqAt.int_str a t' b t
    | _ => exact absurd (show false = true from fx) Bool.false_ne_true
  | str a =>
    obtain ⟨t', rfl⟩ := ry
    cases x with
    | non => cases rx; exact SeqAt.EqAt.str_none a t'
    | bl b => cases rx; exact SeqAt.EqAt.str_bool a t' b
    | int b => obtain ⟨t, rfl⟩ := rx; exact SeqAt.EqAt.str_int a t' b t
    | str b => obtain ⟨t, rfl⟩ := rx; exact SeqAt.EqAt.str_str a t' b t
    | _ => exact absurd (show false = true from fx) Bool.false_ne_true
  | _ => exact absurd (show false = true from fy) Bool.false_ne_true
/-- the items' answers, read off the values (a value's own answer does not lean on its token) -/
def eqU (x : V) (u : Value) : Bool := match u with
  | .none => eqV .non x
  | .bool b => eqV (.bl b) x
  | .int i _ => eqV (.int i) x
  | .str z _ => eqV (.str z) x
  | _ => false
def inV (x : V) (xs : List V) : Bool := xs.any fun y => eqV y x
/-- x in a list or tuple of flat items -/
def rIn (K : PySem.W.Frag) (neg : Bool) : R2 := fun x y H Q => ∃ p xs, y = .ref p ∧ (SqL K H p xs ∨ SqT K H p xs) ∧ flatV x = true ∧ xs.all flatV = true ∧ Q (.bl (if neg then !inV x xs else inV x xs)) H
/-! ### len, list(x), tuple(x) of any list or tuple that is read -/
theorem call_len_seq : CallR X (.builtin "len") (fun xs H Q => ∃ p ys, xs = [.ref p] ∧ (SqL X.K H p ys ∨ SqT X.K H p ys) ∧ Q (.int ys.length) H) := by
  intro pins s σ H xs us Q I r h
  obtain ⟨p, ys, rfl, hq, q⟩ := h
  obtain ⟨u, rfl, rx⟩ := vals1 r
  cases rx
  have hn := line63
  rcases hq with hq | hq
  · obtain ⟨its, r', pl, hz⟩ := I.list hq
    have hlen := r'.length
    exact Calls.call_len_list pl.isList (by simp only [List.size_toArray] <;> omega) ⟨.int ys.length, H, I.tok _, ⟨s.toks + 1, by rw [List.size_toArray, hlen]⟩, q⟩
  · obtain ⟨its, r', pl, hz⟩ := I.tuple hq
    have hlen := r'.length
    exact len_tuple pl (by simp only [List.size_toArray] <;> omega) ⟨.int ys.length, H, I.tok _, ⟨s.toks + 1, by rw [List.size_toArray, hlen]⟩, q⟩
theorem call_tuple_of : CallR X (.type "tuple") (fun xs H Q => ∃ p ys, xs = [.ref p] ∧ ((SqL X.K H p ys ∧ ∀ l, H l = none → Q (.ref l) (upd H l (.tup ys))) ∨ (SqT X.K H p ys ∧ Q (.ref p) H))) := by
  intro pins s σ H xs us Q I r h
  obtain ⟨p, ys, rfl, h⟩ := h
  obtain ⟨u, rfl, rx⟩ := vals1 r
  cases rx
  rcases h with ⟨hq, q⟩ | ⟨hq, q⟩
  · obtain ⟨its, r', pl, hz⟩ := I.list hq
    have hlen := r'.length
    refine call_tuple_list pl.isList (fun h' kp => ?_) (by simp only [List.size_toArray] <;> omega)
    have I1 : Inv X pins σ H { s with heap := h' } := I.kept (t' := s.toks) kp
    have I2 : Inv X pins σ (upd H h'.objs.size (.tup ys)) { s with heap := h'.push { cls := .type "tuple", data := .seq its.toArray } } :=
      I1.laid (t' := s.toks) (fun b o e => Heap.get?_push_of_some _ e) (Nat.le_refl _) (show ObjOk X.prog X.w _ _ _ (.tup ys) from ⟨hz, its, r', IsTup.new _ _⟩)
    exact ⟨.ref h'.objs.size, _, I2, rfl, q _ (I1.hok.fresh (Nat.le_refl _))⟩
  · obtain ⟨its, r', pl, hz⟩ := I.tuple hq
    exact call_tuple_same pl ⟨.ref p, H, I, rfl, q⟩

/-! ### the call of a builtin's method: o.m(..) -/
/-- the value is of that builtin type -/
def tyV (K : PySem.W.Frag) (T : String) (x : V) (H : Hp) : Prop := match x with
  | .str _ => T = "str"
  | .int _ => T = "int"
  | .ref p => (T = "list" ∧ ∃ xs, SqL K H p xs) ∨ (T = "tuple" ∧ ∃ o, K.lookup p = some o ∧ o.cls = .type "tuple" ∧ o.dict = none) ∨
      (T = "dict" ∧ ((∃ kvs, H p = some (.dK kvs)) ∨ ∃ kvs, H p = some (.dT kvs))) ∨ (T = "set" ∧ ∃ S n, H p = some (.set S n))
  | _ => False
theorem tyV_is {pins : List (Addr × Obj)} {σ : St} {H : Hp} {s : Shared} {T : String} {x : V} {v : Value} (I : Inv X pins σ H s) (r : RelV x v) (ty : tyV X.K T x H) :
    s.TypeIs v T ∧ ∀ a, v = .ref a → ∃ ob, s.heap.get? a = some ob ∧ ob.dict = none := by
  cases x with
  | str z =>
    obtain ⟨t, rfl⟩ := r
    cases (show T = "str" from ty)
    exact ⟨typeIs_str s z t, fun _ e => nomatch e⟩
  | int i =>
    obtain ⟨t, rfl⟩ := r
    cases (show T = "int" from ty)
    exact ⟨typeIs_int s i t, fun _ e => nomatch e⟩
  | ref p =>
    cases r
    rcases ty with ⟨rfl, xs, hq⟩ | ⟨rfl, o, hk, hc, hd⟩ | ⟨rfl, hk⟩ | ⟨rfl, S, n, hk⟩
    · obtain ⟨its, _, pl, _⟩ := I.list hq
      refine ⟨pl.isList.typeIs, fun a e => ?_⟩
      cases e
      obtain ⟨o, n, e, c, hd, _⟩ := pl
      exact ⟨o, e, hd⟩
    · refine ⟨⟨o, I.kIn p o hk, hc⟩, fun a e => ?_⟩
      cases e
      exact ⟨o, I.kIn _ o hk, hd⟩
    · have z : ∃ o, s.heap.get? p = some o ∧ o.ExactDict := by
        rcases hk with ⟨kvs, hk⟩ | ⟨kvs, hk⟩
        · obtain ⟨_, _, _, _, o, _, _, e, ex, _⟩ := I.hok p _ hk
          exact ⟨o, e, ex⟩
        · obtain ⟨_, _, _, _, o, _, _, e, ex, _⟩ := I.hok p _ hk
          exact ⟨o, e, ex⟩
      obtain ⟨o, e, ex⟩ := z
      refine ⟨⟨o, e, ex.1⟩, fun a e2 => ?_⟩
      cases e2
      exact ⟨o, e, ex.2.1⟩
    · obtain ⟨o, _, _, _, e, ex, _⟩ := I.hok p _ hk
      refine ⟨⟨o, e, ex.1⟩, fun a e2 => ?_⟩
      cases e2
      exact ⟨o, e, ex.2.1⟩
  | _ => exact False.elim ty
def tBM0 (K : PySem.W.Frag) (T : String) (r : V → List V → Hp → VK → Prop) (to : TE) : TE := fun σ H Q => to σ H fun x H1 => tyV K T x H1 ∧ r x [] H1 Q
def tBM (K : PySem.W.Frag) (T : String) (r : V → List V → Hp → VK → Prop) (to : TE) (t : TA) : TE := fun σ H Q => to σ H fun x H1 => tyV K T x H1 ∧ t σ H1 fun xs H2 => r x xs H2 Q
variable {o e : Expr} {es : List Expr} {to : TE} {t : TA} {name : Str} {apos cpos : Pos} {T id : String} {r : V → List V → Hp → VK → Prop}
theorem pe_bm (pa : PlainAttrs T) (slot : Slot T name id) (hty : typeOf (.builtin id) = pure (.type "method_descriptor")) (hm : MtR X id r) (ho : PE X o to) (ha : PA X (e :: es) t)
    (hbase : attributeBase o name X.env (eval o X.env) = eval o X.env := by rfl)
    (hfew : ((backTo cpos (starEach (e :: es) X.env)).all (fun x => !x.1) && (backToKw cpos (keywordEach [] X.env)).all (fun x => x.1.isSome)
      && decide ((e :: es).length + ([] : List Keyword).length + (if ([] : List Keyword).isEmpty then 0 else 1) < 30)) = true := by rfl)
    (hline : (apos.endLine == cpos.line) = true := by rfl) (hs : starEach (e :: es) X.env = (false, eval e X.env) :: starEach es X.env := by rfl) (hplain : (backTo cpos (starEach es X.env)).any (·.1) = false := by rfl) :
    PE X (.Call (.Attribute o name apos) (e :: es) [] cpos) (tBM X.K T r to t) := by
  intro pins s σ H Q I h
  refine wpAny_Call_method_late hbase hfew hline rfl (thn (ho pins s σ H _ I h) fun v s1 ⟨x, H1, I1, r1, ty, q1⟩ => ?_)
  obtain ⟨h1, h2⟩ := tyV_is I1 r1 ty
  refine ⟨T, id, pa, slot, hty, h1, h2, ?_⟩
  have hA := ha cpos pins s1 σ H1 _ I1 q1
  rw [hs] at hA ⊢
  refine Calls.callWith_builtin (by show (false || (backTo cpos (starEach es X.env)).any (·.1)) = false; rw [hplain] <;> rfl) (Calls.evalArgs_plain ?_)
  exact thn hA fun us s2 ⟨vs, H2, I2, r2, q2⟩ => hm pins s2 σ H2 x vs v us Q I2 r1 r2 q2
/- xs.append(e), list.index on a module's tuple .. are MtR facts of 06m -/
end
end L2

namespace L2
open PySem PySem.Spec PyProof.Rows

def MtM (X : Cx) (id : String) (r : V → List V → Hp → VK → Prop) : Prop :=
  ∀ (pins : List (Addr × Obj)) (s : Shared) (σ : St) (H : Hp) (x : V) (xs : List V) (v : Value) (us : List Value) (Q : VK), Inv X pins σ H s → RelV x v → Vals xs us → r x xs H Q →
    wpAny (model X.prog X.w) X.A (call (.builtin id) (v :: us)) (EP X pins σ Q) X.xe s

/-! ### lists of values -/
theorem Vals.one : ∀ {x : V} {us : List Value}, Vals [x] us → ∃ u, us = [u] ∧ RelV x u
  | _, _, .cons r .nil => ⟨_, rfl, r⟩
theorem Vals.two : ∀ {x y : V} {us : List Value}, Vals [x, y] us → ∃ u v, us = [u, v] ∧ RelV x u ∧ RelV y v
  | _, _, _, .cons r (.cons q .nil) => ⟨_, _, rfl, r, q⟩
section
variable {X : Cx} {pins : List (Addr × Obj)} {σ : St} {H : Hp} {s : Shared} {l b : Addr} {xs ys zs : List V}

/-! ### the two steps: a tracked list is rewritten, a new list is laid -/
theorem Inv.lset {its its' : List Value} {n : Nat} {f : Array Value → Array Value} {t' : Nat} (I : Inv X pins σ H s) (hH : H l = some (.lst xs))
    (e : s.heap.get? l = some { cls := .type "list", data := .seq its.toArray n }) (hf : f its.toArray = its'.toArray) (hv : Vals ys its') (hz : ys.length ≤ sizeLine) :
    Inv X pins σ (upd H l (.lst ys)) { s with heap := s.heap.update l (Obj.mapSeq f), toks := t' } := by
  have q := PySem.IsL.update e f
  rw [hf] at q
  refine I.write (x := l) (e := l) (by rw [hH]; exact trivial) (.inl rfl) (fun b' u hb hu => (Heap.get?_update_other s.heap (Obj.mapSeq f) (Ne.symm hb)).trans hu) ⟨_, q⟩ ?_
  exact ⟨hz, its', _, hv, q⟩
theorem Inv.lnew {its : List Value} {t' : Nat} (I : Inv X pins σ H s) (hv : Vals ys its) (hz : ys.length ≤ sizeLine) :
    Inv X pins σ (upd H s.heap.objs.size (.lst ys)) { s with heap := s.heap.push { cls := .type "list", data := .seq its.toArray }, toks := t' } :=
  I.laid (fun _ _ q => Heap.get?_push_of_some _ q) (Nat.le_refl _) ⟨hz, its, 0, hv, Heap.get?_push_size _ rfl⟩
theorem Inv.fresh (I : Inv X pins σ H s) : H s.heap.objs.size = none := I.hok.fresh (Nat.le_refl _)
theorem Inv.lstM (I : Inv X pins σ H s) (hH : H l = some (.lst xs)) : xs.length ≤ sizeLine ∧ ∃ (its : List Value) (n : Nat), Vals xs its ∧ xs.length = its.length ∧ s.heap.get? l = some { cls := .type "list", data := .seq its.toArray n } := by
  obtain ⟨z, its, n, r, e⟩ := I.hok l _ hH
  exact ⟨z, its, n, r, r.length, e⟩

end

section
variable {X : Cx}

/-! ### methods -/
def rAppend : V → List V → Hp → VK → Prop := fun x vs H Q => ∃ l xs y, x = .ref l ∧ vs = [y] ∧ H l = some (.lst xs) ∧ xs.length < sizeLine ∧ Q .non (upd H l (.lst (xs ++ [y])))
theorem mt_append : MtM X "list.append" rAppend := by
  intro pins s σ H x vs v us Q I rx rv h
  obtain ⟨l, xs, y, rfl, rfl, hH, hz, q⟩ := h
  cases rx
  obtain ⟨u, rfl, ru⟩ := rv.one
  obtain ⟨z, its, n, r, hl, e⟩ := I.lstM hH
  refine call_meets F.slot_list_append ⟨_, e, rfl⟩ F.entry_list_append (F.args_list_append_2 _ _) (PySem.list_append l its.toArray n u (by rw [List.size_toArray]; omega)) ⟨e, ?_⟩
  refine ⟨.non, _, I.lset (its' := its ++ [u]) hH e (by simp) (r.append (.cons ru .nil)) ?_, rfl, q⟩
  rw [List.length_append, List.length_singleton]
  omega

def rExtend : V → List V → Hp → VK → Prop := fun x vs H Q => ∃ l b xs zs, x = .ref l ∧ vs = [.ref b] ∧ H l = some (.lst xs) ∧ H b = some (.lst zs) ∧ xs.length + zs.length ≤ sizeLine ∧ Q .non (upd H l (.lst (xs ++ zs)))
def rPop : V → List V → Hp → VK → Prop := fun x vs H Q => ∃ l xs y, x = .ref l ∧ vs = [] ∧ H l = some (.lst xs) ∧ xs[xs.length - 1]? = some y ∧ Q y (upd H l (.lst xs.dropLast))
def rPopAt : V → List V → Hp → VK → Prop := fun x vs H Q => ∃ l xs i k y, x = .ref l ∧ vs = [.int i] ∧ H l = some (.lst xs) ∧ -(2 ^ 63) ≤ i ∧ i < 2 ^ 63 ∧ seqIndex? i xs.length = some k ∧ xs[k]? = some y ∧ Q y (upd H l (.lst (xs.eraseIdx k)))
def rReverse : V → List V → Hp → VK → Prop := fun x vs H Q => ∃ l xs, x = .ref l ∧ vs = [] ∧ H l = some (.lst xs) ∧ Q .non (upd H l (.lst xs.reverse))
def rClear : V → List V → Hp → VK → Prop := fun x vs H Q => ∃ l xs, x = .ref l ∧ vs = [] ∧ H l = some (.lst xs) ∧ Q .non (upd H l (.lst []))
/-! ### list + list, list += list, list * int -/
def rCat : R2 := fun x y H Q => ∃ l b xs zs, x = .ref l ∧ y = .ref b ∧ H l = some (.lst xs) ∧ H b = some (.lst zs) ∧ xs.length + zs.length ≤ sizeLine ∧ ∀ p, H p = none → Q (.ref p) (upd H p (.lst (xs ++ zs)))
theorem op_cat : OpR X (binaryOp .Add) rCat := by
  intro pins s σ H x y v u Q I rx ry h
  obtain ⟨l, b, xs, zs, rfl, rfl, hH, hB, hz, q⟩ := h
  cases rx
  cases ry
  obtain ⟨z, its, n, r, hl, e⟩ := I.lstM hH
  obtain ⟨z2, its2, n2, r2, hl2, e2⟩ := I.lstM hB
  refine PySem.P.add_list e e2 ?_ (by rw [List.size_toArray, List.size_toArray]; omega)
  have ea : its.toArray ++ its2.toArray = (its ++ its2).toArray := by simp
  rw [ea]
  exact ⟨.ref _, _, I.lnew (t' := s.toks) (r.append r2) (by rw [List.length_append]; omega), rfl, q _ I.fresh⟩
/-- a list times an int (a negative one is nothing) -/
def rRep : R2 := fun x y H Q => ∃ l k xs, x = .ref l ∧ y = .int k ∧ H l = some (.lst xs) ∧ -(2 ^ 63) ≤ k ∧ k < 2 ^ 63 ∧ xs.length * k.toNat ≤ sizeLine ∧
  ∀ p, H p = none → Q (.ref p) (upd H p (.lst (List.replicate k.toNat xs).flatten))
/-! ### del xs[i] -/
end

/-! ### xs[a:b] = ys -/
section
variable {prog : Program} {w : World} {A : Around} {E : Value → Shared → Prop} {s : Shared}
end

section
variable {X : Cx}
end
end L2

namespace Att
open PySem PySem.W PySem.Calls PyProof.Rows

/-! ### the script -/
theorem ints_of_wellAll {P : Params} {h : Heap} : ∀ (ns : List Int) (vs : List Value), WellAll P h vs (ns.map WData.int) → IntsAre vs ns := by
  intro ns
  induction ns with
  | nil =>
    intro vs w
    rw [List.map_nil] at w
    cases w
    exact .nil
  | cons n ns ih =>
    intro vs w
    rw [List.map_cons] at w
    cases w with
    | cons a b =>
      cases a
      exact .cons _ _ (ih _ b)

theorem script_of {l : OpenLaw} {n : Nat} (hn : l.most = some n) {P : Params} {h : Heap} {args : List WData} {vals : List Value}
    (hpre : l.row.toRowW.claim.pre args = true) (hwl : WellAll P h vals args) :
    ∃ a vs ns, vals = [Value.ref a] ∧ args = [WData.list (ns.map WData.int)] ∧ h.get? a = some { cls := .type "list", data := .seq vs.toArray } ∧ IntsAre vs ns ∧ ns.length ≤ n := by
  have hsh : WShape.hasAll [] args [.list .int] = true := (pre_splitW hpre).1
  have hc : l.pre.holds [] { args := args } = true := (pre_splitW hpre).2
  obtain ⟨d, r, rfl, h1, h2⟩ := hasAllW_cons hsh
  obtain rfl := hasAllW_nil h2
  obtain ⟨xs, rfl, h3⟩ := hasW_list h1
  obtain ⟨ns, rfl⟩ := items_int h3
  have hlen : ns.length ≤ n := by
    unfold OpenLaw.pre at hc
    have h4 : (WTm.not (.lt (.lit (.int (n : Int))) (.len (.arg 0)))).holds [] { args := [.list (ns.map .int)] } = true := by
      have h4 := (holds_andW hc).1
      rw [hn] at h4
      exact h4
    have h5 := condW_of h4 (w_not (w_lt w_lit (w_len_list (w_arg rfl))))
    rw [List.length_map] at h5
    refine Nat.le_of_not_lt fun q => ?_
    have q' : (n : Int) < ((ns.length : Nat) : Int) := by omega
    first
      | (rw [decide_eq_true q'] at h5; exact absurd h5 (by decide))
      | (simp at h5; omega)
  cases hwl with
  | cons w1 w2 =>
    cases w2
    cases w1 with
    | list ho hall => exact ⟨_, _, ns, rfl, rfl, ho, ints_of_wellAll ns _ hall, hlen⟩

theorem post_true (l : OpenLaw) (args : List WData) : l.row.toRowW.claim.post args (.bool true) args = true :=
  postW_of (r := l.row.toRowW) (X := (true == true))
    (show WShape.has [] (.bool true) .bool = true by first | rfl | decide | simp [WShape.has, WShape.arms, WShape.armsAll])
    (show (WTm.eq .res (.lit (.bool true))).value [] { args := args, res := some (.bool true), after := args } = some (.bool (true == true)) from w_eq_bool (w_res rfl) w_lit) rfl

/-! ### the attachment: holds_open's last premise (the goal 'hc' behind k_head) from a wpAny of the law's body -/
/-- the same from a codeAny of the CALL (for a layer whose function contracts speak of calls) -/
theorem attach_call {l : OpenLaw} {n : Nat} {q : Program} {loose : List Str} {XP : (Str → Option Value) → Heap → Prop} {YP : World → Heap → Prop} {d : DefRec}
    (hn : l.most = some n) (hdf : d.params.defaults = [])
    (call : ∀ (w : World) (s₀ s₁ : Shared) (mg mb : Str → Option Value) (fa : Addr) (o : Obj) (pm cd doc : Value) (a : Addr) (vs : List Value) (ns : List Int),
      Ground q loose [] XP w s₀ mg mb s₁.heap → YP w s₁.heap →
      s₁.heap.get? fa = some o → o.data = .func (docDef d.name d.params d.body d.scope pm cd doc) → s₁.heap.CodeRec cd d.name → mg d.name = some (.ref fa) →
      s₁.heap.get? a = some { cls := .type "list", data := .seq vs.toArray } → IntsAre vs ns → ns.length ≤ n → s₁.gens = #[] →
      codeAny (model l.prog w) callerA (.call (.ref fa) ⟨[.ref a], []⟩) (fun r s' => r = .ok (.ret (.bool true)) ∧ OldK s₁.heap s'.heap ∧ s'.os = s₁.os ∧ AllBare s'.gens) s₁) :
    WalkO q loose XP YP l.row.toRowW d [] (fun f vs => PySem.call f vs) := by
  intro w s₀ s₁ mg mb G Y fa o pm cd doc dV kV ho hd hcd hD hmg hg args vals as hpre hlay hrd hwl hlo
  obtain rfl : dV = .none := Dflts.none hD hdf
  obtain rfl : kV = .none := Dflts.noKw hD
  obtain ⟨a, vs, ns, rfl, rfl, hobj, hints, hlen⟩ := script_of hn hpre hwl
  refine enter_call (codeAny_mono (call w s₀ s₁ mg mb fa o pm cd doc a vs ns G Y ho (fd_plain hd) hcd hmg hobj hints hlen hg) fun r s' hq => ?_)
  obtain ⟨rfl, h2, h3, h4⟩ := hq
  exact ⟨.inl ⟨.bool true, .bool true, [], rfl, fun _ => rfl, .bool true, post_true l _, fun _ => ⟨List.Pairwise.nil, fun _ hm => (nomatch hm)⟩⟩, h2, h3, h4⟩

/-! ### rules over ANY heap (no ledger) from facts about the written part K: the library's own take a ledger (News) for what they write -/
section
variable {prog : Program} {w : World} {A : Around} {E : Value → Shared → Prop} {s : Shared} {K : Frag}

/-! the whole heap as the ledger: makes every rule that writes through a ledger a rule over any heap -/
def noObjs (h : Heap) : Heap := { h with objs := #[] }
def ledger (h : Heap) (L d : Addr) : List (Addr × Obj) := (List.range h.objs.size).filterMap fun a => if a = L ∨ a = d then none else (h.get? a).map fun o => (a, o)
end
end Att

namespace L2
open PySem PySem.Spec PyProof.Rows

theorem vals_ints : ∀ {vs : List Value} {ns : List Int}, IntsAre vs ns → Vals (ns.map V.int) vs
  | _, _, .nil => .nil
  | _, _, .cons n t h => .cons ⟨t, rfl⟩ (vals_ints h)

/-- nothing is tracked but the script, known to the object (or it is an object of the module) -/
def Only (H : Hp) : Prop := ∀ b, H b = none ∨ ∃ o xs, H b = some (.frz o (.lst xs))

/-- THE HEAD: the law's promise, at the heap behind the top. F, the promise of the law's def, may use that base is part of the heap (so K.In base, base.Ns mainGlobals mg stand in Mod) -/
theorem law_call {P : Program} {w : World} {K : PySem.W.Frag} {mg mb : Str → Option Value} {CX : CXT} {k : Nat} {fa a : Addr} {fd : FuncData} {x : Str} {sp : Sp} {s₁ : Shared} {vs : List Value} {ns : List Int}
    (KX : K.In s₁.heap) (hns : s₁.heap.Ns mainGlobals mg) (hb : s₁.heap.Ns builtinsNs mb) (hbb : ∀ x : Str, x ≠ "__name__" → mb x = bootBuiltins x) (hlim : s₁.heap.NoLimit) (hg : s₁.gens = #[])
    (ha : s₁.heap.get? a = some { cls := .type "list", data := .seq vs.toArray }) (hi : IntsAre vs ns) (hl : ns.length ≤ sizeLine) (hr : Room k callerA)
    (F : ∀ base : Heap, K.In base → base.Ns mainGlobals mg → FnOk P w K mg base CX k fa fd [x] sp) (hbind : ∀ (s : Shared) (u : Value), BindsTo s fd ⟨[u], []⟩ [(x, u)])
    (hsp : ∀ H : Hp, Only H → SqL K H a (ns.map V.int) → sp [.ref a] H (fun v _ => v = .bl true) fun _ _ _ => False)
    (hCX : ∀ H e s', CX [] H s₁ (fun _ _ _ => False) e s' → False) :
    codeAny (model P w) callerA (.call (.ref fa) ⟨[.ref a], []⟩) (fun r s' => r = .ok (.ret (.bool true)) ∧ OldK s₁.heap s'.heap ∧ s'.os = s₁.os ∧ AllBare s'.gens) s₁ := by
  have rv := vals_ints hi
  have lenV := hi.length
  -- from an abstract heap in which nothing but the script may be tracked
  have core : ∀ H : Hp, Only H → SqL K H a (ns.map V.int) → HOk P w H s₁.heap → (∀ b, H b ≠ none → b = a) → (H a ≠ none → K.lookup a = none) →
      codeAny (model P w) callerA (.call (.ref fa) ⟨[.ref a], []⟩) (fun r s' => r = .ok (.ret (.bool true)) ∧ OldK s₁.heap s'.heap ∧ s'.os = s₁.os ∧ AllBare s'.gens) s₁ := by
    intro H hO hS hok hA hK
    have base_of : ∀ {b : Addr} {o : Obj}, s₁.heap.get? b = some o → H b = none → (hidT s₁.heap H).get? b = some o := fun e n => hidT_get e n
    have noA : ∀ {b : Addr} {o : Obj} {es : Array DictEntry} {ep : Nat}, s₁.heap.get? b = some o → o.data = .dict es ep → H b = none := fun {b o es ep} e d => by
      cases q : H b with
      | none => rfl
      | some u =>
        have e' : b = a := hA b (by rw [q]; simp)
        subst e'
        rw [ha] at e; cases e
        have d' : Data.seq vs.toArray _ = Data.dict es ep := d
        cases d'
    have nsK : ∀ {b : Addr} {m : Str → Option Value}, s₁.heap.Ns b m → (hidT s₁.heap H).Ns b m := fun {b m} ⟨o, es, ep, e, d, r⟩ => ⟨o, es, ep, base_of e (noA e d), d, r⟩
    have hKb : K.In (hidT s₁.heap H) := fun b o e => base_of (KX b o e) (by
      cases q : H b with
      | none => rfl
      | some u =>
        have e' : b = a := hA b (by rw [q]; simp)
        subst e'
        rw [hK (by rw [q]; simp)] at e; cases e)
    have hM : Mod K mg (hidT s₁.heap H) := ⟨hKb, nsK hns, ⟨mb, nsK hb, hbb⟩, let ⟨mc, h1, h2⟩ := hlim; ⟨mc, nsK h1, h2⟩⟩
    have e0 : Env0 P w K mg (hidT s₁.heap H) callerA [] s₁ H := ⟨rfl, hM, fun b o e => of_hidT e, Nat.le_of_eq (hidT_size _ _), trivial, fun b hb => absurd (show b ∈ ([] : List Addr) from hb) (by simp), hok, .of_eq hg⟩
    refine codeAny_mono ((F _ hKb (nsK hns)).run callerA [] s₁ H ⟨[.ref a], []⟩ [.ref a] [.ref a] _ _ hr e0 (hbind s₁ (.ref a)) (.cons rfl .nil) (hsp H hO hS)) fun r s' h => ?_
    cases r with
    | error e => exact (hCX H e s' h).elim
    | ok fl =>
      cases fl with
      | next => exact False.elim h
      | brk => exact False.elim h
      | cont => exact False.elim h
      | ret u =>
        obtain ⟨v, H', os, bare, un, hok', r', q⟩ := h
        have q' : v = .bl true := q
        subst q'
        obtain rfl : u = Value.bool true := r'
        refine ⟨rfl, OldK.of_keep fun b o e => ?_, os, bare⟩
        cases q : H b with
        | none => exact un.keep b o e q (by intro z; exact absurd (show b ∈ ([] : List Addr) from z) (by simp)) (by simp)
        | some u =>
          rcases hO b with z | ⟨ob, xs, z⟩
          · rw [q] at z; cases z
          · have z2 := un.frzs b ob _ z
            obtain ⟨e1, _⟩ := hok b _ z
            obtain ⟨e2, _⟩ := hok' b _ z2
            rw [e] at e1; cases e1
            exact e2
  cases hk : K.lookup a with
  | some o =>
    -- the script is one of the module's own objects
    have e := KX a o hk
    rw [ha] at e
    cases e
    refine core (fun _ => none) (fun _ => .inl rfl) (.inr ⟨_, vs.toArray, _, hk, rfl, rfl, rfl, by rw [List.size_toArray, lenV]; exact hl, by simpa using rv⟩) (fun b u z => by have z' : (none : Option HO) = some u := z; cases z') (fun b z => absurd rfl z) fun z => absurd rfl z
  | none =>
    refine core (fun b => if b = a then some (.frz { cls := .type "list", data := .seq vs.toArray } (.lst (ns.map V.int))) else none) (fun b => ?_) (.inl (.inr ⟨{ cls := .type "list", data := .seq vs.toArray }, if_pos rfl⟩)) (fun b u z => ?_) (fun b z => ?_) fun _ => hk
    · by_cases hb : b = a
      · exact .inr ⟨_, _, if_pos hb⟩
      · exact .inl (if_neg hb)
    · by_cases hb : b = a
      · have z' := (if_pos hb).symm.trans z
        cases z'
        subst hb
        exact ⟨ha, by rw [List.length_map]; exact hl, vs, _, rv, ha⟩
      · have z' := (if_neg hb).symm.trans z
        cases z'
    · by_cases hb : b = a
      · exact hb
      · exact absurd (if_neg hb) z
end L2

namespace L2
open PySem PySem.Spec PyProof.Rows

abbrev KOf {K : PySem.W.Frag} {h : Heap} (_ : K.In h) : PySem.W.Frag := K

/-- the goal that k_head leaves (case hc), from the law's promise. F gives the function object fd (K's own) once, then the promise over every base -/
theorem walk_of {l : PySem.W.OpenLaw} {n k : Nat} {q : Program} {loose : List Str} {XP : (Str → Option Value) → Heap → Prop} {YP : World → Heap → Prop} {d : DefRec} {K : Params → PySem.W.Frag} {CX : World → CXT} {sp : World → Sp} {x : Str}
    (hn : l.most = some n) (hn2 : n ≤ sizeLine) (hdf : d.params.defaults = []) (hr : Room k callerA)
    (hY : ∀ (w : World) (h : Heap), YP w h → (K w.params).In h)
    (F : ∀ (w : World) (mg : Str → Option Value) (fa : Addr) (h : Heap), (K w.params).In h → h.Ns mainGlobals mg → mg d.name = some (.ref fa) →
      ∃ fd : FuncData, (∀ (s : Shared) (u : Value), BindsTo s fd ⟨[u], []⟩ [(x, u)]) ∧
        ∀ base : Heap, (K w.params).In base → base.Ns mainGlobals mg → FnOk l.prog w (K w.params) mg base (CX w) k fa fd [x] (sp w))
    (hsp : ∀ (w : World) (H : Hp) (a : Addr) (ns : List Int), ns.length ≤ n → Only H → SqL (K w.params) H a (ns.map V.int) → sp w [.ref a] H (fun v _ => v = .bl true) fun _ _ _ => False)
    (hCX : ∀ (w : World) (H : Hp) (s : Shared) (e : Value) (s' : Shared), CX w [] H s (fun _ _ _ => False) e s' → False) :
    PySem.W.WalkO q loose XP YP l.row.toRowW d [] (fun f vs => PySem.call f vs) := by
  refine Att.attach_call hn hdf fun w s₀ s₁ mg mb fa o pm cd doc a vs ns G Y ho hd hcd hmg hobj hints hlen hg => ?_
  have KX := hY w _ Y
  obtain ⟨fd, hb, hF⟩ := F w mg fa _ KX G.T.g hmg
  exact law_call KX G.T.g G.T.b G.T.builtins G.T.nolimit hg hobj hints (Nat.le_trans hlen hn2) hr hF hb (fun H hO hS => hsp w H a ns hlen hO hS) fun H e s' => hCX w H s₁ e s'
end L2

/- THE LAST THEOREM (shape; LID, My.* are yours):
   My.Adr: a structure of the addresses that your layer names (classes, functions); My.Txt K t: a structure (Prop) of the equations over K;
   My.txt_mk : {K} {implicit addresses ..} (e1 : nsIn K mainGlobals "law" = some (some (.ref f))) (e2 : K.lookup f = some ⟨oc, od, .func (fnOf "law" "law" params body scope dV kV doc pm an cdv ct), sl⟩) (e3 : codeIn K cdv "law" = true) .. : ∃ t, My.Txt K t

set_option maxRecDepth 100000 in
set_option maxHeartbeats 0 in
theorem PySem.Challenge.cw_LID_holds : PySem.Challenge.rw_LID.Holds := by
  w_on; o_law; k_head; (case hw => w_witness2)
  k_fill
  refine L2.walk_of (l := PySem.Challenge.rw_LID) (n := 63) (k := 40) (x := "script") (CX := fun w => ..) (sp := fun _ => My.sp_law) rfl (by decide) rfl ⟨rfl, by decide, by decide⟩ (fun w h Y => PySem.W.kIn_of Y) ?F ?S ?C
  case F =>
    intro w mg fa h KX G hmg
    have T : ∃ t, My.Txt (L2.KOf KX) t := by
      dsimp only [L2.KOf]                          -- K must stand as «<heap const> w.params» for k_is
      refine' My.txt_mk ?e1 ?e2 ?e3 ..
      (case e1 => PySem.W.k_is)                    -- in the order: a name -> its address -> its object -> its parts
      (case e2 => PySem.W.k_is)
      ..
    obtain ⟨t, T⟩ := T
    have e0 := hmg.symm.trans (PySem.W.mg_of KX G T.law)
    cases e0                                       -- fa is the law's own address
    exact ⟨_, fun s u => .of_eq rfl, fun base kb nb => My.law_fn T kb nb⟩     -- if «.of_eq rfl» comes too early: refine' ⟨_, ?b, fun base kb nb => My.law_fn T kb nb⟩; exact fun s u => .of_eq rfl
  case S => exact fun w H a ns hl hO hS => ..
  case C => exact ..
(the tactic k_is has no namespace: write k_is) -/

/-! SHORT WORDS over the layer: a def of the text, its body, what a loop and a test want. -/
namespace L2
open PySem PySem.Spec PyProof.Rows

/-! ### the text by places -/
/-- the j-th statement of a class's body -/
def inClass (s : Stmt) (j : Nat) : Stmt := match s with
  | .ClassDef _ _ _ body _ _ _ _ _ _ _ => body.getD j (.Pass ⟨0, 0, 0, 0⟩)
  | _ => .Pass ⟨0, 0, 0, 0⟩
def defArgs (s : Stmt) : Arguments := match s with
  | .FunctionDef _ a _ _ _ _ _ _ _ _ => a
  | _ => { posonlyargs := [], args := [], vararg := none, kwonlyargs := [], kw_defaults := [], kwarg := none, defaults := [] }
def defBody (s : Stmt) : List Stmt := match s with
  | .FunctionDef _ _ b _ _ _ _ _ _ _ => b
  | _ => []
def defScope (s : Stmt) : Scope := match s with
  | .FunctionDef _ _ _ _ _ _ sc _ _ _ => sc
  | _ => { kind := .function, names := [], isGenerator := false, isCoroutine := false }

/-! ### no exception leaves a def -/
abbrev CX0 : CXT := fun _ _ _ _ _ _ => False
abbrev E0 : XK := fun _ _ _ => False
theorem pass0 {X : Cx} : Passes CX0 X E0 := fun _ _ _ _ _ _ _ h => h.elim

/-! ### a def (or method) of the text as it stands behind the top -/
structure Fun (K : PySem.W.Frag) (x qual : Str) (st : Stmt) (f : Addr) (fd : FuncData) : Prop where
  ex : ∃ (oc : Value) (od : Option Addr) (kV doc pm : Value) (an : Option Addr) (cdv ct : Value) (osl : Array (Option Value)),
    fd = PySem.W.fnOf x qual (defArgs st) (defBody st) (defScope st) .none kV doc pm an cdv ct ∧ K.lookup f = some ⟨oc, od, .func fd, osl⟩ ∧ PySem.W.codeIn K cdv qual = true
  kp : PySem.W.keepIn K (.ref f) = true
section
variable {P : Program} {w : World} {K : PySem.W.Frag} {mg : Str → Option Value} {base : Heap}
/-- THE RULE for a def: its body as a term of rules, and the reading of that term -/
theorem Fun.ok {x qual : Str} {st : Stmt} {f : Addr} {fd : FuncData} {N ps : List Str} {k : Nat} {sp : Sp} (F : Fun K x qual st f fd) (S : FnScope N ps (defScope st)) (len : ∀ vs H Q E, sp vs H Q E → vs.length = ps.length)
    (hbody : ∀ (cdv : Value) (A : Around) (outer : List Env) (s : Shared) (H : Hp) (vs : List V) (Q : VK) (E : XK), Room k (A.deeper (envOfC qual (defScope st) s.heap.objs.size f cdv)) → sp vs H Q E →
      ∃ t, PSs (cxOf CX0 P w K mg base N qual (defScope st) f cdv A outer s H E).nox (defBody st) t ∧ t { nx := fun _ H' => Q .non H', rt := Q } (start N vs) H) : FnOk P w K mg base CX0 (k + 1) f fd ps sp := by
  obtain ⟨oc, od, kV, doc, pm, an, cdv, ct, osl, rfl, lk, hcd⟩ := F.ex
  refine fn_of lk hcd S len fun A outer s H vs Q E hr hsp => ?_
  obtain ⟨t, h, q⟩ := hbody cdv A outer s H vs Q E hr hsp
  exact ⟨t, h.nox, q⟩
/-- how its arguments bind (no defaults): h is «fun _ _ _ _ _ _ us hl => match us, hl with | [_, _], _ => rfl», one _ a parameter -/
theorem Fun.binds {x qual : Str} {st : Stmt} {f : Addr} {fd : FuncData} {ps : List Str} (F : Fun K x qual st f fd)
    (h : ∀ (kV doc pm : Value) (an : Option Addr) (cdv ct : Value) (us : List Value), us.length = ps.length → bindArgs (PySem.W.fnOf x qual (defArgs st) (defBody st) (defScope st) .none kV doc pm an cdv ct) ⟨us, []⟩ = pure (ps.zip us)) : Binds K fd ps [] := by
  obtain ⟨oc, od, kV, doc, pm, an, cdv, ct, osl, rfl, lk, hcd⟩ := F.ex
  exact .all (h kV doc pm an cdv ct)
theorem fun_mk {x qual : Str} {st : Stmt} {f : Addr} {oc : Value} {od an : Option Addr} {osl : Array (Option Value)} {kV doc pm cdv ct : Value} (l : K.lookup f = some ⟨oc, od, .func (PySem.W.fnOf x qual (defArgs st) (defBody st) (defScope st) .none kV doc pm an cdv ct), osl⟩)
    (c : PySem.W.codeIn K cdv qual = true) (k : PySem.W.keepIn K (.ref f) = true) : Fun K x qual st f (PySem.W.fnOf x qual (defArgs st) (defBody st) (defScope st) .none kV doc pm an cdv ct) := ⟨⟨oc, od, kV, doc, pm, an, cdv, ct, osl, rfl, l, c⟩, k⟩
end
theorem small1000 {n : Nat} (h : n ≤ 1000) : n < sizeLine := Nat.lt_of_le_of_lt h (by decide)

/-! ### expressions in short: the name that stands in the i-th slot -/
section
variable {X : Cx}
theorem pv (i : Nat) {x : Str} {pos : Pos} (hN : X.N[i]? = some x := by rfl) (hv : Vis X.env.scope x := by first | exact Or.inl rfl | exact Or.inr (Or.inl rfl) | exact Or.inr (Or.inr rfl)) (hd : (x == ("__debug__" : Str)) = false := by decide)
    (hcd : (x == ("__classdict__" : Str)) = false := by decide) : PE X (.Name x pos) (tVar i) := pe_var hN hv hd hcd
end

/-! ### tests -/
theorem iteF {A B : Prop} (h : B) : if false = true then A else B := by
  rw [if_neg Bool.false_ne_true]
  exact h
theorem iteT {A B : Prop} (h : A) : if true = true then A else B := by
  rw [if_pos rfl]
  exact h
theorem ite2 {c A B : Prop} [Decidable c] (h1 : c → A) (h2 : ¬ c → B) : if c then A else B := by
  by_cases h : c
  · rw [if_pos h]
    exact h1 h
  · rw [if_neg h]
    exact h2 h
theorem iteNS {c A B : Prop} [Decidable c] (hc : c) (h : B) : if (!decide c) = true then A else B := by
  rw [decide_eq_true hc]
  exact iteF h

/-! ### heaps -/
/-- all that was tracked is as it was -/
def Same (H H' : Hp) : Prop := ∀ b o, H b = some o → H' b = some o
theorem Same.refl (H : Hp) : Same H H := fun _ _ h => h
theorem Same.trans {H H1 H2 : Hp} (a : Same H H1) (b : Same H1 H2) : Same H H2 := fun c o h => b c o (a c o h)
theorem Same.free {H H' : Hp} (e : Same H H') {l : Addr} (h : H' l = Option.none) : H l = Option.none := by
  cases q : H l with
  | none => rfl
  | some o =>
    rw [e l o q] at h
    cases h
theorem Same.seq {K : PySem.W.Frag} {H H' : Hp} {a : Addr} {xs : List V} (e : Same H H') (h : SqL K H a xs) : SqL K H' a xs := by
  rcases h with (h | ⟨o, h⟩) | h
  · exact .inl (.inl (e _ _ h))
  · exact .inl (.inr ⟨o, e _ _ h⟩)
  · exact .inr h

end L2

set_option maxHeartbeats 4000000
namespace L2
abbrev Pr := Int × Int
def inR (n : Int) (p : Pr) : Bool := decide (p.1 ≤ n) && decide (n ≤ p.2)
def inP (ps : List Pr) (n : Int) : Bool := ps.any (inR n)
/-- pairs that hold a number each, ascending and apart -/
structure Apart (R : List Pr) : Prop where
  le : ∀ p ∈ R, p.1 ≤ p.2
  gap : R.Pairwise fun p q => p.2 + 2 ≤ q.1
/-- what the loop of tidy keeps: R told so far of the pairs qs -/
structure TidI (R qs : List Pr) : Prop where
  ap : Apart R
  mem : ∀ n, inP R n = inP qs n
  cov : ∀ p ∈ qs, p.1 ≤ p.2 → ∃ r ∈ R, r.1 ≤ p.1 ∧ p.2 ≤ r.2
  low : ∀ r ∈ R, ∃ q ∈ qs, r.1 = q.1
end L2

namespace L2
open PySem PySem.Spec PyProof.Rows
/-! ### a def of the text that may be called, bundled -/
def Callee (P : Program) (w : World) (K : PySem.W.Frag) (mg : Str → Option Value) (base : Heap) (k : Nat) (x : Str) (ps : List Str) (sp : Sp) : Prop :=
  ∃ f fd, FnOk P w K mg base CX0 k f fd ps sp ∧ Binds K fd ps [] ∧ PySem.W.keepIn K (.ref f) = true ∧ mg x = some (.ref f)
theorem Callee.mono {P : Program} {w : World} {K : PySem.W.Frag} {mg : Str → Option Value} {base : Heap} {j k : Nat} {x : Str} {ps : List Str} {sp : Sp} (C : Callee P w K mg base j x ps sp) (h : j ≤ k) : Callee P w K mg base k x ps sp :=
  let ⟨f, fd, F, r⟩ := C
  ⟨f, fd, F.mono h, r⟩
section
variable {X : Cx} {k : Nat} {x : Str} {ps : List Str} {sp : Sp} {e : Expr} {es : List Expr} {t : TA} {p pos : Pos}
/-- f(..) of a bundled def -/
def tFn (sp : Sp) (t : TA) : TE := fun σ H Q => t σ H fun vs H1 => sp vs H1 Q E0
theorem pe_fn (C : Callee X.prog X.w X.K X.mg X.base k x ps sp) (hr : Room k X.A) (hg : Gl X x) (ha : PA X (e :: es) t) (hdb : (x == ("__debug__" : Str)) = false := by decide)
    (he : starEach (e :: es) X.env = (false, eval e X.env) :: starEach es X.env := by rfl) (hpl : (backTo pos (starEach es X.env)).any (·.1) = false := by rfl) : PE X (.Call (.Name x p) (e :: es) [] pos) (tFn sp t) := by
  obtain ⟨f, fd, F, b, kk, m⟩ := C
  have h := pe_call (E := E0) (dvs := []) (ds := []) (p := p) F hr hg m kk b .nil pass0 ha hdb he hpl
  intro pins s σ H Q I q
  refine h pins s σ H Q I ?_
  have q' : t σ H fun vs H1 => sp vs H1 Q E0 := q
  have e1 : (fun (vs : List V) (H1 : Hp) => sp (vs ++ []) H1 Q E0) = fun vs H1 => sp vs H1 Q E0 := by
    funext vs H1
    rw [List.append_nil]
  show t σ H fun vs H1 => sp (vs ++ []) H1 Q E0
  rw [e1]
  exact q'
end
/-! ### a block with a word between its first statement and the rest -/
def tCut (t u : TS) : TS := fun D σ H => ∃ M : St → Hp → Prop, t { D with nx := M } σ H ∧ ∀ σ' H', M σ' H' → u D σ' H'
theorem pss_cut {X : Cx} {st : Stmt} {rest : List Stmt} {t u : TS} (h1 : PS X st t) (h2 : PSs X rest u) : PSs X (st :: rest) (tCut t u) := by
  intro pins s σ H D I ⟨M, a, b⟩
  refine wpAny_execs_cons (thn (h1 pins s σ H { D with nx := M } I a) fun fl s1 q => ?_)
  cases fl with
  | next => obtain ⟨σ', H', I', q⟩ := q; exact h2 pins s1 σ' H' D I' (b σ' H' q)
  | ret v => exact q
  | brk => exact q
  | cont => exact q
/-! ### isinstance(x, T), T a built-in type -/
section
variable {X : Cx}
theorem call_isinst : CallR X (.builtin "isinstance") (fun xs H Q => ∃ x T t b, xs = [x, .ty T] ∧ TyOf X.K H x t ∧ PySem.W.kitOne X.K t (.type T) = some b ∧ Q (.bl b) H) := by
  intro pins s σ H xs us Q I r h
  obtain ⟨x, T, t, b, rfl, ty, e, q⟩ := h
  cases r with
  | cons rx r2 =>
    cases r2 with
    | cons ry r3 =>
      cases r3
      cases (show _ = Value.type T from ry)
      exact isinst_ok I rx ty e fun tk => ⟨.bl b, H, I.tok tk, rfl, q⟩
end
/-! ### == and != of lists -/
/-- what == says of two items of lists: plain values; one object; two tuples of plain values -/
inductive EqI (K : PySem.W.Frag) (H : Hp) : V → V → Bool → Prop where
  | flat {x y : V} (fx : flatV x = true) (fy : flatV y = true) : EqI K H x y (eqV x y)
  | same (a : Addr) : EqI K H (.ref a) (.ref a) true
  | tup {a b : Addr} {xs ys : List V} (ha : SqT K H a xs) (hb : SqT K H b ys) (fx : xs.all flatV = true) (fy : ys.all flatV = true) : EqI K H (.ref a) (.ref b) (decide (xs.length = ys.length) && (List.zipWith eqV xs ys).all id)
theorem eqV_refl : ∀ {x : V}, flatV x = true → eqV x x = true
  | .non, _ => rfl
  | .bl b, _ => by simp [eqV]
  | .int i, _ => by simp [eqV]
  | .str z, _ => by simp [eqV]
theorem eqAll_refl : ∀ {xs : List V}, xs.all flatV = true → (List.zipWith eqV xs xs).all id = true
  | [], _ => rfl
  | x :: xs, h => by
    rw [List.all_cons, Bool.and_eq_true] at h
    rw [List.zipWith_cons_cons, List.all_cons, eqAll_refl h.2, Bool.and_true]
    exact eqV_refl h.1
theorem all_range_zip {f : Nat → Bool} : ∀ {xs ys : List V}, (∀ j x y, xs[j]? = some x → ys[j]? = some y → f j = eqV x y) → (List.range (min xs.length ys.length)).all f = (List.zipWith eqV xs ys).all id
  | [], ys, _ => by simp
  | x :: xs, [], _ => by simp
  | x :: xs, y :: ys, h => by
    have ih := all_range_zip (f := fun j => f (j + 1)) (xs := xs) (ys := ys) fun j a b e1 e2 => h (j + 1) a b (by simpa using e1) (by simpa using e2)
    have e0 := h 0 x y rfl rfl
    have em : min (x :: xs).length (y :: ys).length = min xs.length ys.length + 1 := by simp only [List.length_cons]; omega
    rw [em, List.range_succ_eq_map, List.all_cons, List.zipWith_cons_cons, List.all_cons, List.all_map, e0]
    show (eqV x y && (List.range (min xs.length ys.length)).all (fun j => f (j + 1))) = _
    rw [ih]
    rfl
section
variable {X : Cx} {pins : List (Addr × Obj)} {σ : St} {H : Hp} {s : Shared}
theorem EqI.at {A : Around} {x y : V} {u v : Value} {b : Bool} (e : EqI X.K H x y b) (I : Inv X pins σ H s) (hu : A.units + 1 < cLine) (rx : RelV x u) (ry : RelV y v) : SeqAt.EqAt A s u v b := by
  cases e with
  | flat fx fy => exact eqAt_V rx ry fx fy
  | same a =>
    cases (show u = Value.ref a from rx)
    cases (show v = Value.ref a from ry)
    exact SeqAt.EqAt.same _
  | @tup a b xs ys ha hb fx fy =>
    cases (show u = Value.ref a from rx)
    cases (show v = Value.ref b from ry)
    by_cases z : a = b
    · subst z
      have e := I.tuple_inj ha hb
      subst e
      rw [eqAll_refl fx, decide_eq_true rfl]
      exact SeqAt.EqAt.same _
    · obtain ⟨its, r, p, _⟩ := I.tuple ha
      obtain ⟨its', r', p', _⟩ := I.tuple hb
      have l1 := r.length
      have l2 := r'.length
      have h0 := SeqAt.RcAt.tuples (A := A) (e := fun j => match its[j]?, xs[j]?, ys[j]? with | _, some x, some y => eqV x y | _, _, _ => false) (show s.heap.IsTuple a its.toArray from p) (show s.heap.IsTuple b its'.toArray from p') (by omega) (fun j h1 h2 => by
        have j1 : j < its.length := by simpa using h1
        have j2 : j < its'.length := by simpa using h2
        have x1 : xs[j]? = some xs[j] := List.getElem?_eq_getElem (by omega)
        have y1 : ys[j]? = some ys[j] := List.getElem?_eq_getElem (by omega)
        obtain ⟨u1, q1, r1⟩ := r.get x1
        obtain ⟨u2, q2, r2⟩ := r'.get y1
        have eu : its.toArray[j] = u1 := by
          have := List.getElem?_eq_getElem j1
          rw [this] at q1; simpa using Option.some.inj q1
        have ev : its'.toArray[j] = u2 := by
          have := List.getElem?_eq_getElem j2
          rw [this] at q2; simpa using Option.some.inj q2
        rw [eu, ev]
        rw [x1, y1]
        have f1 : flatV xs[j] = true := List.all_eq_true.mp fx _ (List.getElem_mem _)
        have f2 : flatV ys[j] = true := List.all_eq_true.mp fy _ (List.getElem_mem _)
        exact eqAt_V r1 r2 f1 f2)
      have h1 := SeqAt.EqAt.of_refs z h0
      have e1 : ((List.range (min its.toArray.size its'.toArray.size)).all fun j => match its[j]?, xs[j]?, ys[j]? with | _, some x, some y => eqV x y | _, _, _ => false) = (List.zipWith eqV xs ys).all id := by
        have es : min its.toArray.size its'.toArray.size = min xs.length ys.length := by simp only [List.size_toArray]; omega
        rw [es]
        exact all_range_zip fun j x y q1 q2 => by rw [q1, q2]
      rw [e1] at h1
      have e2 : (its.toArray.size == its'.toArray.size) = decide (xs.length = ys.length) := by
        simp only [List.size_toArray, ← l1, ← l2]
        exact Bool.beq_eq_decide_eq _ _
      rw [e2, Bool.and_comm] at h1
      exact h1
end
/-- == (neg: !=) of two lists -/
def rEqL (K : PySem.W.Frag) (neg : Bool) : R2 := fun x y H Q => ∃ a b xs ys, x = .ref a ∧ y = .ref b ∧ SqL K H a xs ∧ SqL K H b ys ∧
  ((xs.length ≠ ys.length ∧ Q (.bl neg) H) ∨ (xs.length = ys.length ∧ ∃ f : Nat → Bool, (∀ j x y, xs[j]? = some x → ys[j]? = some y → EqI K H x y (f j)) ∧ Q (.bl (if neg then !(List.range xs.length).all f else (List.range xs.length).all f)) H))
section
variable {X : Cx}
theorem eqs_at {pins : List (Addr × Obj)} {σ : St} {H : Hp} {s : Shared} {A : Around} {xs ys : List V} {its its' : List Value} {f : Nat → Bool} (I : Inv X pins σ H s) (hu : A.units + 1 < cLine) (r : Vals xs its) (r' : Vals ys its')
    (hf : ∀ j x y, xs[j]? = some x → ys[j]? = some y → EqI X.K H x y (f j)) : ∀ j (h1 : j < its.toArray.size) (h2 : j < its'.toArray.size), SeqAt.EqAt A s its.toArray[j] its'.toArray[j] (f j) := fun j h1 h2 => by
  have j1 : j < its.length := by simpa using h1
  have j2 : j < its'.length := by simpa using h2
  have l1 := r.length
  have l2 := r'.length
  have x1 : xs[j]? = some xs[j] := List.getElem?_eq_getElem (by omega)
  have y1 : ys[j]? = some ys[j] := List.getElem?_eq_getElem (by omega)
  obtain ⟨u1, q1, r1⟩ := r.get x1
  obtain ⟨u2, q2, r2⟩ := r'.get y1
  have eu : its.toArray[j] = u1 := by
    have := List.getElem?_eq_getElem j1
    rw [this] at q1; simpa using Option.some.inj q1
  have ev : its'.toArray[j] = u2 := by
    have := List.getElem?_eq_getElem j2
    rw [this] at q2; simpa using Option.some.inj q2
  rw [eu, ev]
  exact (hf j _ _ x1 y1).at I hu r1 r2
theorem op_neL {k : Nat} (hr : Room k X.A) : OpR X (compareOp .NotEq) (rEqL X.K true) := by
  intro pins s σ H x y v u Q I rx ry h
  obtain ⟨a, b, xs, ys, rfl, rfl, ha, hb, h⟩ := h
  cases (show v = Value.ref a from rx)
  cases (show u = Value.ref b from ry)
  obtain ⟨its, r, p, _⟩ := I.list ha
  obtain ⟨its', r', p', _⟩ := I.list hb
  have l1 := r.length
  have l2 := r'.length
  have hu := hr.units
  rcases h with ⟨hn, q⟩ | ⟨hl, f, hf, q⟩
  · refine SeqAt.RcNeAt.lists_lengths p.isList p'.isList (by simp only [List.size_toArray, bne_iff_ne, ne_eq]; omega) (by omega) X.prog X.w X.xe _ ⟨.bl true, H, I, rfl, q⟩
  · refine SeqAt.RcNeAt.lists (e := f) p.isList p'.isList (by simp only [List.size_toArray]; omega) (by omega) (eqs_at I (by show X.A.units + 1 + 1 < cLine; omega) r r' hf) X.prog X.w X.xe _ ⟨.bl _, H, I, rfl, ?_⟩
    rw [show its.toArray.size = xs.length by simp only [List.size_toArray]; omega]
    exact q
/-- two lists with the same items -/
theorem rNeL_same {K : PySem.W.Frag} {H : Hp} {Q : VK} {a b : Addr} {xs : List V} (ha : SqL K H a xs) (hb : SqL K H b xs) (fl : ∀ x ∈ xs, flatV x = true ∨ ∃ r, x = .ref r) (q : Q (.bl false) H) : rEqL K true (.ref a) (.ref b) H Q := by
  refine ⟨a, b, xs, xs, rfl, rfl, ha, hb, .inr ⟨rfl, fun _ => true, fun j x y e1 e2 => ?_, ?_⟩⟩
  · rw [e1] at e2; cases e2
    rcases fl x (List.mem_of_getElem? e1) with z | ⟨r, rfl⟩
    · have := EqI.flat (K := K) (H := H) z z
      rw [eqV_refl z] at this
      exact this
    · exact .same r
  · have : (List.range xs.length).all (fun _ => true) = true := by simp
    rw [this]
    exact q
end
/-! ### what stays -/
/-- every tuple stays -/
def SameT (H H' : Hp) : Prop := ∀ b xs, H b = some (.tup xs) → H' b = some (.tup xs)
theorem Same.tups {H H' : Hp} (h : Same H H') : SameT H H' := fun b xs e => h b _ e
theorem SameT.trans {H H1 H2 : Hp} (a : SameT H H1) (b : SameT H1 H2) : SameT H H2 := fun c xs e => b c xs (a c xs e)
theorem sameT_new {H : Hp} {p : Addr} {o : HO} (h : H p = none) : SameT H (upd H p o) := fun b xs e => by rw [upd_ne (ne_of_none e h)]; exact e
theorem sameT_lst {H : Hp} {p : Addr} {o : HO} {ys : List V} (h : H p = some (.lst ys)) : SameT H (upd H p o) := fun b xs e => by rw [upd_ne (ne_of e h (by intro z; cases z))]; exact e
theorem same_new {H : Hp} {p : Addr} (h : H p = none) (o : HO) : Same H (upd H p o) := fun b u q => by rw [upd_ne (ne_of_none q h)]; exact q
/-- an address that was free is changed -/
theorem Same.upd {H H' : Hp} {p : Addr} {o : HO} (s : Same H H') (h : H p = none) : Same H (upd H' p o) := fun b u q => by rw [upd_ne (ne_of_none q h)]; exact s b u q
/-! ### lists of pairs -/
def PL (H : Hp) : List V → List (Int × Int) → Prop := Paired fun x p => ∃ r, x = .ref r ∧ H r = some (.tup [.int p.1, .int p.2])
theorem PL.mono {H H' : Hp} {xs : List V} {ps : List (Int × Int)} (h : PL H xs ps) (s : SameT H H') : PL H' xs ps := Paired.mapP h fun _ _ ⟨r, e, z⟩ => ⟨r, e, s r _ z⟩
theorem PL.get {H : Hp} : ∀ {xs : List V} {ps : List (Int × Int)} {i : Nat} {x : V}, PL H xs ps → xs[i]? = some x → ∃ p r, ps[i]? = some p ∧ x = .ref r ∧ H r = some (.tup [.int p.1, .int p.2])
  | _, _, _, _, .nil, e => by simp at e
  | _, _, 0, _, .cons (b := b) ⟨r, e1, z⟩ _, e => by simp at e; subst e; exact ⟨b, r, rfl, e1, z⟩
  | _, _, i + 1, x, .cons _ t, e => by
    obtain ⟨p, r, q⟩ := PL.get (i := i) (x := x) t (by simpa using e)
    exact ⟨p, r, by simpa using q.1, q.2⟩
theorem PL.length {H : Hp} {xs : List V} {ps : List (Int × Int)} (h : PL H xs ps) : xs.length = ps.length := Paired.length h
theorem PL.snoc {H : Hp} {xs : List V} {ps : List (Int × Int)} {r : Addr} {a b : Int} (h : PL H xs ps) (e : H r = some (.tup [.int a, .int b])) : PL H (xs ++ [.ref r]) (ps ++ [(a, b)]) := Paired.snoc h ⟨r, rfl, e⟩
theorem PL.last {H : Hp} {xs : List V} {ps : List (Int × Int)} (h : PL H xs ps) (hn : xs ≠ []) : ∃ xs' r ps' p, xs = xs' ++ [.ref r] ∧ ps = ps' ++ [p] ∧ PL H xs' ps' ∧ H r = some (.tup [.int p.1, .int p.2]) := by
  induction h with
  | nil => exact absurd rfl hn
  | @cons a b l1 l2 hd tl ih =>
    cases tl with
    | nil =>
      obtain ⟨r, e, z⟩ := hd
      exact ⟨[], r, [], b, by rw [e]; rfl, rfl, .nil, z⟩
    | @cons a2 b2 l3 l4 hd2 tl2 =>
      obtain ⟨xs', r, ps', p, e1, e2, h3, h4⟩ := ih (by simp)
      exact ⟨a :: xs', r, b :: ps', p, by rw [e1]; rfl, by rw [e2]; rfl, .cons hd h3, h4⟩
theorem PL.app {H : Hp} {xs ys : List V} {ps qs : List (Int × Int)} (h : PL H xs ps) (h' : PL H ys qs) : PL H (xs ++ ys) (ps ++ qs) := by
  induction h with
  | nil => exact h'
  | cons r t ih => exact .cons r ih
/-! ### lists of triples of ints -/
abbrev Tr := Int × Int × Int
def TL (H : Hp) : List V → List Tr → Prop := Paired fun x t => ∃ r, x = .ref r ∧ H r = some (.tup [.int t.1, .int t.2.1, .int t.2.2])
theorem atI_any {xs : List V} {k : Int} (h0 : 0 ≤ k) (h : k < (xs.length : Int)) : ∃ v, atI xs k = some v ∧ xs[k.toNat]? = some v := by
  have hk : k.toNat < xs.length := by omega
  have ek : k = ((k.toNat : Nat) : Int) := by omega
  have q : atI xs ((k.toNat : Nat) : Int) = some xs[k.toNat] := atI_nat (List.getElem?_eq_getElem hk)
  rw [← ek] at q
  exact ⟨_, q, List.getElem?_eq_getElem hk⟩
theorem dec_t {p : Prop} [Decidable p] (h : decide p = true) : p := of_decide_eq_true h
end L2

namespace L2
open PySem PySem.Spec PyProof.Rows
/-! ### rules that name the written part by itself (within a block) -/
theorem ix_listK {X : Cx} {K : PySem.W.Frag} (h : X.K = K) : IxR X (rIxL K) := h ▸ ix_list
theorem ix_tupK {X : Cx} {K : PySem.W.Frag} (h : X.K = K) : IxR X (rIxT K) := h ▸ ix_tup
/-! ### a list comprehension with one clause whose target is a plain name -/
/-- the block's context: nothing raises in it; the frames that run are the def's own and its callers' -/
def cmpCx (X : Cx) (N : List Str) (scope : Scope) (cl : List (Str × Addr)) (fp : List Addr) (C : Addr) (s2 : Shared) (H2 : Hp) : Cx :=
  { prog := X.prog, w := X.w, K := X.K, mg := X.mg, base := X.base, A := X.A, N := N, s₀ := s2, H₀ := H2, env := compEnvC scope cl C X.env, outer := X.stack, stack := X.stack, ex := fp, fn := fun _ => false, calm := X.calm, pn := [], xe := fun _ _ => False }
/-- the tests of a clause -/
def PIf (X : Cx) (ifs : List Expr) (t : TT) : Prop :=
  ∀ (pins : List (Addr × Obj)) (s : Shared) (σ : St) (H : Hp) (Q : Bool → Hp → Prop), Inv X pins σ H s → t σ H Q →
    wpAny (model X.prog X.w) X.A (forIn ifs true fun c r => if r = true then do let ok ← isTrue c X.env (eval c X.env); pure (ForInStep.yield ok) else pure (ForInStep.yield r)) (TP X pins σ Q) X.xe s
def tYes : TT := fun _ H Q => Q true H
theorem pif_nil {X : Cx} : PIf X [] tYes := fun _ _ _ H _ I h => wpAny_tests_nil ⟨H, I, h⟩
theorem pif_one {X : Cx} {c : Expr} {t : TT} (h : PT X c t) : PIf X [c] t := fun pins s σ H Q I q => wpAny_tests_one (h pins s σ H Q I q)
/-- what is asked of the block's names: N its slots (the target first, then the def's own names that it sees), fr where these stand among the def's slots -/
structure CmpOk (X : Cx) (N : List Str) (fr : List Nat) (scope : Scope) (cl : List (Str × Addr)) (x : Str) : Prop where
  clos : closureFor scope X.env = pure cl
  kind : scope.kind = .function
  nocell : ∀ y ∈ scope.names, y.2 ≠ .cell
  names : ∀ y ∈ scope.names, y.2 = .local → scope.names.lookup y.1 = some .local
  hx : scope.names.lookup x = some .local
  nd : N.Nodup
  n0 : N[0]? = some x
  len : N.length = fr.length + 1
  sub : ∀ (i : Nat) (y : Str), N[i + 1]? = some y → ∃ j, fr[i]? = some j ∧ X.N[j]? = some y ∧ (X.env.kindOf y = some .cell ∨ X.env.kindOf y = some .free) ∧ ((relabel scope X.env).names.lookup y = some .cell ∨ (relabel scope X.env).names.lookup y = some .free)
  cells : ∀ y c, cl.lookup y = some c → X.env.cells.lookup y = some c
  has : ∀ y, ((relabel scope X.env).names.lookup y = some .cell ∨ (relabel scope X.env).names.lookup y = some .free) → ∃ c, cl.lookup y = some c
/-- a block that sees names of the def: those are cells there -/
theorem cmpOk_free {X : Cx} {N : List Str} {fr : List Nat} {scope : Scope} {cl : List (Str × Addr)} {x : Str} (clos : closureFor scope X.env = pure cl) (kind : scope.kind = .function) (nocell : ∀ y ∈ scope.names, y.2 ≠ .cell)
    (names : ∀ y ∈ scope.names, y.2 = .local → scope.names.lookup y.1 = some .local) (hx : scope.names.lookup x = some .local) (nd : N.Nodup) (n0 : N[0]? = some x) (len : N.length = fr.length + 1)
    (sub : ((List.range fr.length).all fun i => match N[i + 1]?, fr[i]? with | some y, some j => (X.N[j]? == some y) && ((X.env.kindOf y == some .cell) && ((relabel scope X.env).names.lookup y == some .cell)) | _, _ => false) = true)
    (cells : ∀ p ∈ cl, X.env.cells.lookup p.1 = some p.2) (has : ((relabel scope X.env).names.all fun p => (p.2 != .cell && p.2 != .free) || (cl.lookup p.1).isSome) = true) : CmpOk X N fr scope cl x := by
  refine ⟨clos, kind, nocell, names, hx, nd, n0, len, fun i y e => ?_, fun y c e => cells _ (PySem.mem_of_lookup e), fun y h => ?_⟩
  · have hi : i < fr.length := by have := (List.getElem?_eq_some_iff.mp e).1; omega
    have z := List.all_eq_true.mp sub i (List.mem_range.mpr hi)
    rw [e, List.getElem?_eq_getElem hi] at z
    simp only [Bool.and_eq_true, beq_iff_eq] at z
    exact ⟨_, List.getElem?_eq_getElem hi, z.1, .inl z.2.1, .inl z.2.2⟩
  · have look : ∀ k, (relabel scope X.env).names.lookup y = some k → (k = .cell ∨ k = .free) → ∃ c, cl.lookup y = some c := fun k e hk => by
      have z := List.all_eq_true.mp has _ (PySem.mem_of_lookup e)
      rcases hk with rfl | rfl
      · exact Option.isSome_iff_exists.mp (by simpa using z)
      · exact Option.isSome_iff_exists.mp (by simpa using z)
    rcases h with h | h
    · exact look _ h (.inl rfl)
    · exact look _ h (.inr rfl)
def cmpSt (σ : St) (fr : List Nat) (x : Option V) : St := x :: fr.map fun j => (σ[j]?).join
/-- the comprehension's reading: D the new list, W the invariant by the turn and a measure -/
def CompAt (J : It) (fr : List Nat) (tt : TT) (te : TE) (σ : St) (Q : VK) (H1 : Hp) : Prop := ∀ D, H1 D = none → ∃ W : Nat → Nat → Hp → Prop, (∃ m, W 0 m (upd H1 D (.lst []))) ∧ ∀ i m H, W i m H →
  (J.stop i H ∧ Q (.ref D) H) ∨ (J.go i H ∧ ∀ x H', J.yld i H x H' → tt (cmpSt σ fr (some x)) H' fun b H2 => if b = true then te (cmpSt σ fr (some x)) H2 fun y H3 => ∃ ys, H3 D = some (.lst ys) ∧ ys.length < sizeLine ∧ ∃ m', m' < m ∧ W (i + 1) m' (upd H3 D (.lst (ys ++ [y])))
    else ∃ m', m' < m ∧ W (i + 1) m' H2)
def tComp (wi : TI) (fr : List Nat) (tt : TT) (te : TE) : TE := fun σ H Q => wi σ H fun J H1 => CompAt J fr tt te σ Q H1
section
variable {prog : Program} {w : World} {A : Around} {R : Result → Shared → Prop} {s : Shared}
theorem comp_turns {elt target iter : Expr} {ifs : List Expr} {scope : Scope} {pos : Pos} {it acc : Value} {env : Env} (J : Nat → Shared → Prop)
    (turn : ∀ n s, J n s → wpAny (model prog w) A (pyNext it) (fun r s1 => match r with
      | none => R (.ok .next) s1
      | some v => wpAny (model prog w) A (letOwnedTupleGo target it v) (fun _ s2 => wpAny (model prog w) A (assign target env v) (fun _ s3 =>
          wpAny (model prog w) A (forIn ifs true fun c r => if r = true then do let ok ← isTrue c env (eval c env); pure (ForInStep.yield ok) else pure (ForInStep.yield r)) (fun ok s4 =>
            if ok = true then wpAny (model prog w) A (eval elt env) (fun y s5 => wpAny (model prog w) A (call (.builtin "list.append") [acc, y]) (fun _ s6 => ∃ m, m < n ∧ J m s6) (fun _ _ => False) s5) (fun _ _ => False) s4
            else ∃ m, m < n ∧ J m s4) (fun _ _ => False) s3) (fun _ _ => False) s2) (fun _ _ => False) s1) (fun _ _ => False) s)
    (n : Nat) (h : J n s) : codeAny (model prog w) A (.compLoop (.ListComp elt [⟨target, iter, ifs, 0⟩] scope pos) 0 it acc env) R s := by
  refine codeAny_loop rfl J (fun n s hJ => ?_) n h
  show wpAny _ A ((compTurn (.ListComp elt [⟨target, iter, ifs, 0⟩] scope pos) 0 it acc env).onRaise (fun x => do noteFrame x env; theTreesLotGoes x)) _ _ s
  refine wpAny_noted ?_
  rw [compTurn_list]
  refine wpAny_bind (wpAny_standAt (wpAny_bind (wpAny_mono (turn n s hJ) (fun r s1 h1 => ?_) fun _ _ z => z.elim)))
  cases r with
  | none => exact wpAny_pure h1
  | some v =>
    refine wpAny_bind (wpAny_mono h1 (fun _ s2 h2 => ?_) fun _ _ z => z.elim)
    refine wpAny_bind (wpAny_mono h2 (fun _ s3 h3 => wpAny_bind (wpAny_mono h3 (fun ok s4 h4 => ?_) fun _ _ z => z.elim)) fun _ _ z => z.elim)
    cases ok with
    | false => exact wpAny_pure ⟨rfl, h4⟩
    | true => exact wpAny_bind (wpAny_bind (wpAny_mono h4 (fun y s5 h5 => wpAny_bind (wpAny_mono h5 (fun _ s6 h6 => wpAny_pure (wpAny_pure ⟨rfl, h6⟩)) fun _ _ z => z.elim)) fun _ _ z => z.elim))
end
section
variable {X : Cx} {elt iter : Expr} {ifs : List Expr} {x : Str} {px pos : Pos} {scope : Scope} {cl : List (Str × Addr)} {N : List Str} {fr : List Nat} {tt : TT} {te : TE}
theorem comp_core {pins : List (Addr × Obj)} {σ : St} {s2 : Shared} {H2 : Hp} {it : Addr} {fp : List Addr} {tn : Nat → Heap → Prop} {J : It} {Q : VK} {E : Value → Shared → Prop} {RR : Value → Addr → Result → Shared → Prop}
    (O : CmpOk X N fr scope cl x) (hc : X.calm = true) (I2 : Inv X pins σ H2 s2) (T : Turn X.prog X.w X.K (.Name x px) J fp it tn) (st2 : tn 0 s2.heap) (f2 : ∀ b ∈ fp, FpOk X pins H2 b)
    (ht : ∀ fp C s H, PIf (cmpCx X N scope cl fp C s H) ifs tt) (he : ∀ fp C s H, PE (cmpCx X N scope cl fp C s H) elt te)
    (hW : CompAt J fr tt te σ Q H2)
    (fin : ∀ D C s' H', s2.heap.objs.size ≤ C → H' C = none → (∃ m, s'.heap.Ns C m) → Inv X pins σ H' s' → Q (.ref D) H' → RR (.ref D) C (.ok .next) s') :
    wpAny (model X.prog X.w) X.A (newList []) (fun acc s3 => wpAny (model X.prog X.w) X.A (newFunctionEnv scope X.env.globals cl [] X.env.qual none .none (some X.env)) (fun cenv s4 =>
      codeAny (model X.prog X.w) X.A (.compStart (.ListComp elt [⟨.Name x px, iter, ifs, 0⟩] scope pos) 0 (.ref it) acc { cenv with scope := relabel scope X.env }) (RR acc cenv.locals) s4) E s3) E s2 := by
  refine wpAny_newObj_type (wpAny_newFunctionEnv O.nocell (by intro y hy; simp at hy) (fun h1 hns hsb => ?_) O.kind)
  dsimp only at hns hsb ⊢
  generalize hG : s2.heap.push { cls := .type "list", dict := none, data := .seq ([] : List Value).toArray } = G at hns hsb ⊢
  have hC : G.objs.size = s2.heap.objs.size + 1 := by rw [← hG, Heap.size_push]
  have old : ∀ b o, s2.heap.get? b = some o → h1.get? b = some o := fun b o e => hsb.extBut b o (Nat.ne_of_lt (by rw [hC]; exact Nat.lt_succ_of_lt (Heap.lt_size e))) (Heap.get?_push_of_some _ (hG ▸ Heap.get?_push_of_some _ e))
  have hacc : h1.get? s2.heap.objs.size = some { cls := .type "list", data := .seq ([] : List Value).toArray 0 } := hsb.extBut _ _ (Nat.ne_of_lt (by rw [hC]; exact Nat.lt_succ_self _)) (Heap.get?_push_of_some _ (hG ▸ Heap.get?_push_size _ rfl))
  have hD : H2 s2.heap.objs.size = none := I2.fresh
  have okX : (cmpCx X N scope cl fp G.objs.size s2 H2).Ok := by
    refine ⟨I2.ok.mod, O.kind, I2.ok.glob, I2.ok.blt, by show s2.heap.objs.size ≤ G.objs.size; rw [hC]; exact Nat.le_succ _, fun y z c e1 e2 => I2.ok.inj y z c (O.cells y c e1) (O.cells z c e2), fun y hy => O.has y hy, fun y c z => absurd (show false = true from z) Bool.false_ne_true, I2.ok.hd, I2.ok.frames, .inl rfl,
      fun b hb => ⟨?_, fun y c e => (f2 b hb).2.2.2.2.1 y c (O.cells y c e)⟩, I2.bs, Nat.le_trans I2.ok.bsz I2.sz, fun b o e hb => ?_, fun b hb z => ?_, I2.stack, I2.stkFree⟩
    · obtain ⟨o, e, _⟩ := T.obj _ _ st2 b hb
      show b ≠ G.objs.size
      exact Nat.ne_of_lt (by rw [hC]; exact Nat.lt_succ_of_lt (Heap.lt_size e))
    · rcases (f2 b hb).2.2.2.1 with z | z
      · exact I2.ok.noex b o e z
      · exact absurd (Nat.lt_of_lt_of_le (Heap.lt_size e) (Nat.le_trans I2.ok.bsz z)) (Nat.lt_irrefl _)
    · rcases List.mem_cons.mp (I2.stkSub b z) with z | z
      · exact (f2 b hb).2.1 z
      · exact (f2 b hb).2.2.1 z
  have statX : ∀ {H' : Hp}, (∀ b ∈ fp, H' b = none) → ∀ b ∈ fp, FpOk (cmpCx X N scope cl fp G.objs.size s2 H2) [] H' b := fun hn b hb =>
    ⟨hn b hb, (okX.exf b hb).1, okX.exfs b hb, .inl hb, (okX.exf b hb).2, fun p hp => absurd (show p ∈ ([] : List (Addr × Obj)) from hp) (by simp)⟩
  have I' : Inv (cmpCx X N scope cl fp G.objs.size s2 H2) [] (cmpSt σ fr none) (upd H2 s2.heap.objs.size (.lst [])) { s2 with heap := h1, toks := s2.toks + ([] : List (Str × Value)).length } := by
    refine ⟨okX, rfl, I2.bare, Un.laid old (Nat.le_refl _) hD, ⟨_, hns, fun i y v e1 e2 e3 => ?_⟩, fun y c e => ?_, ?_, fun y c e => ?_, fun p hp => absurd (show p ∈ ([] : List (Addr × Obj)) from hp) (by simp), I2.hok.laid old (Nat.le_refl _) ⟨Nat.zero_le _, [], 0, .nil, hacc⟩, ?_⟩
    · cases i with
      | zero => cases e2
      | succ i =>
        obtain ⟨j, q1, q2, q3, q4⟩ := O.sub i y e1
        have e2' : (σ[j]?).join = some v := by
          have : (fr.map fun j => (σ[j]?).join)[i]? = some (some v) := e2
          rw [List.getElem?_map, q1] at this
          exact Option.some.inj this
        have e4 : σ[j]? = some (some v) := by
          cases z : σ[j]? with
          | none => rw [z] at e2'; cases e2'
          | some t => rw [z] at e2'; exact congrArg some e2'
        obtain ⟨m, _, hl⟩ := I2.loc
        have vis : Vis X.env.scope y := .inr q3
        obtain ⟨u, r, l⟩ := hl j y v q2 e4 vis
        refine ⟨u, r, .inr ⟨q4, ?_⟩⟩
        obtain ⟨c', hc'⟩ := O.has y q4
        rcases l with ⟨k, _⟩ | ⟨_, c, ec, ic⟩
        · rcases q3 with z | z
          · rw [z] at k; cases k
          · rw [z] at k; cases k
        · have := O.cells y c' hc'
          have e' : c = c' := Option.some.inj (ec.symm.trans this)
          obtain ⟨o, ho, hd⟩ := ic
          rw [e'] at ho
          exact ⟨c', hc', o, old c' o ho, hd⟩
    · obtain ⟨v, o, ho, hd⟩ := I2.cell y c (O.cells y c e)
      exact ⟨v, o, old c o ho, hd⟩
    · show upd H2 s2.heap.objs.size (.lst []) G.objs.size = none
      rw [upd_ne (Nat.ne_of_gt (by rw [hC]; exact Nat.lt_succ_self _))]
      exact I2.hok.fresh (by rw [hC]; exact Nat.le_succ _)
    · obtain ⟨v, o, ho, hd⟩ := I2.cell y c (O.cells y c e)
      rw [upd_ne (Nat.ne_of_lt (Heap.lt_size ho))]
      exact I2.freeC y c (O.cells y c e)
    · show (cmpSt σ fr none).length = N.length
      rw [O.len]; simp [cmpSt]
  have st1 : tn 0 h1 := T.keep _ _ _ st2 fun b hb o e => old b o e
  have loop : ∀ s3 : Shared, s3 = { s2 with heap := h1, toks := s2.toks + ([] : List (Str × Value)).length } →
      codeAny (model X.prog X.w) X.A (.compLoop (.ListComp elt [⟨.Name x px, iter, ifs, 0⟩] scope pos) 0 (.ref it) (.ref s2.heap.objs.size) (compEnvC scope cl G.objs.size X.env)) (RR (.ref s2.heap.objs.size) G.objs.size) s3 := by
    rintro s3 rfl
    obtain ⟨W, ⟨m0, w0⟩, turn⟩ := hW _ hD
    refine comp_turns (fun n s' => ∃ i t H', Inv (cmpCx X N scope cl fp G.objs.size s2 H2) [] (cmpSt σ fr t) H' s' ∧ tn i s'.heap ∧ (∀ b ∈ fp, H' b = none) ∧ W i n H') ?_ m0
      ⟨0, none, _, I', st1, fun b hb => by
        rw [upd_ne (by obtain ⟨o, e, _⟩ := T.obj _ _ st2 b hb; exact Nat.ne_of_lt (Heap.lt_size e))]
        exact (f2 b hb).1, w0⟩
    rintro n s' ⟨i, t, H', I3, st3, fr3, w3⟩
    rcases turn i n H' w3 with ⟨stop, qn⟩ | ⟨go, step⟩
    · refine thn (T.done (cmpCx X N scope cl fp G.objs.size s2 H2) rfl rfl rfl hc i [] s' _ H' _ I3 (statX fr3) st3 stop) fun r s4 ⟨hr, I4⟩ => ?_
      subst hr
      obtain ⟨m, hm, _⟩ := I4.loc
      refine fin _ _ s4 H' (by rw [hC]; exact Nat.le_succ _) I4.free ⟨m, hm⟩ (I2.call' (ch := fp) I4.os I4.base I4.hok I4.bare fun b hb => ?_) qn
      exact ⟨(f2 b hb).2.2.2.1, (f2 b hb).2.1, (f2 b hb).2.2.2.2.1, (f2 b hb).2.2.2.2.2⟩
    · refine thn (T.item (cmpCx X N scope cl fp G.objs.size s2 H2) rfl rfl rfl hc i [] s' _ H' _ I3 (statX fr3) st3 go) fun r s4 ⟨u, hr, h4⟩ => ?_
      subst hr
      refine thn h4 fun _ s5 ⟨y, H5, I5, r5, y5, st5, fr5⟩ => ?_
      have I5' := I5.pinned (statX fr5) (T.obj _ _ st5)
      have lx : (cmpCx X N scope cl fp G.objs.size s2 H2).env.scope.names.lookup x = some .local := lookup_relabel_local O.hx
      refine thn (pg_name (X := cmpCx X N scope cl fp G.objs.size s2 H2) (i := 0) O.nd O.n0 (.inl lx) (.inr lx) _ s5 _ H5 y u (fun σ' H' => σ' = cmpSt σ fr (some y) ∧ H' = H5) I5' r5 ⟨rfl, rfl⟩) fun _ s6 ⟨σ6, H6, I6, e6, e6'⟩ => ?_
      subst e6; subst e6'
      have again : ∀ {σ7 : St} {H7 : Hp} {s7 : Shared} {m' : Nat}, σ7 = cmpSt σ fr (some y) → Inv (cmpCx X N scope cl fp G.objs.size s2 H2) ([] ++ pinsAt fp s5.heap) σ7 H7 s7 → m' < n → W (i + 1) m' H7 →
          ∃ m, m < n ∧ ∃ i t H', Inv (cmpCx X N scope cl fp G.objs.size s2 H2) [] (cmpSt σ fr t) H' s7 ∧ tn i s7.heap ∧ (∀ b ∈ fp, H' b = none) ∧ W i m H' := fun {σ7 H7 s7 m'} e7 I7 hm w7 => by
        subst e7
        refine ⟨m', hm, i + 1, some y, H7, I7.unpinned, T.keep _ _ _ st5 fun b hb o e => (I7.pin (b, o) (List.mem_append_right _ (List.mem_append_right _ (mem_pinsAt hb e)))).1, fun b hb => ?_, w7⟩
        obtain ⟨o, e, d⟩ := T.obj _ _ st5 b hb
        exact (I7.pin (b, o) (List.mem_append_right _ (List.mem_append_right _ (mem_pinsAt hb e)))).2.1
      refine thn (ht fp G.objs.size s2 H2 _ s6 _ H6 _ I6 (step y H6 y5)) fun ok s7 ⟨H7, I7, q7⟩ => ?_
      cases ok with
      | false =>
        rw [if_neg Bool.false_ne_true] at q7 ⊢
        obtain ⟨m', hm, w7⟩ := q7
        exact again rfl I7 hm w7
      | true =>
        rw [if_pos rfl] at q7 ⊢
        refine thn (he fp G.objs.size s2 H2 _ s7 _ H7 _ I7 q7) fun u8 s8 ⟨v8, H8, I8, r8, ys, hys, hlen, m', hm, w8⟩ => ?_
        refine thn (mt_append (X := cmpCx X N scope cl fp G.objs.size s2 H2) _ s8 _ H8 (.ref s2.heap.objs.size) [v8] _ [u8] (fun _ H9 => W (i + 1) m' H9) I8 rfl (.cons r8 .nil) ⟨_, ys, v8, rfl, rfl, hys, hlen, w8⟩) fun _ s9 ⟨_, H9, I9, _, w9⟩ => ?_
        exact again rfl I9 hm w9
  exact codeAny_compStart_list (loop _ rfl) (T.self _ 0 _ _ _ st1 (loop _ rfl))
/-- the frame of a block is let go -/
theorem Inv.left {pins : List (Addr × Obj)} {σ σ2 : St} {s2 s' : Shared} {H2 H' : Hp} {C : Addr} {h' : Heap} (I2 : Inv X pins σ2 H2 s2) (I' : Inv X pins σ H' s') (hC : s2.heap.objs.size ≤ C) (hn : H' C = none) (hs : Heap.SameBut C s'.heap h') : Inv X pins σ H' { s' with heap := h' } := by
  refine I'.turned (t' := s'.toks) (it := C) (fun b o hb e => (hs.2 b hb).trans e) hn (Nat.ne_of_gt (Nat.lt_of_lt_of_le I2.lt hC)) (.inr (Nat.le_trans I2.sz hC)) (fun y c e => ?_) fun p hp => ?_
  · obtain ⟨v, o, ho, _⟩ := I2.cell y c e
    exact Nat.ne_of_lt (Nat.lt_of_lt_of_le (Heap.lt_size ho) hC)
  · exact Nat.ne_of_lt (Nat.lt_of_lt_of_le (Heap.lt_size (I2.pin p hp).1) hC)
/-- y = [elt for x in iter if ..], both on one row: stored ahead of the block's end -/
theorem ps_comp {wi : TI} {i : Nat} {y : Str} {py spos : Pos} (hN : X.N.Nodup) (hy : X.N[i]? = some y) (hl : Loc X.env.scope y) (hi : PI X (.Name x px) iter wi) (O : CmpOk X N fr scope cl x) (hc : X.calm = true)
    (ht : ∀ fp C s H, PIf (cmpCx X N scope cl fp C s H) ifs tt) (he : ∀ fp C s H, PE (cmpCx X N scope cl fp C s H) elt te) (hs : ∀ v, foldedSetIterable iter X.env v = pure v := by intro _; rfl)
    (hsw : swapsWith (.ListComp elt [⟨.Name x px, iter, ifs, 0⟩] scope pos) (some (.Name y py)) spos.line X.env = pure true := by rfl) (hf : X.fn y = true ∨ X.env.scope.names.lookup y = some .local := by first | exact .inl rfl | exact .inr rfl | assumption) :
    PS X (.Assign [.Name y py] (.ListComp elt [⟨.Name x px, iter, ifs, 0⟩] scope pos) spos) (tAsg (tComp wi fr tt te) (gName i)) := by
  intro pins s σ H D0 I h
  rw [exec_Assign_Name_used _ _ _ _ hsw]
  refine wpAny_bind (wpAny_standAt (wpAny_bind ?_))
  show wpAny _ X.A (do let _ ← comprehension (.ListComp elt [⟨.Name x px, iter, ifs, 0⟩] scope pos) scope X.env _ (newList []) false (eval iter X.env) (some (assign (.Name y py) X.env))) _ _ s
  refine wpAny_bind (wpAny_mono (wpAny_comprehension_free (use := some (assign (.Name y py) X.env)) (Q := fun _ s' => SP X pins D0 .next s') rfl hs O.clos O.kind O.names (thn (hi pins s σ H _ I h) fun v s1 h1 => thn h1 fun itv s2 h2 => ?_)) (fun _ s' hq => wpAny_pure (wpAny_pure hq)) fun _ _ z => z)
  obtain ⟨it, fp, tn, J, H2, e, I2, T, st2, f2, hW⟩ := h2
  subst e
  refine comp_core (Q := fun v H1 => gName i v σ H1 D0.nx) (RR := fun acc C => compPost (model X.prog X.w) X.A X.xe (some (assign (.Name y py) X.env)) (fun _ s' => SP X pins D0 .next s') acc C) O hc I2 T st2 f2 ht he hW fun D C s' H' hC hn ⟨m, hm⟩ I' q => ?_
  show wpAny _ X.A (assign (.Name y py) X.env (.ref D)) _ _ s'
  refine wpAny_assign_Name (store_ok2 I' hN hy hl (v := .ref D) rfl (fun s3 I3 ⟨a, hsa, ha⟩ => ?_) hf)
  have hCa : C ≠ a := by
    rcases ha with z | z
    · rw [z]; exact Nat.ne_of_gt (Nat.lt_of_lt_of_le I2.lt hC)
    · obtain ⟨v, o, ho, _⟩ := I2.cell y a z
      exact Nat.ne_of_gt (Nat.lt_of_lt_of_le (Heap.lt_size ho) hC)
  exact ⟨m, hm.sameBut hsa hCa, fun h' hs' => ⟨_, H', I2.left I3 hC hn hs', q⟩⟩
/-- what is wanted behind a turn that tells nothing; behind one that tells y -/
def CNext (Pv : Addr → Nat → List V → Hp → Prop) (D : Addr) (i n : Nat) (H2 : Hp) : Prop := ∃ m', m' < n - i ∧ m' = n - (i + 1) ∧ i + 1 ≤ n ∧ ∃ zs, Pv D (i + 1) zs H2
def CYes (Pv : Addr → Nat → List V → Hp → Prop) (D : Addr) (i n : Nat) : VK := fun y H3 => ∃ ys, H3 D = some (.lst ys) ∧ ys.length < sizeLine ∧ CNext Pv D i n (upd H3 D (.lst (ys ++ [y])))
theorem CNext.mk {Pv : Addr → Nat → List V → Hp → Prop} {D : Addr} {i n : Nat} {H2 : Hp} {zs : List V} (hi : i < n) (h : Pv D (i + 1) zs H2) : CNext Pv D i n H2 := ⟨n - (i + 1), by omega, rfl, hi, zs, h⟩
theorem CYes.mk {Pv : Addr → Nat → List V → Hp → Prop} {D : Addr} {i n : Nat} {H3 : Hp} {ys : List V} {y : V} (hi : i < n) (e : H3 D = some (.lst ys)) (hl : ys.length < sizeLine) (h : Pv D (i + 1) (ys ++ [y]) (upd H3 D (.lst (ys ++ [y])))) : CYes Pv D i n y H3 := ⟨ys, e, hl, .mk hi h⟩
/-- over a list that the block leaves as it is -/
theorem comp_list {K : PySem.W.Frag} {a : Addr} {xs : List V} {σ : St} {H1 : Hp} {Q : VK} (Pv : Addr → Nat → List V → Hp → Prop) (h0 : ∀ D, H1 D = none → Pv D 0 [] (upd H1 D (.lst [])))
    (hk : ∀ D i ys H, H1 D = none → i ≤ xs.length → Pv D i ys H → SqL K H a xs)
    (hs : ∀ D i x ys H, H1 D = none → xs[i]? = some x → Pv D i ys H → tt (cmpSt σ fr (some x)) H fun b H2 => if b = true then te (cmpSt σ fr (some x)) H2 (CYes Pv D i xs.length) else CNext Pv D i xs.length H2)
    (hd : ∀ D ys H, H1 D = none → Pv D xs.length ys H → Q (.ref D) H) : CompAt (Itl K a) fr tt te σ Q H1 := by
  intro D hD
  refine ⟨fun i m H => m = xs.length - i ∧ i ≤ xs.length ∧ ∃ ys, Pv D i ys H, ⟨_, rfl, Nat.zero_le _, [], h0 D hD⟩, ?_⟩
  rintro i m H ⟨rfl, hi, ys, p⟩
  have q := hk D i ys H hD hi p
  by_cases hlt : i < xs.length
  · refine .inr ⟨⟨xs, xs[i], q, by simp [hlt]⟩, fun x H' y => ?_⟩
    obtain ⟨e, y⟩ := y
    subst e
    exact hs D i x ys _ hD (y xs q) p
  · have e : i = xs.length := by omega
    subst e
    exact .inl ⟨⟨xs, q, Nat.le_refl _⟩, hd D ys H hD p⟩
/-- over a range -/
theorem comp_range {lo : Int} {n : Nat} {σ : St} {H1 : Hp} {Q : VK} (Pv : Addr → Nat → List V → Hp → Prop) (h0 : ∀ D, H1 D = none → Pv D 0 [] (upd H1 D (.lst [])))
    (hs : ∀ D i ys H, H1 D = none → i < n → Pv D i ys H → tt (cmpSt σ fr (some (.int (lo + i)))) H fun b H2 => if b = true then te (cmpSt σ fr (some (.int (lo + i)))) H2 (CYes Pv D i n) else CNext Pv D i n H2)
    (hd : ∀ D ys H, H1 D = none → Pv D n ys H → Q (.ref D) H) : CompAt (Itr lo n) fr tt te σ Q H1 := by
  intro D hD
  refine ⟨fun i m H => m = n - i ∧ i ≤ n ∧ ∃ ys, Pv D i ys H, ⟨_, rfl, Nat.zero_le _, [], h0 D hD⟩, ?_⟩
  rintro i m H ⟨rfl, hi, ys, p⟩
  by_cases hlt : i < n
  · refine .inr ⟨hlt, fun x H' y => ?_⟩
    obtain ⟨e, y⟩ := y
    subst e; subst y
    exact hs D i ys _ hD hlt p
  · have e : i = n := by omega
    subst e
    exact .inl ⟨Nat.le_refl _, hd D ys H hD p⟩
end
end L2

namespace L2
open PySem PySem.Spec PyProof.Rows
/-! ### a list comprehension whose target is any (a tuple of names): k names of the target first, then the def's own that the block sees -/
structure CmpOkG (X : Cx) (N : List Str) (k : Nat) (fr : List Nat) (scope : Scope) (cl : List (Str × Addr)) : Prop where
  clos : closureFor scope X.env = pure cl
  kind : scope.kind = .function
  nocell : ∀ y ∈ scope.names, y.2 ≠ .cell
  names : ∀ y ∈ scope.names, y.2 = .local → scope.names.lookup y.1 = some .local
  len : N.length = k + fr.length
  sub : ∀ (i : Nat) (y : Str), N[k + i]? = some y → ∃ j, fr[i]? = some j ∧ X.N[j]? = some y ∧ (X.env.kindOf y = some .cell ∨ X.env.kindOf y = some .free) ∧ ((relabel scope X.env).names.lookup y = some .cell ∨ (relabel scope X.env).names.lookup y = some .free)
  cells : ∀ y c, cl.lookup y = some c → X.env.cells.lookup y = some c
  has : ∀ y, ((relabel scope X.env).names.lookup y = some .cell ∨ (relabel scope X.env).names.lookup y = some .free) → ∃ c, cl.lookup y = some c
theorem cmpOkG_plain {X : Cx} {N : List Str} {k : Nat} {scope : Scope} (len : N.length = k) (kind : scope.kind = .function) (nofree : ∀ y ∈ scope.names, y.2 ≠ .free) (nocell : ∀ y ∈ scope.names, y.2 ≠ .cell)
    (names : ∀ y ∈ scope.names, y.2 = .local → scope.names.lookup y.1 = some .local) : CmpOkG X N k [] scope [] := by
  have er : (relabel scope X.env).names = scope.names := map_eq_self fun y hy => by
    have z : (y.2 == NameKind.free) = false := by simpa using nofree y hy
    simp [z]
  have no : ∀ y, ¬ ((relabel scope X.env).names.lookup y = some .cell ∨ (relabel scope X.env).names.lookup y = some .free) := fun y h => by
    rw [er] at h
    rcases h with h | h
    · exact nocell _ (PySem.mem_of_lookup h) rfl
    · exact nofree _ (PySem.mem_of_lookup h) rfl
  refine ⟨closureFor_none nofree, kind, nocell, names, by rw [len]; rfl, fun i y e => ?_, (fun y c e => by cases e), fun y h => absurd h (no y)⟩
  have := (List.getElem?_eq_some_iff.mp e).1
  omega
def cmpStG (σ : St) (fr : List Nat) (ts : St) : St := ts ++ fr.map fun j => (σ[j]?).join
def CompAtG (J : It) (gt : TG) (k : Nat) (fr : List Nat) (tt : TT) (te : TE) (σ : St) (Q : VK) (H1 : Hp) : Prop := ∀ D, H1 D = none → ∃ W : Nat → Nat → Hp → Prop, (∃ m, W 0 m (upd H1 D (.lst []))) ∧ ∀ i m H, W i m H →
  (J.stop i H ∧ Q (.ref D) H) ∨ (J.go i H ∧ ∀ x H', J.yld i H x H' → ∀ ts : St, ts.length = k → gt x (cmpStG σ fr ts) H' fun σ2 H2 => (∃ ts2 : St, ts2.length = k ∧ σ2 = cmpStG σ fr ts2) ∧ tt σ2 H2 fun b H3 => if b = true then te σ2 H3 fun y H4 => ∃ ys, H4 D = some (.lst ys) ∧ ys.length < sizeLine ∧ ∃ m', m' < m ∧ W (i + 1) m' (upd H4 D (.lst (ys ++ [y])))
    else ∃ m', m' < m ∧ W (i + 1) m' H3)
def tCompG (wi : TI) (gt : TG) (k : Nat) (fr : List Nat) (tt : TT) (te : TE) : TE := fun σ H Q => wi σ H fun J H1 => CompAtG J gt k fr tt te σ Q H1
section
variable {X : Cx} {elt iter tg : Expr} {ifs : List Expr} {pos : Pos} {scope : Scope} {cl : List (Str × Addr)} {N : List Str} {k : Nat} {fr : List Nat} {gt : TG} {tt : TT} {te : TE}
theorem comp_coreG {pins : List (Addr × Obj)} {σ : St} {s2 : Shared} {H2 : Hp} {it : Addr} {fp : List Addr} {tn : Nat → Heap → Prop} {J : It} {Q : VK} {E : Value → Shared → Prop} {RR : Value → Addr → Result → Shared → Prop}
    (O : CmpOkG X N k fr scope cl) (hc : X.calm = true) (I2 : Inv X pins σ H2 s2) (T : Turn X.prog X.w X.K tg J fp it tn) (st2 : tn 0 s2.heap) (f2 : ∀ b ∈ fp, FpOk X pins H2 b)
    (ht : ∀ fp C s H, PIf (cmpCx X N scope cl fp C s H) ifs tt) (he : ∀ fp C s H, PE (cmpCx X N scope cl fp C s H) elt te)
    (hg : ∀ fp C s H, PG (cmpCx X N scope cl fp C s H) tg gt) (hW : CompAtG J gt k fr tt te σ Q H2)
    (fin : ∀ D C s' H', s2.heap.objs.size ≤ C → H' C = none → (∃ m, s'.heap.Ns C m) → Inv X pins σ H' s' → Q (.ref D) H' → RR (.ref D) C (.ok .next) s') :
    wpAny (model X.prog X.w) X.A (newList []) (fun acc s3 => wpAny (model X.prog X.w) X.A (newFunctionEnv scope X.env.globals cl [] X.env.qual none .none (some X.env)) (fun cenv s4 =>
      codeAny (model X.prog X.w) X.A (.compStart (.ListComp elt [⟨tg, iter, ifs, 0⟩] scope pos) 0 (.ref it) acc { cenv with scope := relabel scope X.env }) (RR acc cenv.locals) s4) E s3) E s2 := by
  refine wpAny_newObj_type (wpAny_newFunctionEnv O.nocell (by intro y hy; simp at hy) (fun h1 hns hsb => ?_) O.kind)
  dsimp only at hns hsb ⊢
  generalize hG : s2.heap.push { cls := .type "list", dict := none, data := .seq ([] : List Value).toArray } = G at hns hsb ⊢
  have hC : G.objs.size = s2.heap.objs.size + 1 := by rw [← hG, Heap.size_push]
  have old : ∀ b o, s2.heap.get? b = some o → h1.get? b = some o := fun b o e => hsb.extBut b o (Nat.ne_of_lt (by rw [hC]; exact Nat.lt_succ_of_lt (Heap.lt_size e))) (Heap.get?_push_of_some _ (hG ▸ Heap.get?_push_of_some _ e))
  have hacc : h1.get? s2.heap.objs.size = some { cls := .type "list", data := .seq ([] : List Value).toArray 0 } := hsb.extBut _ _ (Nat.ne_of_lt (by rw [hC]; exact Nat.lt_succ_self _)) (Heap.get?_push_of_some _ (hG ▸ Heap.get?_push_size _ rfl))
  have hD : H2 s2.heap.objs.size = none := I2.fresh
  have okX : (cmpCx X N scope cl fp G.objs.size s2 H2).Ok := by
    refine ⟨I2.ok.mod, O.kind, I2.ok.glob, I2.ok.blt, by show s2.heap.objs.size ≤ G.objs.size; rw [hC]; exact Nat.le_succ _, fun y z c e1 e2 => I2.ok.inj y z c (O.cells y c e1) (O.cells z c e2), fun y hy => O.has y hy, fun y c z => absurd (show false = true from z) Bool.false_ne_true, I2.ok.hd, I2.ok.frames, .inl rfl,
      fun b hb => ⟨?_, fun y c e => (f2 b hb).2.2.2.2.1 y c (O.cells y c e)⟩, I2.bs, Nat.le_trans I2.ok.bsz I2.sz, fun b o e hb => ?_, fun b hb z => ?_, I2.stack, I2.stkFree⟩
    · obtain ⟨o, e, _⟩ := T.obj _ _ st2 b hb
      show b ≠ G.objs.size
      exact Nat.ne_of_lt (by rw [hC]; exact Nat.lt_succ_of_lt (Heap.lt_size e))
    · rcases (f2 b hb).2.2.2.1 with z | z
      · exact I2.ok.noex b o e z
      · exact absurd (Nat.lt_of_lt_of_le (Heap.lt_size e) (Nat.le_trans I2.ok.bsz z)) (Nat.lt_irrefl _)
    · rcases List.mem_cons.mp (I2.stkSub b z) with z | z
      · exact (f2 b hb).2.1 z
      · exact (f2 b hb).2.2.1 z
  have statX : ∀ {H' : Hp}, (∀ b ∈ fp, H' b = none) → ∀ b ∈ fp, FpOk (cmpCx X N scope cl fp G.objs.size s2 H2) [] H' b := fun hn b hb =>
    ⟨hn b hb, (okX.exf b hb).1, okX.exfs b hb, .inl hb, (okX.exf b hb).2, fun p hp => absurd (show p ∈ ([] : List (Addr × Obj)) from hp) (by simp)⟩
  have I' : Inv (cmpCx X N scope cl fp G.objs.size s2 H2) [] (cmpStG σ fr (List.replicate k none)) (upd H2 s2.heap.objs.size (.lst [])) { s2 with heap := h1, toks := s2.toks + ([] : List (Str × Value)).length } := by
    refine ⟨okX, rfl, I2.bare, Un.laid old (Nat.le_refl _) hD, ⟨_, hns, fun i y v e1 e2 e3 => ?_⟩, fun y c e => ?_, ?_, fun y c e => ?_, fun p hp => absurd (show p ∈ ([] : List (Addr × Obj)) from hp) (by simp), I2.hok.laid old (Nat.le_refl _) ⟨Nat.zero_le _, [], 0, .nil, hacc⟩, ?_⟩
    · by_cases hik : i < k
      · have e2' : (List.replicate k none ++ fr.map fun j => (σ[j]?).join)[i]? = some (some v) := e2
        rw [List.getElem?_append_left (by rw [List.length_replicate]; exact hik), List.getElem?_replicate, if_pos hik] at e2'
        cases e2'
      · obtain ⟨j, q1, q2, q3, q4⟩ := O.sub (i - k) y (by rw [show k + (i - k) = i by omega]; exact e1)
        have e2' : (σ[j]?).join = some v := by
          have : (List.replicate k none ++ fr.map fun j => (σ[j]?).join)[i]? = some (some v) := e2
          rw [List.getElem?_append_right (by rw [List.length_replicate]; omega), List.length_replicate, List.getElem?_map, q1] at this
          exact Option.some.inj this
        have e4 : σ[j]? = some (some v) := by
          cases z : σ[j]? with
          | none => rw [z] at e2'; cases e2'
          | some t => rw [z] at e2'; exact congrArg some e2'
        obtain ⟨m, _, hl⟩ := I2.loc
        have vis : Vis X.env.scope y := .inr q3
        obtain ⟨u, r, l⟩ := hl j y v q2 e4 vis
        refine ⟨u, r, .inr ⟨q4, ?_⟩⟩
        obtain ⟨c', hc'⟩ := O.has y q4
        rcases l with ⟨k, _⟩ | ⟨_, c, ec, ic⟩
        · rcases q3 with z | z
          · rw [z] at k; cases k
          · rw [z] at k; cases k
        · have := O.cells y c' hc'
          have e' : c = c' := Option.some.inj (ec.symm.trans this)
          obtain ⟨o, ho, hd⟩ := ic
          rw [e'] at ho
          exact ⟨c', hc', o, old c' o ho, hd⟩
    · obtain ⟨v, o, ho, hd⟩ := I2.cell y c (O.cells y c e)
      exact ⟨v, o, old c o ho, hd⟩
    · show upd H2 s2.heap.objs.size (.lst []) G.objs.size = none
      rw [upd_ne (Nat.ne_of_gt (by rw [hC]; exact Nat.lt_succ_self _))]
      exact I2.hok.fresh (by rw [hC]; exact Nat.le_succ _)
    · obtain ⟨v, o, ho, hd⟩ := I2.cell y c (O.cells y c e)
      rw [upd_ne (Nat.ne_of_lt (Heap.lt_size ho))]
      exact I2.freeC y c (O.cells y c e)
    · show (cmpStG σ fr (List.replicate k none)).length = N.length
      rw [O.len]; simp [cmpStG]
  have st1 : tn 0 h1 := T.keep _ _ _ st2 fun b hb o e => old b o e
  have loop : ∀ s3 : Shared, s3 = { s2 with heap := h1, toks := s2.toks + ([] : List (Str × Value)).length } →
      codeAny (model X.prog X.w) X.A (.compLoop (.ListComp elt [⟨tg, iter, ifs, 0⟩] scope pos) 0 (.ref it) (.ref s2.heap.objs.size) (compEnvC scope cl G.objs.size X.env)) (RR (.ref s2.heap.objs.size) G.objs.size) s3 := by
    rintro s3 rfl
    obtain ⟨W, ⟨m0, w0⟩, turn⟩ := hW _ hD
    refine comp_turns (fun n s' => ∃ i ts H', ts.length = k ∧ Inv (cmpCx X N scope cl fp G.objs.size s2 H2) [] (cmpStG σ fr ts) H' s' ∧ tn i s'.heap ∧ (∀ b ∈ fp, H' b = none) ∧ W i n H') ?_ m0
      ⟨0, List.replicate k none, _, List.length_replicate, I', st1, fun b hb => by
        rw [upd_ne (by obtain ⟨o, e, _⟩ := T.obj _ _ st2 b hb; exact Nat.ne_of_lt (Heap.lt_size e))]
        exact (f2 b hb).1, w0⟩
    rintro n s' ⟨i, ts, H', hts, I3, st3, fr3, w3⟩
    rcases turn i n H' w3 with ⟨stop, qn⟩ | ⟨go, step⟩
    · refine thn (T.done (cmpCx X N scope cl fp G.objs.size s2 H2) rfl rfl rfl hc i [] s' _ H' _ I3 (statX fr3) st3 stop) fun r s4 ⟨hr, I4⟩ => ?_
      subst hr
      obtain ⟨m, hm, _⟩ := I4.loc
      refine fin _ _ s4 H' (by rw [hC]; exact Nat.le_succ _) I4.free ⟨m, hm⟩ (I2.call' (ch := fp) I4.os I4.base I4.hok I4.bare fun b hb => ?_) qn
      exact ⟨(f2 b hb).2.2.2.1, (f2 b hb).2.1, (f2 b hb).2.2.2.2.1, (f2 b hb).2.2.2.2.2⟩
    · refine thn (T.item (cmpCx X N scope cl fp G.objs.size s2 H2) rfl rfl rfl hc i [] s' _ H' _ I3 (statX fr3) st3 go) fun r s4 ⟨u, hr, h4⟩ => ?_
      subst hr
      refine thn h4 fun _ s5 ⟨y, H5, I5, r5, y5, st5, fr5⟩ => ?_
      have I5' := I5.pinned (statX fr5) (T.obj _ _ st5)
      refine thn (hg fp G.objs.size s2 H2 _ s5 _ H5 y u _ I5' r5 (step y H5 y5 ts hts)) fun _ s6 ⟨σ6, H6, I6, ⟨ts6, hts6, e6⟩, q6⟩ => ?_
      subst e6
      have again : ∀ {σ7 : St} {H7 : Hp} {s7 : Shared} {m' : Nat}, σ7 = cmpStG σ fr ts6 → Inv (cmpCx X N scope cl fp G.objs.size s2 H2) ([] ++ pinsAt fp s5.heap) σ7 H7 s7 → m' < n → W (i + 1) m' H7 →
          ∃ m, m < n ∧ ∃ i ts H', ts.length = k ∧ Inv (cmpCx X N scope cl fp G.objs.size s2 H2) [] (cmpStG σ fr ts) H' s7 ∧ tn i s7.heap ∧ (∀ b ∈ fp, H' b = none) ∧ W i m H' := fun {σ7 H7 s7 m'} e7 I7 hm w7 => by
        subst e7
        refine ⟨m', hm, i + 1, ts6, H7, hts6, I7.unpinned, T.keep _ _ _ st5 fun b hb o e => (I7.pin (b, o) (List.mem_append_right _ (List.mem_append_right _ (mem_pinsAt hb e)))).1, fun b hb => ?_, w7⟩
        obtain ⟨o, e, d⟩ := T.obj _ _ st5 b hb
        exact (I7.pin (b, o) (List.mem_append_right _ (List.mem_append_right _ (mem_pinsAt hb e)))).2.1
      refine thn (ht fp G.objs.size s2 H2 _ s6 _ H6 _ I6 q6) fun ok s7 ⟨H7, I7, q7⟩ => ?_
      cases ok with
      | false =>
        rw [if_neg Bool.false_ne_true] at q7 ⊢
        obtain ⟨m', hm, w7⟩ := q7
        exact again rfl I7 hm w7
      | true =>
        rw [if_pos rfl] at q7 ⊢
        refine thn (he fp G.objs.size s2 H2 _ s7 _ H7 _ I7 q7) fun u8 s8 ⟨v8, H8, I8, r8, ys, hys, hlen, m', hm, w8⟩ => ?_
        refine thn (mt_append (X := cmpCx X N scope cl fp G.objs.size s2 H2) _ s8 _ H8 (.ref s2.heap.objs.size) [v8] _ [u8] (fun _ H9 => W (i + 1) m' H9) I8 rfl (.cons r8 .nil) ⟨_, ys, v8, rfl, rfl, hys, hlen, w8⟩) fun _ s9 ⟨_, H9, I9, _, w9⟩ => ?_
        exact again rfl I9 hm w9
  exact codeAny_compStart_list (loop _ rfl) (T.self _ 0 _ _ _ st1 (loop _ rfl))
theorem pe_compG {wi : TI} (hi : PI X tg iter wi) (O : CmpOkG X N k fr scope cl) (hc : X.calm = true) (hg : ∀ fp C s H, PG (cmpCx X N scope cl fp C s H) tg gt) (ht : ∀ fp C s H, PIf (cmpCx X N scope cl fp C s H) ifs tt) (he : ∀ fp C s H, PE (cmpCx X N scope cl fp C s H) elt te)
    (hs : ∀ v, foldedSetIterable iter X.env v = pure v := by intro _; rfl) : PE X (.ListComp elt [⟨tg, iter, ifs, 0⟩] scope pos) (tCompG wi gt k fr tt te) := by
  intro pins s σ H Q I h
  rw [eval_ListComp]
  refine wpAny_comprehension_free (use := none) rfl hs O.clos O.kind O.names (thn (hi pins s σ H _ I h) fun v s1 h1 => thn h1 fun itv s2 h2 => ?_)
  obtain ⟨it, fp, tn, J, H2, e, I2, T, st2, f2, hW⟩ := h2
  subst e
  refine comp_coreG (RR := fun acc C => compPost (model X.prog X.w) X.A X.xe none (EP X pins σ Q) acc C) O hc I2 T st2 f2 ht he hg hW fun D C s' H' hC hn ⟨m, hm⟩ I' q => ?_
  exact ⟨m, hm, fun h' hs' => ⟨.ref D, H', I2.left I' hC hn hs', rfl, q⟩⟩
theorem compG_list {K : PySem.W.Frag} {a : Addr} {xs : List V} {σ : St} {H1 : Hp} {Q : VK} (Pv : Addr → Nat → List V → Hp → Prop) (h0 : ∀ D, H1 D = none → Pv D 0 [] (upd H1 D (.lst [])))
    (hk : ∀ D i ys H, H1 D = none → i ≤ xs.length → Pv D i ys H → SqL K H a xs)
    (hs : ∀ D i x ys H, H1 D = none → xs[i]? = some x → Pv D i ys H → ∀ ts : St, ts.length = k → gt x (cmpStG σ fr ts) H fun σ2 H2 => (∃ ts2 : St, ts2.length = k ∧ σ2 = cmpStG σ fr ts2) ∧ tt σ2 H2 fun b H3 => if b = true then te σ2 H3 (CYes Pv D i xs.length) else CNext Pv D i xs.length H3)
    (hd : ∀ D ys H, H1 D = none → Pv D xs.length ys H → Q (.ref D) H) : CompAtG (Itl K a) gt k fr tt te σ Q H1 := by
  intro D hD
  refine ⟨fun i m H => m = xs.length - i ∧ i ≤ xs.length ∧ ∃ ys, Pv D i ys H, ⟨_, rfl, Nat.zero_le _, [], h0 D hD⟩, ?_⟩
  rintro i m H ⟨rfl, hi, ys, p⟩
  have q := hk D i ys H hD hi p
  by_cases hlt : i < xs.length
  · refine .inr ⟨⟨xs, xs[i], q, by simp [hlt]⟩, fun x H' y => ?_⟩
    obtain ⟨e, y⟩ := y
    subst e
    exact hs D i x ys _ hD (y xs q) p
  · have e : i = xs.length := by omega
    subst e
    exact .inl ⟨⟨xs, q, Nat.le_refl _⟩, hd D ys H hD p⟩
end
theorem gTupK {X : Cx} {K : PySem.W.Frag} {es : List Expr} {k : Nat} {t : TGs} {n : Nat} {pos : Pos} (hK : X.K = K) (hc : X.calm = true) (h : PGs X es t) (hn : (assignEach es X.env).length = n := by rfl) (hst : (assignEach es X.env).findIdx? (·.1) = none := by rfl) : PG X (.Tuple es k pos) (gTup K n t) := hK ▸ pg_tup hc h hn hst
end L2

namespace Srt
open PySem PySem.W PyProof.Rows
/-- the tree's end under an oracle; each question is about places below n -/
def Ok (n : Nat) (lt : Nat → Nat → Bool) {α : Type} : KasT α → (α → Prop) → Prop
  | .ret a, Q => Q a
  | .ask i j k, Q => i < n ∧ j < n ∧ Ok n lt (k (lt i j)) Q
section
variable {n : Nat} {lt : Nat → Nat → Bool}
abbrev g (p : Array Nat) (i : Nat) : Nat := p.getD i 0
/-- p holds places below n alone -/
def Bd (n : Nat) (p : Array Nat) : Prop := 0 < n ∧ ∀ i, g p i < n
/-- ascending up to k; not ascending up to k -/
def Up (lt : Nat → Nat → Bool) (p : Array Nat) (k : Nat) : Prop := ∀ i j, i ≤ j → j < k → lt (g p j) (g p i) = false
def Dn (lt : Nat → Nat → Bool) (p : Array Nat) (k : Nat) : Prop := ∀ i j, i ≤ j → j < k → lt (g p i) (g p j) = false
structure Ord (lt : Nat → Nat → Bool) : Prop where
  tr : ∀ a b c, lt b a = false → lt c b = false → lt c a = false
  as : ∀ a b, lt a b = true → lt b a = false
/-- equal keys between a and b -/
def Eqs (lt : Nat → Nat → Bool) (p : Array Nat) (a b : Nat) : Prop := ∀ i j, a ≤ i → i < b → a ≤ j → j < b → lt (g p i) (g p j) = false
end
end Srt

namespace L2
open PySem PySem.Spec PySem.W PyProof.Rows
/-! ### sorted(..) of a short list of pairs of ints -/
def ltP (p q : Int × Int) : Bool := decide (p.1 < q.1) || (decide (p.1 = q.1) && decide (p.2 < q.2))
section
variable {prog : Program} {w : World} {A : Around} {E : Value → Shared → Prop} {s : Shared}
end
section
variable {X : Cx}
end
end L2

namespace L2
/-! ### both, gaps, without: the mathematics -/
/-- what the loop of both keeps: S told so far, A and B the rests -/
structure BothI (S A B A0 B0 : List Pr) : Prop where
  ap : Apart S
  aA : Apart A
  aB : Apart B
  mem : ∀ n, (inP A0 n && inP B0 n) = (inP S n || (inP A n && inP B n))
  gap : ∀ s ∈ S, (∀ p ∈ A, s.2 + 2 ≤ p.1) ∨ (∀ p ∈ B, s.2 + 2 ≤ p.1)
/-- what the loop of gaps keeps: F told so far of the spans T -/
structure GapI (F T : List Pr) (lo hi st : Int) : Prop where
  ap : Apart F
  lt : ∀ s ∈ F, s.2 + 2 ≤ st
  rng : ∀ s ∈ F, lo ≤ s.1 ∧ s.2 ≤ hi
  tk : ∀ p ∈ T, p.2 < st
  fr : st = lo ∨ ∃ p ∈ T, st = p.2 + 1
  ge : lo ≤ st
  mem : ∀ n, lo ≤ n → n ≤ hi → n < st → inP F n = !inP T n
end L2

namespace L2
/-! ### runs of pieces: the mathematics -/
/-- the pieces of a walk: each begins behind the one ahead of it -/
structure Walk (ts : List (Int × Int × Int)) : Prop where
  le : ∀ t ∈ ts, t.1 ≤ t.2.1
  nx : ∀ (i : Nat) a b, ts[i]? = some a → ts[i + 1]? = some b → b.1 = a.2.1 + 1
def pcs (msk : Int → Bool) (ts : List (Int × Int × Int)) (n : Int) : Bool := ts.any fun t => inR n (t.1, t.2.1) && msk t.2.2
/-- what the loop over the pieces keeps: R told of the first i pieces, at where the next one begins -/
structure RunI (R : List Pr) (ts : List (Int × Int × Int)) (msk : Int → Bool) (i : Nat) (at_ : Int) : Prop where
  ap : Apart R
  mem : ∀ n, inP R n = pcs msk (ts.take i) n
  lt : ∀ r ∈ R, r.2 < at_
  few : 2 * R.length ≤ i ∨ (2 * R.length ≤ i + 1 ∧ ∃ R' l, R = R' ++ [l] ∧ l.2 = at_ - 1)
section
variable {R : List Pr} {ts : List (Int × Int × Int)} {msk : Int → Bool} {i : Nat} {at_ : Int} {t : Int × Int × Int}
end
end L2

namespace L2
/-! ### edges: the mathematics -/
/-- each low, and the number behind each high -/
def ends (R : List Pr) : List Int := R.flatMap fun p => [p.1, p.2 + 1]
end L2

namespace L2
open PySem PySem.Spec PyProof.Rows
/-! ### sum of a list of ints; min of five ints -/
section
variable {X : Cx}
end
section
variable {prog : Program} {w : World} {A : Around} {E : Value → Shared → Prop} {s : Shared}
end
section
variable {X : Cx}
end
end L2

namespace L2
open PySem PySem.Spec PyProof.Rows
/-! ### texts: a loop over the signs, join, globals -/
/-- the signs of z, one by one -/
def Its (z : Str) : It := ⟨fun i _ => i < z.cps.size, fun i H x H' => H' = H ∧ ∃ c, z.cps[i]? = some c ∧ x = .str ⟨#[c]⟩, fun i _ => z.cps.size ≤ i⟩
section
variable {X : Cx} {tg : Expr}
def iStr (tl : TE) : PySem.W.Frag → St → Hp → (It → Hp → Prop) → Prop := fun _ σ H R => tl σ H fun x H1 => ∃ z, x = .str z ∧ R (Its z) H1
end
section
variable {X : Cx}
/-- sep.join(xs), xs a list of texts -/
def rJoin (K : PySem.W.Frag) : V → List V → Hp → VK → Prop := fun x vs H Q => ∃ (z : Str) (a : Addr) (ys : List Str), x = .str z ∧ vs = [.ref a] ∧ SqL K H a (ys.map V.str) ∧ z.length ≤ 64 ∧ (ys.map (·.length)).sum + ys.length * 64 ≤ 16777216 ∧ Q (.str (Txt.join z ys)) H
end
/-- a sign that stands in g -/
def sg (g : Str) (c : Nat) : Bool := !(Builtin.Str.occurrences g ⟨#[c]⟩ 0 g.length 1).isEmpty
def allIn (z g : Str) : Bool := z.cps.toList.all (sg g)
end L2

namespace L2
open PySem PySem.Spec PyProof.Rows PySem.NumText
/-! ### texts of numbers: slices, startswith, int(text), figures -/
section
variable {X : Cx}
/-- z[lo:hi] -/
def rSlS : V → Option Int → Option Int → Hp → VK → Prop := fun x lo hi H Q => ∃ z, x = .str z ∧ z.length ≤ sizeLine ∧ Q (.str (Txt.slice z lo hi)) H
def rStarts : V → List V → Hp → VK → Prop := fun x vs H Q => ∃ z y : Str, x = .str z ∧ vs = [.str y] ∧ Q (.bl (Txt.startswith z y)) H
end
/-! figures -/
/-- figures with no nought ahead -/
structure Figs (cs : List Nat) : Prop where
  all : AllDigits cs
  one : cs.length = 1 ∨ ∃ c r, cs = c :: r ∧ 49 ≤ c
/-- the signs of str(n) -/
def numCs (n : Int) (cs : List Nat) : List Nat := if n < 0 then 45 :: cs else cs
end L2

/-! ### the script's numbers are of a bounded size -/
namespace L2
open PySem PySem.Spec PyProof.Rows PySem.W
theorem op_mulO {X : Cx} : OpR X (binaryOp .Mult) (rI IntMulOk fun i j => .int (i * j)) := opI fun _ _ _ _ _ _ _ hc q => mul_int q hc
end L2

namespace L2
open PySem PySem.Spec PyProof.Rows
/-! ### exceptions of own classes: raised, passed on, caught -/
/-- an exception: its own record and the head of its trace -/
def ExcT (h : Heap) (e T : Addr) (cls a0 : Value) : Prop :=
  ∃ oe vs oT ts, h.get? e = some oe ∧ (oe.cls = cls ∧ vs[0]? = some a0) ∧ oe.data = .fields vs ∧ vs[1]? = some (.ref T) ∧ T ≠ e ∧ h.get? T = some oT ∧ oT.data = .fields ts ∧ ts[3]? = some .none
/-- what a step of a trace changes: the records at X, the slots of the frames at F -/
structure Stp (F X : List Addr) (h h' : Heap) : Prop where
  keep : ∀ b o, b ∉ F → b ∉ X → h.get? b = some o → h'.get? b = some o
  slot : ∀ b o, b ∈ F → h.get? b = some o → ∃ sl, h'.get? b = some { o with slots := sl }
section
variable {M : Model} {A : Around} {E : Value → Shared → Prop} {s : Shared} {base : Heap} {env : Env} {outer : List Env} {L e T : Addr} {oe : Obj} {vs : Array Value} {a0 cls : Value} {Q : Unit → Shared → Prop}
end
end L2

namespace L2
open PySem PySem.Spec PyProof.Rows
section
variable {P : Program} {w : World} {H H' : Hp} {h h' : Heap} {a : Addr} {o : HO} {F Y fs : List Addr}
end
/-- how an exception of an own class lies behind a call -/
def CX1 (P : Program) (w : World) : CXT := fun outer H s E ev s' => ∃ (e T C : Addr) (a0 : Value) (H' : Hp), ev = .ref e ∧ s'.os = s.os ∧ AllBare s'.gens ∧ Un (frs outer) [] H H' s.heap s'.heap ∧ HOk P w H' s'.heap ∧
  ExcT s'.heap e T (.ref C) a0 ∧ s.heap.get? e = none ∧ s.heap.get? T = none ∧ H' e = none ∧ H' T = none ∧ E (.ref C) none H'
/-- a record that is new to a body, not its frame's, not pinned -/
structure NewAt (X : Cx) (pins : List (Addr × Obj)) (H : Hp) (b : Addr) : Prop where
  ent : X.s₀.heap.get? b = none
  unt : H b = none
  loc : b ≠ X.env.locals
  cel : ∀ x c, X.env.cells.lookup x = some c → c ≠ b
  pin : ∀ p ∈ X.pn ++ pins, p.1 ≠ b
section
variable {X : Cx} {pins : List (Addr × Obj)} {σ : St} {H : Hp} {s : Shared} {h' : Heap} {e T : Addr}
end
/-! raise -/
/-- a class of the text below a built-in exception -/
structure ExcCls (K : PySem.W.Frag) (C : Addr) : Prop where
  ex : ∃ (bmB bmN : List Value) (newId B Bn nid initId inN : String), PySem.W.excIn K C bmB newId = true ∧ ExcBaseFacts Bn newId inN bmN ∧ bmB.contains (Value.type Bn) = true ∧ ExcBaseFacts B nid initId bmB
section
variable {P : Program} {w : World} {K : PySem.W.Frag} {mg : Str → Option Value} {base : Heap} {N : List Str} {qual : Str} {scope : Scope} {f : Addr} {cd : Value} {A : Around} {outer : List Env} {s0 : Shared} {H0 : Hp} {E : XK}
def tRaise (C : Addr) (E : XK) (t : TA) : TS := fun _ σ H => t σ H fun vs H1 => vs.length ≤ sizeLine ∧ E (.ref C) none H1
end
end L2

namespace L2
open PySem PySem.Spec PyProof.Rows
/-! ### a call that may raise; try with one except clause -/
/-- behind an exception, in the frame that sees it -/
def XP (X : Cx) (pins : List (Addr × Obj)) (σ : St) (EX : Addr → Hp → Prop) (ev : Value) (s' : Shared) : Prop :=
  ∃ (e T C : Addr) (a0 : Value) (H' : Hp), ev = .ref e ∧ Inv X pins σ H' s' ∧ ExcT s'.heap e T (.ref C) a0 ∧ NewAt X pins H' e ∧ NewAt X pins H' T ∧ EX C H'
abbrev TX := St → Hp → VK → (Addr → Hp → Prop) → Prop
def PEX (X : Cx) (e : Expr) (t : TX) : Prop :=
  ∀ (pins : List (Addr × Obj)) (s : Shared) (σ : St) (H : Hp) (Q : VK) (EX : Addr → Hp → Prop), Inv X pins σ H s → t σ H Q EX → wpAny (model X.prog X.w) X.A (eval e X.env) (EP X pins σ Q) (XP X pins σ EX) s
/-- a def that may raise, bundled -/
def CalleeX (P : Program) (w : World) (K : PySem.W.Frag) (mg : Str → Option Value) (base : Heap) (k : Nat) (x : Str) (ps : List Str) (sp : Sp) : Prop :=
  ∃ f fd, FnOk P w K mg base (CX1 P w) k f fd ps sp ∧ Binds K fd ps [] ∧ PySem.W.keepIn K (.ref f) = true ∧ mg x = some (.ref f)
section
variable {X : Cx} {pins : List (Addr × Obj)} {σ : St} {H : Hp} {s s' : Shared}
end
section
variable {X : Cx} {k : Nat} {x : Str} {ps : List Str} {sp : Sp} {e : Expr} {es : List Expr} {t : TA} {p pos : Pos}
def tFnX (sp : Sp) (t : TA) : TX := fun σ H Q EX => t σ H fun vs H1 => sp vs H1 Q fun cv _ H2 => ∃ C, cv = .ref C ∧ EX C H2
abbrev TSX := Ends → St → Hp → (Addr → Hp → Prop) → Prop
/-- a statement that may raise, at the state it was begun with -/
def PSX (X : Cx) (st : Stmt) (t : TSX) : Prop :=
  ∀ (pins : List (Addr × Obj)) (s : Shared) (σ : St) (H : Hp) (D : Ends) (EX : Addr → Hp → Prop), Inv X pins σ H s → t D σ H EX → wpAny (model X.prog X.w) X.A (exec st X.env) (SP X pins D) (XP X pins σ EX) s
def tSetX (i : Nat) (te : TX) : TSX := fun D σ H EX => te σ H (fun v H1 => D.nx (σ.set i (some v)) H1) EX
def tDropX (te : TX) : TSX := fun D σ H EX => te σ H (fun _ H1 => D.nx σ H1) EX
end
/-! the except suite -/
/-- its context: the exception is handled, its record is pinned -/
def sfx (X : Cx) (e : Addr) (oe : Obj) : Cx := { X with A := X.A.mark (some (.ref e)), calm := false, pn := (e, oe) :: X.pn, xe := fun _ _ => False }
section
variable {X : Cx} {pins : List (Addr × Obj)} {σ : St} {H : Hp} {s s' : Shared} {e : Addr} {oe : Obj}
end

section
variable {X : Cx} {pins : List (Addr × Obj)} {σ : St} {H : Hp} {s : Shared}
end
def tTry (i : Nat) (B : Addr) (K : PySem.W.Frag) (G : Addr → Prop) (tb : TSX) (ts : Addr → Addr → TS) : TS := fun D σ H => tb D σ H fun C H1 => PySem.W.exmOne K (.ref C) (.ref B) = some true ∧ G C ∧
  ∀ e, ts C e { nx := fun σ' H' => D.nx (σ'.set i none) H', rt := D.rt, bk := fun σ' H' => D.bk (σ'.set i none) H', ct := fun σ' H' => D.ct (σ'.set i none) H' } (σ.set i (some (.ref e))) H1
section
variable {X : Cx} {st b₀ : Stmt} {su : List Stmt} {tb : TSX} {ts : Addr → Addr → TS} {Tn n : Str} {B : Addr} {i : Nat} {np hpos pos : Pos}
end
end L2

namespace L2
open PySem PySem.Spec PyProof.Rows
/-! ### isinstance of an exception of an own class -/
/-- what a class must have: below a built-in exception, no hooks of its own -/
structure ExcLook (K : PySem.W.Frag) (C : Addr) : Prop where
  ga : PySem.W.findIn K (.ref C) "__getattribute__" = some (some (.builtin "BaseException.__getattribute__"))
  hk : PySem.W.findIn K (.ref C) "__getattr__" = some none
  cl : PySem.W.findIn K (.ref C) "__class__" = some (some (.builtin "object.__class__"))
  gt : PySem.W.specialIn K (.builtin "object.__class__") "__get__" = some (some (.builtin "getset_descriptor.__get__"))
  tk : PySem.W.takesIn K (.builtin "object.__class__") = some true
  ob : PySem.W.mroIn K C (.type "object") = some true
  be : PySem.W.mroIn K C (.type "BaseException") = some true
  me : PySem.W.kitCls K (.ref C) (.ref C) = some true
section
variable {prog : Program} {w : World} {A : Around} {E : Value → Shared → Prop} {s : Shared} {K : PySem.W.Frag} {e C : Addr} {oe : Obj}
end
section
variable {X : Cx} {e C : Addr} {oe : Obj}
end
end L2

namespace L2
open PySem PySem.Spec PyProof.Rows
/-! ### f'{text!r} ..', a text times a number, find, join of more -/
section
variable {X : Cx}
def tFr (c : Str) (ta : TE) : TE := fun σ H Q => ta σ H fun x H1 => ∃ z : Str, x = .str z ∧ z.length ≤ 1000 ∧ (∀ n ∈ z.cps.toList, n < 16 ^ 8) ∧ c.length ≤ 1000 ∧ ∀ z2 : Str, Q (.str z2) H1
def rFind : V → List V → Hp → VK → Prop := fun x vs H Q => ∃ z y : Str, x = .str z ∧ vs = [.str y] ∧ Q (.int (Txt.find z y)) H
end
end L2

namespace L2
open PySem PySem.Spec PyProof.Rows
/-! ### own classes: methods bundled, instances made, a method of a class above called by that class's name; calls of these that may raise -/
/-- a method of the class at C, bundled -/
def MCallee (CX : CXT) (P : Program) (w : World) (K : PySem.W.Frag) (mg : Str → Option Value) (base : Heap) (k : Nat) (C : Addr) (m : Str) (ps : List Str) (sp : Sp) : Prop :=
  ∃ f fd, Meth K C m f ∧ FnOk P w K mg base CX k f fd ps sp ∧ Binds K fd ps []
/-- a class that can be made, bundled with its __init__ -/
def MkCallee (CX : CXT) (P : Program) (w : World) (K : PySem.W.Frag) (mg : Str → Option Value) (base : Heap) (k : Nat) (x : Str) (C : Addr) (ps : List Str) (sp : Sp) : Prop :=
  ∃ f fd, Mk K C f ∧ FnOk P w K mg base CX k f fd ps sp ∧ Binds K fd ps [] ∧ mg x = some (.ref C)
/-- what the text must have for B.m(..) -/
structure BaseM (K : PySem.W.Frag) (B : Addr) (m : Str) (f : Addr) : Prop where
  sp : PySem.W.specialIn K (.ref B) "__getattribute__" = some (some (.builtin "type.__getattribute__"))
  rd : PySem.W.readsIn K B (.type "type") = true
  at_ : PySem.W.findCls K (.ref B) (.type "type") m = some (.val (.ref f))
  kp : PySem.W.keepIn K (.ref f) = true
def BCallee (CX : CXT) (P : Program) (w : World) (K : PySem.W.Frag) (mg : Str → Option Value) (base : Heap) (k : Nat) (x : Str) (m : Str) (ps : List Str) (sp : Sp) : Prop :=
  ∃ f fd B, BaseM K B m f ∧ FnOk P w K mg base CX k f fd ps sp ∧ Binds K fd ps [] ∧ mg x = some (.ref B)
section
variable {CX : CXT} {P : Program} {w : World} {K : PySem.W.Frag} {mg : Str → Option Value} {base : Heap} {j k : Nat} {C : Addr} {x m : Str} {ps : List Str} {sp : Sp}
end
/-- the readings -/
def tMt (C : Addr) (m : Str) (sp : Sp) (ta : TE) (t : TA) : TE := fun σ H Q => ta σ H fun x H1 => ∃ a dx fs, x = .ref a ∧ H1 a = some (.ins C dx fs) ∧ fs.lookup m = none ∧ t σ H1 fun vs H2 => sp (x :: vs) H2 Q E0
def tMk (C : Addr) (sp : Sp) (t : TA) : TE := fun σ H Q => t σ H fun vs H1 => ∀ x dx, H1 x = none → H1 dx = none → dx ≠ x →
  sp (.ref x :: vs) (upd (upd H1 dx (.own x)) x (.ins C dx [])) (fun v H2 => v = .non ∧ Q (.ref x) H2) E0
def tMtX (C : Addr) (m : Str) (sp : Sp) (ta : TE) (t : TA) : TX := fun σ H Q EX => ta σ H fun x H1 => ∃ a dx fs, x = .ref a ∧ H1 a = some (.ins C dx fs) ∧ fs.lookup m = none ∧ t σ H1 fun vs H2 => sp (x :: vs) H2 Q fun cv _ H3 => ∃ C', cv = .ref C' ∧ EX C' H3
def tMkX (C : Addr) (sp : Sp) (t : TA) : TX := fun σ H Q EX => t σ H fun vs H1 => ∀ x dx, H1 x = none → H1 dx = none → dx ≠ x →
  sp (.ref x :: vs) (upd (upd H1 dx (.own x)) x (.ins C dx [])) (fun v H2 => v = .non ∧ Q (.ref x) H2) fun cv _ H3 => ∃ C', cv = .ref C' ∧ EX C' H3
section
variable {X : Cx} {CX : CXT} {k : Nat} {f C : Addr} {fd : FuncData} {ps : List Str} {sp : Sp} {x m : Str} {p np pos apos : Pos} {e o : Expr} {es : List Expr} {ta : TE} {t : TA}
end
/-! f'{value!r} ..' of a plain value -/
/-- what can be shown: none, a bool, a number of few figures, a text of small signs -/
inductive Shw : V → Prop where
  | non : Shw .non
  | bl (b : Bool) : Shw (.bl b)
  | int {i : Int} (h : i.natAbs < 10 ^ 60) : Shw (.int i)
  | str {z : Str} (h : z.length ≤ 1000) (k : ∀ n ∈ z.cps.toList, n < 16 ^ 8) : Shw (.str z)
section
variable {X : Cx}
def tFrV (c : Str) (ta : TE) : TE := fun σ H Q => ta σ H fun x H1 => Shw x ∧ c.length ≤ 1000 ∧ ∀ z2 : Str, Q (.str z2) H1
end
/-! == of two tuples -/
def rEqT (K : PySem.W.Frag) (neg : Bool) : R2 := fun x y H Q => ∃ a b xs ys, x = .ref a ∧ y = .ref b ∧ SqT K H a xs ∧ SqT K H b ys ∧
  ∃ f : Nat → Bool, (∀ j x y, xs[j]? = some x → ys[j]? = some y → EqI K H x y (f j)) ∧ Q (.bl (if neg then !((List.range (min xs.length ys.length)).all f && xs.length == ys.length) else (List.range (min xs.length ys.length)).all f && xs.length == ys.length)) H
section
variable {X : Cx}
end
end L2

namespace L2
open PySem PySem.Spec PyProof.Rows
section
variable {X : Cx}
/-- list + list, both only read -/
def rCatS (K : PySem.W.Frag) : R2 := fun x y H Q => ∃ l b xs zs, x = .ref l ∧ y = .ref b ∧ SqL K H l xs ∧ SqL K H b zs ∧ xs.length + zs.length ≤ sizeLine ∧ ∀ p, H p = none → Q (.ref p) (upd H p (.lst (xs ++ zs)))
end
end L2
namespace L2
open PySem PySem.Spec PyProof.Rows
/-- a promise that is never asked for -/
theorem FnOk.no {P : Program} {w : World} {K : PySem.W.Frag} {mg : Str → Option Value} {base : Heap} {CX : CXT} {k : Nat} {f : Addr} {fd : FuncData} {ps : List Str} {sp : Sp} (h : ∀ vs H Q E, ¬ sp vs H Q E) : FnOk P w K mg base CX k f fd ps sp :=
  ⟨fun vs H Q E q => (h vs H Q E q).elim, fun _ _ _ H _ _ vs Q E _ _ _ _ q => (h vs H Q E q).elim⟩
end L2
namespace L2
open PySem PySem.Spec PyProof.Rows
end L2

namespace L2
open PySem
set_option maxRecDepth 100000
/-! ### == and != of lists and tuples that hold lists and tuples, down to a depth -/
inductive DEq (K : PySem.W.Frag) (H : Hp) : Nat → V → V → Bool → Prop where
  | flat {n : Nat} {x y : V} (fx : flatV x = true) (fy : flatV y = true) : DEq K H n x y (eqV x y)
  | same {n : Nat} (a : Addr) : DEq K H n (.ref a) (.ref a) true
  | lst {n : Nat} {a b : Addr} {xs ys : List V} {f : Nat → Bool} (ne : a ≠ b) (ha : SqL K H a xs) (hb : SqL K H b ys) (hl : xs.length = ys.length) (h : ∀ (j : Nat) (x y : V), xs[j]? = some x → ys[j]? = some y → DEq K H n x y (f j)) : DEq K H (n + 1) (.ref a) (.ref b) ((List.range xs.length).all f)
  | lst_ne {n : Nat} {a b : Addr} {xs ys : List V} (ne : a ≠ b) (ha : SqL K H a xs) (hb : SqL K H b ys) (hl : xs.length ≠ ys.length) : DEq K H (n + 1) (.ref a) (.ref b) false
  | tup {n : Nat} {a b : Addr} {xs ys : List V} {f : Nat → Bool} (ne : a ≠ b) (ha : SqT K H a xs) (hb : SqT K H b ys) (h : ∀ (j : Nat) (x y : V), xs[j]? = some x → ys[j]? = some y → DEq K H n x y (f j)) : DEq K H (n + 1) (.ref a) (.ref b) ((List.range (min xs.length ys.length)).all f && xs.length == ys.length)
theorem DEq.mono {K : PySem.W.Frag} {H : Hp} {n m : Nat} {x y : V} {b : Bool} (e : DEq K H n x y b) (h : n ≤ m) : DEq K H m x y b := by
  induction e generalizing m with
  | flat fx fy => exact .flat fx fy
  | same a => exact .same a
  | lst ne ha hb hl _ ih =>
    obtain ⟨m, rfl⟩ : ∃ k, m = k + 1 := ⟨m - 1, by omega⟩
    exact .lst ne ha hb hl fun j x y e1 e2 => ih j x y e1 e2 (by omega)
  | lst_ne ne ha hb hl =>
    obtain ⟨m, rfl⟩ : ∃ k, m = k + 1 := ⟨m - 1, by omega⟩
    exact .lst_ne ne ha hb hl
  | tup ne ha hb _ ih =>
    obtain ⟨m, rfl⟩ : ∃ k, m = k + 1 := ⟨m - 1, by omega⟩
    exact .tup ne ha hb fun j x y e1 e2 => ih j x y e1 e2 (by omega)
theorem its_at {xs : List V} {its : List Value} (r : Vals xs its) {j : Nat} (h : j < its.toArray.size) : ∃ x, xs[j]? = some x ∧ RelV x its.toArray[j] := by
  have j1 : j < its.length := by simpa using h
  have l1 := r.length
  have x1 : xs[j]? = some xs[j] := List.getElem?_eq_getElem (by omega)
  obtain ⟨u1, q1, r1⟩ := r.get x1
  have eu : its.toArray[j] = u1 := by
    have := List.getElem?_eq_getElem j1
    rw [this] at q1; simpa using Option.some.inj q1
  exact ⟨xs[j], x1, eu ▸ r1⟩
section
variable {X : Cx} {pins : List (Addr × Obj)} {σ : St} {H : Hp} {s : Shared}
theorem DEq.at {n : Nat} {x y : V} {b : Bool} (e : DEq X.K H n x y b) (I : Inv X pins σ H s) : ∀ {A : Around} {u v : Value}, A.units + n < cLine → RelV x u → RelV y v → SeqAt.EqAt A s u v b := by
  induction e with
  | flat fx fy => intro A u v hu rx ry; exact eqAt_V rx ry fx fy
  | same a =>
    intro A u v hu rx ry
    cases (show u = Value.ref a from rx)
    cases (show v = Value.ref a from ry)
    exact SeqAt.EqAt.same _
  | @lst n a b xs ys f ne ha hb hl h ih =>
    intro A u v hu rx ry
    cases (show u = Value.ref a from rx)
    cases (show v = Value.ref b from ry)
    obtain ⟨its, r, p, _⟩ := I.list ha
    obtain ⟨its', r', p', _⟩ := I.list hb
    have l1 := r.length
    have l2 := r'.length
    have h0 := SeqAt.RcAt.lists (A := A) (e := f) p.isList p'.isList (by simp only [List.size_toArray]; omega) (by omega) (fun j h1 h2 => by
      obtain ⟨x, e1, q1⟩ := its_at r h1
      obtain ⟨y, e2, q2⟩ := its_at r' h2
      exact ih j x y e1 e2 (by show A.units + 1 + n < cLine; omega) q1 q2)
    rw [show its.toArray.size = xs.length by simp only [List.size_toArray]; omega] at h0
    exact SeqAt.EqAt.of_refs ne h0
  | @lst_ne n a b xs ys ne ha hb hl =>
    intro A u v hu rx ry
    cases (show u = Value.ref a from rx)
    cases (show v = Value.ref b from ry)
    obtain ⟨its, r, p, _⟩ := I.list ha
    obtain ⟨its', r', p', _⟩ := I.list hb
    have l1 := r.length
    have l2 := r'.length
    exact SeqAt.EqAt.of_refs ne (SeqAt.RcAt.lists_lengths p.isList p'.isList (by simp only [List.size_toArray, bne_iff_ne, ne_eq]; omega) (by omega))
  | @tup n a b xs ys f ne ha hb h ih =>
    intro A u v hu rx ry
    cases (show u = Value.ref a from rx)
    cases (show v = Value.ref b from ry)
    obtain ⟨its, r, p, _⟩ := I.tuple ha
    obtain ⟨its', r', p', _⟩ := I.tuple hb
    have l1 := r.length
    have l2 := r'.length
    have h0 := SeqAt.RcAt.tuples (A := A) (e := f) (show s.heap.IsTuple a its.toArray from p) (show s.heap.IsTuple b its'.toArray from p') (by omega) (fun j h1 h2 => by
      obtain ⟨x, e1, q1⟩ := its_at r h1
      obtain ⟨y, e2, q2⟩ := its_at r' h2
      exact ih j x y e1 e2 (by show A.units + 1 + n < cLine; omega) q1 q2)
    rw [show its.toArray.size = xs.length by simp only [List.size_toArray]; omega, show its'.toArray.size = ys.length by simp only [List.size_toArray]; omega] at h0
    exact SeqAt.EqAt.of_refs ne h0
end
/-- == (neg: !=) of two lists -/
def rEqDL (K : PySem.W.Frag) (neg : Bool) : R2 := fun x y H Q => ∃ a b xs ys, x = .ref a ∧ y = .ref b ∧ SqL K H a xs ∧ SqL K H b ys ∧
  ((xs.length ≠ ys.length ∧ Q (.bl neg) H) ∨ (xs.length = ys.length ∧ ∃ f : Nat → Bool, (∀ (j : Nat) (x y : V), xs[j]? = some x → ys[j]? = some y → DEq K H 60 x y (f j)) ∧ Q (.bl (if neg then !(List.range xs.length).all f else (List.range xs.length).all f)) H))
/-- == (neg: !=) of two tuples -/
def rEqDT (K : PySem.W.Frag) (neg : Bool) : R2 := fun x y H Q => ∃ a b xs ys, x = .ref a ∧ y = .ref b ∧ SqT K H a xs ∧ SqT K H b ys ∧
  ∃ f : Nat → Bool, (∀ (j : Nat) (x y : V), xs[j]? = some x → ys[j]? = some y → DEq K H 60 x y (f j)) ∧ Q (.bl (if neg then !((List.range (min xs.length ys.length)).all f && xs.length == ys.length) else (List.range (min xs.length ys.length)).all f && xs.length == ys.length)) H
section
variable {X : Cx}
theorem deep_at {pins : List (Addr × Obj)} {σ : St} {H : Hp} {s : Shared} {A : Around} {xs ys : List V} {its its' : List Value} {f : Nat → Bool} (I : Inv X pins σ H s) (hu : A.units + 60 < cLine) (r : Vals xs its) (r' : Vals ys its')
    (hf : ∀ (j : Nat) (x y : V), xs[j]? = some x → ys[j]? = some y → DEq X.K H 60 x y (f j)) : ∀ j (h1 : j < its.toArray.size) (h2 : j < its'.toArray.size), SeqAt.EqAt A s its.toArray[j] its'.toArray[j] (f j) := fun j h1 h2 => by
  obtain ⟨x, e1, q1⟩ := its_at r h1
  obtain ⟨y, e2, q2⟩ := its_at r' h2
  exact (hf j x y e1 e2).at I hu q1 q2
theorem op_eqDT {k : Nat} (hr : Room k X.A) : OpR X (compareOp .Eq) (rEqDT X.K false) := by
  intro pins s σ H x y v u Q I rx ry h
  obtain ⟨a, b, xs, ys, rfl, rfl, ha, hb, f, hf, q⟩ := h
  cases (show v = Value.ref a from rx)
  cases (show u = Value.ref b from ry)
  obtain ⟨its, r, p, _⟩ := I.tuple ha
  obtain ⟨its', r', p', _⟩ := I.tuple hb
  have l1 := r.length
  have l2 := r'.length
  have hu := hr.units
  refine SeqAt.eq_tupleAt (e := f) (show s.heap.IsTuple a its.toArray from p) (show s.heap.IsTuple b its'.toArray from p') (by omega) (deep_at I (by show X.A.units + 1 + 60 < cLine; omega) r r' hf) ⟨.bl _, H, I, rfl, ?_⟩
  simp only [List.size_toArray]
  rw [← l1, ← l2]
  exact q
end
end L2

namespace L2
open PySem PySem.Spec PyProof.Rows
set_option maxRecDepth 100000
section
variable {X : Cx} {tg : Expr}
/-- t + u, t empty or not -/
def rCatT0 (K : PySem.W.Frag) : R2 := fun x y H Q => ∃ a b xs ys, x = .ref a ∧ y = .ref b ∧ SqT K H a xs ∧ SqT K H b ys ∧ xs.length + ys.length ≤ sizeLine ∧
  (xs = [] → Q (.ref b) H) ∧ (xs ≠ [] → ys = [] → Q (.ref a) H) ∧ (xs ≠ [] → ys ≠ [] → ∀ p, H p = none → Q (.ref p) (upd H p (.tup (xs ++ ys))))
theorem op_catT0 : OpR X (binaryOp .Add) (rCatT0 X.K) := by
  intro pins s σ H x y v u Q I rx ry h
  obtain ⟨a, b, xs, ys, rfl, rfl, ha, hb, hz, q0, q1, q2⟩ := h
  by_cases hx : xs = []
  · cases rx
    cases ry
    obtain ⟨its, r1, p1, _⟩ := I.tuple ha
    obtain ⟨its2, r2, p2, _⟩ := I.tuple hb
    have hv : its = [] := r1.nil_iff.mpr hx
    obtain ⟨⟨cls, dd, data, sl⟩, ho, hc, n, hd⟩ := id p1
    obtain ⟨⟨cls2, dd2, data2, sl2⟩, ho2, hc2, n2, hd2⟩ := id p2
    simp only at hc hd hc2 hd2
    subst hc hd hc2 hd2
    exact concat_meets ⟨_, ho, rfl⟩ ⟨_, ho2, rfl⟩ noFill_tuple_add seq_tuple_add PySem.F.slot_tuple_add PySem.F.entry_tuple_add (PySem.F.args_tuple_add_2 _ _)
      (tuple_addW0 a b its.toArray its2.toArray n n2 dd dd2 sl sl2 (by simp [hv])) ⟨ho, ho2, ⟨.ref b, H, I, rfl, q0 hx⟩⟩
  · exact op_catT pins s σ H (.ref a) (.ref b) v u Q I rx ry ⟨a, b, xs, ys, rfl, rfl, ha, hb, hx, hz, q1 hx, q2 hx⟩
end
end L2
namespace HT
open PySem PyProof.Rows
section
open PySem.SeqAt
open PySem.AutoSeq1 (wpAny_loadPart')
open PySem.MeetsSeq PySem.MeetsSeq2 PySem.MeetsSeq3
end
end HT
namespace L2
open PySem PySem.Spec PyProof.Rows
section
variable {X : Cx}
/-- xs < ys, lists of ints -/
def rLtL (K : PySem.W.Frag) : R2 := fun x y H Q => ∃ a b ns ms, x = .ref a ∧ y = .ref b ∧ SqL K H a (ns.map V.int) ∧ SqL K H b (ms.map V.int) ∧ Q (.bl (HT.lexLt ns ms)) H
end
end L2

namespace L2
open PySem PySem.Spec PyProof.Rows
/-! ### set(list) for keys of any kind; len(set) -/
section
variable {κ : Type} [DecidableEq κ]
/-- how many different keys stand ahead of place i -/
def cntK (ks : List κ) : Nat → Nat
  | 0 => 0
  | i + 1 => match ks[i]? with
    | some k => if k ∈ ks.take i then cntK ks i else cntK ks i + 1
    | none => cntK ks i
variable {prog : Program} {w : World} {A : Around} {E : Value → Shared → Prop} {s : Shared} {knd : KeyKind prog w κ}
/-- a set as it is made -/
abbrev newS (led : Bool) : Obj := { cls := .type "set", dict := none, data := .set #[] 0 (.fresh 0 0 led) }
/-- what is told behind set(..) -/
def Filled (knd : KeyKind prog w κ) (s : Shared) (ks : List κ) (h' : Heap) : Prop :=
  h'.SetOf knd s.heap.objs.size (fun k => decide (k ∈ ks)) (cntK ks ks.length) ∧ ∀ b o, b < s.heap.objs.size → s.heap.get? b = some o → h'.get? b = some o
end
/-! the layer's rules -/
/-- a set of texts -/
def SetO (P : Program) (w : World) (a : Addr) (zs : List Str) : HO := .ext fun h => h.SetOf (strKind P w) a (fun z => decide (z ∈ zs)) (cntK zs zs.length)
section
variable {X : Cx}
end
end L2

namespace L2
open PySem PySem.Spec PyProof.Rows
/-! ### exceptions that pass through loops and callers -/
/-- as ExcT, with the flight of the trace's head -/
def ExcF (h : Heap) (e T : Addr) (cls a0 fl : Value) : Prop :=
  ∃ oe vs oT ts, h.get? e = some oe ∧ (oe.cls = cls ∧ vs[0]? = some a0) ∧ oe.data = .fields vs ∧ vs[1]? = some (.ref T) ∧ T ≠ e ∧ h.get? T = some oT ∧ oT.data = .fields ts ∧ ts[3]? = some fl
/-- an exception in the frame at L: just made, flying, or held there -/
inductive ExcS (h : Heap) (L e : Addr) (cls a0 : Value) : List Addr → Prop where
  | fresh {oe : Obj} {vs : Array Value} (he : h.get? e = some oe) (hc : oe.cls = cls) (hd : oe.data = .fields vs) (h1 : vs[1]? = some Value.none) (h0 : vs[0]? = some a0) : ExcS h L e cls a0 []
  | fly {T : Addr} (x : ExcF h e T cls a0 .none) : ExcS h L e cls a0 [T]
  | held {T : Addr} (x : ExcF h e T cls a0 (rawInt L)) : ExcS h L e cls a0 [T]
section
variable {M : Model} {A : Around} {E : Value → Shared → Prop} {s : Shared} {base : Heap} {env : Env} {outer : List Env} {L e T : Addr} {a0 cls fl : Value} {Q : Unit → Shared → Prop} {Ts : List Addr}
end
section
variable {X : Cx} {pins : List (Addr × Obj)} {σ : St} {H : Hp} {s : Shared} {h' : Heap} {Y : List Addr}
end
/-- what is wanted of an exception in a def's body: it lies as ExcS tells, the state is that of the body -/
def XEof (X : Cx) (L : Addr) (E : XK) : Value → Shared → Prop := fun ev s' => ∃ (e C : Addr) (a0 : Value) (Ts : List Addr) (pins : List (Addr × Obj)) (σ : St) (H' : Hp), ev = .ref e ∧ Inv X pins σ H' s' ∧ ExcS s'.heap L e (.ref C) a0 Ts ∧ (∀ b ∈ e :: Ts, NewAt X pins H' b) ∧ E (.ref C) none H'
section
variable {P : Program} {w : World} {K : PySem.W.Frag} {mg : Str → Option Value} {base : Heap} {N : List Str} {qual : Str} {scope : Scope} {f : Addr} {cd : Value} {A : Around} {outer : List Env} {s0 : Shared} {H0 : Hp} {E : XK}
/-- the context of a body that may raise -/
abbrev cxE (P : Program) (w : World) (K : PySem.W.Frag) (mg : Str → Option Value) (base : Heap) (N : List Str) (qual : Str) (scope : Scope) (f : Addr) (cd : Value) (A : Around) (outer : List Env) (s0 : Shared) (H0 : Hp) (E : XK) : Cx :=
  (cxOf (CX1 P w) P w K mg base N qual scope f cd A outer s0 H0 E).wish (XEof (cxOf (CX1 P w) P w K mg base N qual scope f cd A outer s0 H0 E) s0.heap.objs.size E)
end
end L2

namespace L2
open PySem PySem.Spec PyProof.Rows
/-! ### list.index, len of a set of texts, calls whose exceptions pass on -/
section
variable {X : Cx}
def rIndex (K : PySem.W.Frag) : V → List V → Hp → VK → Prop := fun x vs H Q => ∃ (p : Addr) (xs : List V) (y z : V) (j : Nat), x = .ref p ∧ vs = [y] ∧ SqL K H p xs ∧ flatV y = true ∧ xs.all flatV = true ∧ xs[j]? = some z ∧ eqV z y = true ∧ (∀ (m : Nat) (u : V), m < j → xs[m]? = some u → eqV u y = false) ∧ Q (.int j) H
end
/-- calls, with what is wanted of their exceptions -/
def tFnE (sp : Sp) (E : XK) (t : TA) : TE := fun σ H Q => t σ H fun vs H1 => sp vs H1 Q E
def tMtE (C : Addr) (m : Str) (sp : Sp) (E : XK) (ta : TE) (t : TA) : TE := fun σ H Q => ta σ H fun x H1 => ∃ a dx fs, x = .ref a ∧ H1 a = some (.ins C dx fs) ∧ fs.lookup m = none ∧ t σ H1 fun vs H2 => sp (x :: vs) H2 Q E
def tMkE (C : Addr) (sp : Sp) (E : XK) (t : TA) : TE := fun σ H Q => t σ H fun vs H1 => ∀ x dx, H1 x = none → H1 dx = none → dx ≠ x →
  sp (.ref x :: vs) (upd (upd H1 dx (.own x)) x (.ins C dx [])) (fun v H2 => v = .non ∧ Q (.ref x) H2) E
section
variable {X : Cx} {k : Nat} {f C : Addr} {fd : FuncData} {ps : List Str} {sp : Sp} {x m : Str} {p np pos apos : Pos} {e o : Expr} {es : List Expr} {ta : TE} {t : TA} {E : XK}
end
end L2

namespace L2
open PySem PySem.Spec PyProof.Rows
/-! ### min and max of a list of ints; a set of ints and how many it has -/
section
variable {X : Cx}
end
/-- a set of ints -/
def SetI (P : Program) (w : World) (a : Addr) (ns : List Int) : HO := .ext fun h => h.SetOf (intKind P w) a (fun z => decide (z ∈ ns)) (cntK ns ns.length)
section
variable {X : Cx}
end
end L2
namespace L2
open PySem PySem.Spec PyProof.Rows
section
variable {X : Cx}
def rUpper : V → List V → Hp → VK → Prop := fun x vs H Q => ∃ z : Str, x = .str z ∧ vs = [] ∧ z.length ≤ 1000 ∧ Q (.str (Txt.upper z)) H
end
end L2

namespace L2
open PySem PySem.Spec PyProof.Rows
/-! ### isinstance against an own class or a built-in one, of a tuple of the module too -/
def TyG (K : PySem.W.Frag) (H : Hp) (x : V) (t : Value) : Prop := TyOf K H x t ∨ ∃ a ys, x = .ref a ∧ SqT K H a ys ∧ t = .type "tuple"
inductive ClV : V → Value → Prop where
  | ty (T : String) : ClV (.ty T) (.type T)
  | ref (C : Addr) : ClV (.ref C) (.ref C)
section
variable {X : Cx}
end
/-- what the text must have for isinstance of an instance of C -/
structure InsT (K : PySem.W.Frag) (C : Addr) : Prop where
  cl : Cls K C
  ha : PySem.W.findIn K (.ref C) "__class__" = some (some (.builtin "object.__class__"))
  hn : PySem.W.specialIn K (.builtin "object.__class__") "__get__" = some (some (.builtin "getset_descriptor.__get__"))
  tk : PySem.W.takesIn K (.builtin "object.__class__") = some true
  hm : PySem.W.mroIn K C (.type "object") = some true
/-! ### a method of one of several classes -/
def PolM (CX : CXT) (P : Program) (w : World) (K : PySem.W.Frag) (mg : Str → Option Value) (base : Heap) (k : Nat) (m : Str) (ps : List Str) (cs : List (Addr × Sp)) : Prop :=
  ∀ p ∈ cs, MCallee CX P w K mg base k p.1 m ps p.2 ∧ Cls K p.1
section
variable {CX : CXT} {P : Program} {w : World} {K : PySem.W.Frag} {mg : Str → Option Value} {base : Heap} {k : Nat} {C : Addr} {m : Str} {ps : List Str} {sp : Sp} {cs : List (Addr × Sp)}
end
def tMtP (cs : List (Addr × Sp)) (m : Str) (ta : TE) (t : TA) : TE := fun σ H Q => ta σ H fun x H1 => ∃ a p dx fs, x = .ref a ∧ p ∈ cs ∧ H1 a = some (.ins p.1 dx fs) ∧ fs.lookup m = none ∧ t σ H1 fun vs H2 => p.2 (x :: vs) H2 Q E0
section
variable {X : Cx} {CX : CXT} {k : Nat} {f C : Addr} {fd : FuncData} {ps : List Str} {sp : Sp} {x m : Str} {p np pos apos : Pos} {e o : Expr} {es : List Expr} {ta : TE} {t : TA} {cs : List (Addr × Sp)}
end
/-! ### a tuple of the module -/
def ModT (K : PySem.W.Frag) (a : Addr) (xs : List V) : Prop := ∃ (o : Obj) (its : Array Value) (n : Nat), K.lookup a = some o ∧ o.cls = .type "tuple" ∧ o.data = .seq its n ∧ its.size ≤ sizeLine ∧ Vals xs its.toList
end L2
namespace L2
open PySem PySem.Spec PyProof.Rows
theorem iteTS {c A B : Prop} [Decidable c] (hc : c) (h : A) : if decide c = true then A else B := by rw [if_pos (decide_eq_true hc)]; exact h
theorem iteFS {c A B : Prop} [Decidable c] (hc : ¬ c) (h : B) : if decide c = true then A else B := by rw [if_neg (by rw [decide_eq_false hc]; decide)]; exact h
end L2

namespace L2
open PySem PySem.Spec PyProof.Rows
/-! ### for a, b in zip(xs, ys), of two lists that stay -/
section
variable {X : Cx} {pins : List (Addr × Obj)} {σ : St} {H : Hp} {s : Shared} {h' : Heap}
/-- some records of an iterator have turned, and a new pair has come -/
theorem Inv.turnedPair {ch : List Addr} {T : Addr} {x y : V} {u v : Value} (I : Inv X pins σ H s) (hf : ∀ b ∈ ch, FpOk X pins H b) (k : ∀ b o, b ∉ ch → s.heap.get? b = some o → h'.get? b = some o)
    (nT : s.heap.get? T = none) (hT : H T = none) (gT : IsPair h' T u v) (rx : RelV x u) (ry : RelV y v) : Inv X pins σ (upd H T (.tup [x, y])) { s with heap := h' } := by
  have out : ∀ b u, H b = some u → b ∉ ch := fun b u e z => by
    have f := (hf b z).1
    rw [f] at e
    cases e
  have neT : ∀ {b o}, s.heap.get? b = some o → b ≠ T := fun e z => by rw [z, nT] at e; cases e
  have neH : ∀ {b u}, H b = some u → b ≠ T := fun e z => by rw [z, hT] at e; cases e
  have J := Inv.step (H' := upd H T (.tup [x, y])) (h' := h') (g' := s.gens) (d' := s.drawn) (t' := s.toks) (ch := ch) I
    (fun b hb => by obtain ⟨_, f1, _, f3, f4, f5⟩ := hf b hb; exact ⟨f3, f1, f4, f5⟩)
    (fun b o _ _ hc e _ => k b o hc e)
    (fun b o _ _ hc e _ => ⟨o.slots, k b o hc e⟩)
    (fun b o _ e n => by rw [upd_ne (neT e)]; exact n)
    (fun b o hc e => ⟨o, k b o hc e⟩)
    (fun b xs e => by rw [upd_ne (neH e)]; exact e)
    (fun b o w e => by rw [upd_ne (neH e)]; exact e)
    (fun b ps e => ⟨#[], by rw [upd_ne (neH e), e]; simp⟩)
    (fun m hm => by
      obtain ⟨o, es, ep, ho, r⟩ := hm
      refine ⟨o, es, ep, k _ o (fun z => ?_) ho, r⟩
      obtain ⟨_, f1, _⟩ := hf _ z
      exact f1 rfl)
    (fun b w e => by
      by_cases hb : b = T
      · subst hb
        rw [upd_same] at e
        cases e
        exact ⟨by show 2 ≤ sizeLine; decide, [u, v], .cons rx (.cons ry .nil), _, gT, rfl, _, rfl⟩
      · rw [upd_ne hb] at e
        refine (I.hok b w e).stay (fun c z hc q => k c z ?_ q) (fun c q => ?_) fun c xs q => ?_
        · rcases hc with z | z
          · rw [z]; exact out b w e
          · exact out c _ z
        · rw [upd_ne (neH q)]; exact q
        · rw [upd_ne (neH q)]; exact q)
    I.bare
  exact J
/-- some records of an iterator have turned -/
theorem Inv.turnedL {ch : List Addr} (I : Inv X pins σ H s) (hf : ∀ b ∈ ch, FpOk X pins H b) (k : ∀ b o, b ∉ ch → s.heap.get? b = some o → h'.get? b = some o) : Inv X pins σ H { s with heap := h' } := by
  have out : ∀ b u, H b = some u → b ∉ ch := fun b u e z => by
    have f := (hf b z).1
    rw [f] at e
    cases e
  have J := Inv.step (H' := H) (h' := h') (g' := s.gens) (d' := s.drawn) (t' := s.toks) (ch := ch) I
    (fun b hb => by obtain ⟨_, f1, _, f3, f4, f5⟩ := hf b hb; exact ⟨f3, f1, f4, f5⟩)
    (fun b o _ _ hc e _ => k b o hc e)
    (fun b o _ _ hc e _ => ⟨o.slots, k b o hc e⟩)
    (fun b o _ _ n => n)
    (fun b o hc e => ⟨o, k b o hc e⟩)
    (fun b xs e => e) (fun b o w e => e) (fun b ps e => ⟨#[], by rw [e]; simp⟩)
    (fun m hm => by
      obtain ⟨o, es, ep, ho, r⟩ := hm
      refine ⟨o, es, ep, k _ o (fun z => ?_) ho, r⟩
      obtain ⟨_, f1, _⟩ := hf _ z
      exact f1 rfl)
    (fun b w e => by
      refine (I.hok b w e).stay (fun c z hc q => k c z ?_ q) (fun c q => q) fun c xs q => q
      rcases hc with z | z
      · rw [z]; exact out b w e
      · exact out c _ z)
    I.bare
  exact J
end
/-- the walk of zip over the lists at a and b -/
def Itz (K : PySem.W.Frag) (a b : Addr) : It :=
  ⟨fun i H => ∃ xs ys x y, SqL K H a xs ∧ SqL K H b ys ∧ xs[i]? = some x ∧ ys[i]? = some y,
   fun i H v H' => ∃ T, H T = none ∧ v = .ref T ∧ ∀ xs ys x y, SqL K H a xs → SqL K H b ys → xs[i]? = some x → ys[i]? = some y → H' = upd H T (.tup [x, y]),
   fun i H => ∃ xs ys, SqL K H a xs ∧ SqL K H b ys ∧ (xs.length ≤ i ∨ ys.length ≤ i)⟩
/-- the iterator's records -/
def ZipSt (z TI TO i1 i2 a b : Addr) (i : Nat) (h : Heap) : Prop := IsZip h z TI TO .none ∧ IsPair h TI (.ref i1) (.ref i2) ∧ (∃ p q, IsPair h TO p q) ∧ h.IsListIter i1 a i ∧ h.IsListIter i2 b i
theorem turn_zip {P : Program} {w : World} {K : PySem.W.Frag} {elts : List Expr} {x1} {tp : Pos} {z TI TO i1 i2 a b : Addr} (D : ZipApart z TI TO i1 i2 a b) :
    Turn P w K (.Tuple elts x1 tp) (Itz K a b) [z, TI, TO, i1, i2] z (ZipSt z TI TO i1 i2 a b) where
  mem := by simp
  obj := fun i h st c hc => by
    obtain ⟨g1, g2, ⟨p, q, g3⟩, ⟨o4, g4, _, d4⟩, ⟨o5, g5, _, d5⟩⟩ := st
    simp only [List.mem_cons, List.not_mem_nil, or_false] at hc
    rcases hc with rfl | rfl | rfl | rfl | rfl
    · exact ⟨_, g1, fun v q => nomatch q⟩
    · exact ⟨_, g2, fun v q => nomatch q⟩
    · exact ⟨_, g3, fun v q => nomatch q⟩
    · exact ⟨_, g4, fun v q => by rw [d4] at q; cases q⟩
    · exact ⟨_, g5, fun v q => by rw [d5] at q; cases q⟩
  keep := fun i h h' st k => by
    obtain ⟨g1, g2, ⟨p, q, g3⟩, g4, g5⟩ := st
    exact ⟨k z (by simp) _ g1, k TI (by simp) _ g2, ⟨p, q, k TO (by simp) _ g3⟩, g4.at fun o e => k i1 (by simp) o e, g5.at fun o e => k i2 (by simp) o e⟩
  item := by
    intro X hP hw hK hc i pins s σ H E I hf st hg
    subst hP hw hK
    obtain ⟨xs, ys, x, y, qa, qb, ex, ey⟩ := hg
    obtain ⟨g1, g2, ⟨p, q, g3⟩, g4, g5⟩ := st
    obtain ⟨us, ru, pu, _⟩ := I.list qa
    obtain ⟨vs, rv, pv, _⟩ := I.list qb
    obtain ⟨u, eu, r1⟩ := ru.get ex
    obtain ⟨v, ev, r2⟩ := rv.get ey
    refine wpAny_pyNext_zip_item D g1 g2 g3 g4 g5 pu.isList pv.isList (x := u) (y := v) (by simpa using eu) (by simpa using ev) fun h1 a1 a2 a3 a4 a5 a6 a7 => ?_
    refine ⟨_, rfl, wpAny_letOwnedTupleGo_zip (s := { s with heap := h1 }) a1 fun h2 b1 b2 => ?_⟩
    have nT : s.heap.get? s.heap.objs.size = none := by
      cases q : s.heap.get? s.heap.objs.size with
      | none => rfl
      | some o => exact absurd (Heap.lt_size q) (Nat.lt_irrefl _)
    have hT : H s.heap.objs.size = none := I.hok.fresh (Nat.le_refl _)
    have nz : s.heap.objs.size ≠ z := Nat.ne_of_gt (Heap.lt_size g1)
    have kk : ∀ c o, c ∉ [z, TO, i1, i2] → s.heap.get? c = some o → h2.get? c = some o := fun c o hc e => by
      simp only [List.mem_cons, List.not_mem_nil, or_false, not_or] at hc
      exact b2.extBut _ _ hc.1 (a7 c o hc.1 hc.2.1 hc.2.2.1 hc.2.2.2 e)
    have J := I.turnedPair (h' := h2) (ch := [z, TO, i1, i2]) (T := s.heap.objs.size) (x := x) (y := y) (u := u) (v := v) (fun c hc => hf c (by simp at hc ⊢; rcases hc with e | e | e | e <;> simp [e])) kk nT hT (b2.extBut _ _ nz a5) r1 r2
    refine ⟨.ref s.heap.objs.size, upd H s.heap.objs.size (.tup [x, y]), J, rfl, ⟨_, hT, rfl, fun xs' ys' x' y' q1 q2 e1 e2 => ?_⟩, ⟨b1, b2.extBut _ _ D.TIz (a7 TI _ D.TIz D.TITO D.TIi1 D.TIi2 g2), ⟨_, _, b2.extBut _ _ D.TOz a2⟩, a3.extBut b2.extBut D.i1z, a4.extBut b2.extBut D.i2z⟩, fun c hc => ?_⟩
    · rw [I.list_inj q1 qa] at e1
      rw [I.list_inj q2 qb] at e2
      rw [ex] at e1; rw [ey] at e2
      cases e1; cases e2
      rfl
    · have h0 := (hf c hc).1
      have : c ≠ s.heap.objs.size := by
        obtain ⟨o4, g4', _⟩ := g4
        obtain ⟨o5, g5', _⟩ := g5
        simp only [List.mem_cons, List.not_mem_nil, or_false] at hc
        rcases hc with rfl | rfl | rfl | rfl | rfl
        · exact nz.symm
        · exact Nat.ne_of_lt (Heap.lt_size g2)
        · exact Nat.ne_of_lt (Heap.lt_size g3)
        · exact Nat.ne_of_lt (Heap.lt_size g4')
        · exact Nat.ne_of_lt (Heap.lt_size g5')
      rw [upd_ne this]; exact h0
  done := by
    intro X hP hw hK hc i pins s σ H E I hf st hg
    subst hP hw hK
    obtain ⟨xs, ys, qa, qb, hl⟩ := hg
    obtain ⟨g1, g2, ⟨p, q, g3⟩, g4, g5⟩ := st
    obtain ⟨us, ru, pu, _⟩ := I.list qa
    obtain ⟨vs, rv, pv, _⟩ := I.list qb
    have l1 := ru.length
    have l2 := rv.length
    refine wpAny_pyNext_zip_end (I.ok.hd hc) D g1 g2 g3 g4 g5 pu.isList pv.isList ?_ fun h2 k => ⟨rfl, I.turnedL (ch := [z, TO, i1, i2]) (fun c hc => hf c (by simp at hc ⊢; rcases hc with e | e | e | e <;> simp [e])) fun c o hc e => ?_⟩
    · rcases hl with hl | hl
      · exact .inl (by simp; omega)
      · exact .inr (by simp; omega)
    · simp only [List.mem_cons, List.not_mem_nil, or_false, not_or] at hc
      exact k c o hc.1 hc.2.1 hc.2.2.1 hc.2.2.2 e
  self := fun _ _ _ _ _ st h => wpAny_pyIter_zip st.1 h
def iZip (K : PySem.W.Frag) (ta : TA) : TI := fun σ H R => ta σ H fun vs H1 => ∃ a b, vs = [.ref a, .ref b] ∧ (∃ xs, SqL K H1 a xs) ∧ (∃ ys, SqL K H1 b ys) ∧ R (Itz K a b) H1
section
variable {X : Cx}
theorem pi_zip {e1 e2 : Expr} {ta : TA} {p pos : Pos} {elts : List Expr} {x1} {tp : Pos} (hg : Gl X "zip") (hm : X.mg "zip" = none) (ha : PA X [e1, e2] ta)
    (hs : starEach [e1, e2] X.env = [(false, eval e1 X.env), (false, eval e2 X.env)] := by rfl) (hs2 : starEach [e2] X.env = [(false, eval e2 X.env)] := by rfl) :
    PI X (.Tuple elts x1 tp) (.Call (.Name "zip" p) [e1, e2] [] pos) (iZip X.K ta) := by
  intro pins s σ H R I h
  refine Call_ (ld_blt I hg hm PyProof.Rows.boot_zip (PyProof.Rows.callWith_type1 (thn (ha pos pins s σ H _ I h) fun us s1 ⟨vs, H1, I1, r1, q1⟩ => ?_) (by rw [hs, hs2]) (by rw [hs2]; rfl)))
  obtain ⟨a, b, rfl, ⟨xs, qa⟩, ⟨ys, qb⟩, q⟩ := q1
  obtain ⟨u, v, rfl, ru, rv⟩ := r1.two
  cases (show u = Value.ref a from ru)
  cases (show v = Value.ref b from rv)
  obtain ⟨us, _, pu, _⟩ := I1.list qa
  obtain ⟨vs, _, pv, _⟩ := I1.list qb
  obtain ⟨oa, ea, _⟩ := id pu.isList
  obtain ⟨ob, eb, _⟩ := id pv.isList
  have la : a < s1.heap.objs.size := Heap.lt_size ea
  have lb : b < s1.heap.objs.size := Heap.lt_size eb
  refine call_zip_2 pu.isList pv.isList fun h' z1 z2 z3 z4 z5 z6 z7 => ?_
  refine wpAny_pyIter_zip (s := { s1 with heap := h' }) z1 ?_
  refine ⟨s1.heap.objs.size + 4, [s1.heap.objs.size + 4, s1.heap.objs.size + 2, s1.heap.objs.size + 3, s1.heap.objs.size, s1.heap.objs.size + 1], ZipSt (s1.heap.objs.size + 4) (s1.heap.objs.size + 2) (s1.heap.objs.size + 3) s1.heap.objs.size (s1.heap.objs.size + 1) a b, Itz X.K a b, H1, rfl, I1.kept (t' := s1.toks) z7, turn_zip ?_, ⟨z1, z2, ⟨_, _, z3⟩, z4, z5⟩, fun c hc => ?_, q⟩
  · refine ⟨?_, ?_, ?_, ?_, ?_, ?_, ?_, ?_, ?_, ?_, ?_, ?_, ?_, ?_, ?_, ?_, ?_, ?_⟩ <;> first | exact Nat.ne_of_lt (by omega) | exact Nat.ne_of_gt (by omega) | exact Nat.ne_of_lt la | exact Nat.ne_of_lt lb | exact Nat.ne_of_lt (Nat.lt_of_lt_of_le la (Nat.le_add_right _ _)) | exact Nat.ne_of_lt (Nat.lt_of_lt_of_le lb (Nat.le_add_right _ _))
  · have hc' : s1.heap.objs.size ≤ c := by
      simp only [List.mem_cons, List.not_mem_nil, or_false] at hc
      rcases hc with rfl | rfl | rfl | rfl | rfl <;> omega
    exact I1.fpOk hc' (I1.hok.fresh hc')
end
/-- over two lists that the body leaves as they are -/
theorem for_zip {K : PySem.W.Frag} {a b : Addr} {xs ys : List V} {g : TG} {tb : TS} {D : Ends} {σ : St} {H : Hp} (Pv : Nat → St → Hp → Prop) (h0 : Pv 0 σ H) (hl : ∀ i σ H, Pv i σ H → SqL K H a xs ∧ SqL K H b ys)
    (hs : ∀ i x y σ H T, xs[i]? = some x → ys[i]? = some y → Pv i σ H → H T = none → g (.ref T) σ (upd H T (.tup [x, y])) fun σ2 H2 => tb { D with nx := Pv (i + 1), ct := Pv (i + 1), bk := D.nx } σ2 H2)
    (hd : ∀ σ H, Pv (min xs.length ys.length) σ H → D.nx σ H) :
    ∃ W : Nat → Nat → St → Hp → Prop, (∃ m, W 0 m σ H) ∧ ∀ i m σ H, W i m σ H →
      ((Itz K a b).stop i H ∧ D.nx σ H) ∨ ((Itz K a b).go i H ∧ ∃ N : St → Hp → Prop, (∀ σ' H', N σ' H' → ∃ m', m' < m ∧ W (i + 1) m' σ' H') ∧ ∀ x H', (Itz K a b).yld i H x H' → g x σ H' fun σ2 H2 => tb { D with nx := N, ct := N, bk := D.nx } σ2 H2) := by
  refine ⟨fun i m σ H => m = min xs.length ys.length - i ∧ i ≤ min xs.length ys.length ∧ Pv i σ H, ⟨min xs.length ys.length, by simp, Nat.zero_le _, h0⟩, ?_⟩
  rintro i m σ H ⟨rfl, hi, p⟩
  obtain ⟨q1, q2⟩ := hl i σ H p
  by_cases lt : i < min xs.length ys.length
  · have e1 : xs[i]? = some xs[i] := List.getElem?_eq_getElem (by omega)
    have e2 : ys[i]? = some ys[i] := List.getElem?_eq_getElem (by omega)
    refine .inr ⟨⟨xs, ys, _, _, q1, q2, e1, e2⟩, Pv (i + 1), fun σ' H' p' => ⟨_, ?_, rfl, lt, p'⟩, fun v H' yl => ?_⟩
    · omega
    · obtain ⟨T, hT, rfl, e⟩ := yl
      rw [e xs ys _ _ q1 q2 e1 e2]
      exact hs i _ _ σ H T e1 e2 p hT
  · have e : i = min xs.length ys.length := by omega
    subst e
    exact .inl ⟨⟨xs, ys, q1, q2, by omega⟩, hd σ H p⟩
end L2
namespace L2
open PySem PySem.Spec PyProof.Rows
section
variable {X : Cx}
end
/-- products of numbers of few bits -/
theorem mul_bits {a b : Int} {m n : Nat} (ha : a.natAbs < 2 ^ m) (hb : b.natAbs < 2 ^ n) (hm : m ≤ 2 ^ 20) (hn : n ≤ 2 ^ 20) : IntMulOk a b :=
  .of_bits (Nat.le_trans (PyProof.Rows.intBits_le ha) hm) (Nat.le_trans (PyProof.Rows.intBits_le hb) hn)
end L2
namespace L2
open PySem PySem.Spec PyProof.Rows
theorem call_len_seqK {X : Cx} {K : PySem.W.Frag} (h : X.K = K) : CallR X (.builtin "len") (fun xs H Q => ∃ p ys, xs = [.ref p] ∧ (SqL K H p ys ∨ SqT K H p ys) ∧ Q (.int ys.length) H) := h ▸ call_len_seq
end L2

namespace L2
open PySem PySem.Spec PyProof.Rows
/-! ### for k, x in enumerate(xs), of a list that stays; all(..) of a list of bools; a block with a tuple target that sees names of the def -/
/-- the walk of enumerate over the list at a -/
def Ite (K : PySem.W.Frag) (a : Addr) : It :=
  ⟨fun i H => ∃ xs x, SqL K H a xs ∧ xs[i]? = some x,
   fun i H v H' => ∃ T, H T = none ∧ v = .ref T ∧ ∀ xs x, SqL K H a xs → xs[i]? = some x → H' = upd H T (.tup [.int i, x]),
   fun i H => ∃ xs, SqL K H a xs ∧ xs.length ≤ i⟩
def EnumSt (e it a : Addr) (i : Nat) (h : Heap) : Prop := (∃ old, IsEnum h e it i old) ∧ h.IsListIter it a i
theorem turn_enum {P : Program} {w : World} {K : PySem.W.Frag} {elts : List Expr} {x1} {tp : Pos} {e it a : Addr} (hne : e ≠ it) :
    Turn P w K (.Tuple elts x1 tp) (Ite K a) [e, it] e (EnumSt e it a) where
  mem := by simp
  obj := fun i h st c hc => by
    obtain ⟨⟨old, g1⟩, ⟨o2, g2, _, d2⟩⟩ := st
    simp only [List.mem_cons, List.not_mem_nil, or_false] at hc
    rcases hc with rfl | rfl
    · exact ⟨_, g1, fun v q => nomatch q⟩
    · exact ⟨_, g2, fun v q => by rw [d2] at q; cases q⟩
  keep := fun i h h' st k => by
    obtain ⟨⟨old, g1⟩, g2⟩ := st
    exact ⟨⟨old, k e (by simp) _ g1⟩, g2.at fun o q => k it (by simp) o q⟩
  item := by
    intro X hP hw hK hc i pins s σ H E I hf st hg
    subst hP hw hK
    obtain ⟨xs, x, qa, ex⟩ := hg
    obtain ⟨⟨old, g1⟩, g2⟩ := st
    obtain ⟨us, ru, pu, _⟩ := I.list qa
    obtain ⟨u, eu, r1⟩ := ru.get ex
    refine wpAny_pyNext_enum_item g1 g2 pu.isList (x := u) (by simpa using eu) hne fun h1 a1 a2 a3 a4 a5 => ?_
    refine ⟨_, rfl, wpAny_letOwnedTupleGo_enum (s := { s with heap := h1, toks := s.toks + 1 }) a1 fun h2 b1 b2 => ?_⟩
    have nT : s.heap.get? s.heap.objs.size = none := by
      cases q : s.heap.get? s.heap.objs.size with
      | none => rfl
      | some o => exact absurd (Heap.lt_size q) (Nat.lt_irrefl _)
    have hT : H s.heap.objs.size = none := I.hok.fresh (Nat.le_refl _)
    have nz : s.heap.objs.size ≠ e := Nat.ne_of_gt (Heap.lt_size g1)
    have kk : ∀ c o, c ∉ [e, it] → s.heap.get? c = some o → h2.get? c = some o := fun c o hc q => by
      simp only [List.mem_cons, List.not_mem_nil, or_false, not_or] at hc
      exact b2.extBut _ _ hc.1 (a5 c o hc.1 hc.2 q)
    have J := I.turnedPair (h' := h2) (ch := [e, it]) (T := s.heap.objs.size) (x := .int i) (y := x) (u := .int i s.toks) (v := u) (fun c hc => hf c (by simp at hc ⊢; rcases hc with q | q <;> simp [q])) kk nT hT (b2.extBut _ _ nz a3) ⟨_, rfl⟩ r1
    refine ⟨.ref s.heap.objs.size, upd H s.heap.objs.size (.tup [.int i, x]), J.tok _, rfl, ⟨_, hT, rfl, fun xs' x' q1 e1 => ?_⟩, ⟨⟨_, b1⟩, a2.extBut b2.extBut hne.symm⟩, fun c hc => ?_⟩
    · rw [I.list_inj q1 qa, ex] at e1
      cases e1
      rfl
    · have h0 := (hf c hc).1
      have : c ≠ s.heap.objs.size := by
        obtain ⟨o2, g2', _⟩ := g2
        simp only [List.mem_cons, List.not_mem_nil, or_false] at hc
        rcases hc with rfl | rfl
        · exact nz.symm
        · exact Nat.ne_of_lt (Heap.lt_size g2')
      rw [upd_ne this]; exact h0
  done := by
    intro X hP hw hK hc i pins s σ H E I hf st hg
    subst hP hw hK
    obtain ⟨xs, qa, hl⟩ := hg
    obtain ⟨⟨old, g1⟩, g2⟩ := st
    obtain ⟨us, ru, pu, _⟩ := I.list qa
    have l1 := ru.length
    refine wpAny_pyNext_enum_end (I.ok.hd hc) g1 g2 pu.isList (by simp; omega) fun h2 k => ⟨rfl, I.turnedL (ch := [e, it]) (fun c hc => hf c (by simp at hc ⊢; rcases hc with q | q <;> simp [q])) fun c o hc q => ?_⟩
    simp only [List.mem_cons, List.not_mem_nil, or_false, not_or] at hc
    exact k c o hc.2 q
  self := fun _ _ _ _ _ st h => let ⟨⟨_, g⟩, _⟩ := st; wpAny_pyIter_enum g h
def iEnum (K : PySem.W.Frag) (ta : TA) : TI := fun σ H R => ta σ H fun vs H1 => ∃ a, vs = [.ref a] ∧ (∃ xs, SqL K H1 a xs) ∧ R (Ite K a) H1
section
variable {X : Cx}
theorem pi_enum {e1 : Expr} {ta : TA} {p pos : Pos} {elts : List Expr} {x1} {tp : Pos} (hg : Gl X "enumerate") (hm : X.mg "enumerate" = none) (ha : PA X [e1] ta)
    (hs : starEach [e1] X.env = [(false, eval e1 X.env)] := by rfl) :
    PI X (.Tuple elts x1 tp) (.Call (.Name "enumerate" p) [e1] [] pos) (iEnum X.K ta) := by
  intro pins s σ H R I h
  refine Call_ (ld_blt I hg hm PyProof.Rows.boot_enumerate (PyProof.Rows.callWith_type1 (thn (ha pos pins s σ H _ I h) fun us s1 ⟨vs, H1, I1, r1, q1⟩ => ?_) (by rw [hs]; rfl) rfl))
  obtain ⟨a, rfl, ⟨xs, qa⟩, q⟩ := q1
  obtain ⟨u, rfl, ru⟩ := r1.one
  cases (show u = Value.ref a from ru)
  obtain ⟨us, _, pu, _⟩ := I1.list qa
  refine call_enumerate_list pu.isList fun h' z1 z2 z3 z4 => ?_
  refine wpAny_pyIter_enum (s := { s1 with heap := h' }) z1 ?_
  refine ⟨s1.heap.objs.size + 1, [s1.heap.objs.size + 1, s1.heap.objs.size], EnumSt (s1.heap.objs.size + 1) s1.heap.objs.size a, Ite X.K a, H1, rfl, I1.kept (t' := s1.toks) z4, turn_enum (Nat.ne_of_gt (Nat.lt_succ_self _)), ⟨⟨_, z1⟩, z2⟩, fun c hc => ?_, q⟩
  have hc' : s1.heap.objs.size ≤ c := by
    simp only [List.mem_cons, List.not_mem_nil, or_false] at hc
    rcases hc with rfl | rfl
    · exact Nat.le_succ _
    · exact Nat.le_refl _
  exact I1.fpOk hc' (I1.hok.fresh hc')
end
section
variable {gt : TG} {k : Nat} {fr : List Nat} {tt : TT} {te : TE}
theorem compG_zip {K : PySem.W.Frag} {a b : Addr} {xs ys : List V} {σ : St} {H1 : Hp} {Q : VK} (Pv : Addr → Nat → List V → Hp → Prop) (h0 : ∀ D, H1 D = none → Pv D 0 [] (upd H1 D (.lst [])))
    (hk : ∀ D i zs H, H1 D = none → i ≤ min xs.length ys.length → Pv D i zs H → SqL K H a xs ∧ SqL K H b ys)
    (hs : ∀ D i x y zs H T, H1 D = none → xs[i]? = some x → ys[i]? = some y → Pv D i zs H → H T = none → ∀ ts : St, ts.length = k → gt (.ref T) (cmpStG σ fr ts) (upd H T (.tup [x, y])) fun σ2 H2 => (∃ ts2 : St, ts2.length = k ∧ σ2 = cmpStG σ fr ts2) ∧ tt σ2 H2 fun b H3 => if b = true then te σ2 H3 (CYes Pv D i (min xs.length ys.length)) else CNext Pv D i (min xs.length ys.length) H3)
    (hd : ∀ D zs H, H1 D = none → Pv D (min xs.length ys.length) zs H → Q (.ref D) H) : CompAtG (Itz K a b) gt k fr tt te σ Q H1 := by
  intro D hD
  refine ⟨fun i m H => m = min xs.length ys.length - i ∧ i ≤ min xs.length ys.length ∧ ∃ zs, Pv D i zs H, ⟨_, rfl, Nat.zero_le _, [], h0 D hD⟩, ?_⟩
  rintro i m H ⟨rfl, hi, zs, p⟩
  obtain ⟨q1, q2⟩ := hk D i zs H hD hi p
  by_cases hlt : i < min xs.length ys.length
  · have ex : xs[i]? = some xs[i] := List.getElem?_eq_getElem (by omega)
    have ey : ys[i]? = some ys[i] := List.getElem?_eq_getElem (by omega)
    refine .inr ⟨⟨xs, ys, xs[i], ys[i], q1, q2, ex, ey⟩, fun x H' y => ?_⟩
    obtain ⟨T, hT, rfl, e⟩ := y
    rw [e xs ys _ _ q1 q2 ex ey]
    exact hs D i _ _ zs _ T hD ex ey p hT
  · have e : i = min xs.length ys.length := by omega
    subst e
    exact .inl ⟨⟨xs, ys, q1, q2, by omega⟩, hd D zs H hD p⟩
end
theorem cmpOkG_free {X : Cx} {N : List Str} {k : Nat} {fr : List Nat} {scope : Scope} {cl : List (Str × Addr)} (clos : closureFor scope X.env = pure cl) (kind : scope.kind = .function) (nocell : ∀ y ∈ scope.names, y.2 ≠ .cell)
    (names : ∀ y ∈ scope.names, y.2 = .local → scope.names.lookup y.1 = some .local) (len : N.length = k + fr.length)
    (sub : ((List.range fr.length).all fun i => match N[k + i]?, fr[i]? with | some y, some j => (X.N[j]? == some y) && ((X.env.kindOf y == some .cell) && ((relabel scope X.env).names.lookup y == some .cell)) | _, _ => false) = true)
    (cells : ∀ p ∈ cl, X.env.cells.lookup p.1 = some p.2) (has : ((relabel scope X.env).names.all fun p => (p.2 != .cell && p.2 != .free) || (cl.lookup p.1).isSome) = true) : CmpOkG X N k fr scope cl := by
  refine ⟨clos, kind, nocell, names, len, fun i y e => ?_, fun y c e => cells _ (PySem.mem_of_lookup e), fun y h => ?_⟩
  · have hi : i < fr.length := by have := (List.getElem?_eq_some_iff.mp e).1; omega
    have z := List.all_eq_true.mp sub i (List.mem_range.mpr hi)
    rw [e, List.getElem?_eq_getElem hi] at z
    simp only [Bool.and_eq_true, beq_iff_eq] at z
    exact ⟨_, List.getElem?_eq_getElem hi, z.1, .inl z.2.1, .inl z.2.2⟩
  · have look : ∀ k, (relabel scope X.env).names.lookup y = some k → (k = .cell ∨ k = .free) → ∃ c, cl.lookup y = some c := fun k e hk => by
      have z := List.all_eq_true.mp has _ (PySem.mem_of_lookup e)
      rcases hk with rfl | rfl
      · exact Option.isSome_iff_exists.mp (by simpa using z)
      · exact Option.isSome_iff_exists.mp (by simpa using z)
    rcases h with h | h
    · exact look _ h (.inl rfl)
    · exact look _ h (.inr rfl)
theorem all_getD (bs : List Bool) : (List.range bs.length).all (fun i => bs.getD i true) = bs.all id := by
  rw [Bool.eq_iff_iff, List.all_eq_true, List.all_eq_true]
  constructor
  · intro h b hb
    obtain ⟨i, hi, rfl⟩ := List.getElem_of_mem hb
    have := h i (List.mem_range.mpr hi)
    simpa [List.getD_eq_getElem?_getD, hi] using this
  · intro h i hi
    have hi' := List.mem_range.mp hi
    have := h bs[i] (List.getElem_mem hi')
    simpa [List.getD_eq_getElem?_getD, hi'] using this
section
variable {X : Cx}
/-- all(xs), xs a list of bools -/
theorem call_all_bools (hc : X.calm = true) : CallR X (.builtin "all") (fun us H Q => ∃ (a : Addr) (bs : List Bool), us = [.ref a] ∧ SqL X.K H a (bs.map V.bl) ∧ Q (.bl (bs.all id)) H) := by
  intro pins s σ H us vs Q I r h
  obtain ⟨a, bs, rfl, hq, q⟩ := h
  obtain ⟨u, rfl, rx⟩ := r.one
  cases (show u = Value.ref a from rx)
  obtain ⟨its, rv, pl, hz⟩ := I.list hq
  have hl := rv.length
  rw [List.length_map] at hl
  obtain ⟨o, eo, _⟩ := id pl.isList
  have la : a < s.heap.objs.size := Heap.lt_size eo
  refine call_all_walk (wpAny_pyIter_list pl.isList ⟨s.heap.objs.size, [s.heap.objs.size, a], [s.heap.objs.size], its.toArray.size, _, _, fun i => bs.getD i true, rfl, Walks.list (by simp [I.ok.hd hc]) _ a (Nat.ne_of_lt la) its.toArray, ⟨⟨_, Heap.get?_push_size _ rfl, rfl, rfl⟩, pl.isList.push _⟩, ?_, fun h' tk k => ?_⟩)
  · intro i v s2 Q2 E2 hp hq2
    have e1 : its[i]? = some v := by simpa using hp
    have hi : i < bs.length := by have := (List.getElem?_eq_some_iff.mp e1).1; omega
    obtain ⟨u, e2, ru⟩ := rv.get (show (bs.map V.bl)[i]? = some (.bl bs[i]) by rw [List.getElem?_map, List.getElem?_eq_getElem hi]; rfl)
    rw [e1] at e2
    cases e2
    obtain rfl : v = .bool bs[i] := ru
    refine wpAny_truthy_bool ?_
    have : bs.getD i true = bs[i] := by simp [List.getD_eq_getElem?_getD, hi]
    replace hq2 : Q2 (bs.getD i true) s2 := hq2
    rw [this] at hq2
    exact hq2
  · refine ⟨.bl (bs.all id), H, I.kept (t' := tk) fun b o e => k b o (fun z => ?_) (Heap.get?_push_of_some _ e), ?_, q⟩
    · have : b = s.heap.objs.size := by simpa using z
      exact absurd (Heap.lt_size e) (by rw [this]; exact Nat.lt_irrefl _)
    · show Value.bool ((List.range its.toArray.size).all fun i => bs.getD i true) = .bool (bs.all id)
      rw [show its.toArray.size = bs.length by simp; omega, all_getD]
end
section
variable {X : Cx} {elt iter tg : Expr} {ifs : List Expr} {pos : Pos} {scope : Scope} {cl : List (Str × Addr)} {N : List Str} {k : Nat} {fr : List Nat} {gt : TG} {tt : TT} {te : TE}
end
end L2

namespace L2
open PySem
set_option maxRecDepth 100000
section
variable {prog : Program} {w : World} {A : Around} {E : Value → Shared → Prop} {s : Shared}
end
section
variable {X : Cx}
/-- list(reversed(xs)) -/
def tLR (K : PySem.W.Frag) (ta : TA) : TE := fun σ H Q => ta σ H fun vs H1 => ∃ a xs, vs = [.ref a] ∧ SqL K H1 a xs ∧ ∀ p, H1 p = none → Q (.ref p) (upd H1 p (.lst xs.reverse))
end
end L2
namespace L2
open PySem
theorem for_enum {K : PySem.W.Frag} {a : Addr} {xs : List V} {g : TG} {tb : TS} {D : Ends} {σ : St} {H : Hp} (Pv : Nat → St → Hp → Prop) (h0 : Pv 0 σ H) (hl : ∀ i σ H, Pv i σ H → SqL K H a xs)
    (hs : ∀ i x σ H T, xs[i]? = some x → Pv i σ H → H T = none → g (.ref T) σ (upd H T (.tup [.int i, x])) fun σ2 H2 => tb { D with nx := Pv (i + 1), ct := Pv (i + 1), bk := D.nx } σ2 H2)
    (hd : ∀ σ H, Pv xs.length σ H → D.nx σ H) :
    ∃ W : Nat → Nat → St → Hp → Prop, (∃ m, W 0 m σ H) ∧ ∀ i m σ H, W i m σ H →
      ((Ite K a).stop i H ∧ D.nx σ H) ∨ ((Ite K a).go i H ∧ ∃ N : St → Hp → Prop, (∀ σ' H', N σ' H' → ∃ m', m' < m ∧ W (i + 1) m' σ' H') ∧ ∀ x H', (Ite K a).yld i H x H' → g x σ H' fun σ2 H2 => tb { D with nx := N, ct := N, bk := D.nx } σ2 H2) := by
  refine ⟨fun i m σ H => m = xs.length - i ∧ i ≤ xs.length ∧ Pv i σ H, ⟨xs.length, by simp, Nat.zero_le _, h0⟩, ?_⟩
  rintro i m σ H ⟨rfl, hi, p⟩
  have q1 := hl i σ H p
  by_cases lt : i < xs.length
  · have e1 : xs[i]? = some xs[i] := List.getElem?_eq_getElem lt
    refine .inr ⟨⟨xs, _, q1, e1⟩, Pv (i + 1), fun σ' H' p' => ⟨_, ?_, rfl, lt, p'⟩, fun v H' yl => ?_⟩
    · omega
    · obtain ⟨T, hT, rfl, e⟩ := yl
      rw [e xs _ q1 e1]
      exact hs i _ σ H T e1 p hT
  · have e : i = xs.length := by omega
    subst e
    exact .inl ⟨⟨xs, q1, Nat.le_refl _⟩, hd σ H p⟩
end L2

namespace L2
open PySem PySem.Spec PyProof.Rows
/-! ### a list comprehension whose own names are seen by a block within it: they are cells of its frame -/
def cmpEnvN (scope : Scope) (cl : List (Str × Addr)) (C : Addr) (env : Env) : Env :=
  { scope := relabel scope env, locals := C, globals := env.globals, cells := cellsFrom (C + 1) scope.names cl, qual := env.qual, func := none, code := env.code, frame := env.frame, builtins := env.builtins }
def cmpCxN (X : Cx) (N : List Str) (scope : Scope) (cl : List (Str × Addr)) (fp : List Addr) (C : Addr) (s2 : Shared) (H2 : Hp) : Cx :=
  { prog := X.prog, w := X.w, K := X.K, mg := X.mg, base := X.base, A := X.A, N := N, s₀ := s2, H₀ := H2, env := cmpEnvN scope cl C X.env, outer := X.stack, stack := X.stack, ex := fp, fn := fun y => scope.names.lookup y == some .cell, calm := X.calm, pn := [], xe := fun _ _ => False }
structure CmpOkN (X : Cx) (N : List Str) (k : Nat) (fr : List Nat) (scope : Scope) (cl : List (Str × Addr)) : Prop where
  clos : closureFor scope X.env = pure cl
  kind : scope.kind = .function
  names : ∀ y ∈ scope.names, y.2 = .local → scope.names.lookup y.1 = some .local
  len : N.length = k + fr.length
  sub : ∀ (i : Nat) (y : Str), N[k + i]? = some y → ∃ j, fr[i]? = some j ∧ X.N[j]? = some y ∧ (X.env.kindOf y = some .cell ∨ X.env.kindOf y = some .free) ∧ ((relabel scope X.env).names.lookup y = some .cell ∨ (relabel scope X.env).names.lookup y = some .free) ∧ ∃ c, cl.lookup y = some c ∧ ∀ C : Addr, (cellsFrom (C + 1) scope.names cl).lookup y = some c
  cells : ∀ y c, cl.lookup y = some c → X.env.cells.lookup y = some c
  has : ∀ (C : Addr) (y : Str), ((relabel scope X.env).names.lookup y = some .cell ∨ (relabel scope X.env).names.lookup y = some .free) → ∃ c, (cellsFrom (C + 1) scope.names cl).lookup y = some c
section
variable {X : Cx} {elt iter tg : Expr} {ifs : List Expr} {pos : Pos} {scope : Scope} {cl : List (Str × Addr)} {N : List Str} {k : Nat} {fr : List Nat} {gt : TG} {tt : TT} {te : TE}
end
/-- the names of the def that the block sees, one by one -/
def SubN (X : Cx) (N : List Str) (scope : Scope) (cl : List (Str × Addr)) : List Nat → Nat → Prop
  | [], _ => True
  | j :: fr, i => (∃ (y : Str) (c : Addr), N[i]? = some y ∧ X.N[j]? = some y ∧ X.env.kindOf y = some .cell ∧ (relabel scope X.env).names.lookup y = some .cell ∧ cl.lookup y = some c ∧ ∀ C : Addr, (cellsFrom (C + 1) scope.names cl).lookup y = some c) ∧ SubN X N scope cl fr (i + 1)
/-! list.insert -/
def rInsert : V → List V → Hp → VK → Prop := fun x vs H Q => ∃ (l : Addr) (xs : List V) (i : Int) (k : Nat) (y : V), x = .ref l ∧ vs = [.int i, y] ∧ i = (k : Int) ∧ H l = some (.lst xs) ∧ k ≤ xs.length ∧ xs.length < sizeLine ∧ Q .non (upd H l (.lst (xs.take k ++ y :: xs.drop k)))
end L2

namespace L2
open PySem PySem.Spec PyProof.Rows
theorem any_getD (bs : List Bool) : (List.range bs.length).any (fun i => bs.getD i true) = bs.any id := by
  rw [Bool.eq_iff_iff, List.any_eq_true, List.any_eq_true]
  constructor
  · rintro ⟨i, hi, h⟩
    have hi' := List.mem_range.mp hi
    exact ⟨bs[i], List.getElem_mem hi', by simpa [List.getD_eq_getElem?_getD, hi'] using h⟩
  · rintro ⟨b, hb, h⟩
    obtain ⟨i, hi, rfl⟩ := List.getElem_of_mem hb
    exact ⟨i, List.mem_range.mpr hi, by simpa [List.getD_eq_getElem?_getD, hi] using h⟩
section
variable {X : Cx}
theorem pi_tupK {K : PySem.W.Frag} {tg l : Expr} {tl : TE} (h : X.K = K) (hl : PE X l tl) : PI X tg l (iTup K tl) := h ▸ pi_tup hl
/-- any(xs), xs a list of bools -/
theorem call_any_bools (hc : X.calm = true) : CallR X (.builtin "any") (fun us H Q => ∃ (a : Addr) (bs : List Bool), us = [.ref a] ∧ SqL X.K H a (bs.map V.bl) ∧ Q (.bl (bs.any id)) H) := by
  intro pins s σ H us vs Q I r h
  obtain ⟨a, bs, rfl, hq, q⟩ := h
  obtain ⟨u, rfl, rx⟩ := r.one
  cases (show u = Value.ref a from rx)
  obtain ⟨its, rv, pl, hz⟩ := I.list hq
  have hl := rv.length
  rw [List.length_map] at hl
  obtain ⟨o, eo, _⟩ := id pl.isList
  have la : a < s.heap.objs.size := Heap.lt_size eo
  refine call_any_walk (wpAny_pyIter_list pl.isList ⟨s.heap.objs.size, [s.heap.objs.size, a], [s.heap.objs.size], its.toArray.size, _, _, fun i => bs.getD i true, rfl, Walks.list (by simp [I.ok.hd hc]) _ a (Nat.ne_of_lt la) its.toArray, ⟨⟨_, Heap.get?_push_size _ rfl, rfl, rfl⟩, pl.isList.push _⟩, ?_, fun h' tk k => ?_⟩)
  · intro i v s2 Q2 E2 hp hq2
    have e1 : its[i]? = some v := by simpa using hp
    have hi : i < bs.length := by have := (List.getElem?_eq_some_iff.mp e1).1; omega
    obtain ⟨u, e2, ru⟩ := rv.get (show (bs.map V.bl)[i]? = some (.bl bs[i]) by rw [List.getElem?_map, List.getElem?_eq_getElem hi]; rfl)
    rw [e1] at e2
    cases e2
    obtain rfl : v = .bool bs[i] := ru
    refine wpAny_truthy_bool ?_
    have : bs.getD i true = bs[i] := by simp [List.getD_eq_getElem?_getD, hi]
    replace hq2 : Q2 (bs.getD i true) s2 := hq2
    rw [this] at hq2
    exact hq2
  · refine ⟨.bl (bs.any id), H, I.kept (t' := tk) fun b o e => k b o (fun z => ?_) (Heap.get?_push_of_some _ e), ?_, q⟩
    · have : b = s.heap.objs.size := by simpa using z
      exact absurd (Heap.lt_size e) (by rw [this]; exact Nat.lt_irrefl _)
    · show Value.bool ((List.range its.toArray.size).any fun i => bs.getD i true) = .bool (bs.any id)
      rw [show its.toArray.size = bs.length by simp; omega, any_getD]
end
section
variable {k : Nat} {fr : List Nat} {gt : TG} {tt : TT} {te : TE}
/-- a comprehension over a tuple, with its targets' places -/
theorem compG_tup {K : PySem.W.Frag} {a : Addr} {xs : List V} {σ : St} {H1 : Hp} {Q : VK} (Pv : Addr → Nat → List V → Hp → Prop) (h0 : ∀ D, H1 D = none → Pv D 0 [] (upd H1 D (.lst [])))
    (hk : ∀ D i ys H, H1 D = none → i ≤ xs.length → Pv D i ys H → SqT K H a xs)
    (hs : ∀ D i x ys H, H1 D = none → xs[i]? = some x → Pv D i ys H → ∀ ts : St, ts.length = k → gt x (cmpStG σ fr ts) H fun σ2 H2 => (∃ ts2 : St, ts2.length = k ∧ σ2 = cmpStG σ fr ts2) ∧ tt σ2 H2 fun b H3 => if b = true then te σ2 H3 (CYes Pv D i xs.length) else CNext Pv D i xs.length H3)
    (hd : ∀ D ys H, H1 D = none → Pv D xs.length ys H → Q (.ref D) H) : CompAtG (Itt K a) gt k fr tt te σ Q H1 := by
  intro D hD
  refine ⟨fun i m H => m = xs.length - i ∧ i ≤ xs.length ∧ ∃ ys, Pv D i ys H, ⟨_, rfl, Nat.zero_le _, [], h0 D hD⟩, ?_⟩
  rintro i m H ⟨rfl, hi, ys, p⟩
  have q := hk D i ys H hD hi p
  by_cases hlt : i < xs.length
  · refine .inr ⟨⟨xs, xs[i], q, by simp [hlt]⟩, fun x H' y => ?_⟩
    obtain ⟨e, y⟩ := y
    subst e
    exact hs D i x ys _ hD (y xs q) p
  · have e : i = xs.length := by omega
    subst e
    exact .inl ⟨⟨xs, q, Nat.le_refl _⟩, hd D ys H hD p⟩
end
end L2

set_option Elab.async false
set_option maxRecDepth 100000
set_option maxHeartbeats 4000000
set_option linter.all false
namespace My
open PySem L2
def top (i : Nat) : Stmt := PySem.Challenge.pw_rowjudge_k67_rows_of_a_form.main.body.getD i (.Pass ⟨0, 0, 0, 0⟩)
abbrev s_boxes : Stmt := top 1
abbrev s_rows_of : Stmt := top 3
abbrev s_law_cell_at : Stmt := top 5
abbrev s_law_mixed : Stmt := top 6
abbrev s_law_seeds : Stmt := top 7
abbrev s_law_column : Stmt := top 8
abbrev s_law_points : Stmt := top 9
abbrev s_law_codes : Stmt := top 10
abbrev s_law_leaf : Stmt := top 11
abbrev s_law_form : Stmt := top 12
abbrev s_law_spans_are_good : Stmt := top 13
abbrev s_law_row_is_good : Stmt := top 14
abbrev s_law_row_fits : Stmt := top 15
abbrev s_law : Stmt := top 16
theorem sc_boxes : FnScope ["form", "deep", "told", "low", "high", "beneath", "box", "leaf"] ["form", "deep"] (defScope s_boxes) := ⟨rfl, rfl, rfl, by decide +kernel, rfl, by decide +kernel, by decide +kernel⟩
theorem sc_rows_of : FnScope ["form", "deep"] ["form", "deep"] (defScope s_rows_of) := ⟨rfl, rfl, rfl, by decide +kernel, rfl, by decide +kernel, by decide +kernel⟩
theorem sc_law_cell_at : FnScope ["script", "k"] ["script", "k"] (defScope s_law_cell_at) := ⟨rfl, rfl, rfl, by decide +kernel, rfl, by decide +kernel, by decide +kernel⟩
theorem sc_law_mixed : FnScope ["cell", "k", "big"] ["cell", "k"] (defScope s_law_mixed) := ⟨rfl, rfl, rfl, by decide +kernel, rfl, by decide +kernel, by decide +kernel⟩
theorem sc_law_seeds : FnScope ["cells", "most", "seeds", "k", "cell", "at"] ["cells", "most"] (defScope s_law_seeds) := ⟨rfl, rfl, rfl, by decide +kernel, rfl, by decide +kernel, by decide +kernel⟩
theorem sc_law_column : FnScope ["m", "most", "words", "at", "pairs", "k", "wide"] ["m", "most"] (defScope s_law_column) := ⟨rfl, rfl, rfl, by decide +kernel, rfl, by decide +kernel, by decide +kernel⟩
theorem sc_law_points : FnScope ["columns", "points", "column", "more", "point", "k"] ["columns"] (defScope s_law_points) := ⟨rfl, rfl, rfl, by decide +kernel, rfl, by decide +kernel, by decide +kernel⟩
theorem sc_law_codes : FnScope ["columns", "point", "turn"] ["columns", "point", "turn"] (defScope s_law_codes) := ⟨rfl, rfl, rfl, by decide +kernel, rfl, by decide +kernel, by decide +kernel⟩
theorem sc_law_leaf : FnScope ["m"] ["m"] (defScope s_law_leaf) := ⟨rfl, rfl, rfl, by decide +kernel, rfl, by decide +kernel, by decide +kernel⟩
theorem sc_law_form : FnScope ["columns", "tips", "part", "told", "k", "pair", "behind"] ["columns", "tips"] (defScope s_law_form) := ⟨rfl, rfl, rfl, by decide +kernel, rfl, by decide +kernel, by decide +kernel⟩
theorem sc_law_spans_are_good : FnScope ["spans", "column", "past", "pair", "number"] ["spans", "column"] (defScope s_law_spans_are_good) := ⟨rfl, rfl, rfl, by decide +kernel, rfl, by decide +kernel, by decide +kernel⟩
theorem sc_law_row_is_good : FnScope ["row", "columns"] ["row", "columns"] (defScope s_law_row_is_good) := ⟨rfl, rfl, rfl, by decide +kernel, rfl, by decide +kernel, by decide +kernel⟩
theorem sc_law_row_fits : FnScope ["row", "codes", "spans", "code"] ["row", "codes"] (defScope s_law_row_fits) := ⟨rfl, rfl, rfl, by decide +kernel, rfl, by decide +kernel, by decide +kernel⟩
theorem sc_law : FnScope ["script", "head", "turn", "count", "columns", "points", "seeds", "tips", "found", "row", "point", "leaf", "codes", "fitting"] ["script"] (defScope s_law) := ⟨rfl, rfl, rfl, by decide +kernel, rfl, by decide +kernel, by decide +kernel⟩
structure Bl (K : PySem.W.Frag) (mg : Str → Option Value) : Prop where
  len_ : mg "len" = none
  enumerate_ : mg "enumerate" = none
  range_ : mg "range" = none
  zip_ : mg "zip" = none
  tuple_ : mg "tuple" = none
  isinstance_ : mg "isinstance" = none
  list_ : mg "list" = none
  bool_ : mg "bool" = none
  int_ : mg "int" = none
  all_ : mg "all" = none
  any_ : mg "any" = none
theorem cut_from (ns : List Int) (k : Nat) (hi : Option Int) : ∃ ms : List Int, cutV (ns.map V.int) (some (k : Int)) hi = ms.map V.int ∧ ms.length ≤ ns.length - k := by
  unfold cutV
  have e : HT.sIx (ns.map V.int).length 0 (some (k : Int)) = min k ns.length := by
    simp only [HT.sIx, List.length_map]
    split <;> omega
  refine ⟨(ns.drop (HT.sIx (ns.map V.int).length 0 (some (k : Int)))).take (HT.sIx (ns.map V.int).length (ns.map V.int).length hi - HT.sIx (ns.map V.int).length 0 (some (k : Int))), ?_, ?_⟩
  · rw [List.map_take, List.map_drop]
  · rw [List.length_take, List.length_drop, e]; omega
theorem p10 (n : Nat) : (0 : Int) < 10 ^ n := Int.pow_pos (by decide)
theorem z0 (a b : Int) : atI [V.int a, V.int b] 0 = some (V.int a) := rfl
theorem z1 (a b : Int) : atI [V.int a, V.int b] 1 = some (V.int b) := rfl
theorem ret_r1 {H : Hp} {r : Addr} {o : HO} {b : Addr} {u : HO} (h : H r = some u) (n : H b = none) : upd H b o r = some u := by rw [upd_ne (ne_of_none h n)]; exact h
theorem ixN_last {n : Nat} (h : 0 < n) : ixN n (-1) = some (n - 1) := by
  unfold ixN
  rw [if_neg (by decide), if_pos (by omega)]
  congr 1
  omega
theorem set_last {α : Type} (l : List α) (x y : α) : (l ++ [x]).set ((l ++ [x]).length - 1) y = l ++ [y] := by
  have e : (l ++ [x]).length - 1 = l.length := by simp
  rw [e, List.set_append_right _ _ (Nat.le_refl _), Nat.sub_self]
  rfl
theorem take_snoc {α : Type} {l : List α} {i : Nat} {x : α} (e : l[i]? = some x) : l.take (i + 1) = l.take i ++ [x] := by rw [List.take_add_one, e]; rfl
theorem get_map {ns : List Int} {i : Nat} {c : Int} (e : ns[i]? = some c) : (ns.map V.int)[i]? = some (.int c) := by rw [List.getElem?_map, e]; rfl
theorem of_map {ns : List Int} {i : Nat} {x : V} (e : (ns.map V.int)[i]? = some x) : ∃ c, x = .int c ∧ ns[i]? = some c := by
  rw [List.getElem?_map] at e
  cases q : ns[i]? with
  | none => rw [q] at e; cases e
  | some c => rw [q] at e; cases e; exact ⟨c, rfl, rfl⟩
def lets : Str := "abcdefghijklmnopqrstuvwxyz"
def isw (z : Str) : Bool := decide ((1 : Int) ≤ ((z.length : Nat) : Int)) && (decide (((z.length : Nat) : Int) ≤ 12) && (!decide (V.str z = V.str "not") && allIn z lets))
def mkd (C : Addr) (H : Hp) (x dx : Addr) (lo hi : Int) : Hp := upd (upd H x (.ins C dx [("low", .int lo)])) x (.ins C dx [("low", .int lo), ("high", .int hi)])
def hiW (zs : List Str) : Int := ((zs.length : Nat) : Int) - 1
structure Good (zs : List Str) : Prop where
  some_ : 1 ≤ zs.length
  few : zs.length ≤ 40
  words : ∀ z ∈ zs, isw z = true
  once : zs.Nodup
def six : List Str := [Str.ofString "first", Str.ofString "only", Str.ofString "like", Str.ofString "low", Str.ofString "high", Str.ofString "sum"]
def WyN (C : Addr) (H : Hp) (x : Addr) (z : Str) : Prop := ∃ dx, H x = some (.ins C dx [("called", .str z)])
def fnew (C : Addr) (z : Str) : Sp := fun vs H Q _ => ∃ (x dx : Addr), vs = [.ref x] ∧ H x = some (.ins C dx []) ∧ Q .non (upd H x (.ins C dx [("called", .str z)]))
theorem small2 : 2 ≤ sizeLine := by decide
/-- the six classes, told by place -/
def cl6 (a b c d e f : Addr) : List Addr := [a, b, c, d, e, f]

/-! domains, told by their ends -/
def DomC (C : Addr) (H : Hp) (a : Addr) (lo hi : Int) : Prop := ∃ dx fs, H a = some (.ins C dx fs) ∧ fs.lookup (Str.ofString "low") = some (.int lo) ∧ fs.lookup (Str.ofString "high") = some (.int hi) ∧ fs.lookup (Str.ofString "has_code") = none
def Dom (cN cW : Addr) (H : Hp) (a : Addr) (b : Int × Int) : Prop := ∃ C, (C = cN ∨ C = cW) ∧ DomC C H a b.1 b.2
/-- a row of refs, item by item -/
def RefL {α : Type} (xs : List V) (as : List α) (P : Addr → α → Prop) : Prop := xs.length = as.length ∧ ∀ (j : Nat) (a : α), as[j]? = some a → ∃ r, xs[j]? = some (.ref r) ∧ P r a
theorem RefL.mono {α : Type} {xs : List V} {as : List α} {P Q : Addr → α → Prop} (h : RefL xs as P) (k : ∀ r a, P r a → Q r a) : RefL xs as Q := ⟨h.1, fun j a e => let ⟨r, e1, p⟩ := h.2 j a e; ⟨r, e1, k r a p⟩⟩
theorem RefL.nil {α : Type} {P : Addr → α → Prop} : RefL [] [] P := ⟨rfl, (fun j a e => by simp at e)⟩
theorem RefL.snoc {α : Type} {xs : List V} {as : List α} {P : Addr → α → Prop} {r : Addr} {a : α} (h : RefL xs as P) (p : P r a) : RefL (xs ++ [.ref r]) (as ++ [a]) P := by
  refine ⟨by simp [h.1], fun j b e => ?_⟩
  by_cases hj : j < as.length
  · rw [List.getElem?_append_left hj] at e
    obtain ⟨r', e1, q⟩ := h.2 j b e
    exact ⟨r', by rw [List.getElem?_append_left (by rw [h.1]; exact hj)]; exact e1, q⟩
  · have hj2 : j = as.length := by
      have := (List.getElem?_eq_some_iff.mp e).1
      simp at this; omega
    subst hj2
    simp at e
    subst e
    exact ⟨r, by rw [← h.1]; simp, p⟩
theorem RefL.get {α : Type} {xs : List V} {as : List α} {P : Addr → α → Prop} (h : RefL xs as P) {j : Nat} {x : V} (e : xs[j]? = some x) : ∃ r a, x = .ref r ∧ as[j]? = some a ∧ P r a := by
  have hj := (List.getElem?_eq_some_iff.mp e).1
  have ea := List.getElem?_eq_getElem (l := as) (i := j) (by rw [← h.1]; exact hj)
  obtain ⟨r, e1, p⟩ := h.2 j _ ea
  rw [e] at e1; cases e1
  exact ⟨r, _, rfl, ea, p⟩
abbrev Prs := List (Int × Int)
/-- a list of pairs at l -/
def SpA (N : Addr → Prop) (H : Hp) (l : Addr) (ps : Prs) : Prop := N l ∧ ∃ ys, H l = some (.lst ys) ∧ PL H ys ps
def CL (N : Addr → Prop) (H : Hp) (xs : List V) (pss : List Prs) : Prop := RefL xs pss (SpA N H)
abbrev Rw := List Prs × Int
def RowA (N : Addr → Prop) (H : Hp) (r : Addr) (rw_ : Rw) : Prop := ∃ ce cs, H r = some (.tup [.ref ce, .int rw_.2]) ∧ N ce ∧ H ce = some (.lst cs) ∧ CL N H cs rw_.1
def RL (N : Addr → Prop) (H : Hp) (xs : List V) (rws : List Rw) : Prop := RefL xs rws (RowA N H)
theorem SpA.same {N : Addr → Prop} {H H' : Hp} {l : Addr} {ps : Prs} (h : SpA N H l ps) (s : Same H H') : SpA N H' l ps := let ⟨n, ys, e, p⟩ := h; ⟨n, ys, s _ _ e, p.mono s.tups⟩
theorem CL.same {N : Addr → Prop} {H H' : Hp} {xs : List V} {pss : List Prs} (h : CL N H xs pss) (s : Same H H') : CL N H' xs pss := RefL.mono h fun _ _ p => p.same s
theorem RowA.same {N : Addr → Prop} {H H' : Hp} {r : Addr} {w : Rw} (h : RowA N H r w) (s : Same H H') : RowA N H' r w := let ⟨ce, cs, e, n, f, c⟩ := h; ⟨ce, cs, s _ _ e, n, s _ _ f, c.same s⟩
theorem RL.same {N : Addr → Prop} {H H' : Hp} {xs : List V} {rws : List Rw} (h : RL N H xs rws) (s : Same H H') : RL N H' xs rws := RefL.mono h fun _ _ p => p.same s
abbrev NT : Addr → Prop := fun _ => True
theorem SpA.updN {N : Addr → Prop} {D : Addr} {H : Hp} {l : Addr} {ps : Prs} {zs : List V} {o : HO} (h : SpA N H l ps) (n : ¬ N D) (e : H D = some (.lst zs)) : SpA N (upd H D o) l ps :=
  let ⟨m, ys, f, p⟩ := h
  ⟨m, ys, (upd_ne (fun z => n (by rw [← z]; exact m))).trans f, p.mono (sameT_lst e)⟩
theorem CL.updN {N : Addr → Prop} {D : Addr} {H : Hp} {xs : List V} {pss : List Prs} {zs : List V} {o : HO} (h : CL N H xs pss) (n : ¬ N D) (e : H D = some (.lst zs)) : CL N (upd H D o) xs pss := RefL.mono h fun _ _ p => p.updN n e
/-- free ahead, and not D -/
def Fr (H : Hp) (D : Addr) : Addr → Prop := fun a => H a = none ∧ a ≠ D
theorem Fr.out {H : Hp} {D : Addr} : ¬ Fr H D D := fun h => h.2 rfl
/-- columns of the law -/
structure RngOk (b : Int × Int) (zs : List Str) : Prop where
  le : b.1 ≤ b.2
  ws : zs ≠ [] → Good zs ∧ b = (0, hiW zs)
def ColA (N : Addr → Prop) (H : Hp) (l : Addr) (b : Int × Int) : Prop := ∃ (w : Addr) (zs : List Str), N l ∧ N w ∧ H l = some (.lst [.int b.1, .int b.2, .ref w]) ∧ H w = some (.lst (zs.map V.str)) ∧ RngOk b zs
def Cols (N : Addr → Prop) (H : Hp) (xs : List V) (bs : Prs) : Prop := RefL xs bs (ColA N H)
/-- a row that a table takes -/
structure RowOk (bs : Prs) (o : Int × Int) (w : Rw) : Prop where
  len : w.1.length = bs.length
  inn : ∀ (j : Nat) (ps : Prs) (b : Int × Int), w.1[j]? = some ps → bs[j]? = some b → ∀ p ∈ ps, b.1 ≤ p.1 ∧ p.2 ≤ b.2
  lo : o.1 ≤ w.2
  hi : w.2 ≤ o.2
/-- a row fits codes -/
def rfit (pss : List Prs) (cs : List Int) : Bool := (List.range cs.length).all fun j => inP (pss.getD j []) (cs.getD j 0)
/-- the heap without x -/
def hide (H : Hp) (x : Addr) : Hp := fun b => if b = x then none else H b
theorem hide_of {H : Hp} {x b : Addr} {o : HO} (e : H b = some o) (n : b ≠ x) : hide H x b = some o := by unfold hide; rw [if_neg n]; exact e
/-! words -/
def wcs (c k : Int) : List Nat := List.replicate (c / 26 % 6).toNat (97 + (c % 26).toNat) ++ ([97 + (k / 7 % 7).toNat, 97 + (k % 7).toNat] ++ List.replicate (k % 5).toNat (97 + (c / 156 % 26).toNat))
def wd (c k : Int) : Str := ⟨(wcs c k).toArray⟩
/-- the words of a domain -/
def wds (c : Int) (n : Nat) : List Str := (List.range n).map fun j : Nat => wd c (j : Int)
abbrev SI := Str × Int
def tp (p : SI) : List V := [.str p.1, .int p.2]
def say (i : Int) : SI := (Str.ofString "say", i)
def clash : SI := (Str.ofString "clash", 0)
def non_ : SI := (Str.ofString "none", 0)
def least (ns : List Int) : Int := ns.foldl (fun m c => if c < m then c else m) (ns.headD 0)
def great (ns : List Int) : Int := ns.foldl (fun m c => if c > m then c else m) (ns.headD 0)
def fLow (ns : List Int) : SI := say (least ns)
def fHigh (ns : List Int) : SI := say (great ns)
def fLike (ns : List Int) : SI := if least ns = great ns then say (least ns) else clash
def ver (f : List Int → SI) : List Int → SI
  | [] => non_
  | n :: ns => f (n :: ns)
def Wy (C : Addr) (H : Hp) (x : Addr) : Prop := ∃ dx z, H x = some (.ins C dx [("called", .str z)])
def fFirst (ns : List Int) : SI := say (ns.headD 0)
def fOnly (ns : List Int) : SI := if ns.length = 1 then say (ns.headD 0) else clash
def near (lo hi n : Int) : Int := if n < lo then lo else if n > hi then hi else n
/-- what the way at a place makes of codes -/
def wf : Nat → Int → Int → List Int → SI
  | 0, _, _ => fFirst
  | 1, _, _ => fOnly
  | 2, _, _ => fLike
  | 3, _, _ => fLow
  | 4, _, _ => fHigh
  | _, lo, hi => fun ns => say (near lo hi ns.sum)
def spCh (K : PySem.W.Frag) (C cN cW : Addr) (i : Nat) : Sp := fun vs H Q _ => ∃ (x c o : Addr) (n : Int) (ns : List Int) (b : Int × Int), vs = [.ref x, .ref c, .ref o] ∧ Wy C H x ∧ Dom cN cW H o b ∧ b.1 ≤ b.2 ∧ SqL K H c ((n :: ns).map V.int) ∧ ns.length < 900 ∧ ∀ (r : Addr) (H' : Hp), Same H H' → SqT K H' r (tp (wf i b.1 b.2 (n :: ns))) → Q (.ref r) H'
def spVe (K : PySem.W.Frag) (C cN cW : Addr) (i : Nat) : Sp := fun vs H Q _ => ∃ (x c o : Addr) (ns : List Int) (b : Int × Int), vs = [.ref x, .ref c, .ref o] ∧ Wy C H x ∧ Dom cN cW H o b ∧ b.1 ≤ b.2 ∧ SqL K H c (ns.map V.int) ∧ ns.length < 900 ∧ ∀ (r : Addr) (H' : Hp), Same H H' → SqT K H' r (tp (ver (wf i b.1 b.2) ns)) → Q (.ref r) H'
/-! masks -/
def msk (f : Nat → Bool) : Nat → Nat
  | 0 => 0
  | n + 1 => (if f n then 2 ^ n else 0) + msk f n
def bitOn (m : Int) (k : Nat) : Bool := Builtin.bitAnd (m / 2 ^ k) 1 != 0
/-- the codes of some rows ahead of n -/
def pkF (rws : List Rw) (f : Nat → Bool) (n : Nat) : List Int := ((List.range n).filter f).map fun k => (rws.getD k ([], 0)).2
/-- a table: its rows, its way, its outcome -/
def Tbl (cT cN cW : Addr) (H : Hp) (t : Addr) (rws : List Rw) (i : Nat) (o : Int × Int) : Prop := ∃ (rl ou dx : Addr) (fs : List (Str × V)) (xs : List V) (wy : Str), H t = some (.ins cT dx fs) ∧ fs.lookup (Str.ofString "rows") = some (.ref rl) ∧ fs.lookup (Str.ofString "way") = some (.str wy) ∧ fs.lookup (Str.ofString "outcome") = some (.ref ou) ∧ H rl = some (.lst xs) ∧ RL NT H xs rws ∧ six[i]? = some wy ∧ Dom cN cW H ou o ∧ o.1 ≤ o.2 ∧ xs.length ≤ 200
def fitF (rws : List Rw) (cs : List Int) (k : Nat) : Bool := rfit (rws.getD k ([], 0)).1 cs
/-- the codes of the rows that fit -/
def fl (rws : List Rw) (cs : List Int) : List Int := (rws.filter fun w => rfit w.1 cs).map (·.2)
/-- the places of the law's ways among the six -/
def ord : List Nat := [3, 4, 2, 1, 0, 5]
def w6 : List Str := [Str.ofString "low", Str.ofString "high", Str.ofString "like", Str.ofString "only", Str.ofString "first", Str.ofString "sum"]
def dueL (lo hi : Int) (ns : List Int) : List SI := ord.map fun i => ver (wf i lo hi) ns
/-- tuples of verdicts -/
def DL (H : Hp) (xs : List V) (ps : List SI) : Prop := RefL xs ps fun r p => H r = some (.tup (tp p))
/-- what else a table has -/
def TblX (cT : Addr) (H : Hp) (t : Addr) (nm wy : Str) (ou : Addr) (zs : List Str) (dv : List V) : Prop := ∃ (dx na dl : Addr) (fs : List (Str × V)), H t = some (.ins cT dx fs) ∧ fs.lookup (Str.ofString "name") = some (.str nm) ∧ fs.lookup (Str.ofString "way") = some (.str wy) ∧ fs.lookup (Str.ofString "outcome") = some (.ref ou) ∧ fs.lookup (Str.ofString "names") = some (.ref na) ∧ fs.lookup (Str.ofString "domains") = some (.ref dl) ∧ H na = some (.lst (zs.map V.str)) ∧ H dl = some (.lst dv)
/-! columns of pairs -/
structure Col where
  prs : Prs
  w : Bool
  sd : Int
def ColN (N : Addr → Prop) (H : Hp) (l : Addr) (c : Col) : Prop := ∃ (pl : Addr) (ts : List V), N l ∧ N pl ∧ H l = some (.lst [.ref pl, .bl c.w, .int c.sd]) ∧ H pl = some (.lst ts) ∧ PL H ts c.prs
theorem ColN.same {N : Addr → Prop} {H H' : Hp} {l : Addr} {c : Col} (h : ColN N H l c) (s : Same H H') : ColN N H' l c := let ⟨pl, ts, n, m, e, f, p⟩ := h; ⟨pl, ts, n, m, s _ _ e, s _ _ f, p.mono s.tups⟩
theorem ColN.wk {N N' : Addr → Prop} {H : Hp} {l : Addr} {c : Col} (h : ColN N H l c) (k : ∀ a, N a → N' a) : ColN N' H l c := let ⟨pl, ts, n, m, r⟩ := h; ⟨pl, ts, k _ n, k _ m, r⟩
theorem ColN.any {N : Addr → Prop} {H : Hp} {l : Addr} {c : Col} (h : ColN N H l c) : ColN NT H l c := h.wk fun _ _ => trivial
theorem ColN.updN {N : Addr → Prop} {D : Addr} {H : Hp} {l : Addr} {c : Col} {zs : List V} {o : HO} (h : ColN N H l c) (n : ¬ N D) (e : H D = some (.lst zs)) : ColN N (upd H D o) l c :=
  let ⟨pl, ts, n1, n2, e1, e2, p⟩ := h
  ⟨pl, ts, n1, n2, (upd_ne (fun z => n (by rw [← z]; exact n1))).trans e1, (upd_ne (fun z => n (by rw [← z]; exact n2))).trans e2, p.mono (sameT_lst e)⟩
def ColsN (N : Addr → Prop) (H : Hp) (xs : List V) (cs : List Col) : Prop := RefL xs cs (ColN N H)
theorem ColsN.same {N : Addr → Prop} {H H' : Hp} {xs : List V} {cs : List Col} (h : ColsN N H xs cs) (s : Same H H') : ColsN N H' xs cs := RefL.mono h fun _ _ p => p.same s
theorem ColsN.any {N : Addr → Prop} {H : Hp} {xs : List V} {cs : List Col} (h : ColsN N H xs cs) : ColsN NT H xs cs := RefL.mono h fun _ _ p => p.any
theorem ColsN.updN {N : Addr → Prop} {D : Addr} {H : Hp} {xs : List V} {cs : List Col} {zs : List V} {o : HO} (h : ColsN N H xs cs) (n : ¬ N D) (e : H D = some (.lst zs)) : ColsN N (upd H D o) xs cs := RefL.mono h fun _ _ p => p.updN n e
/-- pairs that follow on one another, up to at -/
structure Ch (ps : Prs) : Prop where
  le : ∀ (i : Nat) (p : Int × Int), ps[i]? = some p → p.1 ≤ p.2
  nxt : ∀ (i : Nat) (p q : Int × Int), ps[i]? = some p → ps[i + 1]? = some q → q.1 = p.2 + 1
theorem Ch.nil : Ch [] := ⟨fun i p e => by simp at e, fun i p q e => by simp at e⟩
theorem Ch.snoc {ps : Prs} {a b : Int} (h : Ch ps) (hab : a ≤ b) (hl : ∀ p, ps[ps.length - 1]? = some p → a = p.2 + 1) : Ch (ps ++ [(a, b)]) := by
  refine ⟨fun i p e => ?_, fun i p q e f => ?_⟩
  · by_cases hi : i < ps.length
    · rw [List.getElem?_append_left hi] at e; exact h.le i p e
    · have : i = ps.length := by have := (List.getElem?_eq_some_iff.mp e).1; simp at this; omega
      subst this; simp at e; subst e; exact hab
  · have hf := (List.getElem?_eq_some_iff.mp f).1
    rw [List.length_append, List.length_singleton] at hf
    rw [List.getElem?_append_left (by omega)] at e
    by_cases hi : i + 1 < ps.length
    · rw [List.getElem?_append_left hi] at f; exact h.nxt i p q e f
    · have : i = ps.length - 1 := by omega
      subst this
      rw [show ps.length - 1 + 1 = ps.length by omega] at f
      simp at f; subst f
      exact hl p e
theorem Ch.mono {ps : Prs} (h : Ch ps) {i : Nat} {p : Int × Int} (e : ps[i]? = some p) : ∀ (d : Nat) (q : Int × Int), ps[i + d]? = some q → p.1 ≤ q.1 ∧ p.2 ≤ q.2 ∧ (0 < d → p.2 < q.1)
  | 0, q, f => by rw [Nat.add_zero, e] at f; cases f; exact ⟨Int.le_refl _, Int.le_refl _, fun z => absurd z (by omega)⟩
  | d + 1, q, f => by
    have hlt : i + d < ps.length := by have := (List.getElem?_eq_some_iff.mp f).1; omega
    obtain ⟨r, er⟩ : ∃ r, ps[i + d]? = some r := ⟨_, List.getElem?_eq_getElem hlt⟩
    obtain ⟨a, b, c⟩ := h.mono e d r er
    have n := h.nxt (i + d) r q er f
    have l1 := h.le (i + d) r er
    have l2 := h.le _ q f
    have l3 := h.le _ p e
    omega
structure ColOk (c : Col) : Prop where
  some_ : 1 ≤ c.prs.length
  few : c.prs.length ≤ 6
  ch : Ch c.prs
  w0 : c.w = true → ∀ p, c.prs[0]? = some p → p.1 = 0
  wl : c.w = true → ∀ (i : Nat) (p : Int × Int), c.prs[i]? = some p → p.2 < 40
def Col.lo (c : Col) : Int := (c.prs.headD (0, 0)).1
def Col.hi (c : Col) : Int := (c.prs.getLastD (0, 0)).2
def Col.b (c : Col) : Int × Int := (c.lo, c.hi)
theorem ColOk.first {c : Col} (h : ColOk c) : ∃ p, c.prs[0]? = some p ∧ p.1 = c.lo := by
  have := h.some_
  unfold Col.lo
  match c.prs, this with
  | p :: r, _ => exact ⟨p, rfl, rfl⟩
theorem ColOk.last {c : Col} (h : ColOk c) : ∃ p, c.prs[c.prs.length - 1]? = some p ∧ p.2 = c.hi := by
  have := h.some_
  unfold Col.hi
  generalize c.prs = l at this ⊢
  rcases List.eq_nil_or_concat l with rfl | ⟨l', x, rfl⟩
  · simp at this
  · exact ⟨x, by simp, by simp⟩
theorem ColOk.inn {c : Col} (h : ColOk c) {i : Nat} {p : Int × Int} (e : c.prs[i]? = some p) : c.lo ≤ p.1 ∧ p.2 ≤ c.hi := by
  obtain ⟨p0, e0, f0⟩ := h.first
  obtain ⟨p1, e1, f1⟩ := h.last
  have hi := (List.getElem?_eq_some_iff.mp e).1
  have a := h.ch.mono e0 i p (by rw [Nat.zero_add]; exact e)
  have b := h.ch.mono e (c.prs.length - 1 - i) p1 (by rw [show i + (c.prs.length - 1 - i) = c.prs.length - 1 by omega]; exact e1)
  omega
/-- spans in order -/
structure Srt (ps : Prs) : Prop where
  le : ∀ (i : Nat) (p : Int × Int), ps[i]? = some p → p.1 ≤ p.2
  lt : ∀ (i j : Nat) (p q : Int × Int), i < j → ps[i]? = some p → ps[j]? = some q → p.2 < q.1
/-- spans that hold just the pairs at b's bits, ahead of n -/
structure SpOk (prs : Prs) (b n : Nat) (ps : Prs) : Prop where
  srt : Srt ps
  iff : ∀ x : Int, inP ps x = true ↔ ∃ (k : Nat) (p : Int × Int), k < n ∧ prs[k]? = some p ∧ b.testBit k = true ∧ p.1 ≤ x ∧ x ≤ p.2
/-- the spans of bits, as they are made -/
def mrg (prs : Prs) (b : Nat) : Nat → Prs
  | 0 => []
  | n + 1 => if b.testBit n then (if (decide (0 < n) && b.testBit (n - 1)) then (mrg prs b n).dropLast ++ [(((mrg prs b n).getLastD (0, 0)).1, (prs.getD n (0, 0)).2)] else mrg prs b n ++ [prs.getD n (0, 0)]) else mrg prs b n
abbrev BW := List Nat × Int
def vN (bs : List Nat) : List V := bs.map fun b : Nat => V.int (b : Int)
theorem vN_len (bs : List Nat) : (vN bs).length = bs.length := by unfold vN; rw [List.length_map]
theorem vN_of {bs : List Nat} {j : Nat} {x : V} (e : (vN bs)[j]? = some x) : ∃ b : Nat, x = .int (b : Int) ∧ bs[j]? = some b := by
  unfold vN at e
  rw [List.getElem?_map] at e
  cases q : bs[j]? with
  | none => rw [q] at e; cases e
  | some b => rw [q] at e; cases e; exact ⟨b, rfl, rfl⟩
theorem vN_app (bs cs : List Nat) : vN bs ++ vN cs = vN (bs ++ cs) := by unfold vN; rw [List.map_append]
def BRowA (N : Addr → Prop) (H : Hp) (r : Addr) (w : BW) : Prop := ∃ bl, H r = some (.tup [.ref bl, .int w.2]) ∧ N bl ∧ H bl = some (.lst (vN w.1))
def BRL (N : Addr → Prop) (H : Hp) (xs : List V) (ws : List BW) : Prop := RefL xs ws (BRowA N H)
structure BitOk (cs : List Col) (o : Col) (w : BW) : Prop where
  len : w.1.length = cs.length
  lt : ∀ (j b : Nat) (c : Col), w.1[j]? = some b → cs[j]? = some c → b < 2 ^ c.prs.length
  lo : o.lo ≤ w.2
  hi : w.2 ≤ o.hi
theorem cutDrop (xs : List V) (k : Nat) : cutV xs (some (k : Int)) none = xs.drop k := by
  unfold cutV
  have e : HT.sIx xs.length 0 (some (k : Int)) = min k xs.length := by
    simp only [HT.sIx]
    split <;> omega
  have e2 : HT.sIx xs.length xs.length none = xs.length := by simp [HT.sIx]
  rw [e, e2, ← List.length_drop, List.take_length]
  rcases Nat.le_total k xs.length with h | h
  · rw [Nat.min_eq_left h]
  · rw [Nat.min_eq_right h, List.drop_length, List.drop_of_length_le h]
theorem end2 {p : Int × Int} {m : Int} : ∃ x : Int, atI [V.int p.1, V.int p.2] (m % 2) = some (.int x) ∧ (x = p.1 ∨ x = p.2) := by
  have h0 := Int.emod_nonneg m (show (2 : Int) ≠ 0 by decide)
  have h1 := Int.emod_lt_of_pos m (show (0 : Int) < 2 by decide)
  generalize m % 2 = k at h0 h1 ⊢
  have : k = 0 ∨ k = 1 := by omega
  rcases this with rfl | rfl
  · exact ⟨_, rfl, .inl rfl⟩
  · exact ⟨_, rfl, .inr rfl⟩
/-- the pair at a place that is told -/
theorem pl_at {H : Hp} {ts : List V} {ps : Prs} (h : PL H ts ps) {i : Int} (h0 : 0 ≤ i) (h1 : i < ((ts.length : Nat) : Int)) : ∃ r p, atI ts i = some (.ref r) ∧ ps[i.toNat]? = some p ∧ H r = some (.tup [.int p.1, .int p.2]) := by
  obtain ⟨x, ex⟩ : ∃ x, ts[i.toNat]? = some x := ⟨_, List.getElem?_eq_getElem (by omega)⟩
  obtain ⟨p, r, f1, rfl, f2⟩ := h.get ex
  have := atI_nat ex
  rw [Int.toNat_of_nonneg h0] at this
  exact ⟨r, p, this, f1, f2⟩
/-- a row of spans that holds what a row of bits says -/
structure RwOf (cs : List Col) (w : BW) (x : Rw) : Prop where
  code : x.2 = w.2
  len : x.1.length = cs.length
  sp : ∀ (j : Nat) (ps : Prs) (c : Col) (b : Nat), x.1[j]? = some ps → cs[j]? = some c → w.1[j]? = some b → SpOk c.prs b c.prs.length ps
  is : ∀ (j : Nat) (ps : Prs) (c : Col) (b : Nat), x.1[j]? = some ps → cs[j]? = some c → w.1[j]? = some b → ps = mrg c.prs b c.prs.length
def RwsOf (cs : List Col) (ws : List BW) (rws : List Rw) : Prop := rws.length = ws.length ∧ ∀ (k : Nat) (w : BW) (x : Rw), ws[k]? = some w → rws[k]? = some x → RwOf cs w x
/-! points of the grid -/
def grow (pts : List (List Nat)) (n : Nat) : List (List Nat) := pts.flatMap fun p => (List.range n).map fun k => p ++ [k]
def prodP (ls : List Nat) : List (List Nat) := ls.foldl grow [[]]
theorem prodP_snoc (ls : List Nat) (n : Nat) : prodP (ls ++ [n]) = grow (prodP ls) n := by unfold prodP; rw [List.foldl_append]; rfl
theorem mem_grow {pts : List (List Nat)} {n : Nat} {q : List Nat} : q ∈ grow pts n ↔ ∃ p ∈ pts, ∃ k, k < n ∧ q = p ++ [k] := by
  unfold grow
  rw [List.mem_flatMap]
  constructor
  · rintro ⟨p, hp, h⟩
    obtain ⟨k, hk, rfl⟩ := List.mem_map.mp h
    exact ⟨p, hp, k, List.mem_range.mp hk, rfl⟩
  · rintro ⟨p, hp, k, hk, rfl⟩
    exact ⟨p, hp, List.mem_map.mpr ⟨k, List.mem_range.mpr hk, rfl⟩⟩
theorem grow_take {pts : List (List Nat)} {n a : Nat} {p : List Nat} (e : pts[a]? = some p) : grow (pts.take (a + 1)) n = grow (pts.take a) n ++ (List.range n).map fun k => p ++ [k] := by
  unfold grow
  rw [take_snoc e, List.flatMap_append]
  simp
theorem grow_len (pts : List (List Nat)) (n : Nat) : (grow pts n).length = pts.length * n := by
  unfold grow
  induction pts with
  | nil => simp
  | cons p pts ih => rw [List.flatMap_cons, List.length_append, ih, List.length_map, List.length_range, List.length_cons, Nat.succ_mul]; omega
/-- a point lies in the grid -/
def PtOk (ls : List Nat) (p : List Nat) : Prop := p.length = ls.length ∧ ∀ (j a m : Nat), p[j]? = some a → ls[j]? = some m → a < m
theorem mem_prodP : ∀ {r ls : List Nat} (_ : ls.reverse = r) {p : List Nat}, p ∈ prodP ls ↔ PtOk ls p
  | [], ls, h, p => by
    have : ls = [] := List.reverse_eq_nil_iff.mp h
    subst this
    show p ∈ [[]] ↔ _
    rw [List.mem_singleton]
    constructor
    · rintro rfl; exact ⟨rfl, fun j a m e => by simp at e⟩
    · rintro ⟨h, _⟩; exact List.length_eq_zero_iff.mp h
  | n :: r, ls, h, p => by
    have e : ls = r.reverse ++ [n] := by rw [← List.reverse_reverse ls, h, List.reverse_cons]
    subst e
    rw [prodP_snoc, mem_grow]
    have ih : ∀ {p : List Nat}, p ∈ prodP r.reverse ↔ PtOk r.reverse p := mem_prodP (List.reverse_reverse r)
    constructor
    · rintro ⟨q, hq, k, hk, rfl⟩
      obtain ⟨l1, l2⟩ := ih.mp hq
      refine ⟨by rw [List.length_append, List.length_append, l1]; rfl, fun j a m f g => ?_⟩
      by_cases hj : j < q.length
      · rw [List.getElem?_append_left hj] at f
        rw [List.getElem?_append_left (by rw [← l1]; exact hj)] at g
        exact l2 j a m f g
      · have : j = q.length := by have := (List.getElem?_eq_some_iff.mp f).1; simp at this; omega
        subst this
        simp at f
        subst f
        rw [l1] at g
        simp at g
        subst g
        exact hk
    · rintro ⟨l1, l2⟩
      rw [List.length_append, List.length_singleton] at l1
      rcases List.eq_nil_or_concat p with rfl | ⟨q, k, rfl⟩
      · simp at l1
      · rw [List.concat_eq_append] at l1 l2 ⊢
        rw [List.length_append, List.length_singleton] at l1
        have lq : q.length = r.reverse.length := by omega
        refine ⟨q, ih.mpr ⟨lq, fun j a m f g => ?_⟩, k, ?_, rfl⟩
        · refine l2 j a m ?_ ?_
          · rw [List.getElem?_append_left (List.getElem?_eq_some_iff.mp f).1]; exact f
          · rw [List.getElem?_append_left (List.getElem?_eq_some_iff.mp g).1]; exact g
        · refine l2 q.length k n (by simp) ?_
          rw [lq]; simp
theorem PtOk.iff {ls p : List Nat} : p ∈ prodP ls ↔ PtOk ls p := mem_prodP rfl
def PtL (N : Addr → Prop) (H : Hp) (xs : List V) (pts : List (List Nat)) : Prop := RefL xs pts fun r p => N r ∧ H r = some (.lst (vN p))
theorem PtL.same {N : Addr → Prop} {H H' : Hp} {xs : List V} {pts : List (List Nat)} (h : PtL N H xs pts) (s : Same H H') : PtL N H' xs pts := RefL.mono h fun _ _ p => ⟨p.1, s _ _ p.2⟩
theorem PtL.updN {N : Addr → Prop} {D : Addr} {H : Hp} {xs : List V} {pts : List (List Nat)} {o : HO} (h : PtL N H xs pts) (n : ¬ N D) : PtL N (upd H D o) xs pts := RefL.mono h fun _ _ p => ⟨p.1, (upd_ne (fun z => n (by rw [← z]; exact p.1))).trans p.2⟩
theorem PtL.any {N : Addr → Prop} {H : Hp} {xs : List V} {pts : List (List Nat)} (h : PtL N H xs pts) : PtL NT H xs pts := RefL.mono h fun _ _ p => ⟨trivial, p.2⟩
theorem small2000 {n : Nat} (h : n ≤ 2000) : n < sizeLine := Nat.lt_of_le_of_lt h (by decide)
def lens (cs : List Col) : List Nat := cs.map fun c => c.prs.length
/-- codes that lie at the ends of the pairs of a point -/
def AtP (cs : List Col) (p : List Nat) (cd : List Int) : Prop := cd.length = cs.length ∧ ∀ (j : Nat) (x : Int) (c : Col) (a : Nat), cd[j]? = some x → cs[j]? = some c → p[j]? = some a → ∃ pr, c.prs[a]? = some pr ∧ (x = pr.1 ∨ x = pr.2)
def bfit (bs p : List Nat) : Bool := (List.range p.length).all fun j => (bs.getD j 0).testBit (p.getD j 0)
def bF (ws : List BW) (p : List Nat) (k : Nat) : Bool := bfit (ws.getD k ([], 0)).1 p
def cnt (ws : List BW) (p : List Nat) : List Nat := (List.range ws.length).filter (bF ws p)
/-- a domain of a column, whole -/
def DomX (cN cW : Addr) (H : Hp) (a : Addr) (c : Col) : Prop := (c.w = false ∧ ∃ dx fs, H a = some (.ins cN dx fs) ∧ fs.lookup (Str.ofString "low") = some (.int c.lo) ∧ fs.lookup (Str.ofString "high") = some (.int c.hi) ∧ fs.lookup (Str.ofString "has_code") = none) ∨
  (c.w = true ∧ ∃ dx fs l, H a = some (.ins cW dx fs) ∧ fs.lookup (Str.ofString "low") = some (.int c.lo) ∧ fs.lookup (Str.ofString "high") = some (.int c.hi) ∧ fs.lookup (Str.ofString "has_code") = none ∧ fs.lookup (Str.ofString "words") = some (.ref l) ∧ H l = some (.lst ((wds c.sd (c.hi + 1).toNat).map V.str)))
/-- a list in another order -/
def prm {α : Type} (os : List Nat) (xs : List α) : List α := os.filterMap (xs[·]?)
/-- an order of n places -/
structure Pm (os : List Nat) (n : Nat) : Prop where
  len : os.length = n
  lt : ∀ k ∈ os, k < n
  nd : os.Nodup
  all : ∀ k, k < n → k ∈ os
/-- a table whole -/
def TF (cT : Addr) (H : Hp) (t : Addr) (nm wy : Str) (ou : Addr) (zs : List Str) (dv : List V) (rws : List Rw) : Prop := ∃ (rl dx na dl : Addr) (fs : List (Str × V)) (xs : List V), H t = some (.ins cT dx fs) ∧ fs.lookup (Str.ofString "rows") = some (.ref rl) ∧ fs.lookup (Str.ofString "name") = some (.str nm) ∧ fs.lookup (Str.ofString "way") = some (.str wy) ∧ fs.lookup (Str.ofString "outcome") = some (.ref ou) ∧ fs.lookup (Str.ofString "names") = some (.ref na) ∧ fs.lookup (Str.ofString "domains") = some (.ref dl) ∧ H na = some (.lst (zs.map V.str)) ∧ H dl = some (.lst dv) ∧ H rl = some (.lst xs) ∧ RL NT H xs rws ∧ xs.length ≤ 200
def trn (os : List Nat) (x : Rw) : Rw := (prm os x.1, x.2)
/-- what a table is made of -/
structure TOk (cN cW : Addr) (H : Hp) (nm wy : Str) (ou : Addr) (zs : List Str) (dv : List V) (rws : List Rw) (bs : Prs) (o : Int × Int) : Prop where
  words : ∀ z ∈ nm :: zs, isw z = true
  once : (nm :: zs).Nodup
  one : 1 ≤ zs.length
  four : zs.length ≤ 4
  way : wy ∈ six
  sum : wy = Str.ofString "sum" → ∃ dx fs, H ou = some (.ins cN dx fs)
  doms : RefL dv bs (Dom cN cW H)
  out : Dom cN cW H ou o
  len : bs.length = zs.length
  rows : ∀ w ∈ rws, RowOk bs o w
  few : rws.length ≤ 200
theorem hide_upd {H : Hp} {D : Addr} {o : HO} : hide (upd H D o) D = hide H D := by
  funext b
  unfold hide
  by_cases h : b = D
  · rw [if_pos h, if_pos h]
  · rw [if_neg h, if_neg h, upd_ne h]
theorem hide_mono {H H' : Hp} {D : Addr} (s : Same H H') : Same (hide H D) (hide H' D) := fun b o e => by
  unfold hide at e ⊢
  by_cases h : b = D
  · rw [if_pos h] at e; cases e
  · rw [if_neg h] at e ⊢; exact s b o e
theorem hide_le (H : Hp) (D : Addr) : Same (hide H D) H := fun b o e => by
  unfold hide at e
  by_cases h : b = D
  · rw [if_pos h] at e; cases e
  · rw [if_neg h] at e; exact e
def pc (ws : List BW) (p : List Nat) : List Int := (ws.filter fun w => bfit w.1 p).map (·.2)
/-! forms -/
abbrev Lf := Str × Int
def Fm : Nat → Type
  | 0 => Str × Int
  | n + 1 => List (Int × Int × Fm n)
def fmDec : ∀ n, DecidableEq (Fm n)
  | 0 => inferInstanceAs (DecidableEq (Str × Int))
  | n + 1 => @instDecidableEqList _ (@instDecidableEqProd _ _ _ (@instDecidableEqProd _ _ _ (fmDec n)))
instance {n : Nat} : DecidableEq (Fm n) := fmDec n
def bxs : (n : Nat) → Fm n → List (Prs × Lf)
  | 0, f => [([], f)]
  | n + 1, l => List.flatMap (fun e : Int × Int × Fm n => (bxs n e.2.2).map fun q => ((e.1, e.2.1) :: q.1, q.2)) l
theorem bxs_app (n : Nat) (l m : List (Int × Int × Fm n)) : bxs (n + 1) (show Fm (n + 1) from l ++ m) = bxs (n + 1) (show Fm (n + 1) from l) ++ bxs (n + 1) (show Fm (n + 1) from m) := List.flatMap_append
theorem bxs_one (n : Nat) (e : Int × Int × Fm n) : bxs (n + 1) (show Fm (n + 1) from [e]) = (bxs n e.2.2).map fun q => ((e.1, e.2.1) :: q.1, q.2) := by
  show List.flatMap _ [e] = _
  simp
def fitb : Prs → List Int → Bool
  | [], _ => true
  | _ :: _, [] => true
  | p :: b, x :: cs => inR x p && fitb b cs
/-- one more pair with what lies beneath it -/
def addp {n : Nat} (l : List (Int × Int × Fm n)) (p : Int × Int) (g : Fm n) : List (Int × Int × Fm n) :=
  match l.getLast? with
  | none => l ++ [(p.1, p.2, g)]
  | some e => if e.2.2 = g then l.dropLast ++ [(e.1, p.2, g)] else l ++ [(p.1, p.2, g)]
theorem addp_nil {n : Nat} {p : Int × Int} {g : Fm n} : addp [] p g = [(p.1, p.2, g)] := rfl
theorem addp_eq {n : Nat} {l : List (Int × Int × Fm n)} {e : Int × Int × Fm n} {p : Int × Int} {g : Fm n} (h : e.2.2 = g) : addp (l ++ [e]) p g = l ++ [(e.1, p.2, g)] := by
  unfold addp
  rw [List.getLast?_concat]
  show (if e.2.2 = g then _ else _) = _
  rw [if_pos h, List.dropLast_concat]
theorem addp_ne {n : Nat} {l : List (Int × Int × Fm n)} {e : Int × Int × Fm n} {p : Int × Int} {g : Fm n} (h : ¬ e.2.2 = g) : addp (l ++ [e]) p g = l ++ [e] ++ [(p.1, p.2, g)] := by
  unfold addp
  rw [List.getLast?_concat]
  show (if e.2.2 = g then _ else _) = _
  rw [if_neg h]
def cutT (tips : List Lf) (part k : Nat) : List Lf := (tips.drop (k * part)).take part
def frm : (cs : List Col) → List Lf → Fm cs.length
  | [], tips => tips.headD (Str.ofString "", 0)
  | c :: cs, tips => (List.range c.prs.length).foldl (fun l k => addp l (c.prs.getD k (0, 0)) (frm cs (cutT tips (tips.length / c.prs.length) k))) []
/-- the first k pairs of a column put together -/
def frk (c : Col) (cs : List Col) (tips : List Lf) (k : Nat) : List (Int × Int × Fm cs.length) := (List.range k).foldl (fun l k => addp l (c.prs.getD k (0, 0)) (frm cs (cutT tips (tips.length / c.prs.length) k))) []
theorem frk_succ (c : Col) (cs : List Col) (tips : List Lf) (k : Nat) : frk c cs tips (k + 1) = addp (frk c cs tips k) (c.prs.getD k (0, 0)) (frm cs (cutT tips (tips.length / c.prs.length) k)) := by
  unfold frk
  rw [List.range_succ, List.foldl_append]
  rfl
theorem frm_cons (c : Col) (cs : List Col) (tips : List Lf) : frm (c :: cs) tips = frk c cs tips c.prs.length := rfl
/-- what holds of the first k pairs put together -/
structure Gk (c : Col) (n : Nat) (k : Nat) (g : Nat → Fm n) (l : List (Int × Int × Fm n)) : Prop where
  len : l.length ≤ k
  ne : 0 < k → l ≠ []
  le : ∀ e ∈ l, e.1 ≤ e.2.1 ∧ c.lo ≤ e.1 ∧ e.2.1 ≤ c.hi
  top : ∀ e ∈ l, ∀ p, 0 < k → c.prs[k - 1]? = some p → e.2.1 ≤ p.2
  last : ∀ l' e, l = l' ++ [e] → ∀ p, c.prs[k - 1]? = some p → e.2.1 = p.2
  from_ : ∀ e ∈ l, ∃ j, j < k ∧ e.2.2 = g j
  one : ∀ (j : Nat) (p : Int × Int) (x : Int), j < k → c.prs[j]? = some p → p.1 ≤ x → x ≤ p.2 → (l.filter fun e => inR x (e.1, e.2.1)).map (·.2.2) = [g j]
theorem Gk.nil {c : Col} {n : Nat} {g : Nat → Fm n} : Gk c n 0 g [] := ⟨Nat.le_refl _, fun h => absurd h (by decide), (fun e h => by cases h), (fun e h => by cases h), (fun l' e h => by simp at h), (fun e h => by cases h), fun j p x h => absurd h (by omega)⟩
theorem inR_not {x : Int} {p : Int × Int} (h : p.2 < x ∨ x < p.1) : inR x p = false := by
  unfold inR
  rw [Bool.and_eq_false_iff]
  simp only [decide_eq_false_iff_not]
  omega
theorem inR_yes {x : Int} {p : Int × Int} (h : p.1 ≤ x) (h' : x ≤ p.2) : inR x p = true := by
  unfold inR
  simp [h, h']
theorem Gk.add {c : Col} {n k : Nat} {g : Nat → Fm n} {l : List (Int × Int × Fm n)} (h : Gk c n k g l) (ok : ColOk c) {p : Int × Int} (e : c.prs[k]? = some p) (inn : ∀ (i : Nat) (p : Int × Int), c.prs[i]? = some p → c.lo ≤ p.1 ∧ p.2 ≤ c.hi) : Gk c n (k + 1) g (addp l p (g k)) := by
  have hle := ok.ch.le k p e
  have hin := inn k p e
  rcases List.eq_nil_or_concat l with rfl | ⟨l', d, rfl⟩
  · have hk : k = 0 := by
      rcases Nat.eq_zero_or_pos k with z | z
      · exact z
      · exact absurd rfl (h.ne z)
    subst hk
    rw [addp_nil]
    refine ⟨by simp, fun _ z => by simp at z, fun d hd => ?_, fun d hd q _ eq_ => ?_, fun l' d ed q eq_ => ?_, fun d hd => ?_, fun j q x hj eq_ h1 h2 => ?_⟩
    · rw [show d = (p.1, p.2, g 0) by simpa using hd]; exact ⟨hle, hin.1, hin.2⟩
    · rw [show d = (p.1, p.2, g 0) by simpa using hd]
      rw [show 0 + 1 - 1 = 0 from rfl, e] at eq_
      cases eq_; exact Int.le_refl _
    · rw [show 0 + 1 - 1 = 0 from rfl, e] at eq_
      cases eq_
      have := (List.append_inj' (show ([] : List (Int × Int × Fm n)) ++ [(p.1, p.2, g 0)] = l' ++ [d] from ed) rfl).2
      rw [show d = (p.1, p.2, g 0) by simpa using this.symm]
    · exact ⟨0, by omega, by rw [show d = (p.1, p.2, g 0) by simpa using hd]⟩
    · have : j = 0 := by omega
      subst this
      rw [e] at eq_
      cases eq_
      rw [List.filter_cons, if_pos (inR_yes h1 h2)]
      rfl
  · rw [List.concat_eq_append] at h ⊢
    have hk : 0 < k := by
      have := h.len
      rw [List.length_append, List.length_singleton] at this
      omega
    obtain ⟨p0, e0⟩ : ∃ p0, c.prs[k - 1]? = some p0 := ⟨_, List.getElem?_eq_getElem (by have := (List.getElem?_eq_some_iff.mp e).1; omega)⟩
    have hn := ok.ch.nxt (k - 1) p0 p e0 (by rw [show k - 1 + 1 = k by omega]; exact e)
    have hd2 := h.last l' d rfl p0 e0
    have hdl := h.le d (by simp)
    have below : ∀ j q x, j < k → c.prs[j]? = some q → x ≤ q.2 → x ≤ p0.2 := fun j q x hj eq_ hx => by
      have := ok.ch.mono eq_ (k - 1 - j) p0 (by rw [show j + (k - 1 - j) = k - 1 by omega]; exact e0)
      omega
    have upto : ∀ e' ∈ l' ++ [d], e'.2.1 ≤ p0.2 := fun e' he => h.top e' he p0 hk e0
    by_cases hg : d.2.2 = g k
    · rw [addp_eq hg]
      refine ⟨?_, fun _ z => by simp at z, fun d' hd' => ?_, fun d' hd' q _ eq_ => ?_, fun l2 d' ed q eq_ => ?_, fun d' hd' => ?_, fun j q x hj eq_ h1 h2 => ?_⟩
      · have := h.len; simp only [List.length_append, List.length_singleton] at this ⊢; omega
      · rcases List.mem_append.mp hd' with hd' | hd'
        · exact h.le d' (List.mem_append_left _ hd')
        · rw [show d' = (d.1, p.2, g k) by simpa using hd']
          exact ⟨by show d.1 ≤ p.2; omega, hdl.2.1, hin.2⟩
      · rw [show k + 1 - 1 = k by omega, e] at eq_
        cases eq_
        rcases List.mem_append.mp hd' with hd' | hd'
        · have := upto d' (List.mem_append_left _ hd'); omega
        · rw [show d' = (d.1, p.2, g k) by simpa using hd']; exact Int.le_refl _
      · rw [show k + 1 - 1 = k by omega, e] at eq_
        cases eq_
        have := (List.append_inj' ed rfl).2
        rw [show d' = (d.1, p.2, g k) by simpa using this.symm]
      · rcases List.mem_append.mp hd' with hd' | hd'
        · obtain ⟨j, hj, ej⟩ := h.from_ d' (List.mem_append_left _ hd')
          exact ⟨j, by omega, ej⟩
        · exact ⟨k, by omega, by rw [show d' = (d.1, p.2, g k) by simpa using hd']⟩
      · rw [List.filter_append, List.map_append]
        by_cases hjk : j < k
        · have hx := below j q x hjk eq_ h2
          have old := h.one j q x hjk eq_ h1 h2
          rw [List.filter_append, List.map_append] at old
          have es : inR x (d.1, d.2.1) = inR x (d.1, p.2) := by
            unfold inR
            congr 1
            rw [decide_eq_decide]
            show x ≤ d.2.1 ↔ x ≤ p.2
            omega
          rw [← old]
          congr 1
          rw [List.filter_cons, List.filter_cons, ← es]
          cases inR x (d.1, d.2.1) with
          | true => show [g k] = [d.2.2]; rw [hg]
          | false => rfl
        · have : j = k := by omega
          subst this
          rw [e] at eq_
          cases eq_
          have none_ : l'.filter (fun e => inR x (e.1, e.2.1)) = [] := List.filter_eq_nil_iff.mpr fun e' he => by
            have := upto e' (List.mem_append_left _ he)
            rw [inR_not (.inl (by show e'.2.1 < x; omega))]; decide
          rw [none_, List.filter_cons, if_pos (inR_yes (p := (d.1, p.2)) (by show d.1 ≤ x; omega) h2)]
          rfl
    · rw [addp_ne hg]
      refine ⟨?_, fun _ z => by simp at z, fun d' hd' => ?_, fun d' hd' q _ eq_ => ?_, fun l2 d' ed q eq_ => ?_, fun d' hd' => ?_, fun j q x hj eq_ h1 h2 => ?_⟩
      · have := h.len; simp only [List.length_append, List.length_singleton] at this ⊢; omega
      · rcases List.mem_append.mp hd' with hd' | hd'
        · exact h.le d' hd'
        · rw [show d' = (p.1, p.2, g k) by simpa using hd']; exact ⟨hle, hin.1, hin.2⟩
      · rw [show k + 1 - 1 = k by omega, e] at eq_
        cases eq_
        rcases List.mem_append.mp hd' with hd' | hd'
        · have := upto d' hd'; omega
        · rw [show d' = (p.1, p.2, g k) by simpa using hd']; exact Int.le_refl _
      · rw [show k + 1 - 1 = k by omega, e] at eq_
        cases eq_
        have := (List.append_inj' ed rfl).2
        rw [show d' = (p.1, p.2, g k) by simpa using this.symm]
      · rcases List.mem_append.mp hd' with hd' | hd'
        · obtain ⟨j, hj, ej⟩ := h.from_ d' hd'
          exact ⟨j, by omega, ej⟩
        · exact ⟨k, by omega, by rw [show d' = (p.1, p.2, g k) by simpa using hd']⟩
      · rw [List.filter_append, List.map_append]
        by_cases hjk : j < k
        · have hx := below j q x hjk eq_ h2
          rw [h.one j q x hjk eq_ h1 h2, List.filter_cons, if_neg (by rw [inR_not (.inr (by show x < p.1; omega))]; decide)]
          rfl
        · have : j = k := by omega
          subst this
          rw [e] at eq_
          cases eq_
          have none_ : (l' ++ [d]).filter (fun e => inR x (e.1, e.2.1)) = [] := List.filter_eq_nil_iff.mpr fun e' he => by
            have := upto e' he
            rw [inR_not (.inl (by show e'.2.1 < x; omega))]; decide
          rw [none_, List.filter_cons, if_pos (inR_yes h1 h2)]
          rfl
theorem frk_ok {c : Col} (ok : ColOk c) (inn : ∀ (i : Nat) (p : Int × Int), c.prs[i]? = some p → c.lo ≤ p.1 ∧ p.2 ≤ c.hi) (cs : List Col) (tips : List Lf) : ∀ k, k ≤ c.prs.length → Gk c cs.length k (fun k => frm cs (cutT tips (tips.length / c.prs.length) k)) (frk c cs tips k)
  | 0, _ => Gk.nil
  | k + 1, h => by
    have e := List.getElem?_eq_getElem (l := c.prs) (i := k) (by omega)
    rw [frk_succ, show c.prs.getD k (0, 0) = c.prs[k]'(by omega) by rw [List.getD_eq_getElem?_getD, e]; rfl]
    exact (frk_ok ok inn cs tips k (by omega)).add ok e inn
/-! points in their order -/
theorem grow_from (ls : List Nat) : ∀ pts : List (List Nat), ls.foldl grow pts = pts.flatMap fun q => (prodP ls).map (q ++ ·) := by
  induction ls with
  | nil => intro pts; show pts = pts.flatMap fun q => [q ++ []]; simp
  | cons n ls ih =>
    intro pts
    show ls.foldl grow (grow pts n) = _
    rw [ih]
    have e : prodP (n :: ls) = (grow [[]] n).flatMap fun q => (prodP ls).map (q ++ ·) := ih _
    rw [e]
    unfold grow
    rw [List.flatMap_assoc]
    congr 1
    funext q
    simp [List.flatMap_map, List.map_flatMap, Function.comp_def]
theorem prodP_cons (n : Nat) (ls : List Nat) : prodP (n :: ls) = (List.range n).flatMap fun a => (prodP ls).map (a :: ·) := by
  have e : prodP (n :: ls) = (grow [[]] n).flatMap fun q => (prodP ls).map (q ++ ·) := grow_from ls _
  rw [e]
  unfold grow
  simp [List.flatMap_map]
theorem blocks_at {α : Type} {N : Nat} {f : Nat → List α} (hf : ∀ a, (f a).length = N) : ∀ (n m : Nat) (x : α), ((List.range n).flatMap f)[m]? = some x → ∃ a m', a < n ∧ m = a * N + m' ∧ m' < N ∧ (f a)[m']? = some x
  | 0, m, x, e => by simp at e
  | n + 1, m, x, e => by
    rw [List.range_succ, List.flatMap_append] at e
    have hl : ∀ n, ((List.range n).flatMap f).length = n * N := fun n => by
      induction n with
      | zero => simp
      | succ n ih => rw [List.range_succ, List.flatMap_append, List.length_append, ih, List.flatMap_cons, List.flatMap_nil, List.append_nil, hf, Nat.succ_mul]
    by_cases h : m < n * N
    · rw [List.getElem?_append_left (by rw [hl]; exact h)] at e
      obtain ⟨a, m', ha, r⟩ := blocks_at hf n m x e
      exact ⟨a, m', by omega, r⟩
    · rw [List.getElem?_append_right (by rw [hl]; omega), hl] at e
      have e' : (f n)[m - n * N]? = some x := by simpa using e
      refine ⟨n, m - n * N, by omega, by omega, ?_, e'⟩
      have := (List.getElem?_eq_some_iff.mp e').1
      rw [hf n] at this
      exact this
theorem prodP_cons_len (n : Nat) (ls : List Nat) : (prodP (n :: ls)).length = n * (prodP ls).length := by
  rw [prodP_cons]
  induction n with
  | zero => simp
  | succ n ih => rw [List.range_succ, List.flatMap_append, List.length_append, ih, List.flatMap_cons, List.flatMap_nil, List.append_nil, List.length_map, Nat.succ_mul]
/-- the boxes that hold codes at a point tell the tip of that point -/
theorem frm_fit (inn : ∀ c : Col, ColOk c → ∀ (i : Nat) (p : Int × Int), c.prs[i]? = some p → c.lo ≤ p.1 ∧ p.2 ≤ c.hi) : ∀ (cs : List Col) (tips : List Lf) (m : Nat) (p : List Nat) (cd : List Int) (t : Lf), (∀ c ∈ cs, ColOk c) → tips.length = (prodP (lens cs)).length → (prodP (lens cs))[m]? = some p → tips[m]? = some t → AtP cs p cd → ((bxs cs.length (frm cs tips)).filter fun q => fitb q.1 cd).map (·.2) = [t]
  | [], tips, m, p, cd, t, _, hl, hp, ht, _ => by
    have h1 : tips.length = 1 := hl
    have hm : m = 0 := by have := (List.getElem?_eq_some_iff.mp ht).1; omega
    subst hm
    obtain ⟨t0, rfl⟩ : ∃ t0, tips = [t0] := List.length_eq_one_iff.mp h1
    have : t0 = t := by simpa using ht
    subst this
    rfl
  | c :: cs, tips, m, p, cd, t, hok, hl, hp, ht, hat => by
    have okc := hok c List.mem_cons_self
    have e1 : lens (c :: cs) = c.prs.length :: lens cs := rfl
    rw [e1] at hl hp
    rw [prodP_cons] at hp
    obtain ⟨a, m', ha, hm, hm', ea⟩ := blocks_at (N := (prodP (lens cs)).length) (fun a => by rw [List.length_map]) _ _ _ hp
    rw [List.getElem?_map] at ea
    obtain ⟨p', ep', rfl⟩ : ∃ p', (prodP (lens cs))[m']? = some p' ∧ a :: p' = p := by
      cases h : (prodP (lens cs))[m']? with
      | none => rw [h] at ea; cases ea
      | some p' => rw [h] at ea; exact ⟨p', rfl, by simpa using ea⟩
    have h0 := okc.some_
    rw [prodP_cons_len] at hl
    have hpart : tips.length / c.prs.length = (prodP (lens cs)).length := by rw [hl, Nat.mul_div_cancel_left _ (by omega)]
    -- codes
    obtain ⟨x, cd', rfl⟩ : ∃ x cd', cd = x :: cd' := by
      cases cd with
      | nil => have := hat.1; simp at this
      | cons x cd' => exact ⟨x, cd', rfl⟩
    obtain ⟨pr, epr, hx⟩ := hat.2 0 x c a rfl rfl rfl
    have hpl := okc.ch.le a pr epr
    have hx1 : pr.1 ≤ x ∧ x ≤ pr.2 := by rcases hx with rfl | rfl <;> omega
    have hat' : AtP cs p' cd' := ⟨by have := hat.1; simpa using this, fun j x' c' a' e f g => hat.2 (j + 1) x' c' a' e f g⟩
    -- the part of the tips
    have hcl : (cutT tips (prodP (lens cs)).length a).length = (prodP (lens cs)).length := by
      unfold cutT
      rw [List.length_take, List.length_drop, hl]
      have : (a + 1) * (prodP (lens cs)).length ≤ c.prs.length * (prodP (lens cs)).length := Nat.mul_le_mul_right _ (by omega)
      rw [Nat.succ_mul] at this
      omega
    have hct : (cutT tips (prodP (lens cs)).length a)[m']? = some t := by
      unfold cutT
      rw [List.getElem?_take, if_pos hm', List.getElem?_drop, ← hm]
      exact ht
    have ih := frm_fit inn cs (cutT tips (prodP (lens cs)).length a) m' p' cd' t (fun c hc => hok c (List.mem_cons_of_mem _ hc)) hcl ep' hct hat'
    have G := frk_ok okc (inn c okc) cs tips c.prs.length (Nat.le_refl _)
    have one := G.one a pr x ha epr hx1.1 hx1.2
    rw [hpart] at one
    show ((bxs (cs.length + 1) (frk c cs tips c.prs.length)).filter fun q => fitb q.1 (x :: cd')).map (·.2) = [t]
    generalize frk c cs tips c.prs.length = l at one
    have key : ∀ l : List (Int × Int × Fm cs.length), ((bxs (cs.length + 1) (show Fm (cs.length + 1) from l)).filter fun q => fitb q.1 (x :: cd')).map (·.2) = ((l.filter fun e => inR x (e.1, e.2.1)).map (·.2.2)).flatMap fun f => ((bxs cs.length f).filter fun q => fitb q.1 cd').map (·.2) := fun l => by
      induction l with
      | nil => rfl
      | cons e l ihl =>
        have es : bxs (cs.length + 1) (show Fm (cs.length + 1) from e :: l) = ((bxs cs.length e.2.2).map fun q => ((e.1, e.2.1) :: q.1, q.2)) ++ bxs (cs.length + 1) (show Fm (cs.length + 1) from l) := List.flatMap_cons
        rw [es, List.filter_append, List.map_append, ihl, List.filter_cons]
        cases hin : inR x (e.1, e.2.1) with
        | true =>
          rw [if_pos rfl, List.map_cons, List.flatMap_cons]
          congr 1
          rw [List.filter_map, List.map_map]
          congr 1
          apply List.filter_congr
          intro q _
          show (inR x (e.1, e.2.1) && fitb q.1 cd') = _
          rw [hin, Bool.true_and]
        | false =>
          rw [if_neg (by decide)]
          have : ((bxs cs.length e.2.2).map fun q => ((e.1, e.2.1) :: q.1, q.2)).filter (fun q => fitb q.1 (x :: cd')) = [] := List.filter_eq_nil_iff.mpr fun q hq => by
            obtain ⟨q', _, rfl⟩ := List.mem_map.mp hq
            show ¬ (inR x (e.1, e.2.1) && fitb q'.1 cd') = true
            rw [hin, Bool.false_and]; decide
          rw [this]
          rfl
    rw [key l, one]
    show List.flatMap _ [_] = _
    rw [List.flatMap_cons, List.flatMap_nil, List.append_nil]
    exact ih
/-- a box that lies in its columns -/
def Bin (cs : List Col) (b : Prs) : Prop := b.length = cs.length ∧ ∀ (j : Nat) (p : Int × Int) (c : Col), b[j]? = some p → cs[j]? = some c → p.1 ≤ p.2 ∧ c.lo ≤ p.1 ∧ p.2 ≤ c.hi
theorem frm_bin (inn : ∀ c : Col, ColOk c → ∀ (i : Nat) (p : Int × Int), c.prs[i]? = some p → c.lo ≤ p.1 ∧ p.2 ≤ c.hi) : ∀ (cs : List Col) (tips : List Lf), (∀ c ∈ cs, ColOk c) → ∀ q ∈ bxs cs.length (frm cs tips), Bin cs q.1
  | [], tips, _, q, hq => by
    rw [show q = ([], frm [] tips) from List.mem_singleton.mp hq]
    exact ⟨rfl, fun j p c e => by simp at e⟩
  | c :: cs, tips, hok, q, hq => by
    have okc := hok c List.mem_cons_self
    have G := frk_ok okc (inn c okc) cs tips c.prs.length (Nat.le_refl _)
    have hq : q ∈ List.flatMap (fun e : Int × Int × Fm cs.length => (bxs cs.length e.2.2).map fun q => ((e.1, e.2.1) :: q.1, q.2)) (frk c cs tips c.prs.length) := hq
    obtain ⟨e, he, hq⟩ := List.mem_flatMap.mp hq
    obtain ⟨q', hq', rfl⟩ := List.mem_map.mp hq
    obtain ⟨j, _, ej⟩ := G.from_ e he
    rw [ej] at hq'
    have ih := frm_bin inn cs _ (fun c hc => hok c (List.mem_cons_of_mem _ hc)) q' hq'
    refine ⟨by show q'.1.length + 1 = _; rw [ih.1]; rfl, fun i p c' f g => ?_⟩
    cases i with
    | zero =>
      have f : (e.1, e.2.1) = p := by simpa using f
      have g : c = c' := by simpa using g
      subst f g
      exact G.le e he
    | succ i => exact ih.2 i p c' (by simpa using f) (by simpa using g)
theorem frm_len (inn : ∀ c : Col, ColOk c → ∀ (i : Nat) (p : Int × Int), c.prs[i]? = some p → c.lo ≤ p.1 ∧ p.2 ≤ c.hi) : ∀ (cs : List Col) (tips : List Lf), (∀ c ∈ cs, ColOk c) → (bxs cs.length (frm cs tips)).length ≤ 6 ^ cs.length
  | [], _, _ => Nat.le_refl _
  | c :: cs, tips, hok => by
    have okc := hok c List.mem_cons_self
    have G := frk_ok okc (inn c okc) cs tips c.prs.length (Nat.le_refl _)
    have gl := Nat.le_trans G.len okc.few
    have hl : ∀ l : List (Int × Int × Fm cs.length), (∀ e ∈ l, (bxs cs.length e.2.2).length ≤ 6 ^ cs.length) → (bxs (cs.length + 1) (show Fm (cs.length + 1) from l)).length ≤ l.length * 6 ^ cs.length := fun l => by
      induction l with
      | nil => intro _; exact Nat.zero_le _
      | cons e l ih =>
        intro h
        have es : bxs (cs.length + 1) (show Fm (cs.length + 1) from e :: l) = ((bxs cs.length e.2.2).map fun q => ((e.1, e.2.1) :: q.1, q.2)) ++ bxs (cs.length + 1) (show Fm (cs.length + 1) from l) := List.flatMap_cons
        rw [es, List.length_append, List.length_map, List.length_cons, Nat.succ_mul]
        have := ih fun e he => h e (List.mem_cons_of_mem _ he)
        have := h e List.mem_cons_self
        omega
    have := hl (frk c cs tips c.prs.length) fun e he => by
      obtain ⟨j, _, ej⟩ := G.from_ e he
      rw [ej]
      exact frm_len inn cs _ fun c hc => hok c (List.mem_cons_of_mem _ hc)
    show (bxs (cs.length + 1) (frk c cs tips c.prs.length)).length ≤ 6 ^ (cs.length + 1)
    rw [Nat.pow_succ, Nat.mul_comm (6 ^ cs.length)]
    exact Nat.le_trans this (Nat.mul_le_mul_right _ gl)
/-! forms as they stand -/
theorem paired_get {α β : Type} {R : α → β → Prop} : ∀ {xs : List α} {as : List β} {i : Nat} {x : α}, Paired R xs as → xs[i]? = some x → ∃ a, as[i]? = some a ∧ R x a
  | _, _, _, _, .nil, e => by simp at e
  | _, _, 0, _, .cons (b := b) h _, e => by simp at e; subst e; exact ⟨b, rfl, h⟩
  | _, _, i + 1, x, .cons _ tl, e => by
    obtain ⟨a, q⟩ := paired_get (i := i) (x := x) tl (by simpa using e)
    exact ⟨a, by simpa using q.1, q.2⟩
theorem paired_take {α β : Type} {R : α → β → Prop} : ∀ {xs : List α} {as : List β} (k : Nat), Paired R xs as → Paired R (xs.take k) (as.take k)
  | _, _, 0, _ => .nil
  | _, _, _ + 1, .nil => .nil
  | _, _, k + 1, .cons h tl => .cons h (paired_take k tl)
theorem paired_drop {α β : Type} {R : α → β → Prop} : ∀ {xs : List α} {as : List β} (k : Nat), Paired R xs as → Paired R (xs.drop k) (as.drop k)
  | _, _, 0, h => h
  | _, _, _ + 1, .nil => .nil
  | _, _, k + 1, .cons _ tl => paired_drop k tl
theorem paired_app {α β : Type} {R : α → β → Prop} {xs ys : List α} {as bs : List β} (h : Paired R xs as) (h' : Paired R ys bs) : Paired R (xs ++ ys) (as ++ bs) := by
  induction h with
  | nil => exact h'
  | cons a _ ih => exact .cons a ih
theorem paired_uniq {α β : Type} {R : α → β → Prop} (u : ∀ x a b, R x a → R x b → a = b) : ∀ {xs : List α} {as bs : List β}, Paired R xs as → Paired R xs bs → as = bs
  | _, _, _, .nil, .nil => rfl
  | _, _, _, .cons h t, .cons h' t' => by rw [u _ _ _ h h', paired_uniq u t t']
theorem paired_last {α β : Type} {R : α → β → Prop} {xs : List α} {as : List β} (h : Paired R xs as) (hn : xs ≠ []) : ∃ xs' x as' a, xs = xs' ++ [x] ∧ as = as' ++ [a] ∧ Paired R xs' as' ∧ R x a := by
  induction h with
  | nil => exact absurd rfl hn
  | @cons a b l1 l2 hd tl ih =>
    cases tl with
    | nil => exact ⟨[], a, [], b, rfl, rfl, .nil, hd⟩
    | @cons a2 b2 l3 l4 hd2 tl2 =>
      obtain ⟨xs', x, as', d, e1, e2, h3, h4⟩ := ih (by simp)
      exact ⟨a :: xs', x, b :: as', d, by rw [e1]; rfl, by rw [e2]; rfl, .cons hd h3, h4⟩
def BxA (H : Hp) (a : Addr) (B : Prs) : Prop := ∃ xs, H a = some (.tup xs) ∧ PL H xs B
theorem BxA.mono {H H' : Hp} {a : Addr} {B : Prs} (h : BxA H a B) (s : SameT H H') : BxA H' a B := let ⟨xs, e, p⟩ := h; ⟨xs, s _ _ e, p.mono s⟩
def NdP (H : Hp) {n : Nat} (F : Fm n → V → Prop) (x : V) (e : Int × Int × Fm n) : Prop := ∃ (t : Addr) (u : V), x = .ref t ∧ H t = some (.tup [.int e.1, .int e.2.1, u]) ∧ F e.2.2 u
def lf0 (f : Fm 0) : Lf := f
def FmV (H : Hp) : (n : Nat) → Fm n → V → Prop
  | 0, f, v => ∃ r : Addr, v = .ref r ∧ H r = some (.tup [.str (lf0 f).1, .int (lf0 f).2])
  | n + 1, l, v => ∃ (r : Addr) (xs : List V), v = .ref r ∧ H r = some (.tup xs) ∧ Paired (NdP H (FmV H n)) xs (show List (Int × Int × Fm n) from l)
theorem FmV.mono {H H' : Hp} (s : SameT H H') : ∀ {n : Nat} {f : Fm n} {v : V}, FmV H n f v → FmV H' n f v
  | 0, _, _, ⟨r, e, h⟩ => ⟨r, e, s _ _ h⟩
  | _ + 1, _, _, ⟨r, xs, e, h, p⟩ => ⟨r, xs, e, s _ _ h, Paired.mapP p fun _ _ ⟨t, u, e, z, q⟩ => ⟨t, u, e, s _ _ z, FmV.mono s q⟩⟩
theorem FmV.uniq {H : Hp} : ∀ {n : Nat} {f g : Fm n} {v : V}, FmV H n f v → FmV H n g v → f = g
  | 0, f, g, v, ⟨r, e, h⟩, ⟨r', e', h'⟩ => by
    rw [e] at e'
    injection e' with e'
    subst e'
    rw [h] at h'
    have z : (lf0 f).1 = (lf0 g).1 ∧ (lf0 f).2 = (lf0 g).2 := by simpa using h'
    exact (Prod.ext z.1 z.2 : lf0 f = lf0 g)
  | n + 1, f, g, v, ⟨r, xs, e, h, p⟩, ⟨r', xs', e', h', p'⟩ => by
    rw [e] at e'
    injection e' with e'
    subst e'
    rw [h] at h'
    have z : xs = xs' := by simpa using h'
    subst z
    refine paired_uniq (fun x a b => ?_) p p'
    rintro ⟨t, u, e1, e2, e3⟩ ⟨t', u', g1, g2, g3⟩
    rw [e1] at g1
    injection g1 with g1
    subst g1
    rw [e2] at g2
    have w : a.1 = b.1 ∧ a.2.1 = b.2.1 ∧ u = u' := by simpa using g2
    obtain ⟨w1, w2, w3⟩ := w
    subst w3
    exact Prod.ext w1 (Prod.ext w2 (FmV.uniq e3 g3))
theorem eqV_int (a b : Int) : eqV (.int a) (.int b) = decide (a = b) := by
  by_cases h : a = b
  · rw [decide_eq_true h, h]; simp [eqV]
  · rw [decide_eq_false h]; simp [eqV, h]
theorem eqV_str (a b : Str) : eqV (.str a) (.str b) = decide (a = b) := by
  by_cases h : a = b
  · rw [decide_eq_true h, h]; simp [eqV]
  · rw [decide_eq_false h]; simp [eqV, h]
theorem dec_some {α : Type} [DecidableEq α] {x y : Option α} {a b : α} (e : x = some a) (f : y = some b) : decide (x = y) = decide (a = b) := by
  subst e f
  by_cases h : a = b
  · rw [decide_eq_true h, decide_eq_true (by rw [h])]
  · rw [decide_eq_false h, decide_eq_false (fun z => h (Option.some.inj z))]
theorem all_min {α : Type} [DecidableEq α] {xs ys : List α} : ((List.range (min xs.length ys.length)).all (fun j => decide (xs[j]? = ys[j]?)) && xs.length == ys.length) = decide (xs = ys) := by
  rw [Bool.eq_iff_iff, Bool.and_eq_true, List.all_eq_true, decide_eq_true_iff, beq_iff_eq]
  constructor
  · rintro ⟨h, hl⟩
    refine List.ext_getElem? fun j => ?_
    by_cases hj : j < xs.length
    · exact of_decide_eq_true (h j (List.mem_range.mpr (by omega)))
    · rw [List.getElem?_eq_none (by omega), List.getElem?_eq_none (by omega)]
  · rintro rfl
    exact ⟨fun j _ => decide_eq_true rfl, rfl⟩
/-- forms compared, item by item -/
theorem fm_els {K : PySem.W.Frag} {H : Hp} : ∀ (n : Nat) {f g : Fm n} {v u : V}, FmV H n f v → FmV H n g u → ∃ (a b : Addr) (xs ys : List V) (F : Nat → Bool), v = .ref a ∧ u = .ref b ∧ H a = some (.tup xs) ∧ H b = some (.tup ys) ∧ (∀ (j : Nat) (x y : V), xs[j]? = some x → ys[j]? = some y → DEq K H (2 * n) x y (F j)) ∧ ((List.range (min xs.length ys.length)).all F && xs.length == ys.length) = decide (f = g)
  | 0, f, g, v, u, ⟨r, e, h⟩, ⟨r', e', h'⟩ => by
    refine ⟨r, r', _, _, fun j => if j = 0 then decide ((lf0 f).1 = (lf0 g).1) else decide ((lf0 f).2 = (lf0 g).2), e, e', h, h', fun j x y e1 e2 => ?_, ?_⟩
    · match j, e1, e2 with
      | 0, e1, e2 =>
        cases e1; cases e2
        show DEq K H 0 _ _ (decide ((lf0 f).1 = (lf0 g).1))
        rw [← eqV_str]
        exact .flat rfl rfl
      | 1, e1, e2 =>
        cases e1; cases e2
        show DEq K H 0 _ _ (decide ((lf0 f).2 = (lf0 g).2))
        rw [← eqV_int]
        exact .flat rfl rfl
      | j + 2, e1, _ => simp at e1
    · have eb : decide (f = g) = decide (lf0 f = lf0 g) := rfl
      rw [eb, Bool.eq_iff_iff, Bool.and_eq_true, List.all_eq_true, decide_eq_true_iff]
      constructor
      · rintro ⟨h1, _⟩
        have a : decide ((lf0 f).1 = (lf0 g).1) = true := h1 0 (List.mem_range.mpr (by simp))
        have b : decide ((lf0 f).2 = (lf0 g).2) = true := h1 1 (List.mem_range.mpr (by simp))
        exact Prod.ext (of_decide_eq_true a) (of_decide_eq_true b)
      · intro z
        rw [z]
        refine ⟨fun j _ => ?_, by simp⟩
        split <;> exact decide_eq_true rfl
  | n + 1, f, g, v, u, ⟨r, xs, e, h, p⟩, ⟨r', ys, e', h', p'⟩ => by
    have deq : ∀ {f g : Fm n} {v u : V}, FmV H n f v → FmV H n g u → DEq K H (2 * n + 1) v u (decide (f = g)) := fun {f g v u} hf hg => by
      obtain ⟨a, b, xs, ys, F, rfl, rfl, ha, hb, hF, he⟩ := fm_els (K := K) n hf hg
      by_cases hab : a = b
      · subst hab
        rw [decide_eq_true (hf.uniq hg)]
        exact .same a
      · have d := DEq.tup (K := K) (n := 2 * n) (f := F) hab (SqT.of ha) (SqT.of hb) hF
        rw [he] at d
        exact d
    have lx : xs.length = (show List (Int × Int × Fm n) from f).length := Paired.length p
    have ly : ys.length = (show List (Int × Int × Fm n) from g).length := Paired.length p'
    refine ⟨r, r', xs, ys, fun j => decide ((show List (Int × Int × Fm n) from f)[j]? = (show List (Int × Int × Fm n) from g)[j]?), e, e', h, h', fun j x y e1 e2 => ?_, ?_⟩
    · obtain ⟨a, ea, t, w, rfl, et, hw⟩ := paired_get p e1
      obtain ⟨b, eb, t', w', rfl, et', hw'⟩ := paired_get p' e2
      show DEq K H (2 * n + 2) _ _ (decide ((show List (Int × Int × Fm n) from f)[j]? = (show List (Int × Int × Fm n) from g)[j]?))
      rw [dec_some ea eb]
      by_cases ht : t = t'
      · subst ht
        rw [et] at et'
        have z : a.1 = b.1 ∧ a.2.1 = b.2.1 ∧ w = w' := by simpa using et'
        obtain ⟨z1, z2, z3⟩ := z
        subst z3
        rw [decide_eq_true (Prod.ext z1 (Prod.ext z2 (hw.uniq hw')))]
        exact .same t
      · have d := DEq.tup (K := K) (n := 2 * n + 1) (f := fun j => if j = 0 then decide (a.1 = b.1) else if j = 1 then decide (a.2.1 = b.2.1) else decide (a.2.2 = b.2.2)) ht (SqT.of et) (SqT.of et') fun j x y e1 e2 => by
          match j, e1, e2 with
          | 0, e1, e2 =>
            cases e1; cases e2
            show DEq K H (2 * n + 1) _ _ (decide (a.1 = b.1))
            rw [← eqV_int]
            exact .flat rfl rfl
          | 1, e1, e2 =>
            cases e1; cases e2
            show DEq K H (2 * n + 1) _ _ (decide (a.2.1 = b.2.1))
            rw [← eqV_int]
            exact .flat rfl rfl
          | 2, e1, e2 =>
            cases e1; cases e2
            show DEq K H (2 * n + 1) _ _ (decide (a.2.2 = b.2.2))
            exact deq hw hw'
          | j + 3, e1, _ => simp at e1
        have eb : ((List.range (min [V.int a.1, V.int a.2.1, w].length [V.int b.1, V.int b.2.1, w'].length)).all (fun j => if j = 0 then decide (a.1 = b.1) else if j = 1 then decide (a.2.1 = b.2.1) else decide (a.2.2 = b.2.2)) && [V.int a.1, V.int a.2.1, w].length == [V.int b.1, V.int b.2.1, w'].length) = decide (a = b) := by
          rw [Bool.eq_iff_iff, Bool.and_eq_true, List.all_eq_true, decide_eq_true_iff]
          constructor
          · rintro ⟨h1, _⟩
            have q1 : decide (a.1 = b.1) = true := h1 0 (List.mem_range.mpr (by simp))
            have q2 : decide (a.2.1 = b.2.1) = true := h1 1 (List.mem_range.mpr (by simp))
            have q3 : decide (a.2.2 = b.2.2) = true := h1 2 (List.mem_range.mpr (by simp))
            exact Prod.ext (of_decide_eq_true q1) (Prod.ext (of_decide_eq_true q2) (of_decide_eq_true q3))
          · intro z
            rw [z]
            refine ⟨fun j _ => ?_, by simp⟩
            split
            · exact decide_eq_true rfl
            · split <;> exact decide_eq_true rfl
        rw [eb] at d
        exact d
    · rw [lx, ly]
      exact all_min
theorem eqDT_fm {K : PySem.W.Frag} {H : Hp} {Q : VK} {n : Nat} {f g : Fm n} {v u : V} (hf : FmV H n f v) (hg : FmV H n g u) (hn : n ≤ 20) (q : Q (.bl (decide (f = g))) H) : rEqDT K false v u H Q := by
  obtain ⟨a, b, xs, ys, F, rfl, rfl, ha, hb, hF, he⟩ := fm_els (K := K) n hf hg
  refine ⟨a, b, xs, ys, rfl, rfl, SqT.of ha, SqT.of hb, F, fun j x y e1 e2 => (hF j x y e1 e2).mono (by omega), ?_⟩
  show Q (.bl ((List.range (min xs.length ys.length)).all F && xs.length == ys.length)) H
  rw [he]
  exact q
def BxL (H : Hp) : List V → List (Prs × Lf) → Prop := Paired fun x q => ∃ (t b r : Addr), x = .ref t ∧ H t = some (.tup [.ref b, .ref r]) ∧ BxA H b q.1 ∧ H r = some (.tup [.str q.2.1, .int q.2.2])
theorem BxL.mono {H H' : Hp} {xs : List V} {L : List (Prs × Lf)} (h : BxL H xs L) (s : SameT H H') : BxL H' xs L := Paired.mapP h fun _ _ ⟨t, b, r, e, z, p, w⟩ => ⟨t, b, r, e, s _ _ z, p.mono s, s _ _ w⟩
theorem BxL.length {H : Hp} {xs : List V} {L : List (Prs × Lf)} (h : BxL H xs L) : xs.length = L.length := Paired.length h
def TpL (H : Hp) : List V → List Lf → Prop := Paired fun x t => ∃ r : Addr, x = .ref r ∧ H r = some (.tup [.str t.1, .int t.2])
theorem TpL.mono {H H' : Hp} {xs : List V} {L : List Lf} (h : TpL H xs L) (s : SameT H H') : TpL H' xs L := Paired.mapP h fun _ _ ⟨r, e, z⟩ => ⟨r, e, s _ _ z⟩
theorem TpL.length {H : Hp} {xs : List V} {L : List Lf} (h : TpL H xs L) : xs.length = L.length := Paired.length h
def sayT : Str := Str.ofString "say"
def rowsP (L : List (Prs × Lf)) : List Rw := (L.filter fun q => decide (q.2.1 = sayT)).map fun q => (q.1.map fun p => [p], q.2.2)
theorem rowsP_snoc (L : List (Prs × Lf)) (q : Prs × Lf) : rowsP (L ++ [q]) = rowsP L ++ (if decide (q.2.1 = sayT) then [(q.1.map fun p => [p], q.2.2)] else []) := by
  unfold rowsP
  rw [List.filter_append, List.map_append]
  cases h : decide (q.2.1 = sayT) <;> simp [List.filter_cons, h]
theorem rowsP_len (L : List (Prs × Lf)) : (rowsP L).length ≤ L.length := by
  unfold rowsP
  rw [List.length_map]
  exact List.length_filter_le ..
theorem catT0_to {K : PySem.W.Frag} {H : Hp} {Q : VK} {a b : Addr} {xs ys : List V} (ha : H a = some (.tup xs)) (hb : H b = some (.tup ys)) (hz : xs.length + ys.length ≤ sizeLine) (q : ∀ (r : Addr) (H' : Hp), Same H H' → H' r = some (.tup (xs ++ ys)) → Q (.ref r) H') : rCatT0 K (.ref a) (.ref b) H Q := by
  refine ⟨a, b, xs, ys, rfl, rfl, SqT.of ha, SqT.of hb, hz, fun z => ?_, fun _ z => ?_, fun _ _ p hp => q p _ (same_new hp _) upd_same⟩
  · subst z; exact q b H (Same.refl _) hb
  · subst z; exact q a H (Same.refl _) (by rw [List.append_nil]; exact ha)
theorem sIx_nat (n d c : Nat) : HT.sIx n d (some (c : Int)) = min c n := by
  simp only [HT.sIx]
  split <;> omega
theorem cutBoth (xs : List V) (a b : Nat) (h : a + b ≤ xs.length) : cutV xs (some (a : Int)) (some ((a + b : Nat) : Int)) = (xs.drop a).take b := by
  unfold cutV
  rw [sIx_nat, sIx_nat, Nat.min_eq_left (by omega), Nat.min_eq_left (by omega), Nat.add_sub_cancel_left]
theorem CL.hideN {N : Addr → Prop} {D : Addr} {H : Hp} {xs : List V} {pss : List Prs} {zs : List V} (h : CL N H xs pss) (n : ¬ N D) (e : H D = some (.lst zs)) : CL NT (hide H D) xs pss := RefL.mono h fun l ps ⟨nl, ys, g1, g2⟩ => ⟨trivial, ys, hide_of g1 (fun z => n (by rw [← z]; exact nl)), g2.mono fun b us eb => hide_of eb fun z => by rw [z, e] at eb; cases eb⟩
def sp_law_cell_at (K : PySem.W.Frag) : Sp := fun vs H Q _ => ∃ (a : Addr) (ns : List Int) (k : Int), vs = [.ref a, .int k] ∧ SqL K H a (ns.map V.int) ∧ 0 ≤ k ∧ ∀ r : Int, Q (.int r) H
def sp_law_mixed (K : PySem.W.Frag) : Sp := fun vs H Q _ => ∃ c k : Int, vs = [.int c, .int k] ∧ 0 ≤ k ∧ k ≤ 100 ∧ ∀ r : Int, 0 ≤ r → Q (.int r) H
def sp_law_points (K : PySem.W.Frag) : Sp := fun vs H Q _ => ∃ (cl : Addr) (xs : List V) (cs : List Col), vs = [.ref cl] ∧ H cl = some (.lst xs) ∧ ColsN NT H xs cs ∧ (∀ c ∈ cs, ColOk c) ∧ cs.length ≤ 4 ∧ ∀ (l : Addr) (zs : List V) (H' : Hp), Same H H' → H' l = some (.lst zs) → PtL NT H' zs (prodP (lens cs)) → Q (.ref l) H'
def sp_law_codes (K : PySem.W.Frag) : Sp := fun vs H Q _ => ∃ (cl pl : Addr) (xs : List V) (cs : List Col) (p : List Nat) (tn : Int), vs = [.ref cl, .ref pl, .int tn] ∧ H cl = some (.lst xs) ∧ ColsN NT H xs cs ∧ (∀ c ∈ cs, ColOk c) ∧ cs.length ≤ 4 ∧ H pl = some (.lst (vN p)) ∧ PtOk (lens cs) p ∧ ∀ (l : Addr) (cd : List Int) (H' : Hp), Same H H' → H' l = some (.lst (cd.map V.int)) → AtP cs p cd → Q (.ref l) H'
def sp_law_leaf (K : PySem.W.Frag) : Sp := fun vs H Q _ => ∃ m : Int, vs = [.int m] ∧ ∀ (r : Addr) (t : Lf) (H' : Hp), Same H H' → H' r = some (.tup [.str t.1, .int t.2]) → Q (.ref r) H'
def sp_law_spans_are_good (K : PySem.W.Frag) : Sp := fun vs H Q _ => ∃ (l cl : Addr) (p : Int × Int) (c : Col), vs = [.ref l, .ref cl] ∧ SpA NT H l [p] ∧ ColN NT H cl c ∧ ColOk c ∧ p.1 ≤ p.2 ∧ c.lo ≤ p.1 ∧ p.2 ≤ c.hi ∧ Q (.bl true) H
def sp_law_row_fits (K : PySem.W.Frag) : Sp := fun vs H Q _ => ∃ (r dl : Addr) (b : Prs) (code : Int) (cd : List Int), vs = [.ref r, .ref dl] ∧ RowA NT H r (b.map fun p => [p], code) ∧ H dl = some (.lst (cd.map V.int)) ∧ b.length = cd.length ∧ ∀ H', Same H H' → Q (.bl (fitb b cd)) H'
def sp_law_seeds (K : PySem.W.Frag) : Sp := fun vs H Q _ => ∃ (a : Addr) (ns : List Int) (m : Int), vs = [.ref a, .int m] ∧ SqL K H a (ns.map V.int) ∧ ns.length ≤ 900 ∧ 1 ≤ m ∧ m ≤ 200 ∧ ∀ (l : Addr) (ms : List Int) (H' : Hp), Same H H' → H' l = some (.lst (ms.map V.int)) → ((ms.length : Nat) : Int) ≤ m → ms.length ≤ ns.length → (∀ x ∈ ms, 0 ≤ x) → (0 < ns.length → 1 ≤ ms.length) → Q (.ref l) H'
def sp_law_column (K : PySem.W.Frag) : Sp := fun vs H Q _ => ∃ m most : Int, vs = [.int m, .int most] ∧ 1 ≤ most ∧ most ≤ 6 ∧ ∀ (l : Addr) (c : Col) (H' : Hp), Same H H' → ColN (fun a => H a = none) H' l c → ColOk c → Q (.ref l) H'
def sp_law_row_is_good (K : PySem.W.Frag) : Sp := fun vs H Q _ => ∃ (r cl : Addr) (b : Prs) (code : Int) (xs : List V) (cs : List Col), vs = [.ref r, .ref cl] ∧ RowA NT H r (b.map fun p => [p], code) ∧ H cl = some (.lst xs) ∧ ColsN NT H xs cs ∧ (∀ c ∈ cs, ColOk c) ∧ cs.length ≤ 4 ∧ Bin cs b ∧ ∀ H', Same H H' → Q (.bl true) H'
def sp_boxes (K : PySem.W.Frag) (n : Nat) : Sp := fun vs H Q _ => ∃ (d : Nat) (f : Fm d) (v : V), vs = [v, .int (d : Int)] ∧ FmV H d f v ∧ d + 1 ≤ n ∧ (bxs d f).length ≤ 2000 ∧ (∀ q ∈ bxs d f, q.1.length ≤ 4) ∧ ∀ (l : Addr) (xs : List V) (H' : Hp), Same H H' → H l = none → H' l = some (.lst xs) → BxL H' xs (bxs d f) → Q (.ref l) H'
theorem no_boxes {K : PySem.W.Frag} {vs : List V} {H : Hp} {Q : VK} {E : XK} (h : sp_boxes K 0 vs H Q E) : False := by
  obtain ⟨d, f_, v, rfl, hf, hn, hlen, h4, q⟩ := h
  omega
def sp_law_form (K : PySem.W.Frag) (n : Nat) : Sp := fun vs H Q _ => ∃ (cl tl : Addr) (xs ts : List V) (cs : List Col) (tips : List Lf), vs = [.ref cl, .ref tl] ∧ H cl = some (.lst xs) ∧ ColsN NT H xs cs ∧ (∀ c ∈ cs, ColOk c) ∧ cs.length + 1 ≤ n ∧ cs.length ≤ 4 ∧ H tl = some (.lst ts) ∧ TpL H ts tips ∧ tips.length = (prodP (lens cs)).length ∧ tips.length ≤ 2000 ∧ ∀ (v : V) (H' : Hp), Same H H' → FmV H' cs.length (frm cs tips) v → Q v H'
theorem no_law_form {K : PySem.W.Frag} {vs : List V} {H : Hp} {Q : VK} {E : XK} (h : sp_law_form K 0 vs H Q E) : False := by
  obtain ⟨cl, tl, xs, ts, cs, tips, rfl, hcl, hcs, hok, hn, h4, htl, hts, htn, h2000, q⟩ := h
  omega
def sp_rows_of (K : PySem.W.Frag) : Sp := fun vs H Q _ => ∃ (d : Nat) (f : Fm d) (v : V), vs = [v, .int (d : Int)] ∧ FmV H d f v ∧ d ≤ 4 ∧ (bxs d f).length ≤ 2000 ∧ (∀ q ∈ bxs d f, q.1.length ≤ 4) ∧ ∀ (l : Addr) (xs : List V) (H' : Hp), Same H H' → H' l = some (.lst xs) → RL NT H' xs (rowsP (bxs d f)) → Q (.ref l) H'
def sp_law (K : PySem.W.Frag) : Sp := fun vs H Q _ => ∃ (a : Addr) (ns : List Int), vs = [.ref a] ∧ SqL K H a (ns.map V.int) ∧ ns.length ≤ 63 ∧ ∀ H', Q (.bl true) H'
section
variable {P : Program} {w : World} {K : PySem.W.Frag} {mg : Str → Option Value} {base : Heap} {f : Addr} {fd : FuncData}
theorem ok_law_cell_at (F : Fun K "_law_cell_at" "_law_cell_at" s_law_cell_at f fd) (bl : Bl K mg)  : FnOk P w K mg base CX0 1 f fd ["script", "k"] (sp_law_cell_at K) := by
  refine F.ok sc_law_cell_at (fun vs H Q E h => ?_) (fun cdv A outer s H vs Q E hr h => ?_)
  · obtain ⟨a, ns, k, rfl, hS, h0, q⟩ := h
    rfl
  obtain ⟨a, ns, k, rfl, hS, h0, q⟩ := h
  refine ⟨_, (pss_cons (ps_if (pt_cmpR op_lt (pv 1) (pe_callB call_len_seq rfl bl.len_ PySem.boot_len (pa_cons (pv 0) pa_nil)) (nomark _))
     (pss_one (ps_ret (pe_ix ix_list (pv 0) (pv 1) (fun _ _ => rfl))))
     pss_nil)
     (pss_one (ps_ret pe_int))), ?_⟩
  refine ⟨_, rfl, _, rfl, a, _, rfl, .inl hS, _, _, rfl, rfl, _, rfl, ?_⟩
  refine ite2 (fun c => ?_) (fun c => ?_)
  · have c' : k < (((ns.map V.int).length : Nat) : Int) := dec_t c
    rw [List.length_map] at c'
    have hk : k.toNat < ns.length := by omega
    have hv : atI (ns.map V.int) k = some (.int ns[k.toNat]) := by
      have z : atI (ns.map V.int) ((k.toNat : Nat) : Int) = some (.int ns[k.toNat]) := atI_nat (by rw [List.getElem?_map, List.getElem?_eq_getElem hk]; rfl)
      rw [show ((k.toNat : Nat) : Int) = k by omega] at z
      exact z
    exact ⟨_, rfl, _, rfl, a, _, _, _, rfl, rfl, hS, hv, q _⟩
  · exact q 0
theorem ok_law_mixed (F : Fun K "_law_mixed" "_law_mixed" s_law_mixed f fd) (bl : Bl K mg)  : FnOk P w K mg base CX0 1 f fd ["cell", "k"] (sp_law_mixed K) := by
  refine F.ok sc_law_mixed (fun vs H Q E h => ?_) (fun cdv A outer s H vs Q E hr h => ?_)
  · obtain ⟨c, k, rfl, h0, h1, q⟩ := h
    rfl
  obtain ⟨c, k, rfl, h0, h1, q⟩ := h
  refine ⟨_, (pss_cut (ps_set (i := 2) sc_law_mixed.nd rfl (Or.inl rfl) (pe_op op_mulO (pe_op op_add (pe_op op_mod (pv 0) (pe_op op_pow pe_int pe_int)) pe_int) (pe_op op_add pe_int (pe_op op_mul (pe_op op_mul pe_int (pv 1)) (pv 1)))))
     (pss_cut (ps_set (i := 2) sc_law_mixed.nd rfl (Or.inl rfl) (pe_op op_add (pv 2) (pe_op op_mul pe_int (pv 1))))
     (pss_one (ps_ret (pe_op op_mod (pe_op op_mulO (pv 2) (pv 2)) (pe_op op_add (pe_op op_pow pe_int pe_int) pe_int)))))), ?_⟩
  have a0 := Int.emod_nonneg c (Int.ne_of_gt (p10 (60 : Int).toNat))
  have a1 := Int.emod_lt_of_pos c (p10 (60 : Int).toNat)
  have t60 : (10 : Int) ^ (60 : Int).toNat < 2 ^ 200 := by decide
  have kk : 0 ≤ 2 * k * k ∧ 2 * k * k ≤ 20000 := by
    have z1 : 0 ≤ 2 * k := by omega
    have z2 := Int.mul_nonneg z1 h0
    have z3 : 2 * k * k ≤ 2 * k * 100 := Int.mul_le_mul_of_nonneg_left h1 z1
    omega
  refine ⟨fun σ' H' => H' = H ∧ ∃ b : Int, 0 ≤ b ∧ b < 2 ^ 400 ∧ σ' = [some (.int c), some (.int k), some (.int b)], ?_, ?_⟩
  · have hA : 0 ≤ c % 10 ^ (60 : Int).toNat + 1 ∧ c % 10 ^ (60 : Int).toNat + 1 ≤ 2 ^ 200 := ⟨by omega, by omega⟩
    have hB : 0 ≤ 31415926535897932384626433832795028841971 + 2 * k * k ∧ 31415926535897932384626433832795028841971 + 2 * k * k < 2 ^ 140 := by
      have : (31415926535897932384626433832795028841971 : Int) + 20000 < 2 ^ 140 := by decide
      omega
    have hM : IntMulOk (c % 10 ^ (60 : Int).toNat + 1) (31415926535897932384626433832795028841971 + 2 * k * k) := by
      refine mul_bits (m := 201) (n := 140) ?_ ?_ (by decide) (by decide)
      · have : (2 : Int) ^ 200 < ((2 ^ 201 : Nat) : Int) := by decide
        omega
      · have : (2 : Int) ^ 140 = ((2 ^ 140 : Nat) : Int) := by decide
        omega
    refine ⟨_, rfl, _, _, rfl, rfl, ⟨by decide, by decide, by decide⟩, _, _, rfl, rfl, p10 _, _, _, rfl, rfl, _, rfl, _, _, rfl, rfl, .inl ⟨by decide, by decide⟩, _, rfl, _, _, rfl, rfl, .inr ⟨by omega, by omega⟩, _, _, rfl, rfl, _, _, rfl, rfl, hM, rfl, _, Int.mul_nonneg hA.1 hB.1, ?_, rfl⟩
    have z := Int.mul_le_mul hA.2 (Int.le_of_lt hB.2) hB.1 (by decide)
    have z2 : (2 : Int) ^ 200 * 2 ^ 140 < 2 ^ 400 := by decide
    omega
  rintro σ1 H1 ⟨rfl, b, b0, b1, rfl⟩
  refine ⟨fun σ' H' => H' = H1 ∧ ∃ b : Int, 0 ≤ b ∧ b < 2 ^ 401 ∧ σ' = [some (.int c), some (.int k), some (.int b)], ?_, ?_⟩
  · refine ⟨_, rfl, _, rfl, _, _, rfl, rfl, .inl ⟨by decide, by decide⟩, _, _, rfl, rfl, rfl, _, by omega, ?_, rfl⟩
    have z2 : (2 : Int) ^ 400 + 7919 * 100 < 2 ^ 401 := by decide
    omega
  rintro σ2 H2 ⟨rfl, b', b2, b3, rfl⟩
  have hM : IntMulOk b' b' := by
    have e : (2 : Int) ^ 401 = ((2 ^ 401 : Nat) : Int) := by decide
    refine mul_bits (m := 401) (n := 401) ?_ ?_ (by decide) (by decide) <;> omega
  have hp : (0 : Int) < 10 ^ (60 : Int).toNat + 9 := by have := p10 (60 : Int).toNat; omega
  exact ⟨_, rfl, _, rfl, _, _, rfl, rfl, hM, _, _, rfl, rfl, ⟨by decide, by decide, by decide⟩, _, _, rfl, rfl, _, _, rfl, rfl, hp, q _ (Int.emod_nonneg _ (Int.ne_of_gt hp))⟩
theorem ok_law_points (F : Fun K "_law_points" "_law_points" s_law_points f fd) (bl : Bl K mg)  : FnOk P w K mg base CX0 1 f fd ["columns"] (sp_law_points K) := by
  refine F.ok sc_law_points (fun vs H Q E h => ?_) (fun cdv A outer s H vs Q E hr h => ?_)
  · obtain ⟨cl, xs, cs, rfl, hcl, hcs, hok, h4, q⟩ := h
    rfl
  obtain ⟨cl, xs, cs, rfl, hcl, hcs, hok, h4, q⟩ := h
  refine ⟨_, (pss_cons (ps_set (i := 1) sc_law_points.nd rfl (Or.inl rfl) (pe_lst (pa_cons (pe_lst pa_nil) pa_nil)))
     (pss_cons (ps_for PassesOwn.never rfl (pi_list (pv 0)) (pg_name (i := 2) sc_law_points.nd rfl (Or.inl rfl))
     (pss_cons (ps_set (i := 3) sc_law_points.nd rfl (Or.inl rfl) (pe_lst pa_nil))
     (pss_cut (ps_for PassesOwn.never rfl (pi_list (pv 1)) (pg_name (i := 4) sc_law_points.nd rfl (Or.inl rfl))
     (pss_one (ps_for PassesOwn.never rfl (pi_range1 rfl bl.range_ (pa_cons (pe_callB call_len_seq rfl bl.len_ PySem.boot_len (pa_cons (pe_ix ix_list (pv 2) pe_int (fun _ _ => rfl)) pa_nil)) pa_nil)) (pg_name (i := 5) sc_law_points.nd rfl (Or.inl rfl))
     (pss_one (ps_expr (pe_bm PySem.F.plainAttrs_list PySem.F.slot_list_append PySem.F.type_list_append mt_append (pv 3) (pa_cons (pe_op op_cat (pv 4) (pe_lst (pa_cons (pv 5) pa_nil))) pa_nil)))))))
     (pss_one (ps_set (i := 1) sc_law_points.nd rfl (Or.inl rfl) (pv 3))))))
     (pss_one (ps_ret (pv 1))))), ?_⟩
  have hxl : xs.length = cs.length := hcs.1
  refine ⟨(by show 0 ≤ sizeLine; decide), fun a0 ha0 => ?_⟩
  have s0 := same_new ha0 (.lst (vN []))
  have e0 : upd H a0 (.lst (vN [])) a0 = some (.lst (vN [])) := upd_same
  have ee : upd H a0 (.lst []) = upd H a0 (.lst (vN [])) := rfl
  rw [ee]
  clear ee
  generalize upd H a0 (.lst (vN [])) = H0 at s0 e0 ⊢
  refine ⟨(by show 1 ≤ sizeLine; decide), fun p0 hp0 => ?_⟩
  have s1 := s0.trans (same_new hp0 (.lst [.ref a0]))
  have e1 : upd H0 p0 (.lst [.ref a0]) p0 = some (.lst [.ref a0]) := upd_same
  have e1a := same_new hp0 (.lst [.ref a0]) _ _ e0
  generalize upd H0 p0 (.lst [.ref a0]) = H1 at s1 e1 e1a ⊢
  have st0 : PtL NT H1 [.ref a0] [[]] := ⟨rfl, fun j p e => by
    match j, e with
    | 0, e => cases e; exact ⟨a0, rfl, trivial, e1a⟩
    | j + 1, e => simp at e⟩
  refine ⟨_, rfl, cl, rfl, ⟨_, SqL.of (s1 _ _ hcl)⟩, for_list (xs := xs) (fun i σ H' => Same H H' ∧ ∃ (pl : Addr) (zs : List V) (c2 c3 c4 c5 : Option V), H' pl = some (.lst zs) ∧ PtL NT H' zs (prodP ((lens cs).take i)) ∧ zs.length ≤ 6 ^ i ∧ σ = [some (.ref cl), some (.ref pl), c2, c3, c4, c5]) ⟨s1, p0, _, _, _, _, _, e1, st0, by show 1 ≤ 6 ^ 0; decide, rfl⟩ (fun i σ H' _ h => SqL.of (h.1 _ _ hcl)) (fun i y σ H' ey hh => ?_) (fun σ H' hh => ?_)⟩
  · obtain ⟨sm, pl, zs, c2, c3, c4, c5, epl, hpt, hsz, rfl⟩ := hh
    obtain ⟨lc, c, rfl, ec, cpl, ts, _, _, g1, g2, g3⟩ := RefL.get (hcs.same sm) ey
    have hi : i < cs.length := (List.getElem?_eq_some_iff.mp ec).1
    have ok := hok c (List.mem_of_getElem? ec)
    have k6 := ok.few
    have htl := g3.length
    have hlen6 : 6 ^ i ≤ 216 := by
      have : i ≤ 3 := by omega
      exact Nat.le_trans (Nat.pow_le_pow_right (by decide) this) (by decide)
    refine ⟨(by show 0 ≤ sizeLine; decide), fun M hM => ?_⟩
    have u1 := same_new hM (.lst [])
    have eM : upd H' M (.lst []) M = some (.lst []) := upd_same
    generalize upd H' M (.lst []) = H2 at u1 eM ⊢
    have hptl : zs.length = (prodP ((lens cs).take i)).length := hpt.1
    refine ⟨fun σ' H3 => Same H' H3 ∧ ∃ (ys : List V) (c4 c5 : Option V), H3 M = some (.lst ys) ∧ PtL (· ≠ M) H3 ys (grow (prodP ((lens cs).take i)) c.prs.length) ∧ σ' = [some (.ref cl), some (.ref pl), some (.ref lc), some (.ref M), c4, c5], ?_, ?_⟩
    · refine ⟨_, rfl, pl, rfl, ⟨_, SqL.of (u1 _ _ epl)⟩, for_list (xs := zs) (fun a σ H3 => Same H' H3 ∧ ∃ (ys : List V) (c4 c5 : Option V), H3 M = some (.lst ys) ∧ PtL (· ≠ M) H3 ys (grow ((prodP ((lens cs).take i)).take a) c.prs.length) ∧ σ = [some (.ref cl), some (.ref pl), some (.ref lc), some (.ref M), c4, c5]) ⟨u1, [], _, _, eM, RefL.nil, rfl⟩ (fun a σ H3 _ h => SqL.of (h.1 _ _ epl)) (fun a y σ H3 ey2 h3 => ?_) (fun σ H3 h3 => ?_)⟩
      · obtain ⟨t3, ys, c4, c5, eM3, hy, rfl⟩ := h3
        obtain ⟨r, p, rfl, ep, _, hr3⟩ := RefL.get (hpt.same t3) ey2
        have ha : a < zs.length := (List.getElem?_eq_some_iff.mp ey2).1
        refine ⟨_, rfl, lc, _, _, _, rfl, rfl, SqL.of (t3 _ _ g1), rfl, cpl, _, rfl, .inl (SqL.of (t3 _ _ g2)), _, rfl, (by show -(2 ^ 62) ≤ ((ts.length : Nat) : Int); omega), (by show ((ts.length : Nat) : Int) < 2 ^ 62; omega), for_range (fun b σ H4 => Same H' H4 ∧ ∃ (ys : List V) (c5 : Option V), H4 M = some (.lst ys) ∧ PtL (· ≠ M) H4 ys (grow ((prodP ((lens cs).take i)).take a) c.prs.length ++ (List.range b).map fun k => p ++ [k]) ∧ σ = [some (.ref cl), some (.ref pl), some (.ref lc), some (.ref M), some (.ref r), c5]) ⟨t3, ys, _, eM3, by simpa using hy, rfl⟩ (fun b σ H4 hb h4_ => ?_) (fun σ H4 h4_ => ?_)⟩
        · obtain ⟨t4, ys4, c5', eM4, hy4, rfl⟩ := h4_
          have hr4 : H4 r = some (.lst (vN p)) := by
            obtain ⟨r', p', er', ep', _, hr'⟩ := RefL.get hpt ey2
            cases er'
            rw [ep] at ep'; cases ep'
            exact t4 _ _ hr'
          have hb2 : b < c.prs.length := by first | omega | (rw [← htl]; omega)
          have hys : ys4.length ≤ 2000 := by
            have h1 := hy4.1
            rw [List.length_append, grow_len, List.length_take, List.length_map, List.length_range] at h1
            have h2 : min a (prodP ((lens cs).take i)).length * c.prs.length ≤ 216 * 6 := Nat.mul_le_mul (by omega) k6
            omega
          have hpl : p.length ≤ 4 := by
            have := (PtOk.iff.mp (List.mem_of_getElem? ep)).1
            rw [List.length_take] at this
            unfold lens at this
            rw [List.length_map] at this
            omega
          refine ⟨_, rfl, .inl ⟨rfl, _, SqL.of eM4⟩, _, rfl, _, rfl, (by show 1 ≤ sizeLine; decide), fun k1 hk1 => ?_⟩
          have v1 := same_new hk1 (.lst (vN [b]))
          have f1 : upd H4 k1 (.lst (vN [b])) k1 = some (.lst (vN [b])) := upd_same
          have ee : upd H4 k1 (.lst [V.int (0 + (b : Int))]) = upd H4 k1 (.lst (vN [b])) := by rw [Int.zero_add]; rfl
          rw [ee]
          clear ee
          generalize upd H4 k1 (.lst (vN [b])) = H5 at v1 f1 ⊢
          refine ⟨r, k1, _, _, rfl, rfl, v1 _ _ hr4, f1, Nat.le_of_lt (small1000 (by rw [vN_len, vN_len]; simp; omega)), fun k2 hk2 => ?_⟩
          rw [vN_app]
          have v2 := same_new hk2 (.lst (vN (p ++ [b])))
          have f2 : upd H5 k2 (.lst (vN (p ++ [b]))) k2 = some (.lst (vN (p ++ [b]))) := upd_same
          have eM5 := v1 _ _ eM4
          have nk : k2 ≠ M := fun z => by rw [z, eM5] at hk2; cases hk2
          generalize upd H5 k2 (.lst (vN (p ++ [b]))) = H6 at v2 f2 ⊢
          have eM6 := v2 _ _ eM5
          refine ⟨M, _, _, rfl, rfl, eM6, small2000 hys, ?_⟩
          have hy6 : PtL (· ≠ M) H6 (ys4 ++ [.ref k2]) (grow ((prodP ((lens cs).take i)).take a) c.prs.length ++ ((List.range b).map fun k => p ++ [k]) ++ [p ++ [b]]) := RefL.snoc (hy4.same (v1.trans v2)) ⟨nk, f2⟩
          refine ⟨((t4.trans v1).trans v2).upd hM, ys4 ++ [.ref k2], _, upd_same, ?_, rfl⟩
          rw [List.range_succ, List.map_append, List.map_singleton, ← List.append_assoc]
          exact hy6.updN (fun z => z rfl)
        · obtain ⟨t4, ys4, c5', eM4, hy4, rfl⟩ := h4_
          refine ⟨t4, ys4, _, _, eM4, ?_, rfl⟩
          rw [grow_take ep]
          rw [htl] at hy4
          exact hy4
      · obtain ⟨t3, ys, c4, c5, eM3, hy, rfl⟩ := h3
        rw [hptl, List.take_length] at hy
        exact ⟨t3, ys, _, _, eM3, hy, rfl⟩
    rintro σ3 H3 ⟨t3, ys, c4', c5', eM3, hy, rfl⟩
    have el : (lens cs)[i]? = some c.prs.length := by unfold lens; rw [List.getElem?_map, ec]; rfl
    have hyl := hy.1
    rw [grow_len] at hyl
    refine ⟨_, rfl, sm.trans t3, M, ys, _, _, _, _, eM3, ?_, ?_, rfl⟩
    · rw [take_snoc el, prodP_snoc]
      exact hy.any
    · rw [hyl, ← hptl, Nat.pow_succ]
      exact Nat.mul_le_mul hsz k6
  · obtain ⟨sm, pl, zs, c2, c3, c4, c5, epl, hpt, hsz, rfl⟩ := hh
    have : (lens cs).length = cs.length := by unfold lens; rw [List.length_map]
    rw [hxl, ← this, List.take_length] at hpt
    exact ⟨_, rfl, q pl zs H' sm epl hpt⟩
theorem ok_law_codes (F : Fun K "_law_codes" "_law_codes" s_law_codes f fd) (bl : Bl K mg)  : FnOk P w K mg base CX0 1 f fd ["columns", "point", "turn"] (sp_law_codes K) := by
  refine F.ok sc_law_codes (fun vs H Q E h => ?_) (fun cdv A outer s H vs Q E hr h => ?_)
  · obtain ⟨cl, pl, xs, cs, p, tn, rfl, hcl, hcs, hok, h4, hpl, hpt, q⟩ := h
    rfl
  obtain ⟨cl, pl, xs, cs, p, tn, rfl, hcl, hcs, hok, h4, hpl, hpt, q⟩ := h
  refine ⟨_, (pss_one (ps_ret (pe_compG (pi_zip rfl bl.zip_ (pa_cons (pv 0) (pa_cons (pv 1) pa_nil))) (cmpOkG_free (N := ["column", "k", "turn"]) (k := 2) (fr := [2]) (cl := [("turn", s.heap.objs.size + 1)]) rfl rfl (by decide +kernel) (by decide +kernel) rfl rfl (List.forall_mem_cons.mpr ⟨rfl, List.forall_mem_nil _⟩) rfl) rfl (fun _ _ _ _ => (gTupK (K := K) (n := 2) rfl rfl (pgs_cons (pg_name (i := 0) (show (["column", "k", "turn"] : List Str).Nodup by decide +kernel) rfl (Or.inl rfl) (Or.inr rfl)) (pgs_cons (pg_name (i := 1) (show (["column", "k", "turn"] : List Str).Nodup by decide +kernel) rfl (Or.inl rfl) (Or.inr rfl)) pgs_nil)))) (fun _ _ _ _ => pif_nil) (fun _ _ _ _ => (pe_ix (ix_tupK (K := K) rfl) (pe_ix (ix_listK (K := K) rfl) (pe_ix (ix_listK (K := K) rfl) (pv 0) pe_int (fun _ _ => rfl)) (pv 1) (fun _ _ => rfl)) (pe_op op_mod (pe_op op_add (pv 1) (pv 2)) pe_int) (fun _ _ => rfl)))))), ?_⟩
  have hxl : xs.length = cs.length := hcs.1
  have hpl_ : p.length = cs.length := by rw [hpt.1]; unfold lens; rw [List.length_map]
  have hmin : min xs.length (vN p).length = cs.length := by rw [vN_len]; omega
  refine ⟨_, rfl, _, rfl, cl, pl, rfl, ⟨_, SqL.of hcl⟩, ⟨_, SqL.of hpl⟩, compG_zip (xs := xs) (ys := vN p) (fun D i ys H2 => Same H H2 ∧ H2 D = some (.lst ys) ∧ ∃ cd : List Int, ys = cd.map V.int ∧ cd.length = i ∧ ∀ (j : Nat) (x : Int) (c : Col) (a : Nat), cd[j]? = some x → cs[j]? = some c → p[j]? = some a → ∃ pr, c.prs[a]? = some pr ∧ (x = pr.1 ∨ x = pr.2))
    (fun D hD => ⟨same_new hD _, upd_same, [], rfl, rfl, (fun j x c a e => by simp at e)⟩) (fun D i ys H2 hD _ h => ⟨SqL.of (h.1 _ _ hcl), SqL.of (h.1 _ _ hpl)⟩) (fun D j x y ys H2 T hD ex ey2 h hT ts hts => ?_) (fun D ys H2 hD h => ?_)⟩
  · obtain ⟨s2, eD, cd, rfl, hlen, hat⟩ := h
    obtain ⟨lc, c, rfl, ec, cpl, tp_, _, _, g1, g2, g3⟩ := RefL.get (hcs.same s2) ex
    obtain ⟨a, rfl, ea⟩ := vN_of ey2
    obtain ⟨t0, t1, rfl⟩ : ∃ t0 t1, ts = [t0, t1] := by
      match ts, hts with
      | [t0, t1], _ => exact ⟨t0, t1, rfl⟩
    have s3 := same_new hT (.tup [.ref lc, .int (a : Int)])
    have eT : upd H2 T (.tup [.ref lc, .int (a : Int)]) T = some (.tup [.ref lc, .int (a : Int)]) := upd_same
    generalize upd H2 T (.tup [.ref lc, .int (a : Int)]) = H3 at s3 eT ⊢
    have hac : a < c.prs.length := hpt.2 j a _ ea (by unfold lens; rw [List.getElem?_map, ec]; rfl)
    obtain ⟨rp, pr, e1, e2, e3⟩ := pl_at g3 (i := (a : Int)) (by omega) (by rw [g3.length]; omega)
    rw [Int.toNat_natCast] at e2
    obtain ⟨x, ex2, hx⟩ := end2 (p := pr) (m := (a : Int) + tn)
    refine ⟨T, _, rfl, SqT.of eT, rfl, _, _, rfl, _, _, rfl, rfl, ⟨[some (.ref lc), some (.int (a : Int))], rfl, rfl⟩, ?_⟩
    have hj : j < min xs.length (vN p).length := by
      have := (List.getElem?_eq_some_iff.mp ex).1
      rw [hmin, ← hxl]; exact this
    have eD3 := s3 _ _ eD
    refine ⟨_, rfl, lc, _, _, _, rfl, rfl, SqL.of (s3 _ _ g1), rfl, _, rfl, cpl, _, _, _, rfl, rfl, SqL.of (s3 _ _ g2), e1, _, rfl, _, rfl, _, _, rfl, rfl, _, _, rfl, rfl, (by show (0 : Int) < 2; decide), rp, _, _, _, rfl, rfl, SqT.of (s3 _ _ e3), ex2, CYes.mk hj eD3 (small1000 (by rw [List.length_map]; omega)) ⟨(s2.trans s3).upd hD, upd_same, cd ++ [x], by simp, by simp [hlen], fun j' x' c' a' f1 f2 f3 => ?_⟩⟩
    by_cases hj' : j' < cd.length
    · rw [List.getElem?_append_left hj'] at f1
      exact hat j' x' c' a' f1 f2 f3
    · have hj2 : j' = cd.length := by have := (List.getElem?_eq_some_iff.mp f1).1; simp at this; omega
      subst hj2
      simp at f1
      subst f1
      rw [hlen] at f2 f3
      rw [ec] at f2
      rw [ea] at f3
      cases f2; cases f3
      exact ⟨pr, e2, hx⟩
  · obtain ⟨s2, eD, cd, rfl, hlen, hat⟩ := h
    rw [hmin] at hlen
    exact q D cd H2 s2 eD ⟨hlen, hat⟩
theorem ok_law_leaf (F : Fun K "_law_leaf" "_law_leaf" s_law_leaf f fd) (bl : Bl K mg)  : FnOk P w K mg base CX0 1 f fd ["m"] (sp_law_leaf K) := by
  refine F.ok sc_law_leaf (fun vs H Q E h => ?_) (fun cdv A outer s H vs Q E hr h => ?_)
  · obtain ⟨m, rfl, q⟩ := h
    rfl
  obtain ⟨m, rfl, q⟩ := h
  refine ⟨_, (pss_cons (ps_if (pt_cmpR op_eq (pe_op op_mod (pv 0) pe_int) pe_int (nomark _))
     (pss_one (ps_ret (pe_tup (pa_cons pe_str (pa_cons pe_int pa_nil)))))
     pss_nil)
     (pss_cons (ps_if (pt_cmpR op_lt (pe_op op_mod (pv 0) pe_int) pe_int (nomark _))
     (pss_one (ps_ret (pe_tup (pa_cons pe_str (pa_cons pe_int pa_nil)))))
     pss_nil)
     (pss_one (ps_ret (pe_tup (pa_cons pe_str (pa_cons (pe_ix ix_list (pe_lst (pa_cons pe_int (pa_cons (pe_un un_neg pe_int) (pa_cons (pe_op op_pow pe_int pe_int) (pa_cons (pe_op op_sub pe_int (pe_op op_pow pe_int pe_int)) pa_nil))))) (pe_op op_mod (pe_op op_fdiv (pv 0) pe_int) pe_int) (fun _ _ => rfl)) pa_nil))))))), ?_⟩
  refine ⟨_, rfl, _, _, rfl, rfl, (by show (0 : Int) < 7; decide), rfl, _, rfl, ite2 (fun _ => ?_) (fun _ => ?_)⟩
  · exact ⟨small2, fun r hr_ => q r (Str.ofString "clash", 0) _ (same_new hr_ _) upd_same⟩
  refine ⟨_, rfl, _, _, rfl, rfl, (by show (0 : Int) < 7; decide), _, _, rfl, rfl, _, rfl, ite2 (fun _ => ?_) (fun _ => ?_)⟩
  · exact ⟨small2, fun r hr_ => q r (Str.ofString "none", 0) _ (same_new hr_ _) upd_same⟩
  refine ⟨_, rfl, _, _, rfl, rfl, ⟨by decide, by decide, by decide⟩, _, _, rfl, rfl, ⟨by decide, by decide, by decide⟩, _, _, rfl, rfl, (by show 4 ≤ sizeLine; decide), fun p hp => ?_⟩
  have k0 := Int.emod_nonneg (m / 7) (show (4 : Int) ≠ 0 by decide)
  have k1 := Int.emod_lt_of_pos (m / 7) (show (0 : Int) < 4 by decide)
  obtain ⟨v, hv⟩ : ∃ v : Int, atI [V.int 0, .int (-1), .int (10 ^ (59 : Int).toNat), .int (7 - 10 ^ (58 : Int).toNat)] (m / 7 % 4) = some (.int v) := by
    generalize m / 7 % 4 = k at k0 k1 ⊢
    have : k = 0 ∨ k = 1 ∨ k = 2 ∨ k = 3 := by omega
    rcases this with rfl | rfl | rfl | rfl
    · exact ⟨_, rfl⟩
    · exact ⟨_, rfl⟩
    · exact ⟨_, rfl⟩
    · exact ⟨_, rfl⟩
  exact ⟨_, rfl, _, _, rfl, rfl, ⟨by decide, by decide⟩, _, _, rfl, rfl, (by show (0 : Int) < 4; decide), p, _, _, _, rfl, rfl, SqL.of upd_same, hv, small2, fun r hr_ => q r (Str.ofString "say", v) _ ((same_new hp _).trans (same_new hr_ _)) upd_same⟩
theorem ok_law_spans_are_good (F : Fun K "_law_spans_are_good" "_law_spans_are_good" s_law_spans_are_good f fd) (bl : Bl K mg)  : FnOk P w K mg base CX0 1 f fd ["spans", "column"] (sp_law_spans_are_good K) := by
  refine F.ok sc_law_spans_are_good (fun vs H Q E h => ?_) (fun cdv A outer s H vs Q E hr h => ?_)
  · obtain ⟨l, cl, p, c, rfl, ⟨_, ys, el, hP⟩, ⟨pl, ts, _, _, hcl, hpl, hp⟩, ok, h1, h2, h3, q⟩ := h
    rfl
  obtain ⟨l, cl, p, c, rfl, ⟨_, ys, el, hP⟩, ⟨pl, ts, _, _, hcl, hpl, hp⟩, ok, h1, h2, h3, q⟩ := h
  refine ⟨_, (pss_cons (ps_if (PW.pt (pw_or (pt_not (pt_val (pe_callB call_isinst rfl bl.isinstance_ PyProof.Rows.boot_isinstance (pa_cons (pv 0) (pa_cons (pe_bltn (v := .ty "list") rfl bl.list_ PyProof.Rows.boot_list rfl) pa_nil))))) (pw_or1 (pt_cmpR op_eq (pe_callB call_len_seq rfl bl.len_ PySem.boot_len (pa_cons (pv 0) pa_nil)) pe_int (nomark _)))))
     (pss_one (ps_ret pe_bl))
     pss_nil)
     (pss_cons (ps_set (i := 2) sc_law_spans_are_good.nd rfl (Or.inl rfl) (pe_op op_sub (pe_ix ix_tup (pe_ix ix_list (pe_ix ix_list (pv 1) pe_int (fun _ _ => rfl)) pe_int (fun _ _ => rfl)) pe_int (fun _ _ => rfl)) pe_int))
     (pss_cons (ps_for PassesOwn.never rfl (pi_list (pv 0)) (pg_name (i := 3) sc_law_spans_are_good.nd rfl (Or.inl rfl))
     (pss_cons (ps_if (PW.pt (pw_or (pt_not (pt_val (pe_callB call_isinst rfl bl.isinstance_ PyProof.Rows.boot_isinstance (pa_cons (pv 3) (pa_cons (pe_bltn (v := .ty "tuple") rfl bl.tuple_ PyProof.Rows.boot_tuple rfl) pa_nil))))) (pw_or1 (pt_cmpR op_ne (pe_callB call_len_seq rfl bl.len_ PySem.boot_len (pa_cons (pv 3) pa_nil)) pe_int (nomark _)))))
     (pss_one (ps_ret pe_bl))
     pss_nil)
     (pss_cons (ps_for PassesOwn.never rfl (pi_tup (pv 3)) (pg_name (i := 4) sc_law_spans_are_good.nd rfl (Or.inl rfl))
     (pss_one (ps_if (PW.pt (pw_or (pt_not (pt_val (pe_callB call_isinst rfl bl.isinstance_ PyProof.Rows.boot_isinstance (pa_cons (pv 4) (pa_cons (pe_bltn (v := .ty "int") rfl bl.int_ PyProof.Rows.boot_int rfl) pa_nil))))) (pw_or1 (pt_val (pe_callB call_isinst rfl bl.isinstance_ PyProof.Rows.boot_isinstance (pa_cons (pv 4) (pa_cons (pe_bltn (v := .ty "bool") rfl bl.bool_ PyProof.Rows.boot_bool rfl) pa_nil)))))))
     (pss_one (ps_ret pe_bl))
     pss_nil)))
     (pss_cons (ps_if (PW.pt (pw_or (pt_cmpR op_lt (pe_ix ix_tup (pv 3) pe_int (fun _ _ => rfl)) (pe_op op_add (pv 2) pe_int) (nomark _)) (pw_or1 (pt_cmpR op_lt (pe_ix ix_tup (pv 3) pe_int (fun _ _ => rfl)) (pe_ix ix_tup (pv 3) pe_int (fun _ _ => rfl)) (nomark _)))))
     (pss_one (ps_ret pe_bl))
     pss_nil)
     (pss_one (ps_set (i := 2) sc_law_spans_are_good.nd rfl (Or.inl rfl) (pe_ix ix_tup (pv 3) pe_int (fun _ _ => rfl))))))))
     (pss_one (ps_ret (pe_cmpR op_le (pv 2) (pe_ix ix_tup (pe_ix ix_list (pe_ix ix_list (pv 1) pe_int (fun _ _ => rfl)) (pe_un un_neg pe_int) (fun _ _ => rfl)) pe_int (fun _ _ => rfl)) (nomark _))))))), ?_⟩
  have h1_ := ok.some_
  obtain ⟨ts', r1, ps', p1, ets, eps, hp', er1⟩ := hp.last (by intro z; rw [z] at hp; have := hp.length; simp at this; omega)
  have il : atI ts (-1) = some (.ref r1) := by rw [ets]; exact atI_last _ _
  have hhi : c.hi = p1.2 := by unfold Col.hi; rw [eps]; simp
  obtain ⟨p0, ep0, hlo⟩ := ok.first
  obtain ⟨r0, er0, hr0⟩ : ∃ r0, ts[0]? = some (.ref r0) ∧ H r0 = some (.tup [.int p0.1, .int p0.2]) := by
    obtain ⟨x, ex⟩ : ∃ x, ts[0]? = some x := ⟨_, List.getElem?_eq_getElem (by rw [hp.length]; omega)⟩
    obtain ⟨p2, r2, f1, rfl, f2⟩ := hp.get ex
    rw [ep0] at f1; cases f1
    exact ⟨r2, ex, f2⟩
  obtain ⟨r, rfl, er⟩ : ∃ r, ys = [.ref r] ∧ H r = some (.tup [.int p.1, .int p.2]) := by
    cases hP with
    | cons h t =>
      obtain ⟨r, e, z⟩ := h
      cases t
      exact ⟨r, by rw [e], z⟩
  refine ⟨_, rfl, _, "list", _, true, rfl, .lst el, (by first | rfl | with_unfolding_all rfl | decide +kernel), _, rfl, iteF ?_⟩
  refine ⟨_, rfl, l, _, rfl, .inl (SqL.of el), rfl, _, rfl, iteFS (fun z => by have := V.int.inj z; simp at this) ?_⟩
  refine ⟨_, rfl, cl, _, _, _, rfl, rfl, SqL.of hcl, rfl, pl, _, _, _, rfl, rfl, SqL.of hpl, atI_nat (j := 0) er0, r0, _, _, _, rfl, rfl, SqT.of hr0, z0 _ _, _, _, rfl, rfl, ?_⟩
  refine ⟨_, rfl, l, rfl, ⟨_, SqL.of el⟩, for_list (xs := [V.ref r]) (fun i σ H' => H' = H ∧ ∃ (pa : Int) (c3 c4 : Option V), ((i = 0 ∧ pa = p0.1 - 2) ∨ (i = 1 ∧ pa = p.2)) ∧ σ = [some (.ref l), some (.ref cl), some (.int pa), c3, c4]) ⟨rfl, _, _, _, .inl ⟨rfl, rfl⟩, rfl⟩ (fun i σ H' _ h => by rw [h.1]; exact SqL.of el) (fun i x σ H' ex hh => ?_) (fun σ H' hh => ?_)⟩
  · obtain ⟨rfl, pa, c3, c4, hpa, rfl⟩ := hh
    have hi : i = 0 := by have := (List.getElem?_eq_some_iff.mp ex).1; simp at this; omega
    subst hi
    have hx : V.ref r = x := by simpa using ex
    subst hx
    have hpa : pa = p0.1 - 2 := by rcases hpa with ⟨_, z⟩ | ⟨z, _⟩; exact z; omega
    refine ⟨_, rfl, _, "tuple", _, true, rfl, .tup er, (by first | rfl | with_unfolding_all rfl | decide +kernel), _, rfl, iteF ?_⟩
    refine ⟨_, rfl, r, _, rfl, .inr (SqT.of er), rfl, _, rfl, iteNS rfl ?_⟩
    refine ⟨_, rfl, r, rfl, ⟨_, SqT.of er⟩, for_tup (xs := [V.int p.1, V.int p.2]) (fun i σ H2 => H2 = H' ∧ ∃ c4 : Option V, σ = [some (.ref l), some (.ref cl), some (.int pa), some (.ref r), c4]) ⟨rfl, _, rfl⟩ (fun i σ H' _ h => by rw [h.1]; exact SqT.of er) (fun i y σ H2 ey h => ?_) (fun σ H2 h => ?_)⟩
    · obtain ⟨rfl, c4, rfl⟩ := h
      obtain ⟨w, rfl⟩ : ∃ w : Int, y = .int w := by
        match i, ey with
        | 0, ey => exact ⟨p.1, by simpa using ey.symm⟩
        | 1, ey => exact ⟨p.2, by simpa using ey.symm⟩
        | i + 2, ey => simp at ey
      refine ⟨_, rfl, _, "int", _, true, rfl, .int _, (by first | rfl | with_unfolding_all rfl | decide +kernel), _, rfl, iteF ?_⟩
      exact ⟨_, rfl, _, "bool", _, false, rfl, .int _, (by first | rfl | with_unfolding_all rfl | decide +kernel), _, rfl, iteF ⟨rfl, _, rfl⟩⟩
    · obtain ⟨rfl, c4, rfl⟩ := h
      refine ⟨_, rfl, r, _, _, _, rfl, rfl, SqT.of er, z0 _ _, _, rfl, _, _, rfl, rfl, _, _, rfl, rfl, _, rfl, iteFS (by show ¬ (p.1 < pa + 2); omega) ?_⟩
      refine ⟨_, rfl, r, _, _, _, rfl, rfl, SqT.of er, z1 _ _, _, rfl, r, _, _, _, rfl, rfl, SqT.of er, z0 _ _, _, _, rfl, rfl, _, rfl, iteFS (by show ¬ (p.2 < p.1); omega) ?_⟩
      exact ⟨_, rfl, r, _, _, _, rfl, rfl, SqT.of er, z1 _ _, rfl, _, _, _, .inr ⟨rfl, rfl⟩, rfl⟩
  · obtain ⟨rfl, pa, c3, c4, hpa, rfl⟩ := hh
    have hpa : pa = p.2 := by rcases hpa with ⟨z, _⟩ | ⟨_, z⟩; exact absurd z (by simp); exact z
    refine ⟨_, rfl, _, rfl, cl, _, _, _, rfl, rfl, SqL.of hcl, rfl, _, rfl, pl, _, _, _, rfl, rfl, SqL.of hpl, il, r1, _, _, _, rfl, rfl, SqT.of er1, z1 _ _, _, _, rfl, rfl, ?_⟩
    have ed : decide (pa ≤ p1.2) = true := decide_eq_true (by omega)
    show Q (.bl (decide (pa ≤ p1.2))) H'
    rw [ed]
    exact q
theorem ok_law_row_fits (F : Fun K "_law_row_fits" "_law_row_fits" s_law_row_fits f fd) (bl : Bl K mg)  : FnOk P w K mg base CX0 1 f fd ["row", "codes"] (sp_law_row_fits K) := by
  refine F.ok sc_law_row_fits (fun vs H Q E h => ?_) (fun cdv A outer s H vs Q E hr h => ?_)
  · obtain ⟨r, dl, b, code, cd, rfl, ⟨ce, cv, er, _, ece, hcv⟩, hdl, hlen, q⟩ := h
    rfl
  obtain ⟨r, dl, b, code, cd, rfl, ⟨ce, cv, er, _, ece, hcv⟩, hdl, hlen, q⟩ := h
  refine ⟨_, (pss_cons (ps_for PassesOwn.never rfl (pi_zip rfl bl.zip_ (pa_cons (pe_ix ix_tup (pv 0) pe_int (fun _ _ => rfl)) (pa_cons (pv 1) pa_nil))) (pg_tup rfl (pgs_cons (pg_name (i := 2) sc_law_row_fits.nd rfl (Or.inl rfl)) (pgs_cons (pg_name (i := 3) sc_law_row_fits.nd rfl (Or.inr rfl)) pgs_nil)))
     (pss_one (ps_if (pt_not (pt_val (pe_callB (call_any_bools rfl) rfl bl.any_ PyProof.Rows.boot_any (pa_cons (pe_compG (pi_list (pv 2)) (cmpOkG_free (N := ["low", "high", "code"]) (k := 2) (fr := [3]) (cl := [("code", s.heap.objs.size + 1)]) rfl rfl (by decide +kernel) (by decide +kernel) rfl rfl (List.forall_mem_cons.mpr ⟨rfl, List.forall_mem_nil _⟩) rfl) rfl (fun _ _ _ _ => (gTupK (K := K) (n := 2) rfl rfl (pgs_cons (pg_name (i := 0) (show (["low", "high", "code"] : List Str).Nodup by decide +kernel) rfl (Or.inl rfl) (Or.inr rfl)) (pgs_cons (pg_name (i := 1) (show (["low", "high", "code"] : List Str).Nodup by decide +kernel) rfl (Or.inl rfl) (Or.inr rfl)) pgs_nil)))) (fun _ _ _ _ => pif_nil) (fun _ _ _ _ => (pe_and (pe_cmpR op_le (pv 0) (pv 2) (nomark _)) (pe_one (pe_cmpR op_le (pv 2) (pv 1) (nomark _)))))) pa_nil))))
     (pss_one (ps_ret pe_bl))
     pss_nil)))
     (pss_one (ps_ret pe_bl))), ?_⟩
  have hcvl : cv.length = b.length := by rw [hcv.1]; show (b.map fun p => [p]).length = _; rw [List.length_map]
  refine ⟨_, rfl, r, _, _, _, rfl, rfl, SqT.of er, rfl, _, rfl, ce, dl, rfl, ⟨_, SqL.of ece⟩, ⟨_, SqL.of hdl⟩, for_zip (xs := cv) (ys := cd.map V.int) (fun i σ H' => Same H H' ∧ fitb b cd = fitb (b.drop i) (cd.drop i) ∧ ∃ c2 c3 : Option V, σ = [some (.ref r), some (.ref dl), c2, c3]) ⟨Same.refl _, rfl, _, _, rfl⟩ (fun i σ H' h => ⟨SqL.of (h.1 _ _ ece), SqL.of (h.1 _ _ hdl)⟩) (fun i x y σ H' T ex ey h hT => ?_) (fun σ H' h => ?_)⟩
  · obtain ⟨sm, hfb, c2, c3, rfl⟩ := h
    obtain ⟨l1, ps, rfl, eps, hl1⟩ := RefL.get hcv ex
    obtain ⟨z, rfl, ez⟩ := of_map ey
    obtain ⟨p, ep, rfl⟩ : ∃ p, b[i]? = some p ∧ ps = [p] := by
      have eps : (b.map fun p => [p])[i]? = some ps := eps
      rw [List.getElem?_map] at eps
      cases h : b[i]? with
      | none => rw [h] at eps; cases eps
      | some p => rw [h] at eps; exact ⟨p, rfl, by simpa using eps.symm⟩
    have hst : fitb (b.drop i) (cd.drop i) = (inR z p && fitb (b.drop (i + 1)) (cd.drop (i + 1))) := by
      obtain ⟨g1, e1⟩ := List.getElem?_eq_some_iff.mp ep
      obtain ⟨g2, e2⟩ := List.getElem?_eq_some_iff.mp ez
      rw [List.drop_eq_getElem_cons g1, List.drop_eq_getElem_cons g2, e1, e2]
      rfl
    rw [hst] at hfb
    have s2 := sm.trans (same_new hT (.tup [.ref l1, .int z]))
    have eT : upd H' T (.tup [.ref l1, .int z]) T = some (.tup [.ref l1, .int z]) := upd_same
    generalize upd H' T (.tup [.ref l1, .int z]) = H2 at s2 eT ⊢
    obtain ⟨_, ys, el, hP⟩ := hl1.same s2
    obtain ⟨rp, rfl, erp⟩ : ∃ r, ys = [.ref r] ∧ H2 r = some (.tup [.int p.1, .int p.2]) := by
      cases hP with
      | cons h t =>
        obtain ⟨r, e, z⟩ := h
        cases t
        exact ⟨r, by rw [e], z⟩
    refine ⟨T, _, rfl, SqT.of eT, rfl, _, _, rfl, _, _, rfl, rfl, ?_⟩
    refine ⟨_, rfl, l1, rfl, ⟨_, SqL.of el⟩, compG_list (xs := [V.ref rp]) (fun D i ys H3 => Same H2 H3 ∧ H3 D = some (.lst ys) ∧ ys = (([inR z p]).take i).map V.bl) (fun D hD => ⟨same_new hD _, upd_same, rfl⟩) (fun D i ys H3 hD _ h => SqL.of (h.1 _ _ el)) (fun D i y ys H3 hD e hh ts hts => ?_) (fun D ys H3 hD hh => ?_)⟩
    · obtain ⟨s3, eD, rfl⟩ := hh
      have hi : i = 0 := by have := (List.getElem?_eq_some_iff.mp e).1; simp at this; omega
      subst hi
      have hx : V.ref rp = y := by simpa using e
      subst hx
      obtain ⟨t0, t1, rfl⟩ : ∃ t0 t1, ts = [t0, t1] := by
        match ts, hts with
        | [t0, t1], _ => exact ⟨t0, t1, rfl⟩
      refine ⟨rp, _, rfl, SqT.of (s3 _ _ erp), rfl, _, _, rfl, _, _, rfl, rfl, ⟨[some (.int p.1), some (.int p.2)], rfl, rfl⟩, ?_⟩
      refine ⟨_, rfl, _, rfl, _, _, rfl, rfl, _, rfl, ite2 (fun g => ?_) (fun g => ?_)⟩
      · refine ⟨_, rfl, _, rfl, _, _, rfl, rfl, CYes.mk (by simp) eD (small1000 (by simp)) ⟨s3.upd hD, upd_same, ?_⟩⟩
        have g : decide (p.1 ≤ z) = true := g
        show [V.bl (decide (z ≤ p.2))] = [V.bl (inR z p)]
        unfold inR
        rw [g, Bool.true_and]
      · refine CYes.mk (by simp) eD (small1000 (by simp)) ⟨s3.upd hD, upd_same, ?_⟩
        have g : decide (p.1 ≤ z) = false := Bool.eq_false_iff.mpr g
        show [V.bl false] = [V.bl (inR z p)]
        unfold inR
        rw [g, Bool.false_and]
    · obtain ⟨s3, eD, rfl⟩ := hh
      refine ⟨D, [inR z p], rfl, SqL.of eD, _, rfl, ?_⟩
      cases hin : inR z p with
      | true =>
        rw [hin, Bool.true_and] at hfb
        exact iteF ⟨s2.trans s3, hfb, _, _, rfl⟩
      | false =>
        rw [hin, Bool.false_and] at hfb
        have := q H3 (s2.trans s3)
        rw [hfb] at this
        exact iteT this
  · obtain ⟨sm, hfb, c2, c3, rfl⟩ := h
    have hm : min cv.length (cd.map V.int).length = b.length := by rw [List.length_map]; omega
    rw [hm, List.drop_length] at hfb
    have := q H' sm
    rw [hfb] at this
    exact this
theorem ok_law_seeds (F : Fun K "_law_seeds" "_law_seeds" s_law_seeds f fd) (bl : Bl K mg) (c__law_mixed : Callee P w K mg base 1 "_law_mixed" ["cell", "k"] (sp_law_mixed K)) : FnOk P w K mg base CX0 2 f fd ["cells", "most"] (sp_law_seeds K) := by
  refine F.ok sc_law_seeds (fun vs H Q E h => ?_) (fun cdv A outer s H vs Q E hr h => ?_)
  · obtain ⟨a, ns, m, rfl, hS, h900, hm1, hm2, q⟩ := h
    rfl
  obtain ⟨a, ns, m, rfl, hS, h900, hm1, hm2, q⟩ := h
  refine ⟨_, (pss_cons (ps_set (i := 2) sc_law_seeds.nd rfl (Or.inl rfl) (pe_lst pa_nil))
     (pss_cons (ps_for PassesOwn.never rfl (pi_enum rfl bl.enumerate_ (pa_cons (pv 0) pa_nil)) (pg_tup rfl (pgs_cons (pg_name (i := 3) sc_law_seeds.nd rfl (Or.inl rfl)) (pgs_cons (pg_name (i := 4) sc_law_seeds.nd rfl (Or.inl rfl)) pgs_nil)))
     (pss_one (ps_if (pt_cmpR op_lt (pv 3) (pv 1) (nomark _))
     (pss_one (ps_expr (pe_bm PySem.F.plainAttrs_list PySem.F.slot_list_append PySem.F.type_list_append mt_append (pv 2) (pa_cons (pe_fn c__law_mixed hr rfl (pa_cons (pv 4) (pa_cons (pe_op op_mod (pv 3) pe_int) pa_nil))) pa_nil))))
     (pss_cons (ps_set (i := 5) sc_law_seeds.nd rfl (Or.inl rfl) (pe_op op_mod (pv 3) (pv 1)))
     (pss_one (ps_asg (pe_fn c__law_mixed hr rfl (pa_cons (pe_op op_add (pe_ix ix_list (pv 2) (pv 5) (fun _ _ => rfl)) (pe_op op_mod (pv 4) (pe_op op_pow pe_int pe_int))) (pa_cons (pe_op op_mod (pv 3) pe_int) pa_nil))) (pg_sub (pv 2) (pv 5) set_list)))))))
     (pss_one (ps_ret (pv 2))))), ?_⟩
  refine ⟨(by show 0 ≤ sizeLine; decide), fun l hl => ?_⟩
  have s0 : Same H (upd H l (.lst ([].map V.int))) := same_new hl _
  have e0 : upd H l (.lst ([].map V.int)) l = some (.lst ([].map V.int)) := upd_same
  have ee : upd H l (.lst []) = upd H l (.lst ([].map V.int)) := rfl
  rw [ee]
  clear ee
  generalize upd H l (.lst ([].map V.int)) = H0 at s0 e0 ⊢
  refine ⟨_, rfl, a, rfl, ⟨_, s0.seq hS⟩, for_enum (xs := ns.map V.int) (fun i σ H' => Same H H' ∧ ∃ (ms : List Int) (c3 c4 c5 : Option V), H' l = some (.lst (ms.map V.int)) ∧ ms.length ≤ i ∧ ((ms.length : Nat) : Int) ≤ m ∧ ((i : Int) ≥ m → ((ms.length : Nat) : Int) = m) ∧ ((i : Int) < m → ms.length = i) ∧ (∀ x ∈ ms, 0 ≤ x) ∧ σ = [some (.ref a), some (.int m), some (.ref l), c3, c4, c5]) ⟨s0, [], _, _, _, e0, Nat.le_refl _, by show ((0 : Nat) : Int) ≤ m; omega, (fun h => by omega), (fun h => rfl), (fun x h => by cases h), rfl⟩ (fun i σ H' hh => hh.1.seq hS) (fun i y σ H' T ey hh hT => ?_) (fun σ H' hh => ?_)⟩
  · obtain ⟨sm, ms, c3, c4, c5, el, hl1, hl2, hl3, hl4, hnn, rfl⟩ := hh
    obtain ⟨c, rfl, _⟩ := of_map ey
    have hin : i < ns.length := by have := (List.getElem?_eq_some_iff.mp ey).1; rw [List.length_map] at this; exact this
    have s2 := sm.trans (same_new hT (.tup [.int (i : Int), .int c]))
    have eT : upd H' T (.tup [.int (i : Int), .int c]) T = some (.tup [.int (i : Int), .int c]) := upd_same
    have el2 : upd H' T (.tup [.int (i : Int), .int c]) l = some (.lst (ms.map V.int)) := ret_r1 el hT
    generalize upd H' T (.tup [.int (i : Int), .int c]) = H2 at s2 eT el2 ⊢
    have k0 := Int.emod_nonneg (i : Int) (show (50 : Int) ≠ 0 by decide)
    have k1 := Int.emod_lt_of_pos (i : Int) (show (0 : Int) < 50 by decide)
    refine ⟨T, _, rfl, SqT.of eT, rfl, _, _, rfl, _, _, rfl, rfl, ?_⟩
    refine ⟨_, rfl, _, rfl, _, _, rfl, rfl, _, rfl, ?_⟩
    refine ite2 (fun g => ?_) (fun g => ?_)
    · have g : (i : Int) < m := of_decide_eq_true g
      have hl5 := hl4 g
      refine ⟨_, rfl, .inl ⟨rfl, _, SqL.of el2⟩, _, rfl, _, rfl, _, _, rfl, rfl, (by show (0 : Int) < 50; decide), c, _, rfl, k0, by omega, fun r hr0 => ?_⟩
      refine ⟨l, _, _, rfl, rfl, el2, small1000 (by rw [List.length_map]; omega), s2.upd hl, ms ++ [r], _, _, _, by rw [upd_same, List.map_append]; rfl, by simp; omega, by simp; omega, (fun h => by simp; omega), (fun h => by simp; omega), (fun x hx => (List.mem_append.mp hx).elim (hnn x) fun z => by rw [show x = r by simpa using z]; exact hr0), rfl⟩
    · have g : m ≤ (i : Int) := by have : ¬ ((i : Int) < m) := fun z => g (decide_eq_true z); omega
      have hl5 := hl3 g
      have hmp : (0 : Int) < m := by omega
      have j0 := Int.emod_nonneg (i : Int) (Int.ne_of_gt hmp)
      have j1 := Int.emod_lt_of_pos (i : Int) hmp
      obtain ⟨x, ex⟩ : ∃ x, ms[((i : Int) % m).toNat]? = some x := ⟨_, List.getElem?_eq_getElem (by omega)⟩
      have ix : atI (ms.map V.int) ((i : Int) % m) = some (.int x) := by
        have := atI_nat (get_map ex)
        rw [Int.toNat_of_nonneg j0] at this
        exact this
      refine ⟨_, rfl, _, rfl, _, _, rfl, rfl, hmp, ?_⟩
      refine ⟨_, rfl, _, rfl, l, _, _, _, rfl, rfl, SqL.of el2, ix, _, rfl, _, _, rfl, rfl, ⟨by decide, by decide, by decide⟩, _, _, rfl, rfl, p10 _, _, _, rfl, rfl, _, rfl, _, _, rfl, rfl, (by show (0 : Int) < 50; decide), _, _, rfl, k0, by omega, fun r hr0 => ?_⟩
      refine ⟨_, rfl, _, rfl, l, _, _, ((i : Int) % m).toNat, rfl, rfl, el2, ?_, ?_⟩
      · unfold ixN
        rw [if_pos j0, if_pos (by rw [List.length_map]; omega)]
      · refine ⟨s2.upd hl, ms.set ((i : Int) % m).toNat r, _, _, _, by rw [upd_same, List.map_set], by simp; omega, by simp; omega, (fun h => by simp; omega), (fun h => by omega), (fun x hx => (List.mem_or_eq_of_mem_set hx).elim (hnn x) fun z => by rw [z]; exact hr0), rfl⟩
  · obtain ⟨sm, ms, c3, c4, c5, el, hl1, hl2, hl3, hl4, hnn, rfl⟩ := hh
    rw [List.length_map] at hl1
    refine ⟨_, rfl, q l ms H' sm el hl2 hl1 hnn fun hp => ?_⟩
    rw [List.length_map] at hl3 hl4
    by_cases g : ((ns.length : Nat) : Int) < m
    · rw [hl4 g]; exact hp
    · have := hl3 (by omega); omega
theorem ok_law_column (F : Fun K "_law_column" "_law_column" s_law_column f fd) (bl : Bl K mg) (c__law_mixed : Callee P w K mg base 1 "_law_mixed" ["cell", "k"] (sp_law_mixed K)) : FnOk P w K mg base CX0 2 f fd ["m", "most"] (sp_law_column K) := by
  refine F.ok sc_law_column (fun vs H Q E h => ?_) (fun cdv A outer s H vs Q E hr h => ?_)
  · obtain ⟨m, most, rfl, hm1, hm6, q⟩ := h
    rfl
  obtain ⟨m, most, rfl, hm1, hm6, q⟩ := h
  refine ⟨_, (pss_cut (ps_set (i := 2) sc_law_column.nd rfl (Or.inl rfl) (pe_cmpR op_eq (pe_op op_mod (pv 0) pe_int) pe_int (nomark _)))
     (pss_cut (ps_set (i := 3) sc_law_column.nd rfl (Or.inl rfl) (pe_op op_sub (pe_op op_mod (pe_op op_fdiv (pv 0) pe_int) (pe_op op_mul pe_int (pe_op op_pow pe_int pe_int))) (pe_op op_pow pe_int pe_int)))
     (pss_cut (ps_if (pt_cmpR op_eq (pe_op op_mod (pv 0) pe_int) pe_int (nomark _))
     (pss_one (ps_set (i := 3) sc_law_column.nd rfl (Or.inl rfl) (pe_op op_sub pe_int (pe_op op_mod (pe_op op_fdiv (pv 0) pe_int) pe_int))))
     pss_nil)
     (pss_cut (ps_if (pt_val (pv 2))
     (pss_one (ps_set (i := 3) sc_law_column.nd rfl (Or.inl rfl) pe_int))
     pss_nil)
     (pss_cut (ps_set (i := 4) sc_law_column.nd rfl (Or.inl rfl) (pe_lst pa_nil))
     (pss_cons (ps_for PassesOwn.never rfl (pi_range1 rfl bl.range_ (pa_cons (pe_op op_add pe_int (pe_op op_mod (pe_op op_fdiv (pv 0) pe_int) (pv 1))) pa_nil)) (pg_name (i := 5) sc_law_column.nd rfl (Or.inl rfl))
     (pss_cut (ps_set (i := 0) sc_law_column.nd rfl (Or.inl rfl) (pe_fn c__law_mixed hr rfl (pa_cons (pv 0) (pa_cons (pe_op op_add pe_int (pv 5)) pa_nil))))
     (pss_cut (ps_set (i := 6) sc_law_column.nd rfl (Or.inl rfl) (pe_ix ix_list (pe_lst (pa_cons pe_int (pa_cons pe_int (pa_cons (pe_op op_add pe_int (pe_op op_mod (pe_op op_fdiv (pv 0) pe_int) pe_int)) (pa_cons (pe_op op_add pe_int (pe_op op_mod (pe_op op_fdiv (pv 0) pe_int) (pe_op op_pow pe_int pe_int))) pa_nil))))) (pe_op op_mod (pv 0) pe_int) (fun _ _ => rfl)))
     (pss_cut (ps_if (pt_val (pv 2))
     (pss_one (ps_set (i := 6) sc_law_column.nd rfl (Or.inl rfl) (pe_op op_add pe_int (pe_op op_mod (pv 0) pe_int))))
     pss_nil)
     (pss_cons (ps_expr (pe_bm PySem.F.plainAttrs_list PySem.F.slot_list_append PySem.F.type_list_append mt_append (pv 4) (pa_cons (pe_tup (pa_cons (pv 3) (pa_cons (pe_op op_sub (pe_op op_add (pv 3) (pv 6)) pe_int) pa_nil))) pa_nil)))
     (pss_one (ps_set (i := 3) sc_law_column.nd rfl (Or.inl rfl) (pe_op op_add (pv 3) (pv 6)))))))))
     (pss_one (ps_ret (pe_lst (pa_cons (pv 4) (pa_cons (pv 2) (pa_cons (pe_op op_fdiv (pv 0) pe_int) pa_nil)))))))))))), ?_⟩
  have hmp : (0 : Int) < most := by omega
  refine ⟨fun σ' H' => H' = H ∧ ∃ w : Bool, σ' = [some (.int m), some (.int most), some (.bl w), none, none, none, none], ⟨_, rfl, _, _, rfl, rfl, (by show (0 : Int) < 3; decide), rfl, rfl, _, rfl⟩, ?_⟩
  rintro σ1 H1 ⟨rfl, w_, rfl⟩
  have p59b : (0 : Int) < 2 * 10 ^ (59 : Int).toNat := by have := p10 (59 : Int).toNat; omega
  refine ⟨fun σ' H' => H' = H1 ∧ ∃ a : Int, σ' = [some (.int m), some (.int most), some (.bl w_), some (.int a), none, none, none], ⟨_, rfl, _, _, rfl, rfl, ⟨by decide, by decide⟩, _, _, rfl, rfl, ⟨by decide, by decide, by decide⟩, _, _, rfl, rfl, .inl ⟨by decide, by decide⟩, _, _, rfl, rfl, p59b, _, _, rfl, rfl, ⟨by decide, by decide, by decide⟩, _, _, rfl, rfl, rfl, _, rfl⟩, ?_⟩
  rintro σ2 H2 ⟨rfl, a1, rfl⟩
  refine ⟨fun σ' H' => H' = H2 ∧ ∃ a : Int, σ' = [some (.int m), some (.int most), some (.bl w_), some (.int a), none, none, none], ⟨_, rfl, _, _, rfl, rfl, (by show (0 : Int) < 3; decide), rfl, _, rfl, ite2 (fun _ => ⟨_, rfl, _, _, rfl, rfl, ⟨by decide, by decide⟩, _, _, rfl, rfl, (by show (0 : Int) < 5; decide), _, _, rfl, rfl, rfl, _, rfl⟩) (fun _ => ⟨rfl, _, rfl⟩)⟩, ?_⟩
  rintro σ3 H3 ⟨rfl, a2, rfl⟩
  refine ⟨fun σ' H' => H' = H3 ∧ ∃ a : Int, (w_ = true → a = 0) ∧ σ' = [some (.int m), some (.int most), some (.bl w_), some (.int a), none, none, none], ⟨_, rfl, _, rfl, ?_⟩, ?_⟩
  · cases w_ with
    | true => exact iteT ⟨rfl, 0, (fun _ => rfl), rfl⟩
    | false => exact iteF ⟨rfl, a2, (fun h => by cases h), rfl⟩
  rintro σ4 H4 ⟨rfl, a0, ha0, rfl⟩
  refine ⟨fun σ' H' => Same H4 H' ∧ ∃ pl : Addr, H4 pl = none ∧ H' pl = some (.lst []) ∧ σ' = [some (.int m), some (.int most), some (.bl w_), some (.int a0), some (.ref pl), none, none], ⟨(by show 0 ≤ sizeLine; decide), fun l hl => ⟨same_new hl _, l, hl, upd_same, rfl⟩⟩, ?_⟩
  rintro σ5 H5 ⟨s5, pl, npl, epl, rfl⟩
  have n0 := Int.emod_nonneg (m / 3) (Int.ne_of_gt hmp)
  have n1 := Int.emod_lt_of_pos (m / 3) hmp
  refine ⟨_, rfl, _, _, rfl, rfl, ⟨by decide, by decide⟩, _, rfl, _, _, rfl, rfl, hmp, _, _, rfl, rfl, _, rfl, (by show -(2 ^ 62) ≤ 1 + m / 3 % most; omega), (by show 1 + m / 3 % most < 2 ^ 62; omega), for_range (fun i σ H' => Same H4 H' ∧ ∃ (m2 at_ : Int) (c5 c6 : Option V) (ys : List V) (ps : Prs), H' pl = some (.lst ys) ∧ PL H' ys ps ∧ ps.length = i ∧ Ch ps ∧ (∀ p, ps[ps.length - 1]? = some p → at_ = p.2 + 1) ∧ (w_ = true → (∀ p, ps[0]? = some p → p.1 = 0) ∧ (i = 0 → at_ = 0) ∧ at_ ≤ 3 * (i : Int) ∧ ∀ (j : Nat) (p : Int × Int), ps[j]? = some p → p.2 < 3 * (i : Int)) ∧ σ = [some (.int m2), some (.int most), some (.bl w_), some (.int at_), some (.ref pl), c5, c6]) ⟨s5, m, a0, _, _, [], [], epl, .nil, rfl, Ch.nil, (fun p e => by simp at e), (fun hw => ⟨(fun p e => by simp at e), (fun _ => ha0 hw), (by rw [ha0 hw]; decide), (fun j p e => by simp at e)⟩), rfl⟩ (fun i σ H' hi h => ?_) (fun σ H' h => ?_)⟩
  · obtain ⟨sm, m2, at_, c5, c6, ys, ps, es, hp, hlen, hch, hlast, hw, rfl⟩ := h
    have hi6 : i < 6 := by omega
    refine ⟨fun σ' H6 => H6 = H' ∧ ∃ m3 : Int, σ' = [some (.int m3), some (.int most), some (.bl w_), some (.int at_), some (.ref pl), some (.int (0 + (i : Int))), c6], ⟨_, rfl, _, rfl, _, _, rfl, rfl, _, _, rfl, (by show (0 : Int) ≤ 10 + (0 + (i : Int)); omega), (by show (10 : Int) + (0 + (i : Int)) ≤ 100; omega), fun r _ => ⟨rfl, r, rfl⟩⟩, ?_⟩
    rintro σ6 H6 ⟨rfl, m3, rfl⟩
    refine ⟨fun σ' H7 => Same H6 H7 ∧ ∃ wd_ : Int, 1 ≤ wd_ ∧ σ' = [some (.int m3), some (.int most), some (.bl w_), some (.int at_), some (.ref pl), some (.int (0 + (i : Int))), some (.int wd_)], ?_, ?_⟩
    · refine ⟨_, rfl, _, _, rfl, rfl, ⟨by decide, by decide⟩, _, _, rfl, rfl, (by show (0 : Int) < 9; decide), _, _, rfl, rfl, _, rfl, _, _, rfl, rfl, ⟨by decide, by decide⟩, _, _, rfl, rfl, ⟨by decide, by decide, by decide⟩, _, _, rfl, rfl, p10 _, _, _, rfl, rfl, (by show 4 ≤ sizeLine; decide), fun p hp_ => ?_⟩
      have h0 := Int.emod_nonneg m3 (show (4 : Int) ≠ 0 by decide)
      have h1 := Int.emod_lt_of_pos m3 (show (0 : Int) < 4 by decide)
      have b1 := Int.emod_nonneg (m3 / 4) (show (9 : Int) ≠ 0 by decide)
      have b2 := Int.emod_nonneg (m3 / 4) (Int.ne_of_gt (p10 (58 : Int).toNat))
      obtain ⟨v, hv, hv1⟩ : ∃ v : Int, atI [V.int 1, .int 2, .int (1 + m3 / 4 % 9), .int (1 + m3 / 4 % 10 ^ (58 : Int).toNat)] (m3 % 4) = some (.int v) ∧ 1 ≤ v := by
        generalize m3 % 4 = k at h0 h1 ⊢
        generalize m3 / 4 % 9 = x1 at b1 ⊢
        generalize m3 / 4 % 10 ^ (58 : Int).toNat = x2 at b2 ⊢
        have : k = 0 ∨ k = 1 ∨ k = 2 ∨ k = 3 := by omega
        rcases this with rfl | rfl | rfl | rfl
        · exact ⟨_, rfl, by decide⟩
        · exact ⟨_, rfl, by decide⟩
        · exact ⟨_, rfl, by omega⟩
        · exact ⟨_, rfl, by omega⟩
      exact ⟨_, rfl, _, _, rfl, rfl, (by show (0 : Int) < 4; decide), p, _, _, _, rfl, rfl, SqL.of upd_same, hv, same_new hp_ _, v, hv1, rfl⟩
    rintro σ7 H7 ⟨s7, v7, hv7, rfl⟩
    refine ⟨fun σ' H8 => H8 = H7 ∧ ∃ v : Int, 1 ≤ v ∧ (w_ = true → v ≤ 3) ∧ σ' = [some (.int m3), some (.int most), some (.bl w_), some (.int at_), some (.ref pl), some (.int (0 + (i : Int))), some (.int v)], ⟨_, rfl, _, rfl, ?_⟩, ?_⟩
    · have h0 := Int.emod_nonneg m3 (show (3 : Int) ≠ 0 by decide)
      have h1 := Int.emod_lt_of_pos m3 (show (0 : Int) < 3 by decide)
      cases w_ with
      | true => exact iteT ⟨_, rfl, _, _, rfl, rfl, (by show (0 : Int) < 3; decide), _, _, rfl, rfl, rfl, _, by omega, fun _ => by omega, rfl⟩
      | false => exact iteF ⟨rfl, v7, hv7, (fun h => by cases h), rfl⟩
    rintro σ8 H8 ⟨rfl, v, hv1, hv3, rfl⟩
    have es7 := s7 _ _ es
    refine ⟨_, rfl, .inl ⟨rfl, _, SqL.of es7⟩, _, rfl, _, rfl, _, rfl, _, _, rfl, rfl, _, _, rfl, rfl, small2, fun t ht => ?_⟩
    have x1 : upd H8 t (.tup [.int at_, .int (at_ + v - 1)]) pl = some (.lst ys) := ret_r1 es7 ht
    have hyl : ys.length = i := by rw [hp.length, hlen]
    refine ⟨pl, _, _, rfl, rfl, x1, small1000 (by omega), ?_⟩
    have st : SameT H8 (upd (upd H8 t (.tup [.int at_, .int (at_ + v - 1)])) pl (.lst (ys ++ [.ref t]))) := (sameT_new ht).trans (sameT_lst x1)
    have atp : ∀ (j : Nat) (p : Int × Int), (ps ++ [(at_, at_ + v - 1)])[j]? = some p → ps[j]? = some p ∧ j < ps.length ∨ p = (at_, at_ + v - 1) ∧ j = ps.length := fun j p e => by
      by_cases hj : j < ps.length
      · rw [List.getElem?_append_left hj] at e; exact .inl ⟨e, hj⟩
      · have : j = ps.length := by have := (List.getElem?_eq_some_iff.mp e).1; simp at this; omega
        subst this; simp at e; exact .inr ⟨e.symm, rfl⟩
    refine ⟨_, rfl, _, rfl, _, _, rfl, rfl, ((sm.trans s7).trans (same_new ht _)).upd npl, m3, _, _, _, ys ++ [.ref t], ps ++ [(at_, at_ + v - 1)], upd_same, ((hp.mono s7.tups).mono st).snoc (sameT_lst x1 _ _ upd_same), by simp [hlen], hch.snoc (by omega) hlast, ?_, fun hw' => ?_, rfl⟩
    · intro p e
      rw [List.length_append, List.length_singleton, Nat.add_sub_cancel] at e
      simp at e
      subst e
      show at_ + v = at_ + v - 1 + 1
      omega
    · obtain ⟨w1, w2, w3, w4⟩ := hw hw'
      have v3 := hv3 hw'
      refine ⟨fun p e => ?_, fun h => by omega, by omega, fun j p e => ?_⟩
      · rcases atp 0 p e with ⟨e, _⟩ | ⟨rfl, hz⟩
        · exact w1 p e
        · exact w2 (by omega)
      · rcases atp j p e with ⟨e, _⟩ | ⟨rfl, hz⟩
        · have := w4 j p e; omega
        · show at_ + v - 1 < _
          omega
  · obtain ⟨sm, m2, at_, c5, c6, ys, ps, es, hp, hlen, hch, hlast, hw, rfl⟩ := h
    have hn1 : 1 ≤ (1 + m / 3 % most).toNat ∧ (1 + m / 3 % most).toNat ≤ 6 := by omega
    refine ⟨_, rfl, _, rfl, _, rfl, _, _, rfl, rfl, ⟨by decide, by decide⟩, (by show 3 ≤ sizeLine; decide), fun l hl => q l ⟨ps, w_, m2 / 8⟩ _ (sm.trans (same_new hl _)) ⟨pl, ys, sm.free hl, npl, upd_same, ret_r1 es hl, hp.mono (same_new hl _).tups⟩ ⟨by show 1 ≤ ps.length; omega, by show ps.length ≤ 6; omega, hch, fun h => (hw h).1, fun h j p e => ?_⟩⟩
    have := (hw h).2.2.2 j p e
    omega
theorem ok_law_row_is_good (F : Fun K "_law_row_is_good" "_law_row_is_good" s_law_row_is_good f fd) (bl : Bl K mg) (c__law_spans_are_good : Callee P w K mg base 1 "_law_spans_are_good" ["spans", "column"] (sp_law_spans_are_good K)) : FnOk P w K mg base CX0 2 f fd ["row", "columns"] (sp_law_row_is_good K) := by
  refine F.ok sc_law_row_is_good (fun vs H Q E h => ?_) (fun cdv A outer s H vs Q E hr h => ?_)
  · obtain ⟨r, cl, b, code, xs, cs, rfl, ⟨ce, cv, er, _, ece, hcv⟩, hcl, hcs, hok, h4, hbin, q⟩ := h
    rfl
  obtain ⟨r, cl, b, code, xs, cs, rfl, ⟨ce, cv, er, _, ece, hcv⟩, hcl, hcs, hok, h4, hbin, q⟩ := h
  refine ⟨_, (pss_cons (ps_if (PW.pt (pw_or (pt_not (pt_val (pe_callB call_isinst rfl bl.isinstance_ PyProof.Rows.boot_isinstance (pa_cons (pv 0) (pa_cons (pe_bltn (v := .ty "tuple") rfl bl.tuple_ PyProof.Rows.boot_tuple rfl) pa_nil))))) (pw_or (pt_cmpR op_ne (pe_callB call_len_seq rfl bl.len_ PySem.boot_len (pa_cons (pv 0) pa_nil)) pe_int (nomark _)) (pw_or (pt_not (pt_val (pe_callB call_isinst rfl bl.isinstance_ PyProof.Rows.boot_isinstance (pa_cons (pe_ix ix_tup (pv 0) pe_int (fun _ _ => rfl)) (pa_cons (pe_bltn (v := .ty "list") rfl bl.list_ PyProof.Rows.boot_list rfl) pa_nil))))) (pw_or1 (pt_cmpR op_ne (pe_callB call_len_seq rfl bl.len_ PySem.boot_len (pa_cons (pe_ix ix_tup (pv 0) pe_int (fun _ _ => rfl)) pa_nil)) (pe_callB call_len_seq rfl bl.len_ PySem.boot_len (pa_cons (pv 1) pa_nil)) (nomark _)))))))
     (pss_one (ps_ret pe_bl))
     pss_nil)
     (pss_cons (ps_if (PW.pt (pw_or (pt_not (pt_val (pe_callB call_isinst rfl bl.isinstance_ PyProof.Rows.boot_isinstance (pa_cons (pe_ix ix_tup (pv 0) pe_int (fun _ _ => rfl)) (pa_cons (pe_bltn (v := .ty "int") rfl bl.int_ PyProof.Rows.boot_int rfl) pa_nil))))) (pw_or1 (pt_val (pe_callB call_isinst rfl bl.isinstance_ PyProof.Rows.boot_isinstance (pa_cons (pe_ix ix_tup (pv 0) pe_int (fun _ _ => rfl)) (pa_cons (pe_bltn (v := .ty "bool") rfl bl.bool_ PyProof.Rows.boot_bool rfl) pa_nil)))))))
     (pss_one (ps_ret pe_bl))
     pss_nil)
     (pss_one (ps_ret (pe_callB (call_all_bools rfl) rfl bl.all_ PyProof.Rows.boot_all (pa_cons (pe_compG (pi_zip rfl bl.zip_ (pa_cons (pe_ix ix_tup (pv 0) pe_int (fun _ _ => rfl)) (pa_cons (pv 1) pa_nil))) (cmpOkG_plain (N := ["spans", "column"]) (k := 2) rfl rfl (by decide +kernel) (by decide +kernel) (by decide +kernel)) rfl (fun _ _ _ _ => (gTupK (K := K) (n := 2) rfl rfl (pgs_cons (pg_name (i := 0) (show (["spans", "column"] : List Str).Nodup by decide +kernel) rfl (Or.inl rfl) (Or.inr rfl)) (pgs_cons (pg_name (i := 1) (show (["spans", "column"] : List Str).Nodup by decide +kernel) rfl (Or.inl rfl) (Or.inr rfl)) pgs_nil)))) (fun _ _ _ _ => pif_nil) (fun _ _ _ _ => (pe_fn c__law_spans_are_good hr rfl (pa_cons (pv 0) (pa_cons (pv 1) pa_nil))))) pa_nil)))))), ?_⟩
  have hxl : xs.length = cs.length := hcs.1
  have hcvl : cv.length = cs.length := by rw [hcv.1]; show (b.map fun p => [p]).length = _; rw [List.length_map, hbin.1]
  have hmin : min cv.length xs.length = cs.length := by omega
  refine ⟨_, rfl, _, "tuple", _, true, rfl, .tup er, (by first | rfl | with_unfolding_all rfl | decide +kernel), _, rfl, iteF ?_⟩
  refine ⟨_, rfl, r, _, rfl, .inr (SqT.of er), rfl, _, rfl, iteNS rfl ?_⟩
  refine ⟨_, rfl, r, _, _, _, rfl, rfl, SqT.of er, rfl, _, "list", _, true, rfl, .lst ece, (by first | rfl | with_unfolding_all rfl | decide +kernel), _, rfl, iteF ?_⟩
  refine ⟨_, rfl, r, _, _, _, rfl, rfl, SqT.of er, rfl, ce, _, rfl, .inl (SqL.of ece), _, rfl, cl, _, rfl, .inl (SqL.of hcl), rfl, _, rfl, iteNS (by rw [hcvl, hxl]) ?_⟩
  refine ⟨_, rfl, r, _, _, _, rfl, rfl, SqT.of er, rfl, _, "int", _, true, rfl, .int _, (by first | rfl | with_unfolding_all rfl | decide +kernel), _, rfl, iteF ?_⟩
  refine ⟨_, rfl, r, _, _, _, rfl, rfl, SqT.of er, rfl, _, "bool", _, false, rfl, .int _, (by first | rfl | with_unfolding_all rfl | decide +kernel), _, rfl, iteF ?_⟩
  refine ⟨_, rfl, r, _, _, _, rfl, rfl, SqT.of er, rfl, _, rfl, ce, cl, rfl, ⟨_, SqL.of ece⟩, ⟨_, SqL.of hcl⟩, compG_zip (xs := cv) (ys := xs) (fun D i ys H2 => Same H H2 ∧ H2 D = some (.lst ys) ∧ ys = (List.replicate i true).map V.bl)
    (fun D hD => ⟨same_new hD _, upd_same, rfl⟩) (fun D i ys H2 hD _ h => ⟨SqL.of (h.1 _ _ ece), SqL.of (h.1 _ _ hcl)⟩) (fun D j x y ys H2 T hD ex ey2 h hT ts hts => ?_) (fun D ys H2 hD h => ?_)⟩
  · obtain ⟨s2, eD, rfl⟩ := h
    obtain ⟨l1, ps, rfl, eps, hl1⟩ := RefL.get hcv ex
    obtain ⟨lc, c, rfl, ec, hc⟩ := RefL.get hcs ey2
    obtain ⟨p, ep, rfl⟩ : ∃ p, b[j]? = some p ∧ ps = [p] := by
      have eps : (b.map fun p => [p])[j]? = some ps := eps
      rw [List.getElem?_map] at eps
      cases h : b[j]? with
      | none => rw [h] at eps; cases eps
      | some p => rw [h] at eps; exact ⟨p, rfl, by simpa using eps.symm⟩
    obtain ⟨a1, a2, a3⟩ := hbin.2 j p c ep ec
    obtain ⟨t0, t1, rfl⟩ : ∃ t0 t1, ts = [t0, t1] := by
      match ts, hts with
      | [t0, t1], _ => exact ⟨t0, t1, rfl⟩
    have s3 := same_new hT (.tup [.ref l1, .ref lc])
    have eT : upd H2 T (.tup [.ref l1, .ref lc]) T = some (.tup [.ref l1, .ref lc]) := upd_same
    generalize upd H2 T (.tup [.ref l1, .ref lc]) = H3 at s3 eT ⊢
    have hj : j < min cv.length xs.length := by
      have := (List.getElem?_eq_some_iff.mp ex).1
      omega
    have eD3 := s3 _ _ eD
    have s23 := s2.trans s3
    refine ⟨T, _, rfl, SqT.of eT, rfl, _, _, rfl, _, _, rfl, rfl, ⟨[some (.ref l1), some (.ref lc)], rfl, rfl⟩, ?_⟩
    refine ⟨_, rfl, _, rfl, l1, lc, p, c, rfl, hl1.same s23, hc.same s23, hok c (List.mem_of_getElem? ec), a1, a2, a3, CYes.mk hj eD3 (small1000 (by rw [List.length_map, List.length_replicate]; omega)) ⟨s23.upd hD, upd_same, ?_⟩⟩
    rw [List.replicate_succ', List.map_append]
    rfl
  · obtain ⟨s2, eD, rfl⟩ := h
    refine ⟨D, _, rfl, SqL.of eD, ?_⟩
    rw [show ((List.replicate (min cv.length xs.length) true).all id) = true by rw [List.all_eq_true]; intro x hx; rw [(List.mem_replicate.mp hx).2]; rfl]
    exact q H2 s2
theorem ok_boxes {k n : Nat} (F : Fun K "boxes" "boxes" s_boxes f fd) (bl : Bl K mg) (c_boxes : Callee P w K mg base k "boxes" ["form", "deep"] (sp_boxes K n)) : FnOk P w K mg base CX0 (k + 1) f fd ["form", "deep"] (sp_boxes K (n + 1)) := by
  refine F.ok sc_boxes (fun vs H Q E h => ?_) (fun cdv A outer s H vs Q E hr h => ?_)
  · obtain ⟨d, f_, v, rfl, hf, hn, hlen, h4, q⟩ := h
    rfl
  obtain ⟨d, f_, v, rfl, hf, hn, hlen, h4, q⟩ := h
  refine ⟨_, (pss_cons (ps_if (pt_cmpR op_eq (pv 1) pe_int (nomark _))
     (pss_one (ps_ret (pe_lst (pa_cons (pe_tup (pa_cons (pe_tup pa_nil) (pa_cons (pv 0) pa_nil))) pa_nil))))
     pss_nil)
     (pss_cons (ps_set (i := 2) sc_boxes.nd rfl (Or.inl rfl) (pe_lst pa_nil))
     (pss_cons (ps_for PassesOwn.never rfl (pi_tup (pv 0)) (pg_tup rfl (pgs_cons (pg_name (i := 3) sc_boxes.nd rfl (Or.inl rfl)) (pgs_cons (pg_name (i := 4) sc_boxes.nd rfl (Or.inl rfl)) (pgs_cons (pg_name (i := 5) sc_boxes.nd rfl (Or.inl rfl)) pgs_nil))))
     (pss_one (ps_for PassesOwn.never rfl (pi_list (pe_fn c_boxes hr rfl (pa_cons (pv 5) (pa_cons (pe_op op_sub (pv 1) pe_int) pa_nil)))) (pg_tup rfl (pgs_cons (pg_name (i := 6) sc_boxes.nd rfl (Or.inl rfl)) (pgs_cons (pg_name (i := 7) sc_boxes.nd rfl (Or.inl rfl)) pgs_nil)))
     (pss_one (ps_expr (pe_bm PySem.F.plainAttrs_list PySem.F.slot_list_append PySem.F.type_list_append mt_append (pv 2) (pa_cons (pe_tup (pa_cons (pe_op op_catT0 (pe_tup (pa_cons (pe_tup (pa_cons (pv 3) (pa_cons (pv 4) pa_nil))) pa_nil)) (pv 6)) (pa_cons (pv 7) pa_nil))) pa_nil)))))))
     (pss_one (ps_ret (pv 2)))))), ?_⟩
  cases d with
  | zero =>
    obtain ⟨r, rfl, er⟩ := hf
    refine ⟨_, rfl, rfl, _, rfl, iteTS rfl ?_⟩
    refine ⟨(by show 0 ≤ sizeLine; decide), fun b hb => ?_⟩
    have s1 := same_new hb (.tup [])
    have e1 : upd H b (.tup []) b = some (.tup []) := upd_same
    generalize upd H b (.tup []) = H1 at s1 e1 ⊢
    refine ⟨_, rfl, small2, fun t ht => ?_⟩
    have s2 := same_new ht (.tup [.ref b, .ref r])
    have e2 : upd H1 t (.tup [.ref b, .ref r]) t = some (.tup [.ref b, .ref r]) := upd_same
    generalize upd H1 t (.tup [.ref b, .ref r]) = H2 at s2 e2 ⊢
    refine ⟨(by show 1 ≤ sizeLine; decide), fun l hl => ?_⟩
    have s3 := same_new hl (.lst [V.ref t])
    have s := (s1.trans s2).trans s3
    exact q l _ _ s ((s1.trans s2).free hl) upd_same (.cons ⟨t, b, r, rfl, s3 _ _ e2, ⟨[], s3 _ _ (s2 _ _ e1), .nil⟩, s _ _ er⟩ .nil)
  | succ d =>
    obtain ⟨r, xs, rfl, er, hp⟩ := hf
    obtain ⟨L, hL⟩ : ∃ L : List (Int × Int × Fm d), L = f_ := ⟨f_, rfl⟩
    have hp : Paired (NdP H (FmV H d)) xs L := by rw [hL]; exact hp
    have hlen : (bxs (d + 1) (show Fm (d + 1) from L)).length ≤ 2000 := by rw [hL]; exact hlen
    have h4 : ∀ q ∈ bxs (d + 1) (show Fm (d + 1) from L), q.1.length ≤ 4 := by rw [hL]; exact h4
    have q : ∀ (l : Addr) (xs : List V) (H' : Hp), Same H H' → H l = none → H' l = some (.lst xs) → BxL H' xs (bxs (d + 1) (show Fm (d + 1) from L)) → Q (.ref l) H' := by rw [hL]; exact q
    have hxl : xs.length = L.length := Paired.length hp
    refine ⟨_, rfl, rfl, _, rfl, iteFS (fun z => by have := V.int.inj z; omega) ?_⟩
    refine ⟨(by show 0 ≤ sizeLine; decide), fun l hl => ?_⟩
    have s0 : Same H (upd H l (.lst [])) := same_new hl _
    have e0 : upd H l (.lst []) l = some (.lst []) := upd_same
    generalize upd H l (.lst []) = H0 at s0 e0 ⊢
    refine ⟨_, rfl, r, rfl, ⟨_, SqT.of (s0 _ _ er)⟩, for_tup (xs := xs) (fun i σ H' => Same H H' ∧ ∃ (ys : List V) (c3 c4 c5 c6 c7 : Option V), H' l = some (.lst ys) ∧ BxL H' ys (bxs (d + 1) (show Fm (d + 1) from L.take i)) ∧ σ = [some (.ref r), some (.int ((d + 1 : Nat) : Int)), some (.ref l), c3, c4, c5, c6, c7]) ⟨s0, [], _, _, _, _, _, e0, .nil, rfl⟩ (fun i σ H' _ h => SqT.of (h.1 _ _ er)) (fun i x σ H' ex hh => ?_) (fun σ H' hh => ?_)⟩
    · obtain ⟨sm, ys, c3, c4, c5, c6, c7, el, hy, rfl⟩ := hh
      obtain ⟨e, ee, t, u, rfl, et, hu⟩ := paired_get hp ex
      have es : bxs (d + 1) (show Fm (d + 1) from L.take (i + 1)) = bxs (d + 1) (show Fm (d + 1) from L.take i) ++ ((bxs d e.2.2).map fun q => ((e.1, e.2.1) :: q.1, q.2)) := by
        rw [take_snoc ee, bxs_app, bxs_one]
      have hsub : ∀ q ∈ (bxs d e.2.2).map (fun q => ((e.1, e.2.1) :: q.1, q.2)), q ∈ bxs (d + 1) (show Fm (d + 1) from L) := fun q hq => List.mem_flatMap.mpr ⟨e, List.mem_of_getElem? ee, hq⟩
      have hl1 : (bxs (d + 1) (show Fm (d + 1) from L.take i)).length + (bxs d e.2.2).length ≤ 2000 := by
        have e3 : bxs (d + 1) (show Fm (d + 1) from L) = bxs (d + 1) (show Fm (d + 1) from L.take (i + 1)) ++ bxs (d + 1) (show Fm (d + 1) from L.drop (i + 1)) := by rw [← bxs_app, List.take_append_drop]
        have := congrArg List.length e3
        rw [es, List.length_append, List.length_append, List.length_map] at this
        omega
      have h4' : ∀ q ∈ bxs d e.2.2, q.1.length ≤ 4 := fun q hq => by
        have := h4 _ (hsub _ (List.mem_map.mpr ⟨q, hq, rfl⟩))
        have : q.1.length + 1 ≤ 4 := this
        omega
      have h3' : ∀ q ∈ bxs d e.2.2, q.1.length ≤ 3 := fun q hq => by
        have := h4 _ (hsub _ (List.mem_map.mpr ⟨q, hq, rfl⟩))
        have : q.1.length + 1 ≤ 4 := this
        omega
      refine ⟨t, _, rfl, SqT.of (sm _ _ et), rfl, _, _, rfl, _, _, rfl, _, _, rfl, rfl, ?_⟩
      refine ⟨_, rfl, _, rfl, _, _, rfl, rfl, d, e.2.2, u, (by show [u, V.int (((d + 1 : Nat) : Int) - 1)] = [u, V.int (d : Int)]; rw [show ((d + 1 : Nat) : Int) - 1 = (d : Int) by omega]), hu.mono sm.tups, by omega, by omega, h4', fun l2 zs H2 s2 f2 e2 hz => ?_⟩
      have el2 := s2 _ _ el
      have nl : l ≠ l2 := fun z => by rw [← z, el] at f2; cases f2
      refine ⟨l2, rfl, ⟨_, SqL.of e2⟩, for_list (xs := zs) (fun k σ H3 => Same H H3 ∧ SameT H2 H3 ∧ H3 l2 = some (.lst zs) ∧ ∃ (ys : List V) (c6 c7 : Option V), H3 l = some (.lst ys) ∧ BxL H3 ys (bxs (d + 1) (show Fm (d + 1) from L.take i) ++ ((bxs d e.2.2).take k).map fun q => ((e.1, e.2.1) :: q.1, q.2)) ∧ σ = [some (.ref r), some (.int ((d + 1 : Nat) : Int)), some (.ref l), some (.int e.1), some (.int e.2.1), some u, c6, c7]) ⟨sm.trans s2, (fun _ _ h => h), e2, ys, _, _, el2, by rw [List.take_zero, List.map_nil, List.append_nil]; exact hy.mono s2.tups, rfl⟩ (fun k σ H3 _ h => SqL.of h.2.2.1) (fun k x σ H3 ex2 hh => ?_) (fun σ H3 hh => ?_)⟩
      · obtain ⟨sm3, st3, el3, ys3, c6, c7, ey3, hy3, rfl⟩ := hh
        obtain ⟨q2, eq2, t2, b2, r2, rfl, et2, hb2, er2⟩ := paired_get (hz.mono st3) ex2
        have hk : k < (bxs d e.2.2).length := (List.getElem?_eq_some_iff.mp eq2).1
        have hq3 := h3' q2 (List.mem_of_getElem? eq2)
        refine ⟨t2, _, rfl, SqT.of et2, rfl, _, _, rfl, _, _, rfl, rfl, ?_⟩
        refine ⟨_, rfl, .inl ⟨rfl, _, SqL.of ey3⟩, _, rfl, _, rfl, small2, fun p hp_ => ?_⟩
        have u1 := same_new hp_ (.tup [.int e.1, .int e.2.1])
        have g1 : upd H3 p (.tup [.int e.1, .int e.2.1]) p = some (.tup [.int e.1, .int e.2.1]) := upd_same
        generalize upd H3 p (.tup [.int e.1, .int e.2.1]) = H4 at u1 g1 ⊢
        refine ⟨(by show 1 ≤ sizeLine; decide), fun p2 hp2 => ?_⟩
        have u2 := same_new hp2 (.tup [V.ref p])
        have g2 : upd H4 p2 (.tup [V.ref p]) p2 = some (.tup [V.ref p]) := upd_same
        generalize upd H4 p2 (.tup [V.ref p]) = H5 at u2 g2 ⊢
        obtain ⟨bs, ebs, hbs⟩ := hb2
        have u12 := u1.trans u2
        refine ⟨_, rfl, catT0_to g2 (u12 _ _ ebs) (Nat.le_of_lt (small1000 (by rw [hbs.length, List.length_singleton]; omega))) fun p3 H6 u3 g3 => ?_⟩
        have u13 := u12.trans u3
        refine ⟨_, rfl, small2, fun tt_ htt => ?_⟩
        have u4 := same_new htt (.tup [.ref p3, .ref r2])
        have g4 : upd H6 tt_ (.tup [.ref p3, .ref r2]) tt_ = some (.tup [.ref p3, .ref r2]) := upd_same
        generalize upd H6 tt_ (.tup [.ref p3, .ref r2]) = H7 at u4 g4 ⊢
        have u14 := u13.trans u4
        have ey7 := u14 _ _ ey3
        refine ⟨l, _, _, rfl, rfl, ey7, small2000 (by rw [hy3.length, List.length_append, List.length_map, List.length_take]; omega), ?_⟩
        have st7 : SameT H7 (upd H7 l (.lst (ys3 ++ [.ref tt_]))) := sameT_lst ey7
        refine ⟨(sm3.trans u14).upd hl, (st3.trans u14.tups).trans st7, (upd_ne nl.symm).trans (u14 _ _ el3), ys3 ++ [.ref tt_], _, _, upd_same, ?_, rfl⟩
        rw [take_snoc eq2, List.map_append, ← List.append_assoc]
        refine paired_app (hy3.mono (u14.tups.trans st7)) (.cons ⟨tt_, p3, r2, rfl, st7 _ _ g4, ⟨_, st7 _ _ (u4 _ _ g3), ?_⟩, (u14.tups.trans st7) _ _ er2⟩ .nil)
        have pl1 : PL H7 [V.ref p] [(e.1, e.2.1)] := .cons ⟨p, rfl, u4 _ _ (u3 _ _ (u2 _ _ g1))⟩ .nil
        exact (PL.app pl1 (hbs.mono u14.tups)).mono st7
      · obtain ⟨sm3, st3, el3, ys3, c6, c7, ey3, hy3, rfl⟩ := hh
        rw [hz.length, List.take_length] at hy3
        exact ⟨sm3, ys3, _, _, _, _, _, ey3, by rw [es]; exact hy3, rfl⟩
    · obtain ⟨sm, ys, c3, c4, c5, c6, c7, el, hy, rfl⟩ := hh
      rw [hxl, List.take_length] at hy
      exact ⟨_, rfl, q l ys H' sm hl el hy⟩
theorem ok_law_form {k n : Nat} (F : Fun K "_law_form" "_law_form" s_law_form f fd) (bl : Bl K mg) (c__law_form : Callee P w K mg base k "_law_form" ["columns", "tips"] (sp_law_form K n)) : FnOk P w K mg base CX0 (k + 1) f fd ["columns", "tips"] (sp_law_form K (n + 1)) := by
  refine F.ok sc_law_form (fun vs H Q E h => ?_) (fun cdv A outer s H vs Q E hr h => ?_)
  · obtain ⟨cl, tl, xs, ts, cs, tips, rfl, hcl, hcs, hok, hn, h4, htl, hts, htn, h2000, q⟩ := h
    rfl
  obtain ⟨cl, tl, xs, ts, cs, tips, rfl, hcl, hcs, hok, hn, h4, htl, hts, htn, h2000, q⟩ := h
  refine ⟨_, (pss_cons (ps_if (pt_cmpR op_eq (pe_callB call_len_seq rfl bl.len_ PySem.boot_len (pa_cons (pv 0) pa_nil)) pe_int (nomark _))
     (pss_one (ps_ret (pe_ix ix_list (pv 1) pe_int (fun _ _ => rfl))))
     pss_nil)
     (pss_cons (ps_set (i := 2) sc_law_form.nd rfl (Or.inl rfl) (pe_op op_fdiv (pe_callB call_len_seq rfl bl.len_ PySem.boot_len (pa_cons (pv 1) pa_nil)) (pe_callB call_len_seq rfl bl.len_ PySem.boot_len (pa_cons (pe_ix ix_list (pe_ix ix_list (pv 0) pe_int (fun _ _ => rfl)) pe_int (fun _ _ => rfl)) pa_nil))))
     (pss_cons (ps_set (i := 3) sc_law_form.nd rfl (Or.inl rfl) (pe_lst pa_nil))
     (pss_cons (ps_for PassesOwn.never rfl (pi_enum rfl bl.enumerate_ (pa_cons (pe_ix ix_list (pe_ix ix_list (pv 0) pe_int (fun _ _ => rfl)) pe_int (fun _ _ => rfl)) pa_nil)) (pg_tup rfl (pgs_cons (pg_name (i := 4) sc_law_form.nd rfl (Or.inl rfl)) (pgs_cons (pg_name (i := 5) sc_law_form.nd rfl (Or.inl rfl)) pgs_nil)))
     (pss_cons (ps_set (i := 6) sc_law_form.nd rfl (Or.inl rfl) (pe_fn c__law_form hr rfl (pa_cons (pe_slice sl_list (pv 0) (po_some pe_int) po_none) (pa_cons (pe_slice sl_list (pv 1) (po_some (pe_op op_mulO (pv 4) (pv 2))) (po_some (pe_op op_mulO (pe_op op_add (pv 4) pe_int) (pv 2)))) pa_nil))))
     (pss_one (ps_if (PW.pt (pw_and (pt_cmpR op_gt (pe_callB call_len_seq rfl bl.len_ PySem.boot_len (pa_cons (pv 3) pa_nil)) pe_int (nomark _)) (pw_and1 (pt_cmpR (op_eqDT hr) (pe_ix ix_tup (pe_ix ix_list (pv 3) (pe_un un_neg pe_int) (fun _ _ => rfl)) pe_int (fun _ _ => rfl)) (pv 6) (nomark _)))))
     (pss_one (ps_asg (pe_tup (pa_cons (pe_ix ix_tup (pe_ix ix_list (pv 3) (pe_un un_neg pe_int) (fun _ _ => rfl)) pe_int (fun _ _ => rfl)) (pa_cons (pe_ix ix_tup (pv 5) pe_int (fun _ _ => rfl)) (pa_cons (pv 6) pa_nil)))) (pg_sub (pv 3) (pe_un un_neg pe_int) set_list)))
     (pss_one (ps_expr (pe_bm PySem.F.plainAttrs_list PySem.F.slot_list_append PySem.F.type_list_append mt_append (pv 3) (pa_cons (pe_tup (pa_cons (pe_ix ix_tup (pv 5) pe_int (fun _ _ => rfl)) (pa_cons (pe_ix ix_tup (pv 5) pe_int (fun _ _ => rfl)) (pa_cons (pv 6) pa_nil)))) pa_nil))))))))
     (pss_one (ps_ret (pe_callTy call_tuple_of rfl bl.tuple_ PyProof.Rows.boot_tuple (pa_cons (pv 3) pa_nil)))))))), ?_⟩
  have hxl : xs.length = cs.length := hcs.1
  have htsl : ts.length = tips.length := hts.length
  cases cs with
  | nil =>
    have hx0 : xs = [] := List.eq_nil_of_length_eq_zero hxl
    subst hx0
    refine ⟨_, rfl, cl, _, rfl, .inl (SqL.of hcl), rfl, _, rfl, iteTS rfl ?_⟩
    have h1 : tips.length = 1 := htn
    obtain ⟨t, rfl⟩ : ∃ t, tips = [t] := List.length_eq_one_iff.mp h1
    obtain ⟨x, ex⟩ : ∃ x, ts[0]? = some x := ⟨_, List.getElem?_eq_getElem (by rw [htsl]; simp)⟩
    obtain ⟨t', et, r, rfl, er⟩ := paired_get hts ex
    have : t = t' := by simpa using et
    subst this
    exact ⟨_, rfl, tl, _, _, _, rfl, rfl, SqL.of htl, atI_nat (j := 0) ex, q _ H (Same.refl _) ⟨r, rfl, er⟩⟩
  | cons c cs =>
    have okc := hok c List.mem_cons_self
    have h1 := okc.some_
    have h6 := okc.few
    obtain ⟨x0, ex0⟩ : ∃ x0, xs[0]? = some x0 := ⟨_, List.getElem?_eq_getElem (by rw [hxl]; simp)⟩
    obtain ⟨lc, c', rfl, ec, pl, ps_, _, _, g1, g2, g3⟩ := RefL.get hcs ex0
    have : c = c' := by simpa using ec
    subst this
    have hpl := g3.length
    have e1 : lens (c :: cs) = c.prs.length :: lens cs := rfl
    have htn' : tips.length = c.prs.length * (prodP (lens cs)).length := by rw [htn, e1, prodP_cons_len]
    have hpart : tips.length / c.prs.length = (prodP (lens cs)).length := by rw [htn', Nat.mul_div_cancel_left _ (by omega)]
    have hcl1 : cs.length + 1 ≤ 4 := h4
    have ix0 : atI xs 0 = some (.ref lc) := atI_nat (j := 0) ex0
    refine ⟨_, rfl, cl, _, rfl, .inl (SqL.of hcl), rfl, _, rfl, iteFS (fun z => by have := V.int.inj z; rw [hxl] at this; simp at this; omega) ?_⟩
    have hdiv : ((ts.length : Nat) : Int) / ((ps_.length : Nat) : Int) = (((prodP (lens cs)).length : Nat) : Int) := by rw [htsl, hpl, ← hpart]; rfl
    refine ⟨_, rfl, tl, _, rfl, .inl (SqL.of htl), _, rfl, cl, _, _, _, rfl, rfl, SqL.of hcl, ix0, lc, _, _, _, rfl, rfl, SqL.of g1, rfl, pl, _, rfl, .inl (SqL.of g2), _, _, rfl, rfl, ⟨by show (0 : Int) < ((ps_.length : Nat) : Int); omega, by show ((ps_.length : Nat) : Int) < 1073741824; omega⟩, ?_⟩
    refine ⟨(by show 0 ≤ sizeLine; decide), fun l hl => ?_⟩
    have s0 : Same H (upd H l (.lst [])) := same_new hl _
    have e0 : upd H l (.lst []) l = some (.lst []) := upd_same
    generalize upd H l (.lst []) = H0 at s0 e0 ⊢
    generalize hN : (prodP (lens cs)).length = N at *
    refine ⟨_, rfl, cl, _, _, _, rfl, rfl, SqL.of (s0 _ _ hcl), ix0, lc, _, _, _, rfl, rfl, SqL.of (s0 _ _ g1), rfl, pl, rfl, ⟨_, SqL.of (s0 _ _ g2)⟩, for_enum (xs := ps_) (fun k σ H' => Same H H' ∧ ∃ (ys : List V) (c4 c5 c6 : Option V), H' l = some (.lst ys) ∧ Paired (NdP H' (FmV H' cs.length)) ys (frk c cs tips k) ∧ σ = [some (.ref cl), some (.ref tl), some (.int (N : Int)), some (.ref l), c4, c5, c6]) ⟨s0, [], _, _, _, e0, .nil, by rw [← hdiv]; rfl⟩ (fun k σ H' h => SqL.of (h.1 _ _ g2)) (fun k y σ H' T ey hh hT => ?_) (fun σ H' hh => ?_)⟩
    · obtain ⟨sm, ys, c4, c5, c6, el, hy, rfl⟩ := hh
      obtain ⟨p, rp, ep, rfl, erp⟩ := g3.get ey
      have hk : k < c.prs.length := (List.getElem?_eq_some_iff.mp ep).1
      have G := frk_ok okc (fun i p e => okc.inn e) cs tips k (by omega)
      have s2 := sm.trans (same_new hT (.tup [.int (k : Int), .ref rp]))
      have eT : upd H' T (.tup [.int (k : Int), .ref rp]) T = some (.tup [.int (k : Int), .ref rp]) := upd_same
      have el2 : upd H' T (.tup [.int (k : Int), .ref rp]) l = some (.lst ys) := ret_r1 el hT
      have st2 : SameT H' (upd H' T (.tup [.int (k : Int), .ref rp])) := sameT_new hT
      generalize upd H' T (.tup [.int (k : Int), .ref rp]) = H2 at s2 eT el2 st2 ⊢
      refine ⟨T, _, rfl, SqT.of eT, rfl, _, _, rfl, _, _, rfl, rfl, ?_⟩
      -- behind
      refine ⟨_, rfl, _, rfl, cl, xs, rfl, SqL.of (s2 _ _ hcl), fun d1 hd1 => ?_⟩
      have cd1 := cutDrop xs 1
      rw [show ((1 : Nat) : Int) = 1 from rfl] at cd1
      rw [cd1]
      have u1 := same_new hd1 (.lst (xs.drop 1))
      have k1 : upd H2 d1 (.lst (xs.drop 1)) d1 = some (.lst (xs.drop 1)) := upd_same
      generalize upd H2 d1 (.lst (xs.drop 1)) = H3 at u1 k1 ⊢
      have s3 := s2.trans u1
      have hkn : k * N + N ≤ ts.length := by
        rw [htsl, htn']
        have : (k + 1) * N ≤ c.prs.length * N := Nat.mul_le_mul_right _ (by omega)
        rw [Nat.succ_mul] at this
        exact this
      have hN2 : N ≤ 2000 := by
        have : 1 * N ≤ c.prs.length * N := Nat.mul_le_mul_right _ h1
        omega
      have b1 : ((k : Int) * (N : Int)) = ((k * N : Nat) : Int) := by push_cast; rfl
      have b2 : (((k : Int) + 1) * (N : Int)) = ((k * N + N : Nat) : Int) := by rw [Int.add_mul, Int.one_mul, b1]; push_cast; rfl
      have m1 : IntMulOk (k : Int) (N : Int) := mul_bits (m := 20) (n := 20) (by show (k : Int).natAbs < 2 ^ 20; have hk6 : k < 6 := (by omega); omega) (by show (N : Int).natAbs < 2 ^ 20; omega) (by decide) (by decide)
      have m2 : IntMulOk ((k : Int) + 1) (N : Int) := mul_bits (m := 20) (n := 20) (by show ((k : Int) + 1).natAbs < 2 ^ 20; have hk6 : k < 6 := (by omega); omega) (by show (N : Int).natAbs < 2 ^ 20; omega) (by decide) (by decide)
      refine ⟨_, rfl, _, rfl, _, rfl, _, _, rfl, rfl, m1, _, rfl, _, rfl, _, _, rfl, rfl, _, rfl, _, _, rfl, rfl, m2, _, rfl, tl, ts, rfl, SqL.of (s3 _ _ htl), fun d2 hd2 => ?_⟩
      rw [b1, b2, cutBoth ts (k * N) N hkn]
      have u2 := same_new hd2 (.lst ((ts.drop (k * N)).take N))
      have k2 : upd H3 d2 (.lst ((ts.drop (k * N)).take N)) d2 = some (.lst ((ts.drop (k * N)).take N)) := upd_same
      generalize upd H3 d2 (.lst ((ts.drop (k * N)).take N)) = H4 at u2 k2 ⊢
      have s4 := s3.trans u2
      have hcut : TpL H4 ((ts.drop (k * N)).take N) (cutT tips N k) := (show TpL H ((ts.drop (k * N)).take N) (cutT tips N k) from paired_take N (paired_drop (k * N) hts)).mono s4.tups
      have hcutl : (cutT tips N k).length = N := by
        rw [← hcut.length, List.length_take, List.length_drop]
        omega
      refine ⟨d1, d2, xs.drop 1, _, cs, cutT tips N k, rfl, u2 _ _ k1, ?_, (fun c hc => hok c (List.mem_cons_of_mem _ hc)), (by have hn' : (cs.length + 1) + 1 ≤ n + 1 := hn; omega), by omega, k2, hcut, by rw [hcutl, hN], by rw [hcutl]; exact hN2, fun v H5 s5 hv => ?_⟩
      · have := (RefL.mono hcs fun _ _ p => p.same s4 : RefL xs (c :: cs) (ColN NT H4))
        exact ⟨by rw [List.length_drop, this.1]; simp, fun j a e => by
          obtain ⟨r, e1, p⟩ := this.2 (j + 1) a (by simpa using e)
          exact ⟨r, by rw [List.getElem?_drop, Nat.add_comm]; exact e1, p⟩⟩
      have w5 := (u1.trans u2).trans s5
      have el5 := w5 _ _ el2
      have hy5 : Paired (NdP H5 (FmV H5 cs.length)) ys (frk c cs tips k) := Paired.mapP hy fun _ _ ⟨t, u, e, z, h⟩ => ⟨t, u, e, (st2.trans w5.tups) _ _ z, h.mono (st2.trans w5.tups)⟩
      have hG : frk c cs tips (k + 1) = addp (frk c cs tips k) p (frm cs (cutT tips N k)) := by
        rw [frk_succ, hpart, List.getD_eq_getElem?_getD, ep]
        rfl
      have erp5 := w5 _ _ (s2 _ _ erp)
      have hyl : ys.length ≤ k := by rw [Paired.length hy]; exact G.len
      -- put at the end
      have put : addp (frk c cs tips k) p (frm cs (cutT tips N k)) = frk c cs tips k ++ [(p.1, p.2, frm cs (cutT tips N k))] → ∀ t, H5 t = none → Same H (upd (upd H5 t (.tup [.int p.1, .int p.2, v])) l (.lst (ys ++ [.ref t]))) ∧ upd (upd H5 t (.tup [.int p.1, .int p.2, v])) l (.lst (ys ++ [.ref t])) l = some (.lst (ys ++ [.ref t])) ∧ Paired (NdP (upd (upd H5 t (.tup [.int p.1, .int p.2, v])) l (.lst (ys ++ [.ref t]))) (FmV (upd (upd H5 t (.tup [.int p.1, .int p.2, v])) l (.lst (ys ++ [.ref t]))) cs.length)) (ys ++ [.ref t]) (frk c cs tips (k + 1)) := fun ha t ht => by
        have x1 : upd H5 t (.tup [.int p.1, .int p.2, v]) l = some (.lst ys) := ret_r1 el5 ht
        have st : SameT H5 (upd (upd H5 t (.tup [.int p.1, .int p.2, v])) l (.lst (ys ++ [.ref t]))) := (sameT_new ht).trans (sameT_lst x1)
        refine ⟨((s4.trans s5).trans (same_new ht _)).upd hl, upd_same, ?_⟩
        rw [hG, ha]
        exact paired_app (Paired.mapP hy5 fun _ _ ⟨t, u, e, z, h⟩ => ⟨t, u, e, st _ _ z, h.mono st⟩) (.cons ⟨t, v, rfl, sameT_lst x1 _ _ upd_same, hv.mono st⟩ .nil)
      refine ⟨_, rfl, l, _, rfl, .inl (SqL.of el5), _, _, rfl, rfl, _, rfl, ite2 (fun g => ?_) (fun g => iteF ?e1)⟩
      · have g : (0 : Int) < ((ys.length : Nat) : Int) := of_decide_eq_true g
        obtain ⟨ys', x, fs', e, rfl, ef, hy', t', u', rfl, et', hu'⟩ := paired_last hy5 (by intro z; rw [z] at g; simp at g)
        refine ⟨_, rfl, _, rfl, l, _, _, _, rfl, rfl, SqL.of el5, atI_last _ _, t', _, _, _, rfl, rfl, SqT.of et', rfl, _, rfl, eqDT_fm hu' hv (by omega) ⟨_, rfl, ?_⟩⟩
        by_cases hg : e.2.2 = frm cs (cutT tips N k)
        · refine iteTS hg ?_
          refine ⟨_, rfl, _, rfl, l, _, _, _, rfl, rfl, SqL.of el5, atI_last _ _, t', _, _, _, rfl, rfl, SqT.of et', rfl, _, rfl, rp, _, _, _, rfl, rfl, SqT.of erp5, z1 _ _, _, rfl, (by show 3 ≤ sizeLine; decide), fun t ht => ?_⟩
          have x1 : upd H5 t (.tup [.int e.1, .int p.2, v]) l = some (.lst (ys' ++ [.ref t'])) := ret_r1 el5 ht
          refine ⟨_, rfl, _, rfl, l, _, _, _, rfl, rfl, x1, ixN_last (by simp), ?_⟩
          rw [set_last]
          have st : SameT H5 (upd (upd H5 t (.tup [.int e.1, .int p.2, v])) l (.lst (ys' ++ [.ref t]))) := (sameT_new ht).trans (sameT_lst x1)
          refine ⟨((s4.trans s5).trans (same_new ht _)).upd hl, ys' ++ [.ref t], _, _, _, upd_same, ?_, rfl⟩
          rw [hG, ef, addp_eq hg]
          exact paired_app (Paired.mapP hy' fun _ _ ⟨t, u, e, z, h⟩ => ⟨t, u, e, st _ _ z, h.mono st⟩) (.cons ⟨t, v, rfl, sameT_lst x1 _ _ upd_same, hv.mono st⟩ .nil)
        · refine iteFS hg ?_
          refine ⟨_, rfl, .inl ⟨rfl, _, SqL.of el5⟩, _, rfl, rp, _, _, _, rfl, rfl, SqT.of erp5, z0 _ _, _, rfl, rp, _, _, _, rfl, rfl, SqT.of erp5, z1 _ _, _, rfl, (by show 3 ≤ sizeLine; decide), fun t ht => ⟨l, _, _, rfl, rfl, ret_r1 el5 ht, small1000 (by omega), ?_⟩⟩
          obtain ⟨a1, a2, a3⟩ := put (by rw [ef, addp_ne hg]) t ht
          exact ⟨a1, _, _, _, _, a2, a3, rfl⟩
      case e1 =>
        have hy0 : ys = [] := by
          cases ys with
          | nil => rfl
          | cons y ys => exact absurd (decide_eq_true (by simp)) g
        have hf0 : frk c cs tips k = [] := by
          have := Paired.length hy
          rw [hy0] at this
          exact List.eq_nil_of_length_eq_zero this.symm
        refine ⟨_, rfl, .inl ⟨rfl, _, SqL.of el5⟩, _, rfl, rp, _, _, _, rfl, rfl, SqT.of erp5, z0 _ _, _, rfl, rp, _, _, _, rfl, rfl, SqT.of erp5, z1 _ _, _, rfl, (by show 3 ≤ sizeLine; decide), fun t ht => ⟨l, _, _, rfl, rfl, ret_r1 el5 ht, small1000 (by omega), ?_⟩⟩
        obtain ⟨a1, a2, a3⟩ := put (by rw [hf0]; rfl) t ht
        exact ⟨a1, _, _, _, _, a2, a3, rfl⟩
    · obtain ⟨sm, ys, c4, c5, c6, el, hy, rfl⟩ := hh
      rw [hpl] at hy
      refine ⟨_, rfl, l, ys, rfl, .inl ⟨SqL.of el, fun a ha => ?_⟩⟩
      have s1 := same_new ha (.tup ys)
      refine q (.ref a) _ (sm.trans s1) ⟨a, ys, rfl, upd_same, ?_⟩
      rw [frm_cons]
      exact Paired.mapP hy fun _ _ ⟨t, u, e, z, h⟩ => ⟨t, u, e, s1.tups _ _ z, h.mono s1.tups⟩
theorem ok_rows_of (F : Fun K "rows_of" "rows_of" s_rows_of f fd) (bl : Bl K mg) (c_boxes : Callee P w K mg base 6 "boxes" ["form", "deep"] (sp_boxes K 6)) : FnOk P w K mg base CX0 7 f fd ["form", "deep"] (sp_rows_of K) := by
  refine F.ok sc_rows_of (fun vs H Q E h => ?_) (fun cdv A outer s H vs Q E hr h => ?_)
  · obtain ⟨d, f_, v, rfl, hf, hd, hlen, h4, q⟩ := h
    rfl
  obtain ⟨d, f_, v, rfl, hf, hd, hlen, h4, q⟩ := h
  refine ⟨_, (pss_one (ps_ret (pe_compG (pi_list (pe_fn c_boxes hr rfl (pa_cons (pv 0) (pa_cons (pv 1) pa_nil)))) (cmpOkG_plain (N := ["box", "leaf"]) (k := 2) rfl rfl (by decide +kernel) (by decide +kernel) (by decide +kernel)) rfl (fun _ C1 _ _ => (gTupK (K := K) (n := 2) rfl rfl (pgs_cons (pg_name (i := 0) (show (["box", "leaf"] : List Str).Nodup by decide +kernel) rfl (Or.inl rfl) (Or.inr rfl)) (pgs_cons (pg_name (i := 1) (show (["box", "leaf"] : List Str).Nodup by decide +kernel) rfl (Or.inl rfl) (Or.inr rfl)) pgs_nil)))) (fun _ C1 _ _ => (pif_one (pt_cmpR op_eq (pe_ix (ix_tupK (K := K) rfl) (pv 1) pe_int (fun _ _ => rfl)) pe_str (nomark _)))) (fun _ C1 _ _ => (pe_tup (pa_cons (pe_compG (pi_tupK (K := K) rfl (pv 0)) (cmpOkG_plain (N := ["pair"]) (k := 1) rfl rfl (by decide +kernel) (by decide +kernel) (by decide +kernel)) rfl (fun _ C2 _ _ => (pg_name (i := 0) (show (["pair"] : List Str).Nodup by decide +kernel) rfl (Or.inl rfl) (Or.inr rfl))) (fun _ C2 _ _ => pif_nil) (fun _ C2 _ _ => (pe_lst (pa_cons (pv 0) pa_nil)))) (pa_cons (pe_ix (ix_tupK (K := K) rfl) (pv 1) pe_int (fun _ _ => rfl)) pa_nil))))))), ?_⟩
  refine ⟨_, rfl, _, rfl, d, f_, v, rfl, hf, by omega, hlen, h4, fun l0 zs H1 s1 _ e1 hz => ?_⟩
  refine ⟨l0, rfl, ⟨_, SqL.of e1⟩, compG_list (xs := zs) (fun D i ys H' => Same H1 H' ∧ H' D = some (.lst ys) ∧ RL NT (hide H' D) ys (rowsP ((bxs d f_).take i))) (fun D hD => ⟨same_new hD _, upd_same, RefL.nil⟩) (fun D i ys H' hD _ h => SqL.of (h.1 _ _ e1)) (fun D i y ys H' hD e hh ts hts => ?_) (fun D ys H' hD hh => ?_)⟩
  · obtain ⟨sm, eD, hr⟩ := hh
    obtain ⟨q2, eq2, t2, b2, r2, rfl, et2, ⟨bs, ebs, hbs⟩, er2⟩ := paired_get hz e
    have hi : i < zs.length := (List.getElem?_eq_some_iff.mp e).1
    have hq4 := h4 q2 (List.mem_of_getElem? eq2)
    have hyl : ys.length ≤ 2000 := by
      have a1 := hr.1
      have a2 := rowsP_len ((bxs d f_).take i)
      rw [List.length_take] at a2
      omega
    obtain ⟨t0, t1, rfl⟩ : ∃ t0 t1, ts = [t0, t1] := by
      match ts, hts with
      | [t0, t1], _ => exact ⟨t0, t1, rfl⟩
    refine ⟨t2, _, rfl, SqT.of (sm _ _ et2), rfl, _, _, rfl, _, _, rfl, rfl, ⟨[some (.ref b2), some (.ref r2)], rfl, rfl⟩, ?_⟩
    refine ⟨_, rfl, r2, _, _, _, rfl, rfl, SqT.of (sm _ _ er2), rfl, rfl, _, rfl, ?_⟩
    have sn := rowsP_snoc ((bxs d f_).take i) q2
    by_cases hs : q2.2.1 = sayT
    · refine iteTS (by rw [hs]; rfl) ?_
      rw [decide_eq_true hs, if_pos rfl] at sn
      have ebs' := sm _ _ ebs
      refine ⟨_, rfl, b2, rfl, ⟨_, SqT.of ebs'⟩, compG_tup (xs := bs) (fun D2 j ws H3 => Same H' H3 ∧ H3 D2 = some (.lst ws) ∧ CL (Fr H' D2) H3 ws ((q2.1.take j).map fun p => [p])) (fun D2 hD2 => ⟨same_new hD2 _, upd_same, RefL.nil⟩) (fun D2 j ws H3 hD2 _ h => SqT.of (h.1 _ _ ebs')) (fun D2 j y2 ws H3 hD2 e2 hh ts2 hts2 => ?_) (fun D2 ws H3 hD2 hh => ?_)⟩
      · obtain ⟨s3, eD2, hw⟩ := hh
        obtain ⟨p, rp, ep, rfl, erp⟩ := hbs.get e2
        have hj : j < bs.length := (List.getElem?_eq_some_iff.mp e2).1
        obtain ⟨u0, rfl⟩ : ∃ u0, ts2 = [u0] := by
          match ts2, hts2 with
          | [u0], _ => exact ⟨u0, rfl⟩
        refine ⟨⟨[some (.ref rp)], rfl, rfl⟩, ?_⟩
        refine ⟨_, rfl, (by show 1 ≤ sizeLine; decide), fun c1 hc1 => ?_⟩
        have u1 := same_new hc1 (.lst [V.ref rp])
        have g1 : upd H3 c1 (.lst [V.ref rp]) c1 = some (.lst [V.ref rp]) := upd_same
        have eD3 := u1 _ _ eD2
        have nc : c1 ≠ D2 := fun z => by rw [z, eD2] at hc1; cases hc1
        have nf : H' c1 = none := s3.free hc1
        generalize upd H3 c1 (.lst [V.ref rp]) = H4 at u1 g1 eD3 ⊢
        have erp4 : H4 rp = some (.tup [.int p.1, .int p.2]) := u1 _ _ (s3 _ _ (sm _ _ erp))
        have hcl2 : CL (Fr H' D2) H4 (ws ++ [.ref c1]) (((q2.1.take j).map fun p => [p]) ++ [[p]]) := RefL.snoc (CL.same hw u1) ⟨⟨nf, nc⟩, _, g1, .cons ⟨rp, rfl, erp4⟩ .nil⟩
        refine CYes.mk hj eD3 (small1000 (by have := hw.1; rw [List.length_map, List.length_take] at this; omega)) ⟨(s3.trans u1).upd hD2, upd_same, ?_⟩
        rw [take_snoc ep, List.map_append]
        exact hcl2.updN Fr.out eD3
      · obtain ⟨s3, eD2, hw⟩ := hh
        rw [hbs.length, List.take_length] at hw
        have nD2 : D2 ≠ D := fun z => by rw [z, eD] at hD2; cases hD2
        refine ⟨_, rfl, r2, _, _, _, rfl, rfl, SqT.of (s3 _ _ (sm _ _ er2)), rfl, small2, fun tt_ htt => ?_⟩
        have s4 := same_new htt (.tup [.ref D2, .int q2.2.2])
        have eT : upd H3 tt_ (.tup [.ref D2, .int q2.2.2]) tt_ = some (.tup [.ref D2, .int q2.2.2]) := upd_same
        have eD4 := s4 _ _ (s3 _ _ eD)
        have nT : tt_ ≠ D := fun z => by rw [z, s3 _ _ eD] at htt; cases htt
        generalize upd H3 tt_ (.tup [.ref D2, .int q2.2.2]) = H4 at s4 eT eD4 ⊢
        have hcl : CL NT (hide H4 D) ws (q2.1.map fun p => [p]) := CL.hideN (CL.same hw s4) (fun z => by have := z.1; rw [eD] at this; cases this) eD4
        have hrow : RowA NT (hide H4 D) tt_ (q2.1.map fun p => [p], q2.2.2) := ⟨D2, ws, hide_of eT nT, trivial, hide_of (s4 _ _ eD2) nD2, hcl⟩
        have sB := (sm.trans s3).trans s4
        refine CYes.mk hi eD4 (small2000 hyl) ⟨sB.upd hD, upd_same, ?_⟩
        rw [hide_upd, take_snoc eq2, sn]
        exact RefL.snoc (RefL.mono hr fun _ _ p => p.same (hide_mono (s3.trans s4))) hrow
    · refine iteFS (fun z => hs (by injection z)) ?_
      rw [decide_eq_false hs, if_neg (by decide), List.append_nil] at sn
      refine CNext.mk (zs := ys) hi ⟨sm, eD, ?_⟩
      rw [take_snoc eq2, sn]
      exact hr
  · obtain ⟨sm, eD, hr⟩ := hh
    rw [hz.length, List.take_length] at hr
    exact q D ys H' (s1.trans sm) eD (RefL.mono hr fun _ _ p => p.same (hide_le H' D))
theorem ok_law (F : Fun K "law" "law" s_law f fd) (bl : Bl K mg) (c__law_cell_at : Callee P w K mg base 7 "_law_cell_at" ["script", "k"] (sp_law_cell_at K)) (c__law_points : Callee P w K mg base 7 "_law_points" ["columns"] (sp_law_points K)) (c__law_seeds : Callee P w K mg base 7 "_law_seeds" ["cells", "most"] (sp_law_seeds K)) (c_rows_of : Callee P w K mg base 7 "rows_of" ["form", "deep"] (sp_rows_of K)) (c__law_column : Callee P w K mg base 7 "_law_column" ["m", "most"] (sp_law_column K)) (c__law_leaf : Callee P w K mg base 7 "_law_leaf" ["m"] (sp_law_leaf K)) (c__law_form : Callee P w K mg base 7 "_law_form" ["columns", "tips"] (sp_law_form K 6)) (c__law_codes : Callee P w K mg base 7 "_law_codes" ["columns", "point", "turn"] (sp_law_codes K)) (c__law_mixed : Callee P w K mg base 7 "_law_mixed" ["cell", "k"] (sp_law_mixed K)) (c__law_row_is_good : Callee P w K mg base 7 "_law_row_is_good" ["row", "columns"] (sp_law_row_is_good K)) (c__law_row_fits : Callee P w K mg base 7 "_law_row_fits" ["row", "codes"] (sp_law_row_fits K)) : FnOk P w K mg base CX0 8 f fd ["script"] (sp_law K) := by
  refine F.ok sc_law (fun vs H Q E h => ?_) (fun cdv A outer s H vs Q E hr h => ?_)
  · obtain ⟨a, ns, rfl, hS, h63, q⟩ := h
    rfl
  obtain ⟨a, ns, rfl, hS, h63, q⟩ := h
  refine ⟨_, (pss_cut (ps_set (i := 1) sc_law.nd rfl (Or.inr rfl) (pe_fn c__law_cell_at hr rfl (pa_cons (pv 0) (pa_cons pe_int pa_nil))))
     (pss_cut (ps_set (i := 2) sc_law.nd rfl (Or.inl rfl) (pe_fn c__law_cell_at hr rfl (pa_cons (pv 0) (pa_cons pe_int pa_nil))))
     (pss_cut (ps_set (i := 3) sc_law.nd rfl (Or.inr rfl) (pe_op op_add pe_int (pe_op op_mod (pv 1) pe_int)))
     (pss_cut (ps_comp (i := 4) sc_law.nd rfl (Or.inl rfl) (pi_range1 rfl bl.range_ (pa_cons (pv 3) pa_nil)) (cmpOk_free (N := ["j", "head", "count"]) (fr := [1, 3]) (cl := [("head", s.heap.objs.size + 1), ("count", s.heap.objs.size + 1 + 1)]) rfl rfl (by decide +kernel) (by decide +kernel) rfl (by decide +kernel) rfl rfl rfl (List.forall_mem_cons.mpr ⟨rfl, List.forall_mem_cons.mpr ⟨rfl, List.forall_mem_nil _⟩⟩) rfl) rfl (fun _ _ _ _ => pif_nil) (fun _ _ _ _ => (pe_fn c__law_column hr rfl (pa_cons (pe_fn c__law_mixed hr rfl (pa_cons (pv 1) (pa_cons (pe_op op_add pe_int (pv 0)) pa_nil))) (pa_cons (pe_ix (ix_listK (K := K) rfl) (pe_lst (pa_cons pe_int (pa_cons pe_int (pa_cons pe_int (pa_cons pe_int pa_nil))))) (pe_op op_sub (pv 2) pe_int) (fun _ _ => rfl)) pa_nil)))))
     (pss_cut (ps_set (i := 5) sc_law.nd rfl (Or.inl rfl) (pe_fn c__law_points hr rfl (pa_cons (pv 4) pa_nil)))
     (pss_cut (ps_set (i := 6) sc_law.nd rfl (Or.inr rfl) (pe_fn c__law_seeds hr rfl (pa_cons (pe_op op_cat (pe_lst (pa_cons (pv 2) pa_nil)) (pe_slice sl_list (pv 0) (po_some pe_int) po_none)) (pa_cons pe_int pa_nil))))
     (pss_cut (ps_comp (i := 7) sc_law.nd rfl (Or.inl rfl) (pi_range1 rfl bl.range_ (pa_cons (pe_callB call_len_seq rfl bl.len_ PySem.boot_len (pa_cons (pv 5) pa_nil)) pa_nil)) (cmpOk_free (N := ["k", "seeds"]) (fr := [6]) (cl := [("seeds", s.heap.objs.size + 1 + 1 + 1)]) rfl rfl (by decide +kernel) (by decide +kernel) rfl (by decide +kernel) rfl rfl rfl (List.forall_mem_cons.mpr ⟨rfl, List.forall_mem_nil _⟩) rfl) rfl (fun _ _ _ _ => pif_nil) (fun _ _ _ _ => (pe_fn c__law_leaf hr rfl (pa_cons (pe_op op_fdiv (pe_ix (ix_listK (K := K) rfl) (pv 1) (pe_op op_mod (pv 0) (pe_callB (call_len_seqK (K := K) rfl) rfl bl.len_ PySem.boot_len (pa_cons (pv 1) pa_nil))) (fun _ _ => rfl)) (pe_op op_add pe_int (pe_op op_fdiv (pv 0) (pe_callB (call_len_seqK (K := K) rfl) rfl bl.len_ PySem.boot_len (pa_cons (pv 1) pa_nil))))) pa_nil))))
     (pss_cut (ps_set (i := 8) sc_law.nd rfl (Or.inl rfl) (pe_fn c_rows_of hr rfl (pa_cons (pe_fn c__law_form hr rfl (pa_cons (pv 4) (pa_cons (pv 7) pa_nil))) (pa_cons (pv 3) pa_nil))))
     (pss_cons (ps_if (pt_not (pt_val (pe_callB call_isinst rfl bl.isinstance_ PyProof.Rows.boot_isinstance (pa_cons (pv 8) (pa_cons (pe_bltn (v := .ty "list") rfl bl.list_ PyProof.Rows.boot_list rfl) pa_nil)))))
     (pss_one (ps_ret pe_bl))
     pss_nil)
     (pss_cut (ps_for PassesOwn.never rfl (pi_list (pv 8)) (pg_name (i := 9) sc_law.nd rfl (Or.inl rfl))
     (pss_one (ps_if (pt_not (pt_val (pe_fn c__law_row_is_good hr rfl (pa_cons (pv 9) (pa_cons (pv 4) pa_nil)))))
     (pss_one (ps_ret pe_bl))
     pss_nil)))
     (pss_cons (ps_for PassesOwn.never rfl (pi_zip rfl bl.zip_ (pa_cons (pv 5) (pa_cons (pv 7) pa_nil))) (pg_tup rfl (pgs_cons (pg_name (i := 10) sc_law.nd rfl (Or.inl rfl)) (pgs_cons (pg_name (i := 11) sc_law.nd rfl (Or.inl rfl)) pgs_nil)))
     (pss_cut (ps_set (i := 12) sc_law.nd rfl (Or.inr rfl) (pe_fn c__law_codes hr rfl (pa_cons (pv 4) (pa_cons (pv 10) (pa_cons (pv 2) pa_nil)))))
     (pss_cut (ps_comp (i := 13) sc_law.nd rfl (Or.inl rfl) (pi_list (pv 8)) (cmpOk_free (N := ["row", "codes"]) (fr := [12]) (cl := [("codes", s.heap.objs.size + 1 + 1 + 1 + 1)]) rfl rfl (by decide +kernel) (by decide +kernel) rfl (by decide +kernel) rfl rfl rfl (List.forall_mem_cons.mpr ⟨rfl, List.forall_mem_nil _⟩) rfl) rfl (fun _ _ _ _ => (pif_one (pt_val (pe_fn c__law_row_fits hr rfl (pa_cons (pv 0) (pa_cons (pv 1) pa_nil)))))) (fun _ _ _ _ => (pe_ix (ix_tupK (K := K) rfl) (pv 0) pe_int (fun _ _ => rfl))))
     (pss_one (ps_if (PW.pt (pw_or (PW.pt (pw_and (pt_cmpR op_eq (pe_ix ix_tup (pv 11) pe_int (fun _ _ => rfl)) pe_str (nomark _)) (pw_and1 (pt_cmpR (op_neL hr) (pv 13) (pe_lst (pa_cons (pe_ix ix_tup (pv 11) pe_int (fun _ _ => rfl)) pa_nil)) (nomark _))))) (pw_or1 (PW.pt (pw_and (pt_cmpR op_ne (pe_ix ix_tup (pv 11) pe_int (fun _ _ => rfl)) pe_str (nomark _)) (pw_and1 (pt_cmpR (op_neL hr) (pv 13) (pe_lst pa_nil) (nomark _))))))))
     (pss_one (ps_ret pe_bl))
     pss_nil)))))
     (pss_one (ps_ret pe_bl))))))))))))), ?_⟩
  refine ⟨fun σ' H' => H' = H ∧ ∃ h : Int, σ' = [some (.ref a), some (.int h), none, none, none, none, none, none, none, none, none, none, none, none], ⟨_, rfl, a, ns, 0, rfl, hS, Int.le_refl _, fun r => ⟨rfl, r, rfl⟩⟩, ?_⟩
  rintro σ1 H1 ⟨rfl, h, rfl⟩
  refine ⟨fun σ' H' => H' = H1 ∧ ∃ tn : Int, σ' = [some (.ref a), some (.int h), some (.int tn), none, none, none, none, none, none, none, none, none, none, none], ⟨_, rfl, a, ns, 1, rfl, hS, by decide, fun r => ⟨rfl, r, rfl⟩⟩, ?_⟩
  rintro σ2 H2 ⟨rfl, tn, rfl⟩
  refine ⟨fun σ' H' => H' = H2 ∧ σ' = [some (.ref a), some (.int h), some (.int tn), some (.int (1 + h % 4)), none, none, none, none, none, none, none, none, none, none], ⟨_, rfl, _, _, rfl, rfl, (by show (0 : Int) < 4; decide), _, _, rfl, rfl, rfl, rfl⟩, ?_⟩
  rintro σ3 H3 ⟨rfl, rfl⟩
  have h0 := Int.emod_nonneg h (show (4 : Int) ≠ 0 by decide)
  have h1 := Int.emod_lt_of_pos h (show (0 : Int) < 4 by decide)
  obtain ⟨v4, hv4, hv1, hv6⟩ : ∃ v : Int, atI [V.int 6, .int 5, .int 3, .int 2] (1 + h % 4 - 1) = some (.int v) ∧ 1 ≤ v ∧ v ≤ 6 := by
    rw [show 1 + h % 4 - 1 = h % 4 by omega]
    generalize h % 4 = k at h0 h1 ⊢
    have : k = 0 ∨ k = 1 ∨ k = 2 ∨ k = 3 := by omega
    rcases this with rfl | rfl | rfl | rfl
    · exact ⟨6, rfl, by decide, by decide⟩
    · exact ⟨5, rfl, by decide, by decide⟩
    · exact ⟨3, rfl, by decide, by decide⟩
    · exact ⟨2, rfl, by decide, by decide⟩
  refine ⟨fun σ' H' => Same H3 H' ∧ ∃ (co : Addr) (xs : List V) (cs : List Col), H' co = some (.lst xs) ∧ ColsN NT H' xs cs ∧ (∀ c ∈ cs, ColOk c) ∧ cs.length = (1 + h % 4).toNat ∧ σ' = [some (.ref a), some (.int h), some (.int tn), some (.int (1 + h % 4)), some (.ref co), none, none, none, none, none, none, none, none, none], ?_, ?_⟩
  · refine ⟨_, rfl, _, rfl, (by show -(2 ^ 62) ≤ 1 + h % 4; omega), (by show 1 + h % 4 < 2 ^ 62; omega), comp_range (fun D i zs H' => Same H3 H' ∧ H' D = some (.lst zs) ∧ ∃ cs : List Col, ColsN (· ≠ D) H' zs cs ∧ cs.length = i ∧ ∀ c ∈ cs, ColOk c) (fun D hD => ⟨same_new hD _, upd_same, [], RefL.nil, rfl, (fun c hc => by cases hc)⟩) (fun D i zs H' hD hi hh => ?_) (fun D zs H' hD hh => ?_)⟩
    · obtain ⟨sm, eD, cs, hz, hl, hok⟩ := hh
      refine ⟨_, rfl, _, rfl, _, _, rfl, rfl, _, _, rfl, (by show 0 ≤ 1 + (0 + (i : Int)); omega), (by show 1 + (0 + (i : Int)) ≤ 100; omega), fun r _ => ?_⟩
      refine ⟨(by show 4 ≤ sizeLine; decide), fun p hp => ?_⟩
      have u1 := same_new hp (.lst [V.int 6, .int 5, .int 3, .int 2])
      have e1 : upd H' p (.lst [V.int 6, .int 5, .int 3, .int 2]) p = some (.lst [V.int 6, .int 5, .int 3, .int 2]) := upd_same
      generalize upd H' p (.lst [V.int 6, .int 5, .int 3, .int 2]) = H5 at u1 e1 ⊢
      refine ⟨_, rfl, _, _, rfl, rfl, p, _, _, _, rfl, rfl, SqL.of e1, hv4, r, v4, rfl, hv1, hv6, fun l c H6 s6 hc ok => ?_⟩
      have eD5 := u1 _ _ eD
      have eD6 := s6 _ _ eD5
      have hlz : zs.length = i := by rw [hz.1, hl]
      have hc2 : ColN (· ≠ D) H6 l c := hc.wk fun x hx z => by rw [z, eD5] at hx; cases hx
      have hz2 : ColsN (· ≠ D) H6 (zs ++ [.ref l]) (cs ++ [c]) := RefL.snoc (hz.same (u1.trans s6)) hc2
      refine CYes.mk hi eD6 (small1000 (by omega)) ⟨((sm.trans u1).trans s6).upd hD, upd_same, cs ++ [c], hz2.updN (fun z => z rfl) eD6, by rw [List.length_append, List.length_singleton, hl], fun c' hc' => ?_⟩
      rcases List.mem_append.mp hc' with hc' | hc'
      · exact hok c' hc'
      · rw [show c' = c by simpa using hc']; exact ok
    · obtain ⟨sm, eD, cs, hz, hl, hok⟩ := hh
      exact ⟨sm, D, zs, cs, eD, hz.any, hok, hl, rfl⟩
  rintro σ4 H4 ⟨s4, co, xs, cs, eco, hco, hok, hcn, rfl⟩
  have hc1 : 1 ≤ cs.length := by omega
  have hc4 : cs.length ≤ 4 := by omega
  have hcI : (1 + h % 4) = (cs.length : Int) := by omega
  refine ⟨fun σ' H' => Same H4 H' ∧ ∃ (po : Addr) (pz : List V), H' po = some (.lst pz) ∧ PtL NT H' pz (prodP (lens cs)) ∧ σ' = [some (.ref a), some (.int h), some (.int tn), some (.int (1 + h % 4)), some (.ref co), some (.ref po), none, none, none, none, none, none, none, none], ⟨_, rfl, co, xs, cs, rfl, eco, hco, hok, hc4, fun pl pz H5 s5 e5 hpt => ⟨s5, pl, pz, e5, hpt, rfl⟩⟩, ?_⟩
  rintro σ5 H5 ⟨t5, po, pz, epo, hpt, rfl⟩
  have s5 := s4.trans t5
  have hpl2 : (prodP (lens cs)).length ≤ 1296 := by
    have key : ∀ ls : List Col, (∀ c ∈ ls, ColOk c) → (prodP (lens ls)).length ≤ 6 ^ ls.length := fun ls => by
      induction ls with
      | nil => intro _; exact Nat.le_refl _
      | cons c ls ih =>
        intro hk
        rw [show lens (c :: ls) = c.prs.length :: lens ls from rfl, prodP_cons_len, List.length_cons, Nat.pow_succ, Nat.mul_comm (6 ^ ls.length)]
        exact Nat.mul_le_mul (hk c List.mem_cons_self).few (ih fun c hc => hk c (List.mem_cons_of_mem _ hc))
    exact Nat.le_trans (key cs hok) (Nat.le_trans (Nat.pow_le_pow_right (by decide) hc4) (by decide))
  have hpzl : pz.length = (prodP (lens cs)).length := hpt.1
  refine ⟨fun σ' H' => Same H5 H' ∧ ∃ (sd : Addr) (ss : List Int), H' sd = some (.lst (ss.map V.int)) ∧ 1 ≤ ss.length ∧ ss.length ≤ 60 ∧ σ' = [some (.ref a), some (.int h), some (.int tn), some (.int (1 + h % 4)), some (.ref co), some (.ref po), some (.ref sd), none, none, none, none, none, none, none], ?_, ?_⟩
  · refine ⟨_, rfl, (by show 1 ≤ sizeLine; decide), fun c1 hc1_ => ?_⟩
    have u1 := same_new hc1_ (.lst [V.int tn])
    have e1 : upd H5 c1 (.lst [V.int tn]) c1 = some (.lst [V.int tn]) := upd_same
    generalize upd H5 c1 (.lst [V.int tn]) = H6 at u1 e1 ⊢
    obtain ⟨ms, em, lm⟩ := cut_from ns 2 none
    refine ⟨_, rfl, _, rfl, a, _, rfl, (s5.trans u1).seq hS, fun c2 hc2 => ?_⟩
    rw [show (some (2 : Int)) = some ((2 : Nat) : Int) from rfl, em]
    have u2 := same_new hc2 (.lst (ms.map V.int))
    have e2 : upd H6 c2 (.lst (ms.map V.int)) c2 = some (.lst (ms.map V.int)) := upd_same
    generalize upd H6 c2 (.lst (ms.map V.int)) = H7 at u2 e2 ⊢
    refine ⟨c1, c2, _, _, rfl, rfl, u2 _ _ e1, e2, Nat.le_of_lt (small1000 (by rw [List.length_map, List.length_singleton]; omega)), fun c3 hc3 => ?_⟩
    have em2 : [V.int tn] ++ ms.map V.int = (tn :: ms).map V.int := rfl
    rw [em2]
    have u3 := same_new hc3 (.lst ((tn :: ms).map V.int))
    have e3 : upd H7 c3 (.lst ((tn :: ms).map V.int)) c3 = some (.lst ((tn :: ms).map V.int)) := upd_same
    generalize upd H7 c3 (.lst ((tn :: ms).map V.int)) = H8 at u3 e3 ⊢
    exact ⟨c3, tn :: ms, 60, rfl, SqL.of e3, by rw [List.length_cons]; omega, by decide, by decide, fun l ss H9 s9 e9 hss _ _ hpos => ⟨((u1.trans u2).trans u3).trans s9, l, ss, e9, hpos (by simp), by omega, rfl⟩⟩
  rintro σ6 H6 ⟨t6, sd, ss, esd, hs1, hs60, rfl⟩
  refine ⟨fun σ' H' => Same H6 H' ∧ ∃ (ti : Addr) (ts : List V) (tips : List Lf), H' ti = some (.lst ts) ∧ TpL H' ts tips ∧ tips.length = (prodP (lens cs)).length ∧ σ' = [some (.ref a), some (.int h), some (.int tn), some (.int (1 + h % 4)), some (.ref co), some (.ref po), some (.ref sd), some (.ref ti), none, none, none, none, none, none], ?_, ?_⟩
  · refine ⟨_, rfl, po, _, rfl, .inl (SqL.of (t6 _ _ epo)), _, rfl, (by show -(2 ^ 62) ≤ ((pz.length : Nat) : Int); omega), (by show ((pz.length : Nat) : Int) < 2 ^ 62; omega), comp_range (fun D i zs H' => Same H6 H' ∧ H' D = some (.lst zs) ∧ ∃ tips : List Lf, TpL H' zs tips ∧ tips.length = i) (fun D hD => ⟨same_new hD _, upd_same, [], .nil, rfl⟩) (fun D i zs H' hD hi hh => ?_) (fun D zs H' hD hh => ?_)⟩
    · obtain ⟨sm, eD, tips, htp, htl⟩ := hh
      have hi' : i < 1296 := by omega
      have esd' := sm _ _ esd
      have hsl : (ss.map V.int).length = ss.length := List.length_map _
      have hps : (0 : Int) < (((ss.map V.int).length : Nat) : Int) := by rw [hsl]; omega
      have k0 := Int.emod_nonneg (0 + (i : Int)) (Int.ne_of_gt hps)
      have k1 := Int.emod_lt_of_pos (0 + (i : Int)) hps
      obtain ⟨x, ix, _⟩ := atI_any (xs := ss.map V.int) k0 k1
      obtain ⟨y, rfl, _⟩ := of_map (show (ss.map V.int)[((0 + (i : Int)) % (((ss.map V.int).length : Nat) : Int)).toNat]? = some x by assumption)
      have d0 : 0 ≤ (0 + (i : Int)) / (((ss.map V.int).length : Nat) : Int) := Int.ediv_nonneg (by omega) (by omega)
      have d1 : (0 + (i : Int)) / (((ss.map V.int).length : Nat) : Int) ≤ 0 + (i : Int) := Int.ediv_le_self _ (by omega)
      refine ⟨_, rfl, _, rfl, _, rfl, sd, _, rfl, .inl (SqL.of esd'), _, _, rfl, rfl, hps, sd, _, _, _, rfl, rfl, SqL.of esd', ix, _, rfl, _, rfl, sd, _, rfl, .inl (SqL.of esd'), _, _, rfl, rfl, ⟨hps, by show (((ss.map V.int).length : Nat) : Int) < 1073741824; omega⟩, _, _, rfl, rfl, _, _, rfl, rfl, ⟨by show 0 < 1 + (0 + (i : Int)) / (((ss.map V.int).length : Nat) : Int); omega, by show 1 + (0 + (i : Int)) / (((ss.map V.int).length : Nat) : Int) < 1073741824; omega⟩, _, rfl, fun r t H7 s7 er => ?_⟩
      have eD7 := s7 _ _ eD
      have hlz : zs.length = i := by rw [htp.length, htl]
      refine CYes.mk hi eD7 (small2000 (by omega)) ⟨(sm.trans s7).upd hD, upd_same, tips ++ [t], ?_, by simp [htl]⟩
      exact TpL.mono (paired_app (htp.mono s7.tups) (.cons ⟨r, rfl, er⟩ .nil)) (sameT_lst eD7)
    · obtain ⟨sm, eD, tips, htp, htl⟩ := hh
      exact ⟨sm, D, zs, tips, eD, htp, by rw [htl, ← hpzl]; simp, rfl⟩
  rintro σ7 H7 ⟨t7, ti, ts, tips, eti, hti, htn, rfl⟩
  have u7 := (t5.trans t6).trans t7
  have inn : ∀ c : Col, ColOk c → ∀ (i : Nat) (p : Int × Int), c.prs[i]? = some p → c.lo ≤ p.1 ∧ p.2 ≤ c.hi := fun c ok i p e => ok.inn e
  have hbl : (bxs cs.length (frm cs tips)).length ≤ 1296 := Nat.le_trans (frm_len inn cs tips hok) (Nat.le_trans (Nat.pow_le_pow_right (by decide) hc4) (by decide))
  have hbin := frm_bin inn cs tips hok
  have hb4 : ∀ q ∈ bxs cs.length (frm cs tips), q.1.length ≤ 4 := fun q hq => by rw [(hbin q hq).1]; exact hc4
  refine ⟨fun σ' H' => Same H7 H' ∧ ∃ (fo : Addr) (rx : List V), H' fo = some (.lst rx) ∧ RL NT H' rx (rowsP (bxs cs.length (frm cs tips))) ∧ σ' = [some (.ref a), some (.int h), some (.int tn), some (.int (1 + h % 4)), some (.ref co), some (.ref po), some (.ref sd), some (.ref ti), some (.ref fo), none, none, none, none, none], ⟨_, rfl, _, rfl, co, ti, xs, ts, cs, tips, rfl, u7 _ _ eco, hco.same u7, hok, by omega, hc4, eti, hti, htn, by omega, fun v H8 s8 hv => ⟨_, rfl, cs.length, frm cs tips, v, by rw [hcI], hv, hc4, by omega, hb4, fun l rx H9 s9 e9 hR => ⟨s8.trans s9, l, rx, e9, hR, rfl⟩⟩⟩, ?_⟩
  rintro σ8 H8 ⟨t8, fo, rx, efo, hR, rfl⟩
  have u8 := u7.trans t8
  have eco8 := u8 _ _ eco
  have hco8 := hco.same u8
  have rowAt : ∀ w ∈ rowsP (bxs cs.length (frm cs tips)), ∃ q ∈ bxs cs.length (frm cs tips), q.2.1 = sayT ∧ w = (q.1.map fun p => [p], q.2.2) := fun w hw => by
    unfold rowsP at hw
    obtain ⟨q, hq, rfl⟩ := List.mem_map.mp hw
    obtain ⟨h1, h2⟩ := List.mem_filter.mp hq
    exact ⟨q, h1, of_decide_eq_true h2, rfl⟩
  refine ⟨_, rfl, _, "list", _, true, rfl, .lst efo, (by first | rfl | with_unfolding_all rfl | decide +kernel), _, rfl, iteF ?_⟩
  refine ⟨fun σ' H' => Same H8 H' ∧ ∃ c9 : Option V, σ' = [some (.ref a), some (.int h), some (.int tn), some (.int (1 + h % 4)), some (.ref co), some (.ref po), some (.ref sd), some (.ref ti), some (.ref fo), c9, none, none, none, none], ?_, ?_⟩
  · refine ⟨_, rfl, fo, rfl, ⟨_, SqL.of efo⟩, for_list (xs := rx) (fun i σ H' => Same H8 H' ∧ ∃ c9 : Option V, σ = [some (.ref a), some (.int h), some (.int tn), some (.int (1 + h % 4)), some (.ref co), some (.ref po), some (.ref sd), some (.ref ti), some (.ref fo), c9, none, none, none, none]) ⟨Same.refl _, _, rfl⟩ (fun i σ H' _ hh => SqL.of (hh.1 _ _ efo)) (fun i y σ H' ey hh => ?_) (fun σ H' hh => hh)⟩
    obtain ⟨sm, c9, rfl⟩ := hh
    obtain ⟨r, w, rfl, ew, hw⟩ := RefL.get hR ey
    obtain ⟨q2, hq2, _, rfl⟩ := rowAt w (List.mem_of_getElem? ew)
    exact ⟨_, rfl, _, rfl, r, co, q2.1, q2.2.2, xs, cs, rfl, hw.same sm, sm _ _ eco8, hco8.same sm, hok, hc4, hbin q2 hq2, fun H9 s9 => ⟨_, rfl, iteF ⟨sm.trans s9, _, rfl⟩⟩⟩
  rintro σ9 H9 ⟨t9, c9, rfl⟩
  have epo9 := t9 _ _ (t8 _ _ (t7 _ _ (t6 _ _ epo)))
  have hpt9 := (((hpt.same t6).same t7).same t8).same t9
  have eti9 := t9 _ _ (t8 _ _ eti)
  have hti9 := (hti.mono t8.tups).mono t9.tups
  have efo9 := t9 _ _ efo
  have hR9 := hR.same t9
  have eco9 := t9 _ _ eco8
  have hco9 := hco8.same t9
  refine ⟨_, rfl, _, rfl, po, ti, rfl, ⟨_, SqL.of epo9⟩, ⟨_, SqL.of eti9⟩, for_zip (xs := pz) (ys := ts) (fun i σ H' => Same H9 H' ∧ ∃ c10 c11 c12 c13 : Option V, σ = [some (.ref a), some (.int h), some (.int tn), some (.int (1 + h % 4)), some (.ref co), some (.ref po), some (.ref sd), some (.ref ti), some (.ref fo), c9, c10, c11, c12, c13]) ⟨Same.refl _, _, _, _, _, rfl⟩ (fun i σ H' hh => ⟨SqL.of (hh.1 _ _ epo9), SqL.of (hh.1 _ _ eti9)⟩) (fun i x y σ H' T ex ey hh hT => ?_) (fun σ H' hh => q H')⟩
  obtain ⟨sm, c10, c11, c12, c13, rfl⟩ := hh
  obtain ⟨r, p, rfl, ep, _, hr_⟩ := RefL.get hpt9 ex
  obtain ⟨t, et, rt, rfl, ert⟩ := paired_get hti9 ey
  have hpo := PtOk.iff.mp (List.mem_of_getElem? ep)
  have s2 := sm.trans (same_new hT (.tup [.ref r, .ref rt]))
  have eT : upd H' T (.tup [.ref r, .ref rt]) T = some (.tup [.ref r, .ref rt]) := upd_same
  have smt : Same H' (upd H' T (.tup [.ref r, .ref rt])) := same_new hT _
  generalize upd H' T (.tup [.ref r, .ref rt]) = H2 at s2 eT smt ⊢
  refine ⟨T, _, rfl, SqT.of eT, rfl, _, _, rfl, _, _, rfl, rfl, ?_⟩
  refine ⟨fun σ' H'' => Same H2 H'' ∧ ∃ (cl : Addr) (cd : List Int), H'' cl = some (.lst (cd.map V.int)) ∧ AtP cs p cd ∧ σ' = [some (.ref a), some (.int h), some (.int tn), some (.int (1 + h % 4)), some (.ref co), some (.ref po), some (.ref sd), some (.ref ti), some (.ref fo), c9, some (.ref r), some (.ref rt), some (.ref cl), c13], ⟨_, rfl, _, rfl, _, rfl, co, r, xs, cs, p, tn, rfl, s2 _ _ eco9, hco9.same s2, hok, hc4, s2 _ _ hr_, hpo, fun l cd H18 s18 e18 hat => ⟨s18, l, cd, e18, hat, rfl⟩⟩, ?_⟩
  rintro σ18 H18 ⟨t18, cl, cd, ecl, hat, rfl⟩
  have v18 := s2.trans t18
  have fitP : ((bxs cs.length (frm cs tips)).filter fun q => fitb q.1 cd).map (·.2) = [t] := frm_fit inn cs tips i p cd t hok htn ep et hat
  have hcdl : cd.length = cs.length := hat.1
  let pick : List Rw → List Int := fun ws => (ws.filter fun w => fitb (w.1.map fun ps => ps.headD (0, 0)) cd).map (·.2)
  have back : ∀ b : Prs, ((b.map fun p => [p]).map fun ps => ps.headD (0, 0)) = b := fun b => by rw [List.map_map]; exact List.map_id b
  have pick_snoc : ∀ (ws : List Rw) (w : Rw), pick (ws ++ [w]) = pick ws ++ (if fitb (w.1.map fun ps => ps.headD (0, 0)) cd then [w.2] else []) := fun ws w => by
    show ((ws ++ [w]).filter _).map _ = _
    rw [List.filter_append, List.map_append]
    congr 1
    rw [List.filter_cons]
    by_cases h : fitb (w.1.map fun ps => ps.headD (0, 0)) cd = true
    · rw [if_pos h, if_pos h]; rfl
    · rw [if_neg h, if_neg h]; rfl
  have pick_all : pick (rowsP (bxs cs.length (frm cs tips))) = if t.1 = sayT then [t.2] else [] := by
    have key : ∀ L : List (Prs × Lf), pick (rowsP L) = (((L.filter fun q => fitb q.1 cd).map (·.2)).filter fun u => decide (u.1 = sayT)).map (·.2) := fun L => by
      induction L with
      | nil => rfl
      | cons q L ih =>
        have e1 : rowsP (q :: L) = (if decide (q.2.1 = sayT) then [(q.1.map fun p => [p], q.2.2)] else []) ++ rowsP L := by
          unfold rowsP
          cases h : decide (q.2.1 = sayT) <;> simp [List.filter_cons, h]
        have e2 : ∀ A B : List Rw, pick (A ++ B) = pick A ++ pick B := fun A B => by
          show ((A ++ B).filter _).map _ = _
          rw [List.filter_append, List.map_append]
        rw [e1, e2, ih]
        cases h : decide (q.2.1 = sayT) with
        | true =>
          have e3 : pick [(q.1.map fun p => [p], q.2.2)] = if fitb q.1 cd then [q.2.2] else [] := by
            have := pick_snoc [] (q.1.map fun p => [p], q.2.2)
            rw [List.nil_append] at this
            rw [this, back]
            rfl
          rw [if_pos rfl, e3]
          cases hf : fitb q.1 cd <;> simp [List.filter_cons, hf, h]
        | false =>
          rw [if_neg (by decide)]
          cases hf : fitb q.1 cd <;> simp [List.filter_cons, hf, h]
          · rfl
          · rfl
    rw [key, fitP]
    by_cases h : t.1 = sayT
    · rw [if_pos h]; simp [List.filter_cons, h]
    · rw [if_neg h]; simp [List.filter_cons, h]
  have efo18 := v18 _ _ efo9
  have hR18 := hR9.same v18
  refine ⟨fun σ' H'' => Same H18 H'' ∧ ∃ (fl_ : Addr), H'' fl_ = some (.lst ((if t.1 = sayT then [t.2] else []).map V.int)) ∧ σ' = [some (.ref a), some (.int h), some (.int tn), some (.int (1 + h % 4)), some (.ref co), some (.ref po), some (.ref sd), some (.ref ti), some (.ref fo), c9, some (.ref r), some (.ref rt), some (.ref cl), some (.ref fl_)], ?_, ?_⟩
  · refine ⟨_, rfl, fo, rfl, ⟨_, SqL.of efo18⟩, comp_list (xs := rx) (fun D i ys H' => Same H18 H' ∧ H' D = some (.lst ys) ∧ ys = (pick ((rowsP (bxs cs.length (frm cs tips))).take i)).map V.int) (fun D hD => ⟨same_new hD _, upd_same, rfl⟩) (fun D i ys H' hD _ h => SqL.of (h.1 _ _ efo18)) (fun D k y ys H' hD e h => ?_) (fun D ys H' hD h => ?_)⟩
    · obtain ⟨sm3, eD, rfl⟩ := h
      obtain ⟨r3, w, rfl, ew, hw⟩ := RefL.get hR18 e
      have hk : k < rx.length := (List.getElem?_eq_some_iff.mp e).1
      have hkr : rx.length ≤ 1296 := by
        rw [hR18.1]
        exact Nat.le_trans (rowsP_len _) hbl
      obtain ⟨q2, hq2, _, rfl⟩ := rowAt w (List.mem_of_getElem? ew)
      have hw3 := hw.same sm3
      refine ⟨_, rfl, _, rfl, r3, cl, q2.1, q2.2.2, cd, rfl, hw3, sm3 _ _ ecl, by rw [(hbin q2 hq2).1, hcdl], fun H3 s3 => ⟨_, rfl, ?_⟩⟩
      have eD3 := s3 _ _ eD
      have pl_ : (pick ((rowsP (bxs cs.length (frm cs tips))).take k)).length ≤ 1296 := by
        show (((((rowsP (bxs cs.length (frm cs tips))).take k).filter _).map _).length) ≤ 1296
        rw [List.length_map]
        refine Nat.le_trans (List.length_filter_le ..) ?_
        rw [List.length_take]
        omega
      obtain ⟨ce, cv, g1, _, g2, g3⟩ := hw3.same s3
      have sn := pick_snoc ((rowsP (bxs cs.length (frm cs tips))).take k) (q2.1.map fun p => [p], q2.2.2)
      rw [show ((q2.1.map fun p => [p], q2.2.2) : Rw).1 = q2.1.map fun p => [p] from rfl, back] at sn
      cases hb : fitb q2.1 cd with
      | true =>
        rw [hb, if_pos rfl] at sn
        refine iteT ⟨_, rfl, r3, _, _, _, rfl, rfl, SqT.of g1, rfl, CYes.mk hk eD3 (small2000 (by rw [List.length_map]; omega)) ⟨(sm3.trans s3).upd hD, upd_same, ?_⟩⟩
        rw [take_snoc ew, sn, List.map_append]
        rfl
      | false =>
        rw [hb, if_neg (by decide), List.append_nil] at sn
        refine iteF (CNext.mk (zs := (pick ((rowsP (bxs cs.length (frm cs tips))).take k)).map V.int) hk ⟨sm3.trans s3, eD3, ?_⟩)
        rw [take_snoc ew, sn]
    · obtain ⟨sm3, eD, rfl⟩ := h
      rw [hR18.1, List.take_length, pick_all] at eD
      exact ⟨sm3, D, eD, rfl⟩
  rintro σ19 H19 ⟨t19, fl_, efl, rfl⟩
  have ert19 := t19 _ _ (v18 _ _ ert)
  have sEnd : Same H9 H19 := v18.trans t19
  by_cases hs : t.1 = sayT
  · rw [if_pos hs] at efl
    have hs1 : V.str t.1 = V.str (Str.ofString "say") := by rw [hs]; rfl
    refine ⟨_, rfl, rt, _, _, _, rfl, rfl, SqT.of ert19, rfl, rfl, _, rfl, iteTS hs1 ?_⟩
    refine ⟨_, rfl, _, rfl, rt, _, _, _, rfl, rfl, SqT.of ert19, rfl, (by show 1 ≤ sizeLine; decide), fun c1 hc1_ => ?_⟩
    have u1 := same_new hc1_ (.lst [V.int t.2])
    refine rNeL_same (xs := [V.int t.2]) (SqL.of (u1 _ _ efl)) (SqL.of upd_same) (fun x hx => .inl (by rw [show x = .int t.2 by simpa using hx]; rfl)) ⟨_, rfl, iteF ?_⟩
    refine ⟨_, rfl, rt, _, _, _, rfl, rfl, SqT.of (u1 _ _ ert19), rfl, rfl, _, rfl, iteNS hs1 (iteF ⟨sEnd.trans u1, _, _, _, _, rfl⟩)⟩
  · rw [if_neg hs] at efl
    have hs1 : ¬ V.str t.1 = V.str (Str.ofString "say") := fun z => hs (by injection z)
    refine ⟨_, rfl, rt, _, _, _, rfl, rfl, SqT.of ert19, rfl, rfl, _, rfl, iteFS hs1 (iteF ?_)⟩
    refine ⟨_, rfl, rt, _, _, _, rfl, rfl, SqT.of ert19, rfl, rfl, _, rfl, ?_⟩
    rw [decide_eq_false hs1]
    refine iteT ?_
    refine ⟨_, rfl, (by show 0 ≤ sizeLine; decide), fun c1 hc1_ => ?_⟩
    have u1 := same_new hc1_ (.lst [])
    exact rNeL_same (xs := []) (SqL.of (u1 _ _ efl)) (SqL.of upd_same) (fun x hx => by cases hx) ⟨_, rfl, iteF ⟨sEnd.trans u1, _, _, _, _, rfl⟩⟩
end
theorem all_mk {l : PySem.W.OpenLaw} {w : World} {K : PySem.W.Frag} {h : Heap} {mg : Str → Option Value} {fa f0 f1 f2 f3 f4 f5 f6 f7 f8 f9 f10 f11 f12 f13 : Addr} (X : K.In h) (G : h.Ns mainGlobals mg) (hfa : mg "law" = some (.ref fa))
    {od0 an0 od1 an1 od2 an2 od3 an3 od4 an4 od5 an5 od6 an6 od7 an7 od8 an8 od9 an9 od10 an10 od11 an11 od12 an12 od13 an13 : Option Addr} {sl0 sl1 sl2 sl3 sl4 sl5 sl6 sl7 sl8 sl9 sl10 sl11 sl12 sl13 : Array (Option Value)} {oc0 kV0 dc0 pm0 cd0 ct0 oc1 kV1 dc1 pm1 cd1 ct1 oc2 kV2 dc2 pm2 cd2 ct2 oc3 kV3 dc3 pm3 cd3 ct3 oc4 kV4 dc4 pm4 cd4 ct4 oc5 kV5 dc5 pm5 cd5 ct5 oc6 kV6 dc6 pm6 cd6 ct6 oc7 kV7 dc7 pm7 cd7 ct7 oc8 kV8 dc8 pm8 cd8 ct8 oc9 kV9 dc9 pm9 cd9 ct9 oc10 kV10 dc10 pm10 cd10 ct10 oc11 kV11 dc11 pm11 cd11 ct11 oc12 kV12 dc12 pm12 cd12 ct12 oc13 kV13 dc13 pm13 cd13 ct13 : Value}
    (a0 : PySem.W.nsIn K mainGlobals "boxes" = some (some (.ref f0))) (l0 : K.lookup f0 = some ⟨oc0, od0, .func (PySem.W.fnOf "boxes" "boxes" (defArgs s_boxes) (defBody s_boxes) (defScope s_boxes) .none kV0 dc0 pm0 an0 cd0 ct0), sl0⟩) (c0 : PySem.W.codeIn K cd0 "boxes" = true) (k0 : PySem.W.keepIn K (.ref f0) = true)
    (a1 : PySem.W.nsIn K mainGlobals "rows_of" = some (some (.ref f1))) (l1 : K.lookup f1 = some ⟨oc1, od1, .func (PySem.W.fnOf "rows_of" "rows_of" (defArgs s_rows_of) (defBody s_rows_of) (defScope s_rows_of) .none kV1 dc1 pm1 an1 cd1 ct1), sl1⟩) (c1 : PySem.W.codeIn K cd1 "rows_of" = true) (k1 : PySem.W.keepIn K (.ref f1) = true)
    (a2 : PySem.W.nsIn K mainGlobals "_law_cell_at" = some (some (.ref f2))) (l2 : K.lookup f2 = some ⟨oc2, od2, .func (PySem.W.fnOf "_law_cell_at" "_law_cell_at" (defArgs s_law_cell_at) (defBody s_law_cell_at) (defScope s_law_cell_at) .none kV2 dc2 pm2 an2 cd2 ct2), sl2⟩) (c2 : PySem.W.codeIn K cd2 "_law_cell_at" = true) (k2 : PySem.W.keepIn K (.ref f2) = true)
    (a3 : PySem.W.nsIn K mainGlobals "_law_mixed" = some (some (.ref f3))) (l3 : K.lookup f3 = some ⟨oc3, od3, .func (PySem.W.fnOf "_law_mixed" "_law_mixed" (defArgs s_law_mixed) (defBody s_law_mixed) (defScope s_law_mixed) .none kV3 dc3 pm3 an3 cd3 ct3), sl3⟩) (c3 : PySem.W.codeIn K cd3 "_law_mixed" = true) (k3 : PySem.W.keepIn K (.ref f3) = true)
    (a4 : PySem.W.nsIn K mainGlobals "_law_seeds" = some (some (.ref f4))) (l4 : K.lookup f4 = some ⟨oc4, od4, .func (PySem.W.fnOf "_law_seeds" "_law_seeds" (defArgs s_law_seeds) (defBody s_law_seeds) (defScope s_law_seeds) .none kV4 dc4 pm4 an4 cd4 ct4), sl4⟩) (c4 : PySem.W.codeIn K cd4 "_law_seeds" = true) (k4 : PySem.W.keepIn K (.ref f4) = true)
    (a5 : PySem.W.nsIn K mainGlobals "_law_column" = some (some (.ref f5))) (l5 : K.lookup f5 = some ⟨oc5, od5, .func (PySem.W.fnOf "_law_column" "_law_column" (defArgs s_law_column) (defBody s_law_column) (defScope s_law_column) .none kV5 dc5 pm5 an5 cd5 ct5), sl5⟩) (c5 : PySem.W.codeIn K cd5 "_law_column" = true) (k5 : PySem.W.keepIn K (.ref f5) = true)
    (a6 : PySem.W.nsIn K mainGlobals "_law_points" = some (some (.ref f6))) (l6 : K.lookup f6 = some ⟨oc6, od6, .func (PySem.W.fnOf "_law_points" "_law_points" (defArgs s_law_points) (defBody s_law_points) (defScope s_law_points) .none kV6 dc6 pm6 an6 cd6 ct6), sl6⟩) (c6 : PySem.W.codeIn K cd6 "_law_points" = true) (k6 : PySem.W.keepIn K (.ref f6) = true)
    (a7 : PySem.W.nsIn K mainGlobals "_law_codes" = some (some (.ref f7))) (l7 : K.lookup f7 = some ⟨oc7, od7, .func (PySem.W.fnOf "_law_codes" "_law_codes" (defArgs s_law_codes) (defBody s_law_codes) (defScope s_law_codes) .none kV7 dc7 pm7 an7 cd7 ct7), sl7⟩) (c7 : PySem.W.codeIn K cd7 "_law_codes" = true) (k7 : PySem.W.keepIn K (.ref f7) = true)
    (a8 : PySem.W.nsIn K mainGlobals "_law_leaf" = some (some (.ref f8))) (l8 : K.lookup f8 = some ⟨oc8, od8, .func (PySem.W.fnOf "_law_leaf" "_law_leaf" (defArgs s_law_leaf) (defBody s_law_leaf) (defScope s_law_leaf) .none kV8 dc8 pm8 an8 cd8 ct8), sl8⟩) (c8 : PySem.W.codeIn K cd8 "_law_leaf" = true) (k8 : PySem.W.keepIn K (.ref f8) = true)
    (a9 : PySem.W.nsIn K mainGlobals "_law_form" = some (some (.ref f9))) (l9 : K.lookup f9 = some ⟨oc9, od9, .func (PySem.W.fnOf "_law_form" "_law_form" (defArgs s_law_form) (defBody s_law_form) (defScope s_law_form) .none kV9 dc9 pm9 an9 cd9 ct9), sl9⟩) (c9 : PySem.W.codeIn K cd9 "_law_form" = true) (k9 : PySem.W.keepIn K (.ref f9) = true)
    (a10 : PySem.W.nsIn K mainGlobals "_law_spans_are_good" = some (some (.ref f10))) (l10 : K.lookup f10 = some ⟨oc10, od10, .func (PySem.W.fnOf "_law_spans_are_good" "_law_spans_are_good" (defArgs s_law_spans_are_good) (defBody s_law_spans_are_good) (defScope s_law_spans_are_good) .none kV10 dc10 pm10 an10 cd10 ct10), sl10⟩) (c10 : PySem.W.codeIn K cd10 "_law_spans_are_good" = true) (k10 : PySem.W.keepIn K (.ref f10) = true)
    (a11 : PySem.W.nsIn K mainGlobals "_law_row_is_good" = some (some (.ref f11))) (l11 : K.lookup f11 = some ⟨oc11, od11, .func (PySem.W.fnOf "_law_row_is_good" "_law_row_is_good" (defArgs s_law_row_is_good) (defBody s_law_row_is_good) (defScope s_law_row_is_good) .none kV11 dc11 pm11 an11 cd11 ct11), sl11⟩) (c11 : PySem.W.codeIn K cd11 "_law_row_is_good" = true) (k11 : PySem.W.keepIn K (.ref f11) = true)
    (a12 : PySem.W.nsIn K mainGlobals "_law_row_fits" = some (some (.ref f12))) (l12 : K.lookup f12 = some ⟨oc12, od12, .func (PySem.W.fnOf "_law_row_fits" "_law_row_fits" (defArgs s_law_row_fits) (defBody s_law_row_fits) (defScope s_law_row_fits) .none kV12 dc12 pm12 an12 cd12 ct12), sl12⟩) (c12 : PySem.W.codeIn K cd12 "_law_row_fits" = true) (k12 : PySem.W.keepIn K (.ref f12) = true)
    (a13 : PySem.W.nsIn K mainGlobals "law" = some (some (.ref f13))) (l13 : K.lookup f13 = some ⟨oc13, od13, .func (PySem.W.fnOf "law" "law" (defArgs s_law) (defBody s_law) (defScope s_law) .none kV13 dc13 pm13 an13 cd13 ct13), sl13⟩) (c13 : PySem.W.codeIn K cd13 "law" = true) (k13 : PySem.W.keepIn K (.ref f13) = true)
    (z0 : PySem.W.nsIn K mainGlobals "len" = some none)
    (z1 : PySem.W.nsIn K mainGlobals "enumerate" = some none)
    (z2 : PySem.W.nsIn K mainGlobals "range" = some none)
    (z3 : PySem.W.nsIn K mainGlobals "zip" = some none)
    (z4 : PySem.W.nsIn K mainGlobals "tuple" = some none)
    (z5 : PySem.W.nsIn K mainGlobals "isinstance" = some none)
    (z6 : PySem.W.nsIn K mainGlobals "list" = some none)
    (z7 : PySem.W.nsIn K mainGlobals "bool" = some none)
    (z8 : PySem.W.nsIn K mainGlobals "int" = some none)
    (z9 : PySem.W.nsIn K mainGlobals "all" = some none)
    (z10 : PySem.W.nsIn K mainGlobals "any" = some none)
    : ∃ fd : FuncData, (∀ (s : Shared) (v : Value), BindsTo s fd ⟨[v], []⟩ [("script", v)]) ∧ ∀ base : Heap, K.In base → base.Ns mainGlobals mg → FnOk l.prog w K mg base CX0 8 fa fd ["script"] (sp_law K) := by
  have e := hfa.symm.trans (PySem.W.mg_of X G a13)
  cases e
  have F0 := fun_mk (st := s_boxes) l0 c0 k0
  have b0 := F0.binds (ps := ["form", "deep"]) fun _ _ _ _ _ _ us hl => match us, hl with | [_, _], _ => rfl
  have F1 := fun_mk (st := s_rows_of) l1 c1 k1
  have b1 := F1.binds (ps := ["form", "deep"]) fun _ _ _ _ _ _ us hl => match us, hl with | [_, _], _ => rfl
  have F2 := fun_mk (st := s_law_cell_at) l2 c2 k2
  have b2 := F2.binds (ps := ["script", "k"]) fun _ _ _ _ _ _ us hl => match us, hl with | [_, _], _ => rfl
  have F3 := fun_mk (st := s_law_mixed) l3 c3 k3
  have b3 := F3.binds (ps := ["cell", "k"]) fun _ _ _ _ _ _ us hl => match us, hl with | [_, _], _ => rfl
  have F4 := fun_mk (st := s_law_seeds) l4 c4 k4
  have b4 := F4.binds (ps := ["cells", "most"]) fun _ _ _ _ _ _ us hl => match us, hl with | [_, _], _ => rfl
  have F5 := fun_mk (st := s_law_column) l5 c5 k5
  have b5 := F5.binds (ps := ["m", "most"]) fun _ _ _ _ _ _ us hl => match us, hl with | [_, _], _ => rfl
  have F6 := fun_mk (st := s_law_points) l6 c6 k6
  have b6 := F6.binds (ps := ["columns"]) fun _ _ _ _ _ _ us hl => match us, hl with | [_], _ => rfl
  have F7 := fun_mk (st := s_law_codes) l7 c7 k7
  have b7 := F7.binds (ps := ["columns", "point", "turn"]) fun _ _ _ _ _ _ us hl => match us, hl with | [_, _, _], _ => rfl
  have F8 := fun_mk (st := s_law_leaf) l8 c8 k8
  have b8 := F8.binds (ps := ["m"]) fun _ _ _ _ _ _ us hl => match us, hl with | [_], _ => rfl
  have F9 := fun_mk (st := s_law_form) l9 c9 k9
  have b9 := F9.binds (ps := ["columns", "tips"]) fun _ _ _ _ _ _ us hl => match us, hl with | [_, _], _ => rfl
  have F10 := fun_mk (st := s_law_spans_are_good) l10 c10 k10
  have b10 := F10.binds (ps := ["spans", "column"]) fun _ _ _ _ _ _ us hl => match us, hl with | [_, _], _ => rfl
  have F11 := fun_mk (st := s_law_row_is_good) l11 c11 k11
  have b11 := F11.binds (ps := ["row", "columns"]) fun _ _ _ _ _ _ us hl => match us, hl with | [_, _], _ => rfl
  have F12 := fun_mk (st := s_law_row_fits) l12 c12 k12
  have b12 := F12.binds (ps := ["row", "codes"]) fun _ _ _ _ _ _ us hl => match us, hl with | [_, _], _ => rfl
  have F13 := fun_mk (st := s_law) l13 c13 k13
  have b13 := F13.binds (ps := ["script"]) fun _ _ _ _ _ _ us hl => match us, hl with | [_], _ => rfl
  have bl : Bl K mg := ⟨PySem.W.mg_none_of X G z0, PySem.W.mg_none_of X G z1, PySem.W.mg_none_of X G z2, PySem.W.mg_none_of X G z3, PySem.W.mg_none_of X G z4, PySem.W.mg_none_of X G z5, PySem.W.mg_none_of X G z6, PySem.W.mg_none_of X G z7, PySem.W.mg_none_of X G z8, PySem.W.mg_none_of X G z9, PySem.W.mg_none_of X G z10⟩
  refine ⟨PySem.W.fnOf "law" "law" (defArgs s_law) (defBody s_law) (defScope s_law) .none kV13 dc13 pm13 an13 cd13 ct13, fun s v => .of_eq rfl, fun base _ _ => ?_⟩
  have O2 := ok_law_cell_at (P := l.prog) (w := w) (base := base) F2 bl 
  have C_law_cell_at : Callee l.prog w K mg base 1 "_law_cell_at" ["script", "k"] (sp_law_cell_at K) := ⟨_, _, O2, b2, k2, PySem.W.mg_of X G a2⟩
  have O3 := ok_law_mixed (P := l.prog) (w := w) (base := base) F3 bl 
  have C_law_mixed : Callee l.prog w K mg base 1 "_law_mixed" ["cell", "k"] (sp_law_mixed K) := ⟨_, _, O3, b3, k3, PySem.W.mg_of X G a3⟩
  have O6 := ok_law_points (P := l.prog) (w := w) (base := base) F6 bl 
  have C_law_points : Callee l.prog w K mg base 1 "_law_points" ["columns"] (sp_law_points K) := ⟨_, _, O6, b6, k6, PySem.W.mg_of X G a6⟩
  have O7 := ok_law_codes (P := l.prog) (w := w) (base := base) F7 bl 
  have C_law_codes : Callee l.prog w K mg base 1 "_law_codes" ["columns", "point", "turn"] (sp_law_codes K) := ⟨_, _, O7, b7, k7, PySem.W.mg_of X G a7⟩
  have O8 := ok_law_leaf (P := l.prog) (w := w) (base := base) F8 bl 
  have C_law_leaf : Callee l.prog w K mg base 1 "_law_leaf" ["m"] (sp_law_leaf K) := ⟨_, _, O8, b8, k8, PySem.W.mg_of X G a8⟩
  have O10 := ok_law_spans_are_good (P := l.prog) (w := w) (base := base) F10 bl 
  have C_law_spans_are_good : Callee l.prog w K mg base 1 "_law_spans_are_good" ["spans", "column"] (sp_law_spans_are_good K) := ⟨_, _, O10, b10, k10, PySem.W.mg_of X G a10⟩
  have O12 := ok_law_row_fits (P := l.prog) (w := w) (base := base) F12 bl 
  have C_law_row_fits : Callee l.prog w K mg base 1 "_law_row_fits" ["row", "codes"] (sp_law_row_fits K) := ⟨_, _, O12, b12, k12, PySem.W.mg_of X G a12⟩
  have O4 := ok_law_seeds (P := l.prog) (w := w) (base := base) F4 bl (C_law_mixed.mono (by decide))
  have C_law_seeds : Callee l.prog w K mg base 2 "_law_seeds" ["cells", "most"] (sp_law_seeds K) := ⟨_, _, O4, b4, k4, PySem.W.mg_of X G a4⟩
  have O5 := ok_law_column (P := l.prog) (w := w) (base := base) F5 bl (C_law_mixed.mono (by decide))
  have C_law_column : Callee l.prog w K mg base 2 "_law_column" ["m", "most"] (sp_law_column K) := ⟨_, _, O5, b5, k5, PySem.W.mg_of X G a5⟩
  have O11 := ok_law_row_is_good (P := l.prog) (w := w) (base := base) F11 bl (C_law_spans_are_good.mono (by decide))
  have C_law_row_is_good : Callee l.prog w K mg base 2 "_law_row_is_good" ["row", "columns"] (sp_law_row_is_good K) := ⟨_, _, O11, b11, k11, PySem.W.mg_of X G a11⟩
  have R0 : ∀ n : Nat, FnOk l.prog w K mg base CX0 (0 + n) f0 (PySem.W.fnOf "boxes" "boxes" (defArgs s_boxes) (defBody s_boxes) (defScope s_boxes) .none kV0 dc0 pm0 an0 cd0 ct0) ["form", "deep"] (sp_boxes K n) := fun n => by
    induction n with
    | zero => exact FnOk.no fun vs H Q E h => no_boxes h
    | succ n ih => exact ok_boxes (k := 0 + n) (P := l.prog) (w := w) (base := base) F0 bl ⟨_, _, ih, b0, k0, PySem.W.mg_of X G a0⟩
  have O0 := R0 6
  have C_boxes : Callee l.prog w K mg base 6 "boxes" ["form", "deep"] (sp_boxes K 6) := ⟨_, _, O0, b0, k0, PySem.W.mg_of X G a0⟩
  have R9 : ∀ n : Nat, FnOk l.prog w K mg base CX0 (0 + n) f9 (PySem.W.fnOf "_law_form" "_law_form" (defArgs s_law_form) (defBody s_law_form) (defScope s_law_form) .none kV9 dc9 pm9 an9 cd9 ct9) ["columns", "tips"] (sp_law_form K n) := fun n => by
    induction n with
    | zero => exact FnOk.no fun vs H Q E h => no_law_form h
    | succ n ih => exact ok_law_form (k := 0 + n) (P := l.prog) (w := w) (base := base) F9 bl ⟨_, _, ih, b9, k9, PySem.W.mg_of X G a9⟩
  have O9 := R9 6
  have C_law_form : Callee l.prog w K mg base 6 "_law_form" ["columns", "tips"] (sp_law_form K 6) := ⟨_, _, O9, b9, k9, PySem.W.mg_of X G a9⟩
  have O1 := ok_rows_of (P := l.prog) (w := w) (base := base) F1 bl (C_boxes.mono (by decide))
  have C_rows_of : Callee l.prog w K mg base 7 "rows_of" ["form", "deep"] (sp_rows_of K) := ⟨_, _, O1, b1, k1, PySem.W.mg_of X G a1⟩
  exact ok_law F13 bl (C_law_cell_at.mono (by decide)) (C_law_points.mono (by decide)) (C_law_seeds.mono (by decide)) (C_rows_of.mono (by decide)) (C_law_column.mono (by decide)) (C_law_leaf.mono (by decide)) (C_law_form.mono (by decide)) (C_law_codes.mono (by decide)) (C_law_mixed.mono (by decide)) (C_law_row_is_good.mono (by decide)) (C_law_row_fits.mono (by decide))
theorem walk {l : PySem.W.OpenLaw} {q : Program} {loose : List Str} {XP : (Str → Option Value) → Heap → Prop} {YP : World → Heap → Prop} {d : DefRec} {K : Params → PySem.W.Frag} (hn : l.most = some 63) (hdf : d.params.defaults = [])
    (hY : ∀ (w : World) (h : Heap), YP w h → (K w.params).In h)
    (F : ∀ (w : World) (mg : Str → Option Value) (fa : Addr) (h : Heap), (K w.params).In h → h.Ns mainGlobals mg → mg d.name = some (.ref fa) →
      ∃ fd : FuncData, (∀ (s : Shared) (u : Value), BindsTo s fd ⟨[u], []⟩ [("script", u)]) ∧ ∀ base : Heap, (K w.params).In base → base.Ns mainGlobals mg → FnOk l.prog w (K w.params) mg base CX0 8 fa fd ["script"] (sp_law (K w.params))) :
    PySem.W.WalkO q loose XP YP l.row.toRowW d [] (fun f vs => PySem.call f vs) :=
  L2.walk_of (n := 63) (k := 8) (x := "script") (CX := fun _ => CX0) (sp := fun w => sp_law (K w.params)) hn (by decide) hdf ⟨rfl, by decide, by decide⟩ hY F (fun _ _ a ns hl _ hS => ⟨a, ns, rfl, hS, hl, fun _ => rfl⟩) fun _ _ _ _ _ z => z
end My
def PySem.W.Fast.tw12429054848058787754 : Unit := ()
def PySem.W.Fast.tw12795940719625613999 : Unit := ()
def PySem.W.Fast.tw12540622047512262403 : Unit := ()
def PySem.W.Fast.tw16408048534799089697 : Unit := ()
def PySem.W.Fast.tw371818965111544114 : Unit := ()
def PySem.W.Fast.tw4733848981898074919 : Unit := ()
def PySem.W.Fast.tw7219500822721064734 : Unit := ()
def PySem.W.Fast.tw11544038941284332345 : Unit := ()
def PySem.W.Fast.tw9891940944924961856 : Unit := ()
def PySem.W.Fast.tw16716563370100021901 : Unit := ()
def PySem.W.Fast.tw18073695896505704826 : Unit := ()
def PySem.W.Fast.tw12101284769508240476 : Unit := ()
def PySem.W.Fast.tw18339624220762273244 : Unit := ()
def PySem.W.Fast.tw4137493294435461283 : Unit := ()
def PySem.W.Fast.tw5115635909115300898 : Unit := ()
def PySem.W.Fast.tw6283417892465198562 : Unit := ()
def PySem.W.Fast.tw12912444679919032193 : Unit := ()
def PySem.W.Fast.tw5603076755336114327 : Unit := ()
def PySem.W.Fast.tw10011005734109694838 : Unit := ()
def PySem.W.Fast.tw5463250975472219243 : Unit := ()
def PySem.W.Fast.tw16707522932301060812 : Unit := ()
def PySem.W.Fast.tw9150623115666307664 : Unit := ()
def PySem.W.Fast.tw17496813541123131441 : Unit := ()
def PySem.W.Fast.tw16254886365764130880 : Unit := ()
def PySem.W.Fast.tw3724333225944576719 : Unit := ()
def PySem.W.Fast.tw3936770913251275978 : Unit := ()
def PySem.W.Fast.tw1857209993679681930 : Unit := ()
def PySem.W.Fast.tw16351781619389416988 : Unit := ()
def PySem.W.Fast.tw2418418216609469273 : Unit := ()
def PySem.W.Fast.tw12512064105933563203 : Unit := ()
def PySem.W.Fast.tw7390705478384037399 : Unit := ()
def PySem.W.Fast.tw9434544053429463895 : Unit := ()
def PySem.W.Fast.tw417339143568366535 : Unit := ()
def PySem.W.Fast.tw15299681368289763930 : Unit := ()
def PySem.W.Fast.tw14413555756187649863 : Unit := ()
def PySem.W.Fast.tw12774690832630378886 : Unit := ()
def PySem.W.Fast.tw1596240226743207075 : Unit := ()
def PySem.W.Fast.tw10691231848087979243 : Unit := ()
def PySem.W.Fast.tw9205448528964138118 : Unit := ()
def PySem.W.Fast.tw9410752319015881740 : Unit := ()
def PySem.W.Fast.tw14450916857851199388 : Unit := ()
def PySem.W.Fast.tw9586059446660496871 : Unit := ()
def PySem.W.Fast.tw3640110654447800028 : Unit := ()
def PySem.W.Fast.tw8761669376443200068 : Unit := ()
def PySem.W.Fast.tw9133457601192517333 : Unit := ()
def PySem.W.Fast.tw17808817682441669522 : Unit := ()
def PySem.W.Fast.tw12063141732172351889 : Unit := ()
def PySem.W.Fast.tw12900655761650087251 : Unit := ()
def PySem.W.Fast.tw8321007911796344852 : Unit := ()
def PySem.W.Fast.tw12436847753150919452 : Unit := ()
def PySem.W.Fast.tw10160185691457802137 : Unit := ()
def PySem.W.Fast.tw13244939773095402338 : Unit := ()
def PySem.W.Fast.tw13302352383341256288 : Unit := ()
def PySem.W.Fast.tw5997090863631303851 : Unit := ()
def PySem.W.Fast.tw10824969299126089626 : Unit := ()
def PySem.W.Fast.tw5638334055438400352 : Unit := ()
def PySem.W.Fast.tw13289808245482361856 : Unit := ()
def PySem.W.Fast.tw4137337899875402777 : Unit := ()
def PySem.W.Fast.tw3308338250298168421 : Unit := ()
def PySem.W.Fast.tw4891293150850333999 : Unit := ()
def PySem.W.Fast.tw11035884843212037531 : Unit := ()
def PySem.W.Fast.tw14333938678658640389 : Unit := ()
def PySem.W.Fast.tw4161457813988518311 : Unit := ()
def PySem.W.Fast.tw539346886213291031 : Unit := ()
def PySem.W.Fast.tw5687663162098611152 : Unit := ()
def PySem.W.Fast.tw9154273925587452639 : Unit := ()
def PySem.W.Fast.tw17488033684242124019 : Unit := ()
def PySem.W.Fast.tw8962114195331235246 : Unit := ()
def PySem.W.Fast.tw10079940971958685250 : Unit := ()
def PySem.W.Fast.tw18080190524684173724 : Unit := ()
def PySem.W.Fast.tw14500780592544127059 : Unit := ()
def PySem.W.Fast.tw15086258301337927563 : Unit := ()
def PySem.W.Fast.tw15497544873185827386 : Unit := ()
def PySem.W.Fast.tw5395420750440947018 : Unit := ()
def PySem.W.Fast.tw6005264423569577473 : Unit := ()
def PySem.W.Fast.tw13444523730010180399 : Unit := ()
def PySem.W.Fast.tw17061974403305591909 : Unit := ()
def PySem.W.Fast.tw18112087236857455980 : Unit := ()
def PySem.W.Fast.tw9484560683323541082 : Unit := ()
def PySem.W.Fast.tw16335257709225518364 : Unit := ()
def PySem.W.Fast.tw5163361268393653589 : Unit := ()
def PySem.W.Fast.tw1791342239351815838 : Unit := ()
def PySem.W.Fast.tw176741242176525311 : Unit := ()
def PySem.W.Fast.tw10494037654526124013 : Unit := ()
def PySem.W.Fast.tw3859316174803132374 : Unit := ()
def PySem.W.Fast.tw13602630469924172706 : Unit := ()
def PySem.W.Fast.tw7331142016265546691 : Unit := ()
def PySem.W.Fast.tw12721229381254297012 : Unit := ()
def PySem.W.Fast.tw2539119814300289163 : Unit := ()
def PySem.W.Fast.tw15923356624273418755 : Unit := ()
def PySem.W.Fast.tw15538326979393763451 : Unit := ()
def PySem.W.Fast.tw16914488603533800593 : Unit := ()
def PySem.W.Fast.tw13547021533747162163 : Unit := ()
def PySem.W.Fast.tw14874886975991881394 : Unit := ()
def PySem.W.Fast.tw161063417380183521 : Unit := ()
def PySem.W.Fast.tw1556732634994930533 : Unit := ()
def PySem.W.Fast.tw2337789496655258627 : Unit := ()
def PySem.W.Fast.tw17963513956780750954 : Unit := ()
def PySem.W.Fast.tw7223511548742558082 : Unit := ()
def PySem.W.Fast.tw2749292085580262155 : Unit := ()
def PySem.W.Fast.tw16326361340846205405 : Unit := ()
def PySem.W.Fast.tw17865379052317452183 : Unit := ()
def PySem.W.Fast.tw13636307873837466377 : Unit := ()
def PySem.W.Fast.tw9152423961012056858 : Unit := ()
def PySem.W.Fast.tw10596974680338129194 : Unit := ()
def PySem.W.Fast.tw5954558378938967972 : Unit := ()
open PySem PySem.W PyProof.Rows
set_option maxRecDepth 100000 in
set_option maxHeartbeats 0 in
theorem PySem.Challenge.cw_rowjudge_k67_rows_of_a_form_holds : PySem.Challenge.rw_rowjudge_k67_rows_of_a_form.Holds := by
  w_on; o_law; k_head; (case hw => w_witness2)
  k_fill
  refine My.walk (l := PySem.Challenge.rw_rowjudge_k67_rows_of_a_form) rfl rfl (fun w h Y => PySem.W.kIn_of Y) ?F
  case F =>
    intro w mg fa h KX G hmg
    refine' My.all_mk KX G hmg ?a0 ?l0 ?c0 ?k0 ?a1 ?l1 ?c1 ?k1 ?a2 ?l2 ?c2 ?k2 ?a3 ?l3 ?c3 ?k3 ?a4 ?l4 ?c4 ?k4 ?a5 ?l5 ?c5 ?k5 ?a6 ?l6 ?c6 ?k6 ?a7 ?l7 ?c7 ?k7 ?a8 ?l8 ?c8 ?k8 ?a9 ?l9 ?c9 ?k9 ?a10 ?l10 ?c10 ?k10 ?a11 ?l11 ?c11 ?k11 ?a12 ?l12 ?c12 ?k12 ?a13 ?l13 ?c13 ?k13 ?z0 ?z1 ?z2 ?z3 ?z4 ?z5 ?z6 ?z7 ?z8 ?z9 ?z10 
    (case a0 => k_is); (case l0 => k_is); (case c0 => k_is); (case k0 => k_is)
    (case a1 => k_is); (case l1 => k_is); (case c1 => k_is); (case k1 => k_is)
    (case a2 => k_is); (case l2 => k_is); (case c2 => k_is); (case k2 => k_is)
    (case a3 => k_is); (case l3 => k_is); (case c3 => k_is); (case k3 => k_is)
    (case a4 => k_is); (case l4 => k_is); (case c4 => k_is); (case k4 => k_is)
    (case a5 => k_is); (case l5 => k_is); (case c5 => k_is); (case k5 => k_is)
    (case a6 => k_is); (case l6 => k_is); (case c6 => k_is); (case k6 => k_is)
    (case a7 => k_is); (case l7 => k_is); (case c7 => k_is); (case k7 => k_is)
    (case a8 => k_is); (case l8 => k_is); (case c8 => k_is); (case k8 => k_is)
    (case a9 => k_is); (case l9 => k_is); (case c9 => k_is); (case k9 => k_is)
    (case a10 => k_is); (case l10 => k_is); (case c10 => k_is); (case k10 => k_is)
    (case a11 => k_is); (case l11 => k_is); (case c11 => k_is); (case k11 => k_is)
    (case a12 => k_is); (case l12 => k_is); (case c12 => k_is); (case k12 => k_is)
    (case a13 => k_is); (case l13 => k_is); (case c13 => k_is); (case k13 => k_is)
    (case z0 => k_is)
    (case z1 => k_is)
    (case z2 => k_is)
    (case z3 => k_is)
    (case z4 => k_is)
    (case z5 => k_is)
    (case z6 => k_is)
    (case z7 => k_is)
    (case z8 => k_is)
    (case z9 => k_is)
    (case z10 => k_is)


