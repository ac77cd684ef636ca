import PyProof.Rows.All
import Wide.All
import OpenK.AllK
import Wide.FinOn
import Lean
import PyProof.EqAt
import PyProof.EqKinds
import PyProof.TupleCall
import KE.KIntText
import KE.KTryMore
import KE.KIsAll
import PySem.Challenge.RW_rowjudge_k16_domains_read
set_option Elab.async false
set_option linter.all false
set_option maxRecDepth 100000
/-! THE HAND LAYER, for ints, bools, texts, own classes, LISTS and tuples (index, slices, in, append, pop ..), calls, loops. Paste it whole ahead of your own text; what your proof does not reach may be deleted. -/
namespace L2
open PySem PySem.Spec PyProof.Rows

/-- a key: an int or a str -/
abbrev Key := Sum Int Str
def keyIs : Key → Value → Bool
  | .inl k, v => Value.isInt k v
  | .inr x, v => Value.isStrOf x v
def keyH (w : World) : Key → Int
  | .inl k => hashInt k
  | .inr x => hashStr w x
theorem keyIs_shape : ∀ {k : Key} {v : Value}, keyIs k v = true → (∃ i t, k = Sum.inl i ∧ v = Value.int i t) ∨ (∃ x t, k = Sum.inr x ∧ v = Value.str x t)
  | .inl i, v, h => by
    obtain ⟨t, e⟩ := Value.isInt_shape (k := i) (v := v) h
    exact .inl ⟨i, t, rfl, e⟩
  | .inr x, v, h => by
    obtain ⟨t, e⟩ := Value.isStrOf_shape (x := x) (v := v) h
    exact .inr ⟨x, t, rfl, e⟩
theorem key_ll (a b : Int) : decide ((Sum.inl a : Key) = Sum.inl b) = (a == b) := by
  by_cases e : a = b
  · subst e; simp
  · have h : ¬ (Sum.inl a : Key) = Sum.inl b := fun q => e (Sum.inl.inj q)
    rw [decide_eq_false h]
    exact (beq_eq_false_iff_ne.mpr e).symm
theorem key_rr (a b : Str) : decide ((Sum.inr a : Key) = Sum.inr b) = decide (a = b) := by
  by_cases e : a = b
  · subst e; simp
  · have h : ¬ (Sum.inr a : Key) = Sum.inr b := fun q => e (Sum.inr.inj q)
    rw [decide_eq_false h, decide_eq_false e]
theorem key_lr (a : Int) (b : Str) : decide ((Sum.inl a : Key) = Sum.inr b) = false := decide_eq_false (fun q => nomatch q)
theorem key_rl (a : Str) (b : Int) : decide ((Sum.inr a : Key) = Sum.inl b) = false := decide_eq_false (fun q => nomatch q)

def mixKind (prog : Program) (w : World) : PySem.KeyKind prog w Key where
  is := keyIs
  hash := keyH w
  inj := fun v a b ha hb => by
    rcases keyIs_shape ha with ⟨i, t, rfl, rfl⟩ | ⟨x, t, rfl, rfl⟩
    · rcases keyIs_shape hb with ⟨j, u, rfl, e⟩ | ⟨y, u, rfl, e⟩
      · injection e with e1 _; rw [e1]
      · exact nomatch e
    · rcases keyIs_shape hb with ⟨j, u, rfl, e⟩ | ⟨y, u, rfl, e⟩
      · exact nomatch e
      · injection e with e1 _; rw [e1]
  byValue := fun k v h => by
    rcases keyIs_shape h with ⟨i, t, rfl, rfl⟩ | ⟨x, t, rfl, rfl⟩ <;> rfl
  pyHash := fun hv h => by
    rcases keyIs_shape hv with ⟨i, t, rfl, rfl⟩ | ⟨x, t, rfl, rfl⟩
    · exact wpAny_pyHash_int h
    · exact wpAny_pyHash_str h
  eqBool := fun hu hv h => by
    rcases keyIs_shape hu with ⟨i, t, rfl, rfl⟩ | ⟨x, t, rfl, rfl⟩
    · rcases keyIs_shape hv with ⟨j, u, rfl, rfl⟩ | ⟨y, u, rfl, rfl⟩
      · rw [key_ll] at h; exact wpAny_eqBool_int h
      · rw [key_lr] at h; exact SeqAt.EqAt.int_str i t y u _ _ _ _ h
    · rcases keyIs_shape hv with ⟨j, u, rfl, rfl⟩ | ⟨y, u, rfl, rfl⟩
      · rw [key_rl] at h; exact SeqAt.EqAt.str_int x t j u _ _ _ _ h
      · rw [key_rr] at h; exact wpAny_eqBool_str h
  «strs» := fun k x t v h => by
    rcases keyIs_shape h with ⟨i, u, rfl, e⟩ | ⟨y, u, rfl, e⟩
    · exact nomatch e
    · injection e with e1 _
      subst e1
      cases v <;> rfl

end L2

namespace L2
open PySem PySem.Spec PyProof.Rows

/-- a value, without the heap -/
inductive V where
  | non | bl (b : Bool) | int (i : Int) | str (x : Str) | byt (b : Array UInt8) | flt (b : UInt64) | ref (a : Addr) | ty (n : String)
  deriving DecidableEq

def RelV : V → Value → Prop
  | .non, u => u = Value.none
  | .bl b, u => u = Value.bool b
  | .int i, u => ∃ t, u = Value.int i t
  | .str x, u => ∃ t, u = Value.str x t
  | .byt b, u => ∃ t, u = Value.bytes b t
  | .flt b, u => ∃ t, u = Value.float b t
  | .ref a, u => u = Value.ref a
  | .ty n, u => u = Value.type n

abbrev Vals : List V → List Value → Prop := Paired RelV
theorem Vals.length {xs : List V} {us : List Value} (r : Vals xs us) : xs.length = us.length := Paired.length r
theorem Vals.get : ∀ {xs : List V} {us : List Value} {i : Nat} {x : V}, Vals xs us → xs[i]? = some x → ∃ u, us[i]? = some u ∧ RelV x u
  | _, _, _, _, .nil, e => by simp at e
  | _, _, 0, _, .cons r _, e => by simp at e; subst e; exact ⟨_, rfl, r⟩
  | _, _, i + 1, x, .cons _ t, e => by
    obtain ⟨u, h1, h2⟩ := Vals.get (i := i) (x := x) t (by simpa using e)
    exact ⟨u, by simpa using h1, h2⟩
theorem Vals.set {x : V} {u : Value} (r : RelV x u) : ∀ {xs : List V} {us : List Value} (i : Nat), Vals xs us → Vals (xs.set i x) (us.set i u)
  | _, _, _, .nil => .nil
  | _, _, 0, .cons _ t => .cons r t
  | _, _, i + 1, .cons q t => .cons q (Vals.set r i t)
theorem Vals.append : ∀ {xs ys : List V} {us ws : List Value}, Vals xs us → Vals ys ws → Vals (xs ++ ys) (us ++ ws)
  | _, _, _, _, .nil, s => s
  | _, _, _, _, .cons r t, s => .cons r (Vals.append t s)
theorem Vals.take : ∀ {xs : List V} {us : List Value} (n : Nat), Vals xs us → Vals (xs.take n) (us.take n)
  | _, _, 0, _ => .nil
  | _, _, _ + 1, .nil => .nil
  | _, _, n + 1, .cons r t => .cons r (Vals.take n t)
theorem Vals.drop : ∀ {xs : List V} {us : List Value} (n : Nat), Vals xs us → Vals (xs.drop n) (us.drop n)
  | _, _, 0, r => r
  | _, _, _ + 1, .nil => .nil
  | _, _, n + 1, .cons _ t => Vals.drop n t
def RelO : Option V → Option Value → Prop
  | some v, some u => RelV v u
  | none, none => True
  | _, _ => False
def KV {κ : Type} : List (κ × V) → List (κ × Value) → Prop := Paired fun (p : κ × V) (q : κ × Value) => p.1 = q.1 ∧ RelV p.2 q.2

/-- a key of a dict (00_mix): an int or a text -/
def kV : Key → V
  | .inl i => .int i
  | .inr x => .str x

/-- what stands at a tracked address -/
inductive HO where
  /-- a list -/
  | lst (xs : List V)
  /-- a tuple (never changes) -/
  | tup (xs : List V)
  /-- a dict whose keys are ints and texts; one whose keys are tuples of ints and texts (the empty one is both) -/
  | dK (kvs : List (Key × V)) | dT (kvs : List (List Key × V))
  /-- a set of ints: its members, its size -/
  | set (S : Int → Bool) (n : Nat)
  /-- an instance of the class at C, its dict at dx, its attributes -/
  | ins (C dx : Addr) (fs : List (Str × V))
  /-- the dict of the instance at x -/
  | own (x : Addr)
  /-- the dict of an exception -/
  | xd (fs : List (Str × V))
  /-- a bound method, f of x -/
  | met (f x : Addr)
  /-- a range object lo, lo + 1, .. below hi -/
  | rng (lo hi : Int)
  /-- a thing that is known to the object (the script; a dict while a loop walks it): read, never written while it is so -/
  | frz (o : Obj) (u : HO)
  /-- a code object's table -/
  | tbl (ps : Array Value)
  /-- any other thing, by what is true of its one object (a def of one's own: SetO a S n := HO.ext fun h => ..) -/
  | ext (φ : Heap → Prop)

abbrev Hp := Addr → Option HO
def upd (H : Hp) (a : Addr) (o : HO) : Hp := fun b => if b = a then some o else H b
theorem upd_same {H : Hp} {a : Addr} {o : HO} : upd H a o a = some o := by unfold upd; rw [if_pos rfl]
theorem upd_ne {H : Hp} {a b : Addr} {o : HO} (h : b ≠ a) : upd H a o b = H b := by unfold upd; rw [if_neg h]
/-- two objects of different content stand apart -/
theorem ne_of {H : Hp} {a b : Addr} {o u : HO} (h : H a = some o) (h' : H b = some u) (d : o ≠ u) : a ≠ b := by
  intro e; subst e; rw [h] at h'; exact d (Option.some.inj h')
theorem ne_of_none {H : Hp} {a b : Addr} {o : HO} (h : H a = some o) (h' : H b = none) : a ≠ b := by
  intro e; subst e; rw [h] at h'; cases h'

section
variable (P : Program) (w : World)
def ObjOk (H : Hp) (h : Heap) (a : Addr) : HO → Prop
  | .lst xs => xs.length ≤ sizeLine ∧ ∃ (its : List Value) (n : Nat), Vals xs its ∧ h.get? a = some { cls := .type "list", data := .seq its.toArray n }
  | .tup xs => xs.length ≤ sizeLine ∧ ∃ its : List Value, Vals xs its ∧ IsTup h a its.toArray
  | .dK kvs => kvs.length ≤ sizeLine ∧ (a == sysModules) = false ∧ ∃ vs, KV kvs vs ∧ h.DictOf (mixKind P w) a vs
  | .dT kvs => kvs.length ≤ sizeLine ∧ (a == sysModules) = false ∧ ∃ xs : List (List Key × Addr × Value),
      Paired (fun (p : List Key × V) (q : List Key × Addr × Value) => p.1 = q.1 ∧ H q.2.1 = some (.tup (p.1.map kV)) ∧ RelV p.2 q.2.2) kvs xs ∧
      ∃ o es ep, h.get? a = some o ∧ o.ExactDict ∧ o.data = .dict es ep ∧ es.toList = xs.map (entryOfKey (tupleKind (mixKind P w))) ∧ (xs.map (·.1)).Nodup
  | .set S n => h.SetOf (intKind P w) a S n
  | .ins C dx fs => H dx = some (.own a) ∧ fs.length ≤ 1000 ∧ dx ≠ a ∧ h.get? a = some (PySem.W.instObj C dx) ∧
      ∃ mA, h.Ns1 dx mA ∧ (∀ f, RelO (fs.lookup f) (mA f)) ∧ PySem.Within mA (fs.map (·.1))
  | .own _ => ∃ o, h.get? a = some o
  | .xd fs => ∃ mA, h.Ns1 a mA ∧ ∀ f, RelO (fs.lookup f) (mA f)
  | .rng lo hi => ∃ t u v, h.get? a = some { cls := .type "range", data := .fields #[.int lo t, .int hi u, .int 1 v] }
  | .frz o u => h.get? a = some o ∧ ObjOk H h a u
  | .tbl ps => h.get? a = some { cls := .none, data := .fields ps }
  | .met f x => h.get? a = some (PySem.W.methodObj (.ref f) (.ref x))
  | .ext φ => φ h ∧ (∃ o, h.get? a = some o) ∧ ∀ h1 h2 : Heap, φ h1 → (∀ o, h1.get? a = some o → h2.get? a = some o) → φ h2
/-- the abstract heap is held -/
def HOk (H : Hp) (h : Heap) : Prop := ∀ a o, H a = some o → ObjOk P w H h a o
end

section
variable {P : Program} {w : World} {H H' : Hp} {h h' : Heap} {a : Addr} {o : HO}
theorem ObjOk.lt (x : ObjOk P w H h a o) : a < h.objs.size := by
  cases o with
  | lst xs => obtain ⟨_, _, _, _, e⟩ := x; exact Heap.lt_size e
  | tup xs => obtain ⟨_, _, _, p⟩ := x; exact p.lt
  | dK kvs => obtain ⟨_, _, _, _, o, _, _, e, _⟩ := x; exact Heap.lt_size e
  | dT kvs => obtain ⟨_, _, _, _, o, _, _, e, _⟩ := x; exact Heap.lt_size e
  | set S n => obtain ⟨o, _, _, _, e, _⟩ := x; exact Heap.lt_size e
  | ins C dx fs => obtain ⟨_, _, _, e, _⟩ := x; exact Heap.lt_size e
  | own y => obtain ⟨_, e⟩ := x; exact Heap.lt_size e
  | xd fs => obtain ⟨_, ⟨_, _, _, e, _⟩, _⟩ := x; exact Heap.lt_size e
  | rng lo hi => obtain ⟨_, _, _, e⟩ := x; exact Heap.lt_size e
  | frz ob u => obtain ⟨e, _⟩ := x; exact Heap.lt_size e
  | tbl ps => exact Heap.lt_size (show h.get? a = some _ from x)
  | met f y => exact Heap.lt_size (show h.get? a = some _ from x)
  | ext φ => obtain ⟨_, ⟨_, e⟩, _⟩ := x; exact Heap.lt_size e
theorem Paired.mapP {α β : Type} {F G : α → β → Prop} : ∀ {l₁ : List α} {l₂ : List β}, Paired F l₁ l₂ → (∀ a b, F a b → G a b) → Paired G l₁ l₂
  | _, _, .nil, _ => .nil
  | _, _, .cons r t, f => .cons (f _ _ r) (Paired.mapP t f)
/-- what an object's description leans on: its own object, its own dict, the tuples -/
theorem ObjOk.stay (x : ObjOk P w H h a o) (k : ∀ b u, (b = a ∨ H b = some (.own a)) → h.get? b = some u → h'.get? b = some u)
    (ho : ∀ b, H b = some (.own a) → H' b = some (.own a)) (ht : ∀ b xs, H b = some (.tup xs) → H' b = some (.tup xs)) : ObjOk P w H' h' a o := by
  induction o with
  | lst xs => obtain ⟨z, its, n, r, e⟩ := x; exact ⟨z, its, n, r, k _ _ (.inl rfl) e⟩
  | tup xs => obtain ⟨z, its, r, ob, e, c⟩ := x; exact ⟨z, its, r, ob, k _ _ (.inl rfl) e, c⟩
  | dK kvs => obtain ⟨z, y, vs, r, ob, es, ep, e, c⟩ := x; exact ⟨z, y, vs, r, ob, es, ep, k _ _ (.inl rfl) e, c⟩
  | dT kvs =>
    obtain ⟨z, y, xs, r, ob, es, ep, e, c⟩ := x
    exact ⟨z, y, xs, Paired.mapP r fun p q z => ⟨z.1, ht _ _ z.2.1, z.2.2⟩, ob, es, ep, k _ _ (.inl rfl) e, c⟩
  | set S n => obtain ⟨ob, es, ep, t, e, c⟩ := x; exact ⟨ob, es, ep, t, k _ _ (.inl rfl) e, c⟩
  | ins C dx fs =>
    obtain ⟨d, z, ne, e, mA, ⟨od, es, ep, e2, c⟩, r⟩ := x
    exact ⟨ho _ d, z, ne, k _ _ (.inl rfl) e, mA, ⟨od, es, ep, k _ _ (.inr d) e2, c⟩, r⟩
  | own y => obtain ⟨ob, e⟩ := x; exact ⟨ob, k _ _ (.inl rfl) e⟩
  | xd fs => obtain ⟨mA, ⟨od, es, ep, e, c⟩, r⟩ := x; exact ⟨mA, ⟨od, es, ep, k _ _ (.inl rfl) e, c⟩, r⟩
  | rng lo hi => obtain ⟨t, u, v, e⟩ := x; exact ⟨t, u, v, k _ _ (.inl rfl) e⟩
  | frz ob u ih => obtain ⟨e, q⟩ := x; exact ⟨k _ _ (.inl rfl) e, ih q⟩
  | tbl ps =>
    have e : h.get? a = some { cls := .none, data := .fields ps } := x
    show h'.get? a = some { cls := .none, data := .fields ps }
    exact k a _ (.inl rfl) e
  | met f y =>
    have e : h.get? a = some (PySem.W.methodObj (.ref f) (.ref y)) := x
    show h'.get? a = some (PySem.W.methodObj (.ref f) (.ref y))
    exact k a _ (.inl rfl) e
  | ext φ => obtain ⟨p, ⟨o, e⟩, st⟩ := x; exact ⟨st _ _ p fun o q => k _ _ (.inl rfl) q, ⟨o, k _ _ (.inl rfl) e⟩, st⟩
theorem HOk.lt (x : HOk P w H h) (e : H a = some o) : a < h.objs.size := (x a o e).lt
theorem HOk.fresh (x : HOk P w H h) (e : h.objs.size ≤ a) : H a = none := by
  cases q : H a with
  | none => rfl
  | some u => exact absurd (Nat.lt_of_lt_of_le (x.lt q) e) (Nat.lt_irrefl _)
/-- every object of the heap is kept -/
theorem HOk.kept (x : HOk P w H h) (k : ∀ b u, h.get? b = some u → h'.get? b = some u) : HOk P w H h' := fun a o e =>
  (x a o e).stay (fun b u _ q => k b u q) (fun _ q => q) fun _ _ q => q
/-- a new object is laid and tracked -/
theorem HOk.laid (x : HOk P w H h) (k : ∀ b u, h.get? b = some u → h'.get? b = some u) (hp : h.objs.size ≤ a) (new : ObjOk P w (upd H a o) h' a o) : HOk P w (upd H a o) h' := fun b u e => by
  have hn := x.fresh hp
  by_cases hb : b = a
  · subst hb; rw [upd_same] at e; cases e; exact new
  · rw [upd_ne hb] at e
    exact (x b u e).stay (fun c v _ q => k c v q) (fun c q => by rw [upd_ne (ne_of_none q hn)]; exact q) fun c xs q => by rw [upd_ne (ne_of_none q hn)]; exact q
end

/-- what may be read as u: it is u, or a known u -/
def Rd (H : Hp) (a : Addr) (u : HO) : Prop := H a = some u ∨ ∃ o, H a = some (.frz o u)
theorem Rd.ok {P : Program} {w : World} {H : Hp} {h : Heap} {a : Addr} {u : HO} (r : Rd H a u) (x : HOk P w H h) : ObjOk P w H h a u := by
  rcases r with r | ⟨o, r⟩
  · exact x a u r
  · obtain ⟨_, q⟩ := x a _ r
    exact q
/-- what may be written -/
def Mut : Option HO → Prop
  | some (.lst _) => True
  | some (.dK _) => True
  | some (.dT _) => True
  | some (.set _ _) => True
  | some (.ins _ _ _) => True
  | some (.ext _) => True
  | _ => False
section
variable {P : Program} {w : World} {H : Hp} {h h' : Heap} {x e : Addr} {o' : HO}
/-- the object at e is changed: x itself, or the dict of the instance x -/
theorem HOk.write (ok : HOk P w H h) (mu : Mut (H x)) (he : e = x ∨ H e = some (.own x)) (k : ∀ b u, b ≠ e → h.get? b = some u → h'.get? b = some u) (heo : ∃ u, h'.get? e = some u)
    (new : ObjOk P w (upd H x o') h' x o') : HOk P w (upd H x o') h' := fun b u q => by
  have nown : ∀ c y, H c = some (.own y) → c ≠ x := fun c y r z => by subst z; rw [r] at mu; exact mu
  have ntup : ∀ c xs, H c = some (.tup xs) → c ≠ x := fun c xs r z => by subst z; rw [r] at mu; exact mu
  by_cases hb : b = x
  · subst hb; rw [upd_same] at q; cases q; exact new
  · rw [upd_ne hb] at q
    by_cases hbe : b = e
    · have q' : H b = some (.own x) := by
        rcases he with z | z
        · exact absurd (hbe.trans z) hb
        · rw [hbe]; exact z
      rw [q] at q'; cases q'
      obtain ⟨v, hv⟩ := heo
      exact ⟨v, by rw [hbe]; exact hv⟩
    · refine (ok b u q).stay (fun c v hc r => k c v ?_ r) (fun c r => by rw [upd_ne (nown c b r)]; exact r) fun c xs r => by rw [upd_ne (ntup c xs r)]; exact r
      rcases hc with rfl | hc
      · exact hbe
      · rintro rfl
        rcases he with z | z
        · exact nown c b hc z
        · rw [hc] at z; cases z; exact hb rfl
end

/-! ### kept unless tracked; of the frames at fs (the callers') the slots may change (an exception that passes writes there); of the records at ex (iterators) nothing is said -/
structure Un (fs ex : List Addr) (H H' : Hp) (h h' : Heap) : Prop where
  keep : ∀ b o, h.get? b = some o → H b = none → b ∉ fs → b ∉ ex → h'.get? b = some o
  slot : ∀ b o, h.get? b = some o → H b = none → b ∈ fs → b ∉ ex → ∃ sl, h'.get? b = some { o with slots := sl }
  free : ∀ b o, h.get? b = some o → H b = none → b ∉ ex → H' b = none
  there : ∀ b o, h.get? b = some o → b ∉ ex → ∃ o', h'.get? b = some o'
  tups : ∀ b xs, H b = some (.tup xs) → H' b = some (.tup xs)
  frzs : ∀ b o u, H b = some (.frz o u) → H' b = some (.frz o u)
  tbls : ∀ b ps, H b = some (.tbl ps) → ∃ more, H' b = some (.tbl (ps ++ more))
section
variable {fs fs' ex ex' : List Addr} {H H1 H2 : Hp} {h h1 h2 h' : Heap} {a x e : Addr} {o : HO}
theorem Un.any (u : Un fs ex H H1 h h1) {b : Addr} {ob : Obj} (q : h.get? b = some ob) (n : H b = none) (hx : b ∉ ex) : ∃ sl, h1.get? b = some { ob with slots := sl } := by
  by_cases hb : b ∈ fs
  · exact u.slot b ob q n hb hx
  · exact ⟨ob.slots, u.keep b ob q n hb hx⟩
theorem Un.kept (k : ∀ b u, h.get? b = some u → h'.get? b = some u) : Un fs ex H H h h' :=
  ⟨fun b ob q _ _ _ => k b ob q, fun b ob q _ _ _ => ⟨ob.slots, k b ob q⟩, fun _ _ _ n _ => n, fun b ob q _ => ⟨ob, k b ob q⟩, fun _ _ q => q, fun _ _ _ q => q, fun _ ps q => ⟨#[], by rw [q]; simp⟩⟩
theorem Un.refl : Un fs ex H H h h := Un.kept fun _ _ q => q
theorem Un.laid (k : ∀ b u, h.get? b = some u → h'.get? b = some u) (hp : h.objs.size ≤ a) (hn : H a = none) : Un fs ex H (upd H a o) h h' where
  keep := fun b u q _ _ _ => k b u q
  slot := fun b u q _ _ _ => ⟨u.slots, k b u q⟩
  free := fun b u q n _ => by rw [upd_ne (Nat.ne_of_lt (Nat.lt_of_lt_of_le (Heap.lt_size q) hp))]; exact n
  there := fun b u q _ => ⟨u, k b u q⟩
  tups := fun b xs q => by rw [upd_ne (ne_of_none q hn)]; exact q
  frzs := fun b u xs q => by rw [upd_ne (ne_of_none q hn)]; exact q
  tbls := fun b ps q => ⟨#[], by rw [upd_ne (ne_of_none q hn), q]; simp⟩
theorem Un.write (mu : Mut (H x)) (he : e = x ∨ H e = some (.own x)) (k : ∀ b u, b ≠ e → h.get? b = some u → h'.get? b = some u) (heo : ∃ u, h'.get? e = some u) : Un fs ex H (upd H x o) h h' := by
  have hx : ∀ b, H b = none → b ≠ x := fun b n z => by subst z; rw [n] at mu; exact mu
  have hb : ∀ b, H b = none → b ≠ e := fun b n z => by
    subst z
    rcases he with r | r
    · exact hx b n r
    · rw [n] at r; cases r
  have hm : ∀ b u, H b = some u → ¬ Mut (some u) → b ≠ x := fun b u q nm z => by subst z; rw [q] at mu; exact nm mu
  refine ⟨fun b u q n _ _ => k b u (hb b n) q, fun b u q n _ _ => ⟨u.slots, k b u (hb b n) q⟩, fun b u q n _ => by rw [upd_ne (hx b n)]; exact n, fun b u q _ => ?_,
    fun b xs q => by rw [upd_ne (hm b _ q fun z => z)]; exact q, fun b u xs q => by rw [upd_ne (hm b _ q fun z => z)]; exact q, fun b ps q => ⟨#[], by rw [upd_ne (hm b _ q fun z => z), q]; simp⟩⟩
  by_cases hbe : b = e
  · subst hbe; exact heo
  · exact ⟨u, k b u hbe q⟩
end

/-! ### the heap without what is tracked -/
def trk (h : Heap) (H : Hp) : List Addr := (List.range h.objs.size).filter fun a => (H a).isSome
def hidT (h : Heap) (H : Hp) : Heap := PySem.W.hideAll h (trk h H)
theorem hidT_size (h : Heap) (H : Hp) : (hidT h H).objs.size = h.objs.size := PySem.W.hideAll_size _ _
theorem hidT_get {h : Heap} {H : Hp} {b : Addr} {o : Obj} (e : h.get? b = some o) (n : H b = none) : (hidT h H).get? b = some o :=
  PySem.W.hideAll_get _ e fun hm => by
    have q : (H b).isSome = true := (List.mem_filter.mp hm).2
    rw [n] at q; simp at q
theorem of_hidT {h : Heap} {H : Hp} {b : Addr} {o : Obj} (e : (hidT h H).get? b = some o) : h.get? b = some o ∧ H b = none := by
  have e' : h.get? b = some o := PySem.W.of_hideAll (trk h H) e
  refine ⟨e', ?_⟩
  cases q : H b with
  | none => rfl
  | some x =>
    have hm : b ∈ trk h H := List.mem_filter.mpr ⟨List.mem_range.mpr (Heap.lt_size e'), by simp [q]⟩
    have z : (hidT h H).get? b = none := PySem.W.hideAll_none (trk h H) hm
    rw [z] at e; cases e

/-! ### OpenK's ledger, filled with every new object but one -/
def allNews (g h : Heap) (L : Addr) : List (Addr × Obj) := (List.range h.objs.size).filterMap fun a => if a = L ∨ (g.get? a).isSome = true then none else (h.get? a).map fun o => (a, o)
def rest (g h : Heap) (L d : Addr) : List (Addr × Obj) := (allNews g h L).filter fun p => decide (p.1 ≠ d)
end L2

namespace L2
open PySem PySem.Spec PyProof.Rows

/-- the module's facts, over the base: the heap at the law's entry without what is tracked there -/
structure Mod (K : PySem.W.Frag) (mg : Str → Option Value) (base : Heap) : Prop where
  kin : K.In base
  glob : base.Ns mainGlobals mg
  blt : ∃ mb, base.Ns builtinsNs mb ∧ ∀ x : Str, x ≠ "__name__" → mb x = bootBuiltins x
  nolimit : base.NoLimit

/-- the context: a def's body (or a comprehension's block) running. base: fixed through the whole law; s₀, H₀: the entry; outer: the frames whose slots others may change (a def's callers); stack: all frames that run;
   ex: iterators that were made ahead of the entry and are walked here (a comprehension's); fn: the names whose cells were made at the entry (a def: all; a comprehension's block: its own); calm: not within an except suite; pn: pins that every state bears; xe: what is wanted of an exception that leaves the code -/
structure Cx where
  prog : Program
  w : World
  K : PySem.W.Frag
  mg : Str → Option Value
  base : Heap
  A : Around
  N : List Str
  s₀ : Shared
  H₀ : Hp
  env : Env
  outer : List Env
  stack : List Env
  ex : List Addr
  fn : Str → Bool
  calm : Bool
  pn : List (Addr × Obj)
  xe : Value → Shared → Prop
/-- the callers' frames -/
def frs (l : List Env) : List Addr := l.filterMap (·.frame)
abbrev Cx.fs (X : Cx) : List Addr := frs X.outer

def Vis (sc : Scope) (x : Str) : Prop := sc.names.lookup x = some .local ∨ sc.names.lookup x = some .cell ∨ sc.names.lookup x = some .free
def Loc (sc : Scope) (x : Str) : Prop := sc.names.lookup x = some .local ∨ sc.names.lookup x = some .cell
def Look (env : Env) (h : Heap) (m : Str → Option Value) (x : Str) (u : Value) : Prop :=
  (env.kindOf x = some .local ∧ m x = some u) ∨ ((env.kindOf x = some .cell ∨ env.kindOf x = some .free) ∧ ∃ c, env.cells.lookup x = some c ∧ h.IsCell c (some u))

structure Cx.Ok (X : Cx) : Prop where
  mod : Mod X.K X.mg X.base
  kind : X.env.scope.kind = .function
  glob : X.env.globals = mainGlobals
  blt : X.env.builtins = builtinsNs
  above : X.s₀.heap.objs.size ≤ X.env.locals
  inj : ∀ x y c, X.env.cells.lookup x = some c → X.env.cells.lookup y = some c → x = y
  has : ∀ x, (X.env.kindOf x = some .cell ∨ X.env.kindOf x = some .free) → ∃ c, X.env.cells.lookup x = some c
  cab : ∀ x c, X.fn x = true → X.env.cells.lookup x = some c → X.s₀.heap.objs.size ≤ c
  hd : X.calm = true → X.A.handled = none
  frames : X.A.frames = some X.stack
  stk : X.stack = X.outer ∨ (X.stack = X.env :: X.outer ∧ X.env.frame = some X.env.locals)
  exf : ∀ b ∈ X.ex, b ≠ X.env.locals ∧ ∀ x c, X.env.cells.lookup x = some c → c ≠ b
  bs : ∀ b o, X.base.get? b = some o → X.s₀.heap.get? b = some o ∧ X.H₀ b = none
  bsz : X.base.objs.size ≤ X.s₀.heap.objs.size
  noex : ∀ b o, X.base.get? b = some o → b ∉ X.ex
  exfs : ∀ b ∈ X.ex, b ∉ X.fs
  funs : X.s₀.heap.FunFrames X.base X.outer
  frf : ∀ b ∈ X.fs, X.H₀ b = none

structure Inv (X : Cx) (pins : List (Addr × Obj)) (σ : List (Option V)) (H : Hp) (s : Shared) : Prop where
  ok : X.Ok
  os : s.os = X.s₀.os
  bare : AllBare s.gens
  base : Un X.fs X.ex X.H₀ H X.s₀.heap s.heap
  loc : ∃ m, s.heap.Ns X.env.locals m ∧ ∀ (i : Nat) (x : Str) (v : V), X.N[i]? = some x → σ[i]? = some (some v) → Vis X.env.scope x → ∃ u, RelV v u ∧ Look X.env s.heap m x u
  cell : ∀ x c, X.env.cells.lookup x = some c → ∃ v, s.heap.IsCell c v
  free : H X.env.locals = none
  freeC : ∀ x c, X.env.cells.lookup x = some c → H c = none
  pin : ∀ p ∈ X.pn ++ pins, s.heap.get? p.1 = some p.2 ∧ H p.1 = none ∧ p.1 ≠ X.env.locals ∧ p.1 ∉ X.fs ∧ ∀ v, p.2.data ≠ .cell v
  hok : HOk X.prog X.w H s.heap
  len : σ.length = X.N.length

section
variable {X : Cx} {pins : List (Addr × Obj)} {σ : List (Option V)} {H H' : Hp} {s : Shared} {h' : Heap}

theorem Cx.Ok.nofr (ok : X.Ok) {b : Addr} {o : Obj} (e : X.base.get? b = some o) : b ∉ X.fs := fun hb => by
  have := (ok.funs.mem hb).1
  rw [e] at this; cases this
theorem Inv.bs (I : Inv X pins σ H s) : ∀ b o, X.base.get? b = some o → s.heap.get? b = some o ∧ H b = none := fun b o e =>
  ⟨I.base.keep b o (I.ok.bs b o e).1 (I.ok.bs b o e).2 (I.ok.nofr e) (I.ok.noex b o e), I.base.free b o (I.ok.bs b o e).1 (I.ok.bs b o e).2 (I.ok.noex b o e)⟩
theorem Inv.bk (I : Inv X pins σ H s) : ∀ b o, X.base.get? b = some o → s.heap.get? b = some o := fun b o e => (I.bs b o e).1
theorem Inv.mod (I : Inv X pins σ H s) : Mod X.K X.mg X.base := I.ok.mod
theorem Inv.kIn (I : Inv X pins σ H s) : X.K.In s.heap := I.ok.mod.kin.keeps I.bk
theorem Inv.lt (I : Inv X pins σ H s) : X.env.locals < s.heap.objs.size := let ⟨_, hn, _⟩ := I.loc; hn.lt
theorem Inv.sz (I : Inv X pins σ H s) : X.s₀.heap.objs.size ≤ s.heap.objs.size := Nat.le_trans I.ok.above (Nat.le_of_lt I.lt)
theorem Inv.nofs (I : Inv X pins σ H s) {a : Addr} (h : s.heap.objs.size ≤ a) : a ∉ X.fs := fun hb => by
  obtain ⟨_, o, ho, _⟩ := I.ok.funs.mem hb
  exact absurd (Nat.lt_of_lt_of_le (Heap.lt_size ho) (Nat.le_trans I.sz h)) (Nat.lt_irrefl _)
theorem Inv.cne (I : Inv X pins σ H s) : ∀ x c, X.env.cells.lookup x = some c → c ≠ X.env.locals := fun x c e z => by
  obtain ⟨v, o, ho, hd⟩ := I.cell x c e
  obtain ⟨m, ⟨o', es, ep, ho', hd', _⟩, _⟩ := I.loc
  rw [z, ho'] at ho; cases ho; rw [hd'] at hd; cases hd
theorem Inv.funs (I : Inv X pins σ H s) : s.heap.FunFrames X.base X.outer := by
  have all : ∀ (l : List Env), (∀ b ∈ frs l, b ∈ X.fs) → X.s₀.heap.FunFrames X.base l → s.heap.FunFrames X.base l := by
    intro l
    induction l with
    | nil => intro _ _; trivial
    | cons env r ih =>
      intro hs hl
      obtain ⟨hk, ⟨L, o, hf, hn, ho, hd⟩, hr⟩ := hl
      have hL : L ∈ X.fs := hs L (by unfold frs; rw [List.filterMap_cons, hf]; exact List.mem_cons_self)
      obtain ⟨sl, e⟩ := I.base.slot L o ho (I.ok.frf L hL) hL fun z => I.ok.exfs L z hL
      exact ⟨hk, ⟨L, _, hf, hn, e, hd⟩, ih (fun b hb => hs b (by unfold frs; rw [List.filterMap_cons, hf]; exact List.mem_cons_of_mem _ hb)) hr⟩
  exact all X.outer (fun _ hb => hb) I.ok.funs

/-- the frames that run, for a call -/
theorem Inv.stack (I : Inv X pins σ H s) : s.heap.FunFrames X.base X.stack := by
  rcases I.ok.stk with e | ⟨e, hf⟩
  · rw [e]; exact I.funs
  · rw [e]
    obtain ⟨m, hn, _⟩ := I.loc
    refine .cons (by rw [I.ok.kind]; decide) hf hn ?_ I.funs
    exact Heap.get?_none_of_le (Nat.le_trans I.ok.bsz I.ok.above)
theorem Inv.stkSub (I : Inv X pins σ H s) : ∀ b ∈ frs X.stack, b ∈ X.env.locals :: X.fs := fun b hb => by
  rcases I.ok.stk with e | ⟨e, hf⟩
  · rw [e] at hb; exact List.mem_cons_of_mem _ hb
  · rw [e] at hb
    unfold frs at hb
    rw [List.filterMap_cons, hf] at hb
    exact hb
theorem Inv.stkFree (I : Inv X pins σ H s) : ∀ b ∈ frs X.stack, H b = none := fun b hb => by
  rcases List.mem_cons.mp (I.stkSub b hb) with e | hb
  · rw [e]; exact I.free
  · obtain ⟨_, o, ho, _⟩ := I.ok.funs.mem hb
    exact I.base.free b o ho (I.ok.frf b hb) fun z => I.ok.exfs b z hb

/-- THE STEP: the untracked objects but the frame and the records at ch are kept (the callers' frames up to slots), the frame's map is kept, the new abstract heap is held -/
theorem Inv.step {g' : Array GenState} {t' : Nat} {d' : Drawn} {ch : List Addr} (I : Inv X pins σ H s)
    (hch : ∀ b ∈ ch, (b ∈ X.ex ∨ X.s₀.heap.objs.size ≤ b) ∧ b ≠ X.env.locals ∧ (∀ x c, X.env.cells.lookup x = some c → c ≠ b) ∧ ∀ p ∈ X.pn ++ pins, p.1 ≠ b)
    (keep : ∀ b o, b ≠ X.env.locals → b ∉ X.fs → b ∉ ch → s.heap.get? b = some o → H b = none → h'.get? b = some o)
    (slot : ∀ b o, b ≠ X.env.locals → b ∈ X.fs → b ∉ ch → s.heap.get? b = some o → H b = none → ∃ sl, h'.get? b = some { o with slots := sl }) (free : ∀ b o, b ∉ ch → s.heap.get? b = some o → H b = none → H' b = none)
    (there : ∀ b o, b ∉ ch → s.heap.get? b = some o → ∃ o', h'.get? b = some o')
    (tups : ∀ b xs, H b = some (.tup xs) → H' b = some (.tup xs)) (frzs : ∀ b o u, H b = some (.frz o u) → H' b = some (.frz o u)) (tbls : ∀ b ps, H b = some (.tbl ps) → ∃ more, H' b = some (.tbl (ps ++ more)))
    (ns : ∀ m, s.heap.Ns X.env.locals m → h'.Ns X.env.locals m) (hok : HOk X.prog X.w H' h') (hg : AllBare g') :
    Inv X pins σ H' { s with heap := h', gens := g', drawn := d', toks := t' } := by
  have neL : ∀ b o, X.s₀.heap.get? b = some o → b ≠ X.env.locals := fun b o e => Nat.ne_of_lt (Nat.lt_of_lt_of_le (Heap.lt_size e) I.ok.above)
  have neC : ∀ b o, X.s₀.heap.get? b = some o → b ∉ X.ex → b ∉ ch := fun b o e hx hb => by
    rcases (hch b hb).1 with z | z
    · exact hx z
    · exact absurd (Nat.lt_of_lt_of_le (Heap.lt_size e) z) (Nat.lt_irrefl _)
  have cellK : ∀ x c, X.env.cells.lookup x = some c → ∀ v, s.heap.IsCell c v → h'.IsCell c v := fun x c e v ⟨o, ho, hd⟩ => by
    have nch : c ∉ ch := fun z => (hch c z).2.2.1 x c e rfl
    by_cases hc : c ∈ X.fs
    · obtain ⟨sl, q⟩ := slot c o (I.cne x c e) hc nch ho (I.freeC x c e)
      exact ⟨_, q, hd⟩
    · exact ⟨o, keep c o (I.cne x c e) hc nch ho (I.freeC x c e), hd⟩
  refine ⟨I.ok, I.os, hg, ⟨fun b o e n hb hx => ?_, fun b o e n hb hx => ?_, fun b o e n hx => ?_, fun b o e hx => ?_, fun b xs e => tups b xs (I.base.tups b xs e), fun b o xs e => frzs b o xs (I.base.frzs b o xs e), fun b ps e => ?_⟩, ?_, fun x c e => ?_, ?_, fun x c e => ?_, fun p hp => ?_, hok, I.len⟩
  · exact keep b o (neL b o e) hb (neC b o e hx) (I.base.keep b o e n hb hx) (I.base.free b o e n hx)
  · obtain ⟨sl, e1⟩ := I.base.slot b o e n hb hx
    obtain ⟨sl', e2⟩ := slot b _ (neL b o e) hb (neC b o e hx) e1 (I.base.free b o e n hx)
    exact ⟨sl', e2⟩
  · obtain ⟨o', e1⟩ := I.base.there b o e hx
    exact free b o' (neC b o e hx) e1 (I.base.free b o e n hx)
  · obtain ⟨o', e1⟩ := I.base.there b o e hx
    exact there b o' (neC b o e hx) e1
  · obtain ⟨m1, e1⟩ := I.base.tbls b ps e
    obtain ⟨m2, e2⟩ := tbls b _ e1
    exact ⟨m1 ++ m2, by rw [e2, Array.append_assoc]⟩
  · obtain ⟨m, hn, hl⟩ := I.loc
    refine ⟨m, ns m hn, fun i x v e1 e2 e3 => ?_⟩
    obtain ⟨u, r, l⟩ := hl i x v e1 e2 e3
    refine ⟨u, r, ?_⟩
    rcases l with l | ⟨k, c, e, z⟩
    · exact .inl l
    · exact .inr ⟨k, c, e, cellK x c e _ z⟩
  · obtain ⟨v, z⟩ := I.cell x c e
    exact ⟨v, cellK x c e v z⟩
  · obtain ⟨m, ⟨o, _, _, ho, _⟩, _⟩ := I.loc
    exact free _ o (fun z => (hch _ z).2.1 rfl) ho I.free
  · obtain ⟨v, o, ho, hd⟩ := I.cell x c e
    exact free c o (fun z => (hch c z).2.2.1 x c e rfl) ho (I.freeC x c e)
  · obtain ⟨e, n, ne, nf, d⟩ := I.pin p hp
    have nch : p.1 ∉ ch := fun z => (hch p.1 z).2.2.2 p hp rfl
    exact ⟨keep p.1 p.2 ne nf nch e n, free p.1 p.2 nch e n, ne, nf, d⟩
/-- .. where the frame's own object is kept too -/
theorem Inv.un {t' : Nat} (I : Inv X pins σ H s) (u : Un X.fs [] H H' s.heap h') (hok : HOk X.prog X.w H' h') : Inv X pins σ H' { s with heap := h', toks := t' } := by
  obtain ⟨m, ⟨o, es, ep, ho, r⟩, _⟩ := id I.loc
  obtain ⟨sl, hL⟩ := u.any ho I.free (by simp)
  exact I.step (g' := s.gens) (d' := s.drawn) (ch := []) (fun _ z => nomatch z) (fun b o _ hb _ e n => u.keep b o e n hb (by simp)) (fun b o _ hb _ e n => u.slot b o e n hb (by simp)) (fun b o _ e n => u.free b o e n (by simp)) (fun b o _ e => u.there b o e (by simp)) u.tups u.frzs u.tbls (fun m' hm => by
    obtain ⟨o', es', ep', ho', r'⟩ := hm
    rw [ho] at ho'; cases ho'
    exact ⟨_, es', ep', hL, r'⟩) hok I.bare
/-- behind a call (or a comprehension's block): the slots of this frame may have changed too, the records at ch may have turned -/
theorem Inv.call {g' : Array GenState} {t' : Nat} {d' : Drawn} {ch : List Addr} (I : Inv X pins σ H s) (u : Un (frs X.stack) ch H H' s.heap h') (hok : HOk X.prog X.w H' h') (hg : AllBare g')
    (hch : ∀ b ∈ ch, (b ∈ X.ex ∨ X.s₀.heap.objs.size ≤ b) ∧ b ≠ X.env.locals ∧ (∀ x c, X.env.cells.lookup x = some c → c ≠ b) ∧ ∀ p ∈ X.pn ++ pins, p.1 ≠ b) :
    Inv X pins σ H' { s with heap := h', gens := g', drawn := d', toks := t' } := by
  obtain ⟨m, ⟨o, es, ep, ho, r⟩, _⟩ := id I.loc
  obtain ⟨sl, hL⟩ := u.any ho I.free fun z => (hch _ z).2.1 rfl
  exact I.step (ch := ch) hch (fun b o hL hb hc e n => u.keep b o e n (fun z => (List.mem_cons.mp (I.stkSub b z)).elim hL hb) hc) (fun b o _ _ hc e n => u.any e n hc) (fun b o hc e n => u.free b o e n hc) (fun b o hc e => u.there b o e hc) u.tups u.frzs u.tbls (fun m' hm => by
    obtain ⟨o', es', ep', ho', r'⟩ := hm
    rw [ho] at ho'; cases ho'
    exact ⟨_, es', ep', hL, r'⟩) hok hg
/-- an untracked record of ours (an iterator) has turned -/
theorem Inv.turned {t' : Nat} {it : Addr} (I : Inv X pins σ H s) (k : ∀ b o, b ≠ it → s.heap.get? b = some o → h'.get? b = some o) (hn : H it = none) (hL : it ≠ X.env.locals)
    (h1 : it ∈ X.ex ∨ X.s₀.heap.objs.size ≤ it) (h2 : ∀ x c, X.env.cells.lookup x = some c → c ≠ it) (h3 : ∀ p ∈ X.pn ++ pins, p.1 ≠ it) : Inv X pins σ H { s with heap := h', toks := t' } := by
  have nit : ∀ b u, H b = some u → b ≠ it := fun b u e z => by rw [z, hn] at e; cases e
  refine I.step (g' := s.gens) (d' := s.drawn) (ch := [it]) (fun b hb => ?_) (fun b o _ _ hc e _ => k b o (fun z => hc (by simp [z])) e) (fun b o _ _ hc e _ => ⟨o.slots, k b o (fun z => hc (by simp [z])) e⟩) (fun _ _ _ _ n => n)
    (fun b o hc e => ⟨o, k b o (fun z => hc (by simp [z])) e⟩) (fun _ _ e => e) (fun _ _ _ e => e) (fun b ps e => ⟨#[], by rw [e]; simp⟩) (fun m hm => ?_) (fun b u e => ?_) I.bare
  · have e : b = it := by simpa using hb
    subst e
    exact ⟨h1, hL, h2, h3⟩
  · obtain ⟨o, es, ep, ho, r⟩ := hm
    exact ⟨o, es, ep, k _ o (Ne.symm hL) ho, r⟩
  · refine (I.hok b u e).stay (fun c v hc q => k c v ?_ q) (fun _ q => q) fun _ _ q => q
    rcases hc with z | z
    · rw [z]; exact nit b u e
    · exact nit c _ z
theorem Inv.tok (I : Inv X pins σ H s) (t : Nat) : Inv X pins σ H { s with toks := t } := I.un (h' := s.heap) (t' := t) Un.refl I.hok
/-- all objects kept -/
theorem Inv.kept {t' : Nat} (I : Inv X pins σ H s) (k : ∀ b u, s.heap.get? b = some u → h'.get? b = some u) : Inv X pins σ H { s with heap := h', toks := t' } := I.un (Un.kept k) (I.hok.kept k)
/-- a new object laid and tracked -/
theorem Inv.laid {a : Addr} {o : HO} {t' : Nat} (I : Inv X pins σ H s) (k : ∀ b u, s.heap.get? b = some u → h'.get? b = some u) (hp : s.heap.objs.size ≤ a) (new : ObjOk X.prog X.w (upd H a o) h' a o) :
    Inv X pins σ (upd H a o) { s with heap := h', toks := t' } := I.un (Un.laid k hp (I.hok.fresh hp)) (I.hok.laid k hp new)
/-- an object written -/
theorem Inv.write {x e : Addr} {o : HO} {t' : Nat} (I : Inv X pins σ H s) (mu : Mut (H x)) (he : e = x ∨ H e = some (.own x)) (k : ∀ b u, b ≠ e → s.heap.get? b = some u → h'.get? b = some u) (heo : ∃ u, h'.get? e = some u)
    (new : ObjOk X.prog X.w (upd H x o) h' x o) : Inv X pins σ (upd H x o) { s with heap := h', toks := t' } := I.un (Un.write mu he k heo) (I.hok.write mu he k heo new)
theorem Inv.pins_of {pins' : List (Addr × Obj)} (I : Inv X pins σ H s) (h : ∀ p ∈ pins', s.heap.get? p.1 = some p.2 ∧ H p.1 = none ∧ p.1 ≠ X.env.locals ∧ p.1 ∉ X.fs ∧ ∀ v, p.2.data ≠ .cell v) : Inv X pins' σ H s :=
  ⟨I.ok, I.os, I.bare, I.base, I.loc, I.cell, I.free, I.freeC, fun p hp => (List.mem_append.mp hp).elim (fun z => I.pin p (List.mem_append_left _ z)) (h p), I.hok, I.len⟩

theorem nodup_ix {N : List Str} (hN : N.Nodup) {i j : Nat} {x : Str} (a : N[i]? = some x) (b : N[j]? = some x) : i = j := by
  obtain ⟨h1, e1⟩ := List.getElem?_eq_some_iff.mp a
  obtain ⟨h2, e2⟩ := List.getElem?_eq_some_iff.mp b
  exact (List.getElem_inj hN).mp (e1.trans e2.symm)

/-- a name is stored; what changed -/
theorem store_ok2 {M : Model} {A : Around} {E : Value → Shared → Prop} {i : Nat} {x : Str} {v : V} {u : Value} {Q : Unit → Shared → Prop} (I : Inv X pins σ H s) (hN : X.N.Nodup) (hi : X.N[i]? = some x) (hx : Loc X.env.scope x) (r : RelV v u)
    (h : ∀ s', Inv X pins (σ.set i (some v)) H s' → (∃ a, Heap.SameBut a s.heap s'.heap ∧ (a = X.env.locals ∨ X.env.cells.lookup x = some a)) → Q () s') (hf : X.fn x = true ∨ X.env.scope.names.lookup x = some .local := by first | exact .inl rfl | exact .inr rfl | assumption) : wpAny M A (storeName X.env x u) Q E s := by
  obtain ⟨m, hn, hl⟩ := id I.loc
  have hcls : (X.env.scope.kind == .class || (X.env.scope.kind == .module && X.env.locals != X.env.globals)) = false := by rw [I.ok.kind]; rfl
  have hiσ : i < σ.length := by rw [I.len]; exact (List.getElem?_eq_some_iff.mp hi).1
  have cne := I.cne
  have tracked : ∀ {a : Addr} {h' : Heap}, (∃ o, s.heap.get? a = some o ∧ H a = none) → Heap.SameBut a s.heap h' → HOk X.prog X.w H h' := fun {a h'} ha hs b ob e => by
    obtain ⟨_, _, hfree⟩ := ha
    refine (I.hok b ob e).stay (fun c w' hc q => (hs.2 c ?_).trans q) (fun _ q => q) fun _ _ q => q
    rintro rfl
    rcases hc with rfl | hc
    · rw [hfree] at e; cases e
    · rw [hfree] at hc; cases hc
  rcases hx with hk | hk
  · refine wpAny_storeName_local hk hn (fun h' hn' hs => ?_) hcls
    obtain ⟨oL, _, _, hoL, _⟩ := id hn
    refine h _ ⟨I.ok, I.os, I.bare, ⟨fun b o e n hb hx => ?_, fun b o e n hb hx => ?_, I.base.free, fun b o e hx => ?_, I.base.tups, I.base.frzs, I.base.tbls⟩, ⟨_, hn', fun j y v' e1 e2 e3 => ?_⟩, fun y c e => ?_, I.free, I.freeC, fun p hp => ?_, tracked ⟨oL, hoL, I.free⟩ hs, by simpa using I.len⟩ ⟨_, hs, .inl rfl⟩
    · exact (hs.2 b (Nat.ne_of_lt (Nat.lt_of_lt_of_le (Heap.lt_size e) I.ok.above))).trans (I.base.keep b o e n hb hx)
    · obtain ⟨sl, e1⟩ := I.base.slot b o e n hb hx
      exact ⟨sl, (hs.2 b (Nat.ne_of_lt (Nat.lt_of_lt_of_le (Heap.lt_size e) I.ok.above))).trans e1⟩
    · obtain ⟨o', e1⟩ := I.base.there b o e hx
      exact ⟨o', (hs.2 b (Nat.ne_of_lt (Nat.lt_of_lt_of_le (Heap.lt_size e) I.ok.above))).trans e1⟩
    · by_cases hj : j = i
      · subst hj
        rw [hi] at e1; cases e1
        rw [List.getElem?_set_self hiσ] at e2
        cases e2
        exact ⟨u, r, .inl ⟨hk, by simp⟩⟩
      · rw [List.getElem?_set_ne (Ne.symm hj)] at e2
        obtain ⟨u', r', q⟩ := hl j y v' e1 e2 e3
        refine ⟨u', r', ?_⟩
        rcases q with ⟨k, e⟩ | ⟨k, c, e, z⟩
        · refine .inl ⟨k, ?_⟩
          have : y ≠ x := fun e => hj (nodup_ix hN e1 (e ▸ hi))
          simp [this, e]
        · exact .inr ⟨k, c, e, z.sameBut hs (cne y c e)⟩
    · obtain ⟨w', z⟩ := I.cell y c e
      exact ⟨w', z.sameBut hs (cne y c e)⟩
    · obtain ⟨e, n, ne, nf, d⟩ := I.pin p hp
      exact ⟨(hs.2 p.1 ne).trans e, n, ne, nf, d⟩
  · have hfn : X.fn x = true := by
      rcases hf with z | z
      · exact z
      · rw [z] at hk; cases hk
    obtain ⟨c, hc⟩ := I.ok.has x (.inl hk)
    obtain ⟨w', z⟩ := I.cell x c hc
    refine wpAny_storeName_cell I.ok.kind hk hc z (fun h' hc' hs => ?_)
    obtain ⟨oc, hoc, hocd⟩ := id z
    refine h { s with heap := h' } ⟨I.ok, I.os, I.bare, ⟨fun b o e n hb hx => ?_, fun b o e n hb hx => ?_, I.base.free, fun b o e hx => ?_, I.base.tups, I.base.frzs, I.base.tbls⟩, ⟨m, hn.sameBut hs (Ne.symm (cne x c hc)), fun j y v' e1 e2 e3 => ?_⟩, fun y c' e => ?_, I.free, I.freeC, fun p hp => ?_, tracked ⟨oc, hoc, I.freeC x c hc⟩ hs, by simpa using I.len⟩ ⟨c, hs, .inr hc⟩
    · exact (hs.2 b (Nat.ne_of_lt (Nat.lt_of_lt_of_le (Heap.lt_size e) (I.ok.cab x c hfn hc)))).trans (I.base.keep b o e n hb hx)
    · obtain ⟨sl, e1⟩ := I.base.slot b o e n hb hx
      exact ⟨sl, (hs.2 b (Nat.ne_of_lt (Nat.lt_of_lt_of_le (Heap.lt_size e) (I.ok.cab x c hfn hc)))).trans e1⟩
    · obtain ⟨o', e1⟩ := I.base.there b o e hx
      exact ⟨o', (hs.2 b (Nat.ne_of_lt (Nat.lt_of_lt_of_le (Heap.lt_size e) (I.ok.cab x c hfn hc)))).trans e1⟩
    · by_cases hj : j = i
      · subst hj
        rw [hi] at e1; cases e1
        rw [List.getElem?_set_self hiσ] at e2
        cases e2
        exact ⟨u, r, .inr ⟨.inl hk, c, hc, hc'⟩⟩
      · rw [List.getElem?_set_ne (Ne.symm hj)] at e2
        obtain ⟨u', r', q⟩ := hl j y v' e1 e2 e3
        refine ⟨u', r', ?_⟩
        rcases q with q | ⟨k, c', e, z'⟩
        · exact .inl q
        · refine .inr ⟨k, c', e, z'.sameBut hs ?_⟩
          rintro rfl
          exact hj (nodup_ix hN e1 (I.ok.inj _ _ _ e hc ▸ hi))
    · by_cases hcc : c' = c
      · subst hcc; exact ⟨_, hc'⟩
      · obtain ⟨w2, z2⟩ := I.cell y c' e
        exact ⟨w2, z2.sameBut hs hcc⟩
    · obtain ⟨e, n, ne, nf, d⟩ := I.pin p hp
      refine ⟨(hs.2 p.1 ?_).trans e, n, ne, nf, d⟩
      intro q
      rw [q, hoc] at e
      have q' : oc = p.2 := Option.some.inj e
      exact d w' (by rw [← q']; exact hocd)
theorem store_ok {M : Model} {A : Around} {E : Value → Shared → Prop} {i : Nat} {x : Str} {v : V} {u : Value} {Q : Unit → Shared → Prop} (I : Inv X pins σ H s) (hN : X.N.Nodup) (hi : X.N[i]? = some x) (hx : Loc X.env.scope x) (r : RelV v u)
    (h : ∀ s', Inv X pins (σ.set i (some v)) H s' → Q () s') (hf : X.fn x = true ∨ X.env.scope.names.lookup x = some .local := by first | exact .inl rfl | exact .inr rfl | assumption) : wpAny M A (storeName X.env x u) Q E s :=
  store_ok2 I hN hi hx r (fun s' I' _ => h s' I') hf
/-- behind a call or a block, the state as it is -/
theorem Inv.call' {s' : Shared} {ch : List Addr} (I : Inv X pins σ H s) (ho : s'.os = s.os) (u : Un (frs X.stack) ch H H' s.heap s'.heap) (hok : HOk X.prog X.w H' s'.heap) (hg : AllBare s'.gens)
    (hch : ∀ b ∈ ch, (b ∈ X.ex ∨ X.s₀.heap.objs.size ≤ b) ∧ b ≠ X.env.locals ∧ (∀ x c, X.env.cells.lookup x = some c → c ≠ b) ∧ ∀ p ∈ X.pn ++ pins, p.1 ≠ b) : Inv X pins σ H' s' := by
  obtain ⟨h', g', d', t', o'⟩ := s'
  have e : o' = s.os := ho
  subst e
  exact I.call (g' := g') (t' := t') (d' := d') u hok hg hch
end

/-! ### the judgements -/
/-- an exception: its class, its own dict's address (where it has one), the abstract heap behind it -/
abbrev XK := Value → Option Addr → Hp → Prop
abbrev St := List (Option V)
abbrev VK := V → Hp → Prop
/-- an expression's reading; a test's; an argument list's -/
abbrev TE := St → Hp → VK → Prop
abbrev TT := St → Hp → (Bool → Hp → Prop) → Prop
abbrev TA := St → Hp → (List V → Hp → Prop) → Prop
/-- what is wanted behind a statement -/
structure Ends where
  nx : St → Hp → Prop
  rt : VK
  bk : St → Hp → Prop := fun _ _ => False
  ct : St → Hp → Prop := fun _ _ => False
abbrev TS := Ends → St → Hp → Prop

def EP (X : Cx) (pins : List (Addr × Obj)) (σ : St) (Q : VK) (u : Value) (s' : Shared) : Prop := ∃ v H', Inv X pins σ H' s' ∧ RelV v u ∧ Q v H'
def TP (X : Cx) (pins : List (Addr × Obj)) (σ : St) (Q : Bool → Hp → Prop) (b : Bool) (s' : Shared) : Prop := ∃ H', Inv X pins σ H' s' ∧ Q b H'
def AP (X : Cx) (pins : List (Addr × Obj)) (σ : St) (Q : List V → Hp → Prop) (us : List Value) (s' : Shared) : Prop := ∃ vs H', Inv X pins σ H' s' ∧ Vals vs us ∧ Q vs H'
def SP (X : Cx) (pins : List (Addr × Obj)) (D : Ends) (f : Flow) (s' : Shared) : Prop :=
  match f with
  | .next => ∃ σ' H', Inv X pins σ' H' s' ∧ D.nx σ' H'
  | .brk => ∃ σ' H', Inv X pins σ' H' s' ∧ D.bk σ' H'
  | .cont => ∃ σ' H', Inv X pins σ' H' s' ∧ D.ct σ' H'
  | .ret u => ∃ v σ' H', Inv X pins σ' H' s' ∧ RelV v u ∧ D.rt v H'

def PE (X : Cx) (e : Expr) (t : TE) : Prop :=
  ∀ (pins : List (Addr × Obj)) (s : Shared) (σ : St) (H : Hp) (Q : VK), Inv X pins σ H s → t σ H Q → wpAny (model X.prog X.w) X.A (eval e X.env) (EP X pins σ Q) X.xe s
def PT (X : Cx) (e : Expr) (t : TT) : Prop :=
  ∀ (pins : List (Addr × Obj)) (s : Shared) (σ : St) (H : Hp) (Q : Bool → Hp → Prop), Inv X pins σ H s → t σ H Q → wpAny (model X.prog X.w) X.A (isTrue e X.env (eval e X.env)) (TP X pins σ Q) X.xe s
/-- a test whatever its 'whole' is (and, or) -/
def PW (X : Cx) (e : Expr) (t : TT) : Prop :=
  ∀ (whole : Sem Value) (pins : List (Addr × Obj)) (s : Shared) (σ : St) (H : Hp) (Q : Bool → Hp → Prop), Inv X pins σ H s → t σ H Q → wpAny (model X.prog X.w) X.A (isTrue e X.env whole) (TP X pins σ Q) X.xe s
theorem PW.pt {X : Cx} {e : Expr} {t : TT} (h : PW X e t) : PT X e t := h _
/-- an argument list (no star), from the left -/
def PA (X : Cx) (es : List Expr) (t : TA) : Prop :=
  ∀ (pos : Pos) (pins : List (Addr × Obj)) (s : Shared) (σ : St) (H : Hp) (Q : List V → Hp → Prop), Inv X pins σ H s → t σ H Q → wpAny (model X.prog X.w) X.A (spliced (backTo pos (starEach es X.env))) (AP X pins σ Q) X.xe s
def PS (X : Cx) (st : Stmt) (t : TS) : Prop :=
  ∀ (pins : List (Addr × Obj)) (s : Shared) (σ : St) (H : Hp) (D : Ends), Inv X pins σ H s → t D σ H → wpAny (model X.prog X.w) X.A (exec st X.env) (SP X pins D) X.xe s
def PSs (X : Cx) (st : List Stmt) (t : TS) : Prop :=
  ∀ (pins : List (Addr × Obj)) (s : Shared) (σ : St) (H : Hp) (D : Ends), Inv X pins σ H s → t D σ H → wpAny (model X.prog X.w) X.A (execs st X.env) (SP X pins D) X.xe s
/-- weaken the end -/
theorem thn {α : Type} {t : Sem α} {Q Q' : α → Shared → Prop} {M : Model} {A : Around} {E : Value → Shared → Prop} {s : Shared} (h : wpAny M A t Q E s) (hQ : ∀ a s, Q a s → Q' a s) : wpAny M A t Q' E s := wpAny_mono h hQ fun _ _ x => x
end L2

namespace L2
open PySem PySem.Spec PyProof.Rows
section
variable {X : Cx}

/-! ### names and constants -/
def tVar (i : Nat) : TE := fun σ H Q => ∃ v, σ[i]? = some (some v) ∧ Q v H
def tC (v : V) : TE := fun _ H Q => Q v H
theorem pe_var {i : Nat} {x : Str} {pos : Pos} (hN : X.N[i]? = some x) (hv : Vis X.env.scope x) (hd : (x == ("__debug__" : Str)) = false := by decide) (hcd : (x == ("__classdict__" : Str)) = false := by decide) : PE X (.Name x pos) (tVar i) := by
  intro pins s σ H Q I h
  obtain ⟨v, e, h⟩ := h
  obtain ⟨m, hn, hl⟩ := I.loc
  obtain ⟨u, r, l⟩ := hl i x v hN e hv
  have fin : EP X pins σ Q u s := ⟨v, H, I, r, h⟩
  rcases l with ⟨hk, hm⟩ | ⟨hk, c, hc, hcell⟩
  · exact wpAny_Name (wpAny_loadName_local I.ok.kind hk hn hm fin) hd
  · rcases hk with hk | hk
    · exact wpAny_Name (wpAny_loadName_cell I.ok.kind hk hc hcell fin) hd
    · exact wpAny_Name (wpAny_loadName_free I.ok.kind hk hc hcell fin hcd) hd
theorem pe_int {i j pos} : PE X (.Constant (.int i) j pos) (tC (.int i)) := fun _ _ _ H _ I h => wpAny_Constant_int ⟨.int i, H, I.tok _, ⟨_, rfl⟩, h⟩
theorem pe_bl {b j pos} : PE X (.Constant (.bool b) j pos) (tC (.bl b)) := fun _ _ _ H _ I h => Constant_bool ⟨.bl b, H, I, rfl, h⟩
theorem pe_non {j pos} : PE X (.Constant .none j pos) (tC .non) := fun _ _ _ H _ I h => Constant_none ⟨.non, H, I, rfl, h⟩
theorem pe_str {x j pos} : PE X (.Constant (.str x) j pos) (tC (.str x)) := fun _ _ _ H _ I h => Calls.Constant_str ⟨.str x, H, I.tok _, ⟨_, rfl⟩, h⟩

/-- a global name of the def -/
def Gl (X : Cx) (x : Str) : Prop := X.env.kindOf x = some .globalImplicit
theorem ld_glob {E : Value → Shared → Prop} {pins : List (Addr × Obj)} {s : Shared} {σ : St} {H : Hp} {x : Str} {u : Value} {pos : Pos} {Q : Value → Shared → Prop} (I : Inv X pins σ H s) (hg : Gl X x) (hm : X.mg x = some u) (h : Q u s)
    (hd : (x == ("__debug__" : Str)) = false := by decide) : wpAny (model X.prog X.w) X.A (eval (.Name x pos) X.env) Q E s :=
  Calls.Name_function_global I.ok.kind hg (Calls.loadGlobal_global (by rw [I.ok.glob]; exact I.mod.glob.keeps I.bk) hm h) hd
theorem ld_blt {E : Value → Shared → Prop} {pins : List (Addr × Obj)} {s : Shared} {σ : St} {H : Hp} {x : Str} {u : Value} {pos : Pos} {Q : Value → Shared → Prop} (I : Inv X pins σ H s) (hg : Gl X x) (hm : X.mg x = none) (hv : bootBuiltins x = some u) (h : Q u s)
    (hn : x ≠ "__name__" := by decide) (hd : (x == ("__debug__" : Str)) = false := by decide) : wpAny (model X.prog X.w) X.A (eval (.Name x pos) X.env) Q E s := by
  obtain ⟨mb, h1, h2⟩ := I.mod.blt
  exact Calls.Name_function_global I.ok.kind hg (Calls.loadGlobal_builtin (by rw [I.ok.glob]; exact I.mod.glob.keeps I.bk) hm (by rw [I.ok.blt]; exact h1.keeps I.bk) ((h2 x hn).trans hv) h) hd
/-- a module's constant, a class, a function, as a value -/
theorem pe_glob {x : Str} {v : V} {u : Value} {pos : Pos} (hg : Gl X x) (hm : X.mg x = some u) (r : RelV v u) (hd : (x == ("__debug__" : Str)) = false := by decide) : PE X (.Name x pos) (tC v) :=
  fun _ _ _ H _ I h => ld_glob I hg hm ⟨v, H, I, r, h⟩ hd
theorem pe_bltn {x : Str} {v : V} {u : Value} {pos : Pos} (hg : Gl X x) (hm : X.mg x = none) (hv : bootBuiltins x = some u) (r : RelV v u) (hn : x ≠ "__name__" := by decide) (hd : (x == ("__debug__" : Str)) = false := by decide) : PE X (.Name x pos) (tC v) :=
  fun _ _ _ H _ I h => ld_blt I hg hm hv ⟨v, H, I, r, h⟩ hn hd

/-! ### arithmetic -/
/-- two ints -/
def t2I (ta tb : TE) (k : Int → Int → Hp → Prop) : St → Hp → Prop := fun σ H => ta σ H fun x H1 => tb σ H1 fun y H2 => ∃ i j, x = .int i ∧ y = .int j ∧ k i j H2
def tAdd (ta tb : TE) : TE := fun σ H Q => t2I ta tb (fun i j H2 => Q (.int (i + j)) H2) σ H
def tSub (ta tb : TE) : TE := fun σ H Q => t2I ta tb (fun i j H2 => Q (.int (i - j)) H2) σ H
/-- the left factor below 2^64 -/
def tMul (ta tb : TE) : TE := fun σ H Q => t2I ta tb (fun i j H2 => (-(2 ^ 64) < i ∧ i < 2 ^ 64) ∧ Q (.int (i * j)) H2) σ H
variable {a b : Expr} {ta tb : TE} {pos : Pos}
/-! ### comparisons -/
def PC (X : Cx) (op : CmpOp) (a b : Expr) (t : TE) : Prop :=
  ∀ (pins : List (Addr × Obj)) (s : Shared) (σ : St) (H : Hp) (Q : VK), Inv X pins σ H s → t σ H Q →
    wpAny (model X.prog X.w) X.A (eval a X.env) (fun v s₁ => wpAny (model X.prog X.w) X.A (eval b X.env) (fun u s₂ => wpAny (model X.prog X.w) X.A (compareOp op v u) (EP X pins σ Q) X.xe s₂) X.xe s₁) X.xe s
def tCmp (p : Int → Int → Bool) (ta tb : TE) : TE := fun σ H Q => t2I ta tb (fun i j H2 => Q (.bl (p i j)) H2) σ H
abbrev tLt : TE → TE → TE := tCmp fun i j => decide (i < j)
abbrev tLe : TE → TE → TE := tCmp fun i j => decide (i ≤ j)
abbrev tGt : TE → TE → TE := tCmp fun i j => decide (j < i)
abbrev tGe : TE → TE → TE := tCmp fun i j => decide (j ≤ i)
abbrev tEqI : TE → TE → TE := tCmp fun i j => decide (i = j)
abbrev tNeI : TE → TE → TE := tCmp fun i j => !decide (i = j)
/-- is None -/
def tIsN (ta : TE) : TE := fun σ H Q => ta σ H fun x H1 => Q (.bl (decide (x = .non))) H1
def tNotN (ta : TE) : TE := fun σ H Q => ta σ H fun x H1 => Q (.bl (!decide (x = .non))) H1
/-- a comparison as a value, as a test -/
def tB (t : TE) : TT := fun σ H Q => t σ H fun x H1 => ∃ c, x = .bl c ∧ Q c H1
/-- an expression whose value is a bool, as a test -/
theorem pt_val {e : Expr} {t : TE} (h : PE X e t) (he : ∀ whole, isTrue e X.env whole = (do let v ← whole; standAt e.pos; holding [v] (truthy v)) := by intro _; rfl) : PT X e (tB t) := by
  intro pins s σ H Q I hw
  refine isTrue_plain (thn (h pins s σ H _ I hw) fun v s1 ⟨x, H1, I1, r1, q1⟩ => ?_) (he _)
  obtain ⟨d, rfl, q⟩ := q1
  cases r1
  exact wpAny_truthy_bool ⟨H1, I1, q⟩

/-! ### and, or, not -/
variable {tA tB' : TT} {rest : List Expr}
def tAnd (t u : TT) : TT := fun σ H Q => t σ H fun c H1 => if c = true then u σ H1 Q else Q false H1
def tOr (t u : TT) : TT := fun σ H Q => t σ H fun c H1 => if c = true then Q true H1 else u σ H1 Q
def tNot (t : TT) : TT := fun σ H Q => t σ H fun c H1 => Q (!c) H1
theorem pw_and1 (ha : PT X a tA) : PW X (.BoolOp .And [a] pos) tA := by
  intro wh pins s σ H Q I h
  refine isTrue_and (thn (ha pins s σ H Q I h) fun c s1 e => ?_)
  cases c with
  | true => exact isTrue_and_nil e
  | false => exact e
theorem pw_or1 (ha : PT X a tA) : PW X (.BoolOp .Or [a] pos) tA := by
  intro wh pins s σ H Q I h
  refine isTrue_or (thn (ha pins s σ H Q I h) fun c s1 e => ?_)
  cases c with
  | false => exact isTrue_or_nil e
  | true => exact e
theorem pw_and (ha : PT X a tA) (hb : PW X (.BoolOp .And (b :: rest) pos) tB') : PW X (.BoolOp .And (a :: b :: rest) pos) (tAnd tA tB') := by
  intro wh pins s σ H Q I h
  refine isTrue_and (thn (ha pins s σ H _ I h) fun c s1 ⟨H1, I1, q1⟩ => ?_)
  cases c with
  | true => exact hb wh pins s1 σ H1 Q I1 q1
  | false => exact ⟨H1, I1, q1⟩
theorem pw_or (ha : PT X a tA) (hb : PW X (.BoolOp .Or (b :: rest) pos) tB') : PW X (.BoolOp .Or (a :: b :: rest) pos) (tOr tA tB') := by
  intro wh pins s σ H Q I h
  refine isTrue_or (thn (ha pins s σ H _ I h) fun c s1 ⟨H1, I1, q1⟩ => ?_)
  cases c with
  | true => exact ⟨H1, I1, q1⟩
  | false => exact hb wh pins s1 σ H1 Q I1 q1
theorem pt_not (ha : PT X a tA) : PT X (.UnaryOp .Not a pos) (tNot tA) := by
  intro pins s σ H Q I h
  exact isTrue_not (ha pins s σ H (fun c H1 => Q (!c) H1) I h)
/-- .. as values (bools) -/
def tAndV (ta tb : TE) : TE := fun σ H Q => ta σ H fun x H1 => ∃ c, x = .bl c ∧ if c = true then tb σ H1 Q else Q (.bl false) H1
def tOrV (ta tb : TE) : TE := fun σ H Q => ta σ H fun x H1 => ∃ c, x = .bl c ∧ if c = true then Q (.bl true) H1 else tb σ H1 Q
def tNotV (ta : TE) : TE := fun σ H Q => ta σ H fun x H1 => ∃ c, x = .bl c ∧ Q (.bl (!c)) H1
theorem pe_one {op} {t : TE} (h : PE X a t) : PE X (.BoolOp op [a] pos) t := fun pins s σ H Q I hw => BoolOp_one (h pins s σ H Q I hw)
theorem pe_and (ha : PE X a ta) (hb : PE X (.BoolOp .And (b :: rest) pos) tb) : PE X (.BoolOp .And (a :: b :: rest) pos) (tAndV ta tb) := by
  intro pins s σ H Q I h
  refine BoolOp_and (thn (ha pins s σ H _ I h) fun v s1 ⟨x, H1, I1, r1, q1⟩ => ?_)
  obtain ⟨c, rfl, q1⟩ := q1
  cases r1
  refine wpAny_truthy_bool ?_
  cases c with
  | true => exact hb pins s1 σ H1 Q I1 q1
  | false => exact ⟨.bl false, H1, I1, rfl, q1⟩
theorem pe_or (ha : PE X a ta) (hb : PE X (.BoolOp .Or (b :: rest) pos) tb) : PE X (.BoolOp .Or (a :: b :: rest) pos) (tOrV ta tb) := by
  intro pins s σ H Q I h
  refine BoolOp_or (thn (ha pins s σ H _ I h) fun v s1 ⟨x, H1, I1, r1, q1⟩ => ?_)
  obtain ⟨c, rfl, q1⟩ := q1
  cases r1
  refine wpAny_truthy_bool ?_
  cases c with
  | false => exact hb pins s1 σ H1 Q I1 q1
  | true => exact ⟨.bl true, H1, I1, rfl, q1⟩
theorem pe_not (ha : PE X a ta) : PE X (.UnaryOp .Not a pos) (tNotV ta) := by
  intro pins s σ H Q I h
  refine UnaryOp_ (thn (ha pins s σ H _ I h) fun v s1 ⟨x, H1, I1, r1, q1⟩ => ?_)
  obtain ⟨c, rfl, q1⟩ := q1
  cases r1
  exact not_of (wpAny_truthy_bool ⟨.bl (!c), H1, I1, rfl, q1⟩)
/-- a if t else b -/
def tIf (t : TT) (ta tb : TE) : TE := fun σ H Q => t σ H fun c H1 => if c = true then ta σ H1 Q else tb σ H1 Q
theorem pe_ifExp {c : Expr} (hc : PT X c tA) (ha : PE X a ta) (hb : PE X b tb) : PE X (.IfExp c a b pos) (tIf tA ta tb) := by
  intro pins s σ H Q I h
  refine wpAny_IfExp (thn (hc pins s σ H _ I h) fun d s1 ⟨H1, I1, q1⟩ => ?_)
  cases d with
  | true => exact ha pins s1 σ H1 Q I1 q1
  | false => exact hb pins s1 σ H1 Q I1 q1
end
end L2

namespace L2
open PySem PySem.Spec PyProof.Rows

/-! ### a list, a tuple that is read: tracked, frozen, or an object of the module -/
def SqL (K : PySem.W.Frag) (H : Hp) (a : Addr) (xs : List V) : Prop :=
  Rd H a (.lst xs) ∨
    ∃ (o : Obj) (its : Array Value) (n : Nat), K.lookup a = some o ∧ o.cls = .type "list" ∧ o.dict = none ∧ o.data = .seq its n ∧ its.size ≤ sizeLine ∧ Vals xs its.toList
def SqT (K : PySem.W.Frag) (H : Hp) (a : Addr) (xs : List V) : Prop :=
  Rd H a (.tup xs) ∨
    ∃ (o : Obj) (its : Array Value) (n : Nat), K.lookup a = some o ∧ o.cls = .type "tuple" ∧ o.data = .seq its n ∧ its.size ≤ sizeLine ∧ Vals xs its.toList
def absV : Value → Option V
  | .none => some .non
  | .bool b => some (.bl b)
  | .int i _ => some (.int i)
  | .str x _ => some (.str x)
  | .bytes b _ => some (.byt b)
  | .float b _ => some (.flt b)
  | .ref a => some (.ref a)
  | .type n => some (.ty n)
  | _ => none
theorem RelV.abs {x : V} {u : Value} (r : RelV x u) : absV u = some x := by
  cases x with
  | non => cases r; rfl
  | bl _ => cases r; rfl
  | int _ => obtain ⟨t, rfl⟩ := r; rfl
  | str _ => obtain ⟨t, rfl⟩ := r; rfl
  | byt _ => obtain ⟨t, rfl⟩ := r; rfl
  | flt _ => obtain ⟨t, rfl⟩ := r; rfl
  | ref _ => cases r; rfl
  | ty _ => cases r; rfl
theorem RelV.inj {x y : V} {u : Value} (r : RelV x u) (q : RelV y u) : x = y := Option.some.inj (r.abs.symm.trans q.abs)
theorem Vals.inj : ∀ {xs ys : List V} {us : List Value}, Vals xs us → Vals ys us → xs = ys
  | _, _, _, .nil, .nil => rfl
  | _, _, _, .cons r t, .cons r' t' => by rw [r.inj r', Vals.inj t t']
section
variable {X : Cx} {pins : List (Addr × Obj)} {σ : St} {H : Hp} {s : Shared} {a : Addr} {xs ys : List V}
theorem SqL.of {K : PySem.W.Frag} (h : H a = some (.lst xs)) : SqL K H a xs := .inl (.inl h)
theorem SqT.of {K : PySem.W.Frag} (h : H a = some (.tup xs)) : SqT K H a xs := .inl (.inl h)
theorem Inv.list (I : Inv X pins σ H s) (h : SqL X.K H a xs) : ∃ its : List Value, Vals xs its ∧ PlainL s.heap a its.toArray ∧ xs.length ≤ sizeLine := by
  rcases h with h | ⟨o, its, n, hk, hc, hd, hs, hz, r⟩
  · obtain ⟨z, its, n, r, e⟩ := h.ok I.hok
    exact ⟨its, r, ⟨_, n, e, rfl, rfl, rfl⟩, z⟩
  · refine ⟨its.toList, r, ⟨o, n, I.kIn a o hk, hc, hd, by simpa using hs⟩, ?_⟩
    have e := r.length
    simp only [Array.length_toList] at e
    omega
theorem Inv.tuple (I : Inv X pins σ H s) (h : SqT X.K H a xs) : ∃ its : List Value, Vals xs its ∧ IsTup s.heap a its.toArray ∧ xs.length ≤ sizeLine := by
  rcases h with h | ⟨o, its, n, hk, hc, hs, hz, r⟩
  · obtain ⟨z, its, r, p⟩ := h.ok I.hok
    exact ⟨its, r, p, z⟩
  · refine ⟨its.toList, r, ⟨o, I.kIn a o hk, hc, n, by simpa using hs⟩, ?_⟩
    have e := r.length
    simp only [Array.length_toList] at e
    omega
theorem Inv.list_inj (I : Inv X pins σ H s) (h : SqL X.K H a xs) (h' : SqL X.K H a ys) : xs = ys := by
  obtain ⟨its, r, ⟨o, n, e, _, _, d⟩, _⟩ := I.list h
  obtain ⟨its', r', ⟨o', n', e', _, _, d'⟩, _⟩ := I.list h'
  rw [e] at e'; cases e'
  rw [d] at d'
  injection d' with d1 _
  have : its = its' := by simpa using congrArg Array.toList d1
  subst this
  exact r.inj r'
theorem Inv.tuple_inj (I : Inv X pins σ H s) (h : SqT X.K H a xs) (h' : SqT X.K H a ys) : xs = ys := by
  obtain ⟨its, r, ⟨o, e, _, n, d⟩, _⟩ := I.tuple h
  obtain ⟨its', r', ⟨o', e', _, n', d'⟩, _⟩ := I.tuple h'
  rw [e] at e'; cases e'
  rw [d] at d'
  injection d' with d1 _
  have : its = its' := by simpa using congrArg Array.toList d1
  subst this
  exact r.inj r'
end

/-! ### another wish about exceptions -/
abbrev Cx.wish (X : Cx) (E : Value → Shared → Prop) : Cx := { X with xe := E }
/-- no exception leaves -/
abbrev Cx.nox (X : Cx) : Cx := X.wish fun _ _ => False
theorem Cx.Ok.wish {X : Cx} (ok : X.Ok) (E : Value → Shared → Prop) : (X.wish E).Ok :=
  ⟨ok.mod, ok.kind, ok.glob, ok.blt, ok.above, ok.inj, ok.has, ok.cab, ok.hd, ok.frames, ok.stk, ok.exf, ok.bs, ok.bsz, ok.noex, ok.exfs, ok.funs, ok.frf⟩
theorem Cx.Ok.unwish {X : Cx} {E : Value → Shared → Prop} (ok : (X.wish E).Ok) : X.Ok :=
  ⟨ok.mod, ok.kind, ok.glob, ok.blt, ok.above, ok.inj, ok.has, ok.cab, ok.hd, ok.frames, ok.stk, ok.exf, ok.bs, ok.bsz, ok.noex, ok.exfs, ok.funs, ok.frf⟩
section
variable {X : Cx} {pins : List (Addr × Obj)} {σ : St} {H : Hp} {s : Shared} {E : Value → Shared → Prop}
theorem Inv.wish (I : Inv X pins σ H s) (E : Value → Shared → Prop) : Inv (X.wish E) pins σ H s := ⟨I.ok.wish E, I.os, I.bare, I.base, I.loc, I.cell, I.free, I.freeC, I.pin, I.hok, I.len⟩
theorem Inv.unwish (I : Inv (X.wish E) pins σ H s) : Inv X pins σ H s := ⟨I.ok.unwish, I.os, I.bare, I.base, I.loc, I.cell, I.free, I.freeC, I.pin, I.hok, I.len⟩
theorem SP.unwish {D : Ends} {f : Flow} {s' : Shared} (h : SP (X.wish E) pins D f s') : SP X pins D f s' := by
  cases f with
  | next => obtain ⟨σ', H', I, q⟩ := h; exact ⟨σ', H', I.unwish, q⟩
  | brk => obtain ⟨σ', H', I, q⟩ := h; exact ⟨σ', H', I.unwish, q⟩
  | cont => obtain ⟨σ', H', I, q⟩ := h; exact ⟨σ', H', I.unwish, q⟩
  | ret u => obtain ⟨v, σ', H', I, r, q⟩ := h; exact ⟨v, σ', H', I.unwish, r, q⟩
theorem PSs.nox {st : List Stmt} {t : TS} (h : PSs X.nox st t) : PSs X st t := fun pins s σ H D I hw =>
  wpAny_mono (h pins s σ H D (I.wish _) hw) (fun _ _ q => q.unwish) fun _ _ z => False.elim z
end

/-! ### blocks and small statements -/
section
variable {X : Cx} {st : Stmt} {rest : List Stmt} {t u : TS} {e : Expr} {te : TE} {pos : Pos}
def tNext : TS := fun D σ H => D.nx σ H
def tSeq (t u : TS) : TS := fun D σ H => t { D with nx := u D } σ H
theorem pss_nil : PSs X [] tNext := fun _ _ σ H _ I h => wpAny_execs_nil ⟨σ, H, I, h⟩
theorem pss_cons (h1 : PS X st t) (h2 : PSs X rest u) : PSs X (st :: rest) (tSeq t u) := by
  intro pins s σ H D I h
  refine wpAny_execs_cons (thn (h1 pins s σ H { D with nx := u D } I h) fun f s1 q => ?_)
  cases f with
  | next =>
    obtain ⟨σ', H', I', q⟩ := q
    exact h2 pins s1 σ' H' D I' q
  | ret v => exact q
  | brk => exact q
  | cont => exact q
theorem pss_one (h1 : PS X st t) : PSs X [st] t := by
  intro pins s σ H D I h
  refine wpAny_execs_cons (thn (h1 pins s σ H D I h) fun f s1 q => ?_)
  cases f with
  | next => exact wpAny_execs_nil q
  | ret v => exact q
  | brk => exact q
  | cont => exact q
def tBreak : TS := fun D σ H => D.bk σ H
def tCont : TS := fun D σ H => D.ct σ H
/-- in a def's body nothing is shown -/
theorem Inv.quiet {pins : List (Addr × Obj)} {σ : St} {H : Hp} {s : Shared} (I : Inv X pins σ H s) : interactive X.env = false := by simp [interactive, I.ok.kind]
/-- an expression whose value is dropped -/
def tDrop (te : TE) : TS := fun D σ H => te σ H fun _ H1 => D.nx σ H1
theorem ps_expr (he : PE X e te) (hs : swapsWith e none pos.line X.env = pure false := by rfl) : PS X (.Expr e pos) (tDrop te) := by
  intro pins s σ H D I h
  exact wpAny_Expr_any (thn (he pins s σ H _ I h) fun v s1 ⟨x, H1, I1, r1, q1⟩ => ⟨σ, H1, I1, q1⟩) I.quiet hs
def tRet (te : TE) : TS := fun D σ H => te σ H D.rt
theorem ps_ret (he : PE X e te) : PS X (.Return (some e) pos) (tRet te) := by
  intro pins s σ H D I h
  exact wpAny_Return_some (thn (he pins s σ H _ I h) fun v s1 ⟨x, H1, I1, r1, q1⟩ => ⟨x, σ, H1, I1, r1, q1⟩)
def tRetN : TS := fun D _ H => D.rt .non H
def tIfS (c : TT) (t u : TS) : TS := fun D σ H => c σ H fun b H1 => if b = true then t D σ H1 else u D σ H1
theorem ps_if {c : Expr} {a b : List Stmt} {tc : TT} (hc : PT X c tc) (ha : PSs X a t) (hb : PSs X b u) : PS X (.If c a b pos) (tIfS tc t u) := by
  intro pins s σ H D I h
  refine wpAny_If (thn (hc pins s σ H _ I h) fun d s1 ⟨H1, I1, q1⟩ => ?_)
  cases d with
  | true => exact ha pins s1 σ H1 D I1 q1
  | false => exact hb pins s1 σ H1 D I1 q1
/-- code that the proof never comes to -/
def tNever : TS := fun _ _ _ => False
end

/-! ### targets -/
abbrev TG := V → St → Hp → (St → Hp → Prop) → Prop
abbrev TGs := List V → St → Hp → (St → Hp → Prop) → Prop
def PG (X : Cx) (target : Expr) (t : TG) : Prop :=
  ∀ (pins : List (Addr × Obj)) (s : Shared) (σ : St) (H : Hp) (v : V) (u : Value) (Q : St → Hp → Prop), Inv X pins σ H s → RelV v u → t v σ H Q →
    wpAny (model X.prog X.w) X.A (assign target X.env u) (fun _ s' => ∃ σ' H', Inv X pins σ' H' s' ∧ Q σ' H') X.xe s
/-- several targets, one after another -/
def PGs (X : Cx) (ts : List Expr) (t : TGs) : Prop :=
  ∀ (pins : List (Addr × Obj)) (s : Shared) (σ : St) (H : Hp) (vs : List V) (us : List Value) (Q : St → Hp → Prop), Inv X pins σ H s → Vals vs us → t vs σ H Q →
    wpAny (model X.prog X.w) X.A (assignInOrder ((assignEach ts X.env).map (·.2)) us) (fun _ s' => ∃ σ' H', Inv X pins σ' H' s' ∧ Q σ' H') X.xe s
/-- o[i] = v, by values -/
abbrev TSet := V → V → V → Hp → (Hp → Prop) → Prop
def PSet (X : Cx) (t : TSet) : Prop :=
  ∀ (pins : List (Addr × Obj)) (s : Shared) (σ : St) (H : Hp) (o i v : V) (ov iv u : Value) (Q : Hp → Prop), Inv X pins σ H s → RelV o ov → RelV i iv → RelV v u → t o i v H Q →
    wpAny (model X.prog X.w) X.A (setItem ov iv u) (fun _ s' => ∃ H', Inv X pins σ H' s' ∧ Q H') X.xe s
/-- a op= b, by values -/
abbrev TIp := V → V → Hp → VK → Prop
def PIp (X : Cx) (op : Operator) (t : TIp) : Prop :=
  ∀ (pins : List (Addr × Obj)) (s : Shared) (σ : St) (H : Hp) (x y : V) (v u : Value) (Q : VK), Inv X pins σ H s → RelV x v → RelV y u → t x y H Q →
    wpAny (model X.prog X.w) X.A (inplaceOp op v u) (EP X pins σ Q) X.xe s
section
variable {X : Cx} {pos : Pos}
def gName (i : Nat) : TG := fun v σ H Q => Q (σ.set i (some v)) H
theorem pg_name {i : Nat} {x : Str} (hN : X.N.Nodup) (hi : X.N[i]? = some x) (hx : Loc X.env.scope x) (hf : X.fn x = true ∨ X.env.scope.names.lookup x = some .local := by first | exact .inl rfl | exact .inr rfl | assumption) : PG X (.Name x pos) (gName i) := by
  intro pins s σ H v u Q I r h
  exact wpAny_assign_Name (store_ok I hN hi hx r (fun s' I' => ⟨_, H, I', h⟩) hf)
def gNil : TGs := fun vs σ H Q => vs = [] ∧ Q σ H
def gCons (t : TG) (u : TGs) : TGs := fun vs σ H Q => ∃ v r, vs = v :: r ∧ t v σ H fun σ' H' => u r σ' H' Q
/-- (a, b, ..) = a tuple of that length -/
def gTup (K : PySem.W.Frag) (n : Nat) (t : TGs) : TG := fun v σ H Q => ∃ a xs, v = .ref a ∧ SqT K H a xs ∧ xs.length = n ∧ t xs σ H Q
/-- o[i] = .. -/
def gSub (to ti : TE) (t : TSet) : TG := fun v σ H Q => to σ H fun o H1 => ti σ H1 fun i H2 => t o i v H2 fun H3 => Q σ H3
theorem pg_sub {o i : Expr} {to ti : TE} {t : TSet} (ho : PE X o to) (hi : PE X i ti) (hs : PSet X t)
    (ha : ∀ v, assign (.Subscript o i pos) X.env v = (do
      let ov ← holding [v] (eval o X.env)
      let iv ← holding [v, ov] (eval i X.env)
      standAt pos
      holding [v, ov, iv] (setItem ov iv v)
      release [v, ov, iv] []) := by intro _; rfl) : PG X (.Subscript o i pos) (gSub to ti t) := by
  intro pins s σ H v u Q I r h
  rw [ha]
  refine wpAny_bind (wpAny_holding (thn (ho pins s σ H _ I h) fun ov s1 ⟨x, H1, I1, r1, q1⟩ => ?_))
  refine wpAny_bind (wpAny_holding (thn (hi pins s1 σ H1 _ I1 q1) fun iv s2 ⟨y, H2, I2, r2, q2⟩ => ?_))
  refine wpAny_bind (wpAny_standAt (wpAny_bind (wpAny_holding (thn (hs pins s2 σ H2 x y v ov iv u _ I2 r1 r2 r q2) fun _ s3 ⟨H3, I3, q3⟩ => ?_))))
  exact wpAny_release ⟨σ, H3, I3, q3⟩
/-- target = value -/
def tAsg (te : TE) (g : TG) : TS := fun D σ H => te σ H fun x H1 => g x σ H1 D.nx
theorem ps_asg {tg e : Expr} {te : TE} {g : TG} (he : PE X e te) (hg : PG X tg g) (hs : swapsWithSole [tg] e pos.line X.env = pure false := by rfl) (hw : swappedStores [tg] e X.env = pure none := by rfl)
    (h1 : (assignEach [tg] X.env).map (·.2) = [assign tg X.env] := by rfl) : PS X (.Assign [tg] e pos) (tAsg te g) := by
  intro pins s σ H D I h
  refine wpAny_Assign_stores (thn (he pins s σ H _ I h) fun v s1 ⟨x, H1, I1, r1, q1⟩ => ?_) hs hw
  rw [h1]
  exact thn (hg pins s1 σ H1 x v _ I1 r1 q1) fun _ s2 q => q
/-- name = value -/
theorem ps_set {i : Nat} {x : Str} {e : Expr} {te : TE} {pos' : Pos} (hN : X.N.Nodup) (hi : X.N[i]? = some x) (hx : Loc X.env.scope x) (he : PE X e te) (hs : swapsWith e (some (.Name x pos')) pos.line X.env = pure false := by rfl) (hf : X.fn x = true ∨ X.env.scope.names.lookup x = some .local := by first | exact .inl rfl | exact .inr rfl | assumption) :
    PS X (.Assign [.Name x pos'] e pos) (tAsg te (gName i)) := by
  intro pins s σ H D I h
  refine wpAny_Assign_Name (thn (he pins s σ H _ I h) fun v s1 ⟨y, H1, I1, r1, q1⟩ => ?_) hs
  exact store_ok I1 hN hi hx r1 (fun s2 I2 => ⟨_, H1, I2, q1⟩) hf
/-- a, b = x, y with plain local names: stored from the right; the pair itself is not tracked (the opening rows as in PyProof/Rows/TupAssign.lean:23) -/
def tPar (i j : Nat) (ta : TA) : TS := fun D σ H => ta σ H fun vs H1 => ∃ v w, vs = [v, w] ∧ D.nx ((σ.set i (some v)).set j (some w)) H1
/-- name op= e -/
def tAug (i : Nat) (te : TE) (ti : TIp) : TS := fun D σ H => ∃ x, σ[i]? = some (some x) ∧ te σ H fun y H1 => ti x y H1 fun z H2 => D.nx (σ.set i (some z)) H2
/-- o[i] op= e -/
def tAugS (to ti te : TE) (tget : V → V → Hp → VK → Prop) (tip : TIp) (tset : TSet) : TS := fun D σ H => to σ H fun o H1 => ti σ H1 fun i H2 => tget o i H2 fun x H3 => te σ H3 fun y H4 => tip x y H4 fun z H5 => tset o i z H5 fun H6 => D.nx σ H6
/-- o[i], by values -/
def PGet (X : Cx) (t : V → V → Hp → VK → Prop) : Prop :=
  ∀ (pins : List (Addr × Obj)) (s : Shared) (σ : St) (H : Hp) (o i : V) (ov iv : Value) (Q : VK), Inv X pins σ H s → RelV o ov → RelV i iv → t o i H Q →
    wpAny (model X.prog X.w) X.A (getItem ov iv) (EP X pins σ Q) X.xe s
/-- ints -/
def ipI (f : Int → Int → Int) : TIp := fun x y H Q => ∃ i j, x = .int i ∧ y = .int j ∧ Q (.int (f i j)) H
end

/-! ### while -/
section
variable {X : Cx} {pos : Pos}
/-- the invariant W with its measure -/
def tWhile (c : TT) (tb : TS) : TS := fun D σ H => ∃ W : Nat → St → Hp → Prop, (∃ m, W m σ H) ∧ ∀ m σ H, W m σ H →
  c σ H fun b H1 => if b = true then ∃ N : St → Hp → Prop, (∀ σ' H', N σ' H' → ∃ m', m' < m ∧ W m' σ' H') ∧ tb { D with nx := N, ct := N, bk := D.nx } σ H1 else D.nx σ H1
end

/-! ### what a loop or a comprehension walks -/
/-- at turn i: it yields x (the heap may grow), or it stops -/
structure It where
  go : Nat → Hp → Prop
  yld : Nat → Hp → V → Hp → Prop
  stop : Nat → Hp → Prop
/-- the iterator's own objects may turn: they are not the frame's, not pinned, younger than the entry (or a comprehension's own) -/
def FpOk (X : Cx) (pins : List (Addr × Obj)) (H : Hp) (b : Addr) : Prop :=
  H b = none ∧ b ≠ X.env.locals ∧ b ∉ X.fs ∧ (b ∈ X.ex ∨ X.s₀.heap.objs.size ≤ b) ∧ (∀ x c, X.env.cells.lookup x = some c → c ≠ b) ∧ ∀ p ∈ X.pn ++ pins, p.1 ≠ b
theorem Inv.fpOk {X : Cx} {pins : List (Addr × Obj)} {σ : St} {H H' : Hp} {s : Shared} {b : Addr} (I : Inv X pins σ H s) (hb : s.heap.objs.size ≤ b) (hn : H' b = none) : FpOk X pins H' b := by
  refine ⟨hn, Nat.ne_of_gt (Nat.lt_of_lt_of_le I.lt hb), I.nofs hb, .inr (Nat.le_trans I.sz hb), fun x c e z => ?_, fun p hp z => ?_⟩
  · obtain ⟨v, q⟩ := I.cell x c e
    exact absurd (Nat.lt_of_lt_of_le q.lt (by rw [z]; exact hb)) (Nat.lt_irrefl _)
  · exact absurd (Nat.lt_of_lt_of_le (Heap.lt_size (I.pin p hp).1) (by rw [z]; exact hb)) (Nat.lt_irrefl _)
structure Turn (P : Program) (w : World) (K : PySem.W.Frag) (tg : Expr) (J : It) (fp : List Addr) (it : Addr) (tn : Nat → Heap → Prop) : Prop where
  mem : it ∈ fp
  obj : ∀ i h, tn i h → ∀ b ∈ fp, ∃ o, h.get? b = some o ∧ ∀ v, o.data ≠ .cell v
  keep : ∀ i h h', tn i h → (∀ b ∈ fp, ∀ o, h.get? b = some o → h'.get? b = some o) → tn i h'
  item : ∀ (X : Cx), X.prog = P → X.w = w → X.K = K → X.calm = true → ∀ (i : Nat) (pins : List (Addr × Obj)) (s : Shared) (σ : St) (H : Hp) (E : Value → Shared → Prop), Inv X pins σ H s → (∀ b ∈ fp, FpOk X pins H b) → tn i s.heap → J.go i H →
    wpAny (model P w) X.A (pyNext (.ref it)) (fun r s1 => ∃ u, r = some u ∧
      wpAny (model P w) X.A (letOwnedTupleGo tg (.ref it) u) (fun _ s2 => ∃ x H', Inv X pins σ H' s2 ∧ RelV x u ∧ J.yld i H x H' ∧ tn (i + 1) s2.heap ∧ ∀ b ∈ fp, H' b = none) E s1) E s
  done : ∀ (X : Cx), X.prog = P → X.w = w → X.K = K → X.calm = true → ∀ (i : Nat) (pins : List (Addr × Obj)) (s : Shared) (σ : St) (H : Hp) (E : Value → Shared → Prop), Inv X pins σ H s → (∀ b ∈ fp, FpOk X pins H b) → tn i s.heap → J.stop i H →
    wpAny (model P w) X.A (pyNext (.ref it)) (fun r s1 => r = none ∧ Inv X pins σ H s1) E s
  self : ∀ (A : Around) (i : Nat) (s : Shared) (Q : Value → Shared → Prop) (E : Value → Shared → Prop), tn i s.heap → Q (.ref it) s → wpAny (model P w) A (pyIter (.ref it)) Q E s
abbrev TI := St → Hp → (It → Hp → Prop) → Prop
/-- an iterator has come -/
def PIE (X : Cx) (pins : List (Addr × Obj)) (σ : St) (tg : Expr) (R : It → Hp → Prop) (itv : Value) (s2 : Shared) : Prop :=
  ∃ (it : Addr) (fp : List Addr) (tn : Nat → Heap → Prop) (J : It) (H' : Hp), itv = .ref it ∧ Inv X pins σ H' s2 ∧ Turn X.prog X.w X.K tg J fp it tn ∧ tn 0 s2.heap ∧ (∀ b ∈ fp, FpOk X pins H' b) ∧ R J H'
def PI (X : Cx) (tg iter : Expr) (wi : TI) : Prop :=
  ∀ (pins : List (Addr × Obj)) (s : Shared) (σ : St) (H : Hp) (R : It → Hp → Prop), Inv X pins σ H s → wi σ H R →
    wpAny (model X.prog X.w) X.A (eval iter X.env) (fun v s1 => wpAny (model X.prog X.w) X.A (pyIter v) (PIE X pins σ tg R) X.xe s1) X.xe s

/-- the step ahead of the store is nothing for an iterator that keeps no tuple -/
theorem go_of {M : Model} {A : Around} {E : Value → Shared → Prop} {s : Shared} {tg : Expr} {it : Addr} {u : Value} {o : Obj} {n : String} {vs : Array Value} {Q : Unit → Shared → Prop} (ho : s.heap.get? it = some o) (hc : o.cls = .type n) (hd : o.data = .fields vs)
    (hn : ["enumerate", "zip", "dict_itemiterator", "dict_reverseitemiterator", "odict_iterator", "itertools.zip_longest", "itertools.pairwise"].contains n = false) (hQ : Q () s) : wpAny M A (letOwnedTupleGo tg (.ref it) u) Q E s := by
  unfold letOwnedTupleGo
  cases tg <;> first
    | exact wpAny_pure hQ
    | (cases u <;> first
        | exact wpAny_pure hQ
        | (refine wpAny_bind (wpAny_load ho ?_)
           rw [hc, hd]
           show wpAny M A (if (["enumerate", "zip", "dict_itemiterator", "dict_reverseitemiterator", "odict_iterator", "itertools.zip_longest", "itertools.pairwise"].contains n && vs[0]? == some (rawInt _)) = true then _ else _) Q E s
           rw [if_neg (by intro h; rw [hn, Bool.false_and] at h; cases h)]
           exact wpAny_pure hQ))

/-- the list at a, as it stands at each turn (a loop may append to it) -/
def Itl (K : PySem.W.Frag) (a : Addr) : It :=
  ⟨fun i H => ∃ xs x, SqL K H a xs ∧ xs[i]? = some x, fun i H x H' => H' = H ∧ ∀ xs, SqL K H a xs → xs[i]? = some x, fun i H => ∃ xs, SqL K H a xs ∧ xs.length ≤ i⟩
def Itt (K : PySem.W.Frag) (a : Addr) : It :=
  ⟨fun i H => ∃ xs x, SqT K H a xs ∧ xs[i]? = some x, fun i H x H' => H' = H ∧ ∀ xs, SqT K H a xs → xs[i]? = some x, fun i H => ∃ xs, SqT K H a xs ∧ xs.length ≤ i⟩
/-- lo, lo + 1, .. (n of them) -/
def Itr (lo : Int) (n : Nat) : It := ⟨fun i _ => i < n, fun i H x H' => H' = H ∧ x = .int (lo + i), fun i _ => n ≤ i⟩
theorem turn_list {P : Program} {w : World} {K : PySem.W.Frag} {tg : Expr} (a it : Addr) : Turn P w K tg (Itl K a) [it] it (fun i h => h.IsListIter it a i) where
  mem := by simp
  obj := fun i h st b hb => by
    have e : b = it := by simpa using hb
    subst e
    obtain ⟨o, e, c, d⟩ := st
    exact ⟨o, e, fun v z => by rw [d] at z; cases z⟩
  keep := fun i h h' st k => st.at fun o e => k it (by simp) o e
  item := by
    intro X hP hw hK hc i pins s σ H E I hf st hg
    subst hP hw hK
    obtain ⟨xs, x, hq, hx⟩ := hg
    obtain ⟨its, rv, p, hz⟩ := I.list hq
    obtain ⟨u, hu, ru⟩ := rv.get hx
    obtain ⟨f0, f1, f2, f3, f4, f5⟩ := hf it (by simp)
    refine wpAny_pyNext_list_item st p.isList (x := u) (by simpa using hu) fun h' st' sb => ?_
    have I1 : Inv X pins σ H { s with heap := h' } := I.turned (t' := s.toks) (fun b o hb e => (sb.2 b hb).trans e) f0 f1 f3 f4 f5
    obtain ⟨o, e, c, d⟩ := id st'
    exact ⟨u, rfl, go_of (s := { s with heap := h' }) e c d (by decide) ⟨x, H, I1, ru, ⟨rfl, fun ys hy => by rw [I.list_inj hy hq]; exact hx⟩, st', fun b hb => (hf b hb).1⟩⟩
  done := by
    intro X hP hw hK hc i pins s σ H E I hf st hg
    subst hP hw hK
    obtain ⟨xs, hq, hx⟩ := hg
    obtain ⟨its, rv, p, hz⟩ := I.list hq
    obtain ⟨f0, f1, f2, f3, f4, f5⟩ := hf it (by simp)
    have hl := rv.length
    exact wpAny_pyNext_list_end (I.ok.hd hc) st p.isList (by simp; omega) fun h' eb => ⟨rfl, I.turned (t' := s.toks) (fun b o hb e => eb b o hb e) f0 f1 f3 f4 f5⟩
  self := fun _ _ _ _ _ st h => wpAny_pyIter_listiter st h
theorem turn_range {P : Program} {w : World} {K : PySem.W.Frag} {tg : Expr} (it : Addr) (lo : Int) (n : Nat) : Turn P w K tg (Itr lo n) [it] it (fun i h => IsRangeIter h it (lo + (i : Nat) * 1) ((n : Int) - (i : Nat)) 1) where
  mem := by simp
  obj := fun i h st b hb => by
    have e : b = it := by simpa using hb
    subst e
    exact ⟨_, st, fun v z => by
      have z' : Data.fields _ = Data.cell v := z
      cases z'⟩
  keep := fun i h h' st k => k it (by simp) _ st
  item := by
    intro X hP hw hK hc i pins s σ H E I hf st hg
    subst hP hw hK
    obtain ⟨f0, f1, f2, f3, f4, f5⟩ := hf it (by simp)
    have W := Walks.range (prog := X.prog) (w := X.w) (I.ok.hd hc) it lo 1 n
    refine W.item i s _ _ hg st fun v h' tk hv st' kk => ?_
    obtain ⟨t, rfl⟩ := hv
    have I1 : Inv X pins σ H { s with heap := h', toks := tk } := I.turned (fun b o hb e => kk b o (by simpa using hb) e) f0 f1 f3 f4 f5
    refine ⟨_, rfl, go_of (s := { s with heap := h', toks := tk }) (n := "range_iterator") st' rfl rfl (by decide) ⟨.int (lo + i), H, I1, ⟨t, ?_⟩, ⟨rfl, rfl⟩, st', fun b hb => (hf b hb).1⟩⟩
    rw [Int.mul_one]
  done := by
    intro X hP hw hK hc i pins s σ H E I hf st hg
    subst hP hw hK
    obtain ⟨f0, f1, f2, f3, f4, f5⟩ := hf it (by simp)
    exact wpAny_pyNext_range_end (I.ok.hd hc) st (by have : n ≤ i := hg; omega) fun h' eb => ⟨rfl, I.turned (t' := s.toks) (fun b o hb e => eb b o hb e) f0 f1 f3 f4 f5⟩
  self := fun _ _ _ _ _ st h => wpAny_pyIter_rangeiter st h
end L2

namespace L2
open PySem PySem.Spec PyProof.Rows
section
variable {X : Cx} {tg : Expr}
def iList (K : PySem.W.Frag) (tl : TE) : TI := fun σ H R => tl σ H fun x H1 => ∃ a, x = .ref a ∧ (∃ xs, SqL K H1 a xs) ∧ R (Itl K a) H1
def iTup (K : PySem.W.Frag) (tl : TE) : TI := fun σ H R => tl σ H fun x H1 => ∃ a, x = .ref a ∧ (∃ xs, SqT K H1 a xs) ∧ R (Itt K a) H1
theorem pi_list {l : Expr} {tl : TE} (hl : PE X l tl) : PI X tg l (iList X.K tl) := by
  intro pins s σ H R I h
  refine thn (hl pins s σ H _ I h) fun v s1 ⟨x, H1, I1, r1, q1⟩ => ?_
  obtain ⟨a, e, ⟨xs, hq⟩, q⟩ := q1
  subst e
  cases r1
  obtain ⟨its, rv, p, hz⟩ := I1.list hq
  refine wpAny_pyIter_list p.isList ?_
  refine ⟨s1.heap.objs.size, [s1.heap.objs.size], _, _, H1, rfl, I1.kept (t' := s1.toks) fun b o e => Heap.get?_push_of_some _ e, turn_list a _, ⟨_, Heap.get?_push_size _ rfl, rfl, rfl⟩, fun b hb => ?_, q⟩
  have e : b = s1.heap.objs.size := by simpa using hb
  subst e
  exact I1.fpOk (Nat.le_refl _) (I1.hok.fresh (Nat.le_refl _))
/-- a range object just made, walked -/
theorem range_it {pins : List (Addr × Obj)} {σ : St} {H : Hp} {s : Shared} {R : It → Hp → Prop} {E : Value → Shared → Prop} {lo hi : Int} {t u v : Tok} {tk : Nat} (I : Inv X pins σ H s) (h1 : -(2 ^ 62) ≤ lo) (h2 : lo < 2 ^ 62) (h3 : -(2 ^ 62) ≤ hi) (h4 : hi < 2 ^ 62)
    (q : R (Itr lo (hi - lo).toNat) H) : wpAny (model X.prog X.w) X.A (pyIter (.ref s.heap.objs.size)) (PIE X pins σ tg R) E { s with heap := s.heap.push { cls := .type "range", data := .fields #[.int lo t, .int hi u, .int 1 v] }, toks := tk } := by
  refine wpAny_pyIter_range (IsRange.new ..) (small_one h1 h2 h3 h4) ?_
  have I1 : Inv X pins σ H { s with heap := s.heap.push { cls := .type "range", data := .fields #[.int lo t, .int hi u, .int 1 v] }, toks := tk } := I.kept fun b o e => Heap.get?_push_of_some _ e
  refine ⟨(s.heap.push { cls := .type "range", data := .fields #[.int lo t, .int hi u, .int 1 v] }).objs.size, [(s.heap.push { cls := .type "range", data := .fields #[.int lo t, .int hi u, .int 1 v] }).objs.size], _, _, H, rfl,
    I1.kept (t' := tk) fun b o e => Heap.get?_push_of_some _ e, turn_range _ lo (hi - lo).toNat, ?_, fun b hb => ?_, q⟩
  · have e1 : lo + ((0 : Nat) : Int) * 1 = lo := by simp
    have e2 : (((hi - lo).toNat : Nat) : Int) - ((0 : Nat) : Int) = Builtin.Range.rangeSize lo hi 1 := by rw [rangeSize_one]; split <;> omega
    show IsRangeIter _ _ (lo + ((0 : Nat) : Int) * 1) ((((hi - lo).toNat : Nat) : Int) - ((0 : Nat) : Int)) 1
    rw [e1, e2]
    exact Heap.get?_push_size _ rfl
  · have e : b = (s.heap.push { cls := .type "range", data := .fields #[.int lo t, .int hi u, .int 1 v] }).objs.size := by simpa using hb
    subst e
    exact I1.fpOk (Nat.le_refl _) (I1.hok.fresh (Nat.le_refl _))
def iRng1 (ta : TA) : TI := fun σ H R => ta σ H fun vs H1 => ∃ j : Int, vs = [.int j] ∧ -(2 ^ 62) ≤ j ∧ j < 2 ^ 62 ∧ R (Itr 0 j.toNat) H1
def iRng2 (ta : TA) : TI := fun σ H R => ta σ H fun vs H1 => ∃ i j : Int, vs = [.int i, .int j] ∧ (-(2 ^ 62) ≤ i ∧ i < 2 ^ 62 ∧ -(2 ^ 62) ≤ j ∧ j < 2 ^ 62) ∧ R (Itr i (j - i).toNat) H1
theorem pi_range1 {a : Expr} {ta : TA} {p pos : Pos} (hg : Gl X "range") (hm : X.mg "range" = none) (ha : PA X [a] ta) (hs : starEach [a] X.env = [(false, eval a X.env)] := by rfl) : PI X tg (.Call (.Name "range" p) [a] [] pos) (iRng1 ta) := by
  intro pins s σ H R I h
  refine Call_ (ld_blt I hg hm boot_range (PyProof.Rows.callWith_type1 (thn (ha pos pins s σ H _ I h) fun us s1 ⟨vs, H1, I1, r1, q1⟩ => ?_) hs rfl))
  obtain ⟨j, e, q1, q2, q⟩ := q1
  subst e
  cases r1 with
  | cons r rr =>
    cases rr
    obtain ⟨t, rfl⟩ := r
    exact call_range_1 (range_it I1 (by omega) (by omega) q1 q2 (by simpa using q))
/-! ### for -/
/-- W: the invariant by the turn and a measure; N: what the body is to reach -/
def tFor (wi : TI) (g : TG) (tb : TS) : TS := fun D σ H => wi σ H fun J H1 => ∃ W : Nat → Nat → St → Hp → Prop, (∃ m, W 0 m σ H1) ∧ ∀ i m σ H, W i m σ H →
  (J.stop i H ∧ D.nx σ H) ∨ (J.go i H ∧ ∃ N : St → Hp → Prop, (∀ σ' H', N σ' H' → ∃ m', m' < m ∧ W (i + 1) m' σ' H') ∧ ∀ x H', J.yld i H x H' → g x σ H' fun σ2 H2 => tb { D with nx := N, ct := N, bk := D.nx } σ2 H2)
/-- the records at fp as they stand -/
def pinsAt (fp : List Addr) (h : Heap) : List (Addr × Obj) := fp.filterMap fun b => (h.get? b).map fun o => (b, o)
theorem mem_pinsAt {fp : List Addr} {h : Heap} {b : Addr} {o : Obj} (hb : b ∈ fp) (e : h.get? b = some o) : (b, o) ∈ pinsAt fp h := List.mem_filterMap.mpr ⟨b, hb, by rw [e]; rfl⟩
theorem of_pinsAt {fp : List Addr} {h : Heap} {p : Addr × Obj} (hp : p ∈ pinsAt fp h) : p.1 ∈ fp ∧ h.get? p.1 = some p.2 := by
  obtain ⟨b, hb, e⟩ := List.mem_filterMap.mp hp
  cases q : h.get? b with
  | none => rw [q] at e; cases e
  | some o =>
    rw [q] at e
    have e' : (b, o) = p := Option.some.inj e
    subst e'
    exact ⟨hb, q⟩
theorem Inv.pinned {pins : List (Addr × Obj)} {σ : St} {H : Hp} {s : Shared} {fp : List Addr} (I : Inv X pins σ H s) (hf : ∀ b ∈ fp, FpOk X pins H b) (ho : ∀ b ∈ fp, ∃ o, s.heap.get? b = some o ∧ ∀ v, o.data ≠ .cell v) : Inv X (pins ++ pinsAt fp s.heap) σ H s :=
  I.pins_of fun p hp => (List.mem_append.mp hp).elim (fun z => I.pin p (List.mem_append_right _ z)) fun z => by
    obtain ⟨hb, e⟩ := of_pinsAt z
    obtain ⟨f0, f1, f2, _⟩ := hf p.1 hb
    obtain ⟨o, e', d⟩ := ho p.1 hb
    rw [e] at e'; cases e'
    exact ⟨e, f0, f1, f2, d⟩
theorem Inv.unpinned {pins pl : List (Addr × Obj)} {σ : St} {H : Hp} {s : Shared} (I : Inv X (pins ++ pl) σ H s) : Inv X pins σ H s := I.pins_of fun p hp => I.pin p (List.mem_append_right _ (List.mem_append_left _ hp))
theorem ps_for {iter : Expr} {body : List Stmt} {wi : TI} {g : TG} {tb : TS} {pos : Pos} (hp : PassesOwn (model X.prog X.w) X.A X.env X.xe) (hc : X.calm = true) (hi : PI X tg iter wi) (hg : PG X tg g) (hb : PSs X body tb)
    (hs : ∀ x, foldedSetIterable iter X.env x = pure x := by intro _; rfl) : PS X (.For tg iter body [] pos) (tFor wi g tb) := by
  intro pins s σ H D I h
  refine wpAny_For (thn (hi pins s σ H _ I h) fun v s1 h1 => thn h1 fun itv s2 h2 => ?_) hs
  obtain ⟨it, fp, tn, J, H2, e, I2, T, st2, f2, W, ⟨m0, w0⟩, turn⟩ := h2
  subst e
  -- what stays true of the iterator's objects through the loop
  have stat : ∀ {H' : Hp}, (∀ b ∈ fp, H' b = none) → ∀ b ∈ fp, FpOk X pins H' b := fun hn b hb => ⟨hn b hb, (f2 b hb).2⟩
  refine codeAny_forLoop_any (fun n s' => ∃ i σ' H', Inv X pins σ' H' s' ∧ tn i s'.heap ∧ (∀ b ∈ fp, H' b = none) ∧ W i n σ' H') ?_ m0 ⟨0, σ, H2, I2, st2, fun b hb => (f2 b hb).1, w0⟩
  rintro n s3 ⟨i, σ3, H3, I3, st3, fr3, w3⟩
  rcases turn i n σ3 H3 w3 with ⟨stop, qn⟩ | ⟨go, N, hN, step⟩
  · refine wpAny_passesOwn hp (thn (T.done X rfl rfl rfl hc i pins s3 σ3 H3 X.xe I3 (stat fr3) st3 stop) fun r s4 ⟨hr, I4⟩ => ?_)
    subst hr
    exact wpAny_execs_nil ⟨σ3, H3, I4, qn⟩
  · refine wpAny_passesOwn hp (thn (T.item X rfl rfl rfl hc i pins s3 σ3 H3 X.xe I3 (stat fr3) st3 go) fun r s4 ⟨u, hr, h4⟩ => ?_)
    subst hr
    refine wpAny_passesOwn hp (thn h4 fun _ s5 ⟨x, H5, I5, r5, y5, st5, fr5⟩ => ?_)
    have I5' := I5.pinned (stat fr5) (T.obj _ _ st5)
    refine wpAny_passesOwn hp (thn (hg _ s5 σ3 H5 x u _ I5' r5 (step x H5 y5)) fun _ s6 ⟨σ6, H6, I6, q6⟩ => ?_)
    refine wpAny_passesOwn hp (thn (hb _ s6 σ6 H6 _ I6 q6) fun f s7 q7 => ?_)
    have again : ∀ {σ7 : St} {H7 : Hp}, Inv X (pins ++ pinsAt fp s5.heap) σ7 H7 s7 → N σ7 H7 → ∃ m, m < n ∧ ∃ i σ' H', Inv X pins σ' H' s7 ∧ tn i s7.heap ∧ (∀ b ∈ fp, H' b = none) ∧ W i m σ' H' := fun {σ7 H7} I7 n7 => by
      obtain ⟨m', hm, w7⟩ := hN σ7 H7 n7
      refine ⟨m', hm, i + 1, σ7, H7, I7.unpinned, T.keep _ _ _ st5 fun b hb o e => (I7.pin (b, o) (List.mem_append_right _ (List.mem_append_right _ (mem_pinsAt hb e)))).1, fun b hb => ?_, w7⟩
      obtain ⟨o, e, d⟩ := T.obj _ _ st5 b hb
      exact (I7.pin (b, o) (List.mem_append_right _ (List.mem_append_right _ (mem_pinsAt hb e)))).2.1
    cases f with
    | next => obtain ⟨σ7, H7, I7, n7⟩ := q7; exact again I7 n7
    | cont => obtain ⟨σ7, H7, I7, n7⟩ := q7; exact again I7 n7
    | brk => obtain ⟨σ7, H7, I7, q7⟩ := q7; exact ⟨σ7, H7, I7.unpinned, q7⟩
    | ret v => obtain ⟨x7, σ7, H7, I7, r7, q7⟩ := q7; exact ⟨x7, σ7, H7, I7.unpinned, r7, q7⟩
end

/-! ### the forms one uses -/
/-- over a list that the body leaves as it is -/
theorem for_list {K : PySem.W.Frag} {a : Addr} {xs : List V} {g : TG} {tb : TS} {D : Ends} {σ : St} {H : Hp} (Pv : Nat → St → Hp → Prop) (h0 : Pv 0 σ H) (hl : ∀ i σ H, i ≤ xs.length → Pv i σ H → SqL K H a xs)
    (hs : ∀ i x σ H, xs[i]? = some x → Pv i σ H → g x σ H fun σ2 H2 => tb { D with nx := Pv (i + 1), ct := Pv (i + 1), bk := D.nx } σ2 H2) (hd : ∀ σ H, Pv xs.length σ H → D.nx σ H) :
    ∃ W : Nat → Nat → St → Hp → Prop, (∃ m, W 0 m σ H) ∧ ∀ i m σ H, W i m σ H →
      ((Itl K a).stop i H ∧ D.nx σ H) ∨ ((Itl K a).go i H ∧ ∃ N : St → Hp → Prop, (∀ σ' H', N σ' H' → ∃ m', m' < m ∧ W (i + 1) m' σ' H') ∧ ∀ x H', (Itl K a).yld i H x H' → g x σ H' fun σ2 H2 => tb { D with nx := N, ct := N, bk := D.nx } σ2 H2) := by
  refine ⟨fun i m σ H => m = xs.length - i ∧ i ≤ xs.length ∧ Pv i σ H, ⟨xs.length, by simp, Nat.zero_le _, h0⟩, ?_⟩
  rintro i m σ H ⟨rfl, hi, p⟩
  have q := hl i σ H hi p
  by_cases hlt : i < xs.length
  · refine .inr ⟨⟨xs, xs[i], q, by simp [hlt]⟩, Pv (i + 1), fun σ' H' p' => ⟨xs.length - (i + 1), by omega, rfl, hlt, p'⟩, fun x H' y => ?_⟩
    obtain ⟨e, y⟩ := y
    subst e
    exact hs i x σ _ (y xs q) p
  · have e : i = xs.length := by omega
    subst e
    exact .inl ⟨⟨xs, q, Nat.le_refl _⟩, hd σ H p⟩
theorem for_range {lo : Int} {n : Nat} {g : TG} {tb : TS} {D : Ends} {σ : St} {H : Hp} (Pv : Nat → St → Hp → Prop) (h0 : Pv 0 σ H)
    (hs : ∀ i σ H, i < n → Pv i σ H → g (.int (lo + i)) σ H fun σ2 H2 => tb { D with nx := Pv (i + 1), ct := Pv (i + 1), bk := D.nx } σ2 H2) (hd : ∀ σ H, Pv n σ H → D.nx σ H) :
    ∃ W : Nat → Nat → St → Hp → Prop, (∃ m, W 0 m σ H) ∧ ∀ i m σ H, W i m σ H →
      ((Itr lo n).stop i H ∧ D.nx σ H) ∨ ((Itr lo n).go i H ∧ ∃ N : St → Hp → Prop, (∀ σ' H', N σ' H' → ∃ m', m' < m ∧ W (i + 1) m' σ' H') ∧ ∀ x H', (Itr lo n).yld i H x H' → g x σ H' fun σ2 H2 => tb { D with nx := N, ct := N, bk := D.nx } σ2 H2) := by
  refine ⟨fun i m σ H => m = n - i ∧ i ≤ n ∧ Pv i σ H, ⟨n, by simp, Nat.zero_le _, h0⟩, ?_⟩
  rintro i m σ H ⟨rfl, hi, p⟩
  by_cases hlt : i < n
  · refine .inr ⟨hlt, Pv (i + 1), fun σ' H' p' => ⟨n - (i + 1), by omega, rfl, hlt, p'⟩, fun x H' y => ?_⟩
    obtain ⟨e, y⟩ := y
    subst e y
    exact hs i σ _ hlt p
  · have e : i = n := by omega
    subst e
    exact .inl ⟨Nat.le_refl _, hd σ H p⟩
end L2

namespace L2
open PySem PySem.Spec PyProof.Rows

abbrev R2 := V → V → Hp → VK → Prop
/-- a two-place operation on values: f is binaryOp op, inplaceOp op or compareOp op -/
def OpR (X : Cx) (f : Value → Value → Sem Value) (r : R2) : Prop :=
  ∀ (pins : List (Addr × Obj)) (s : Shared) (σ : St) (H : Hp) (x y : V) (v u : Value) (Q : VK), Inv X pins σ H s → RelV x v → RelV y u → r x y H Q →
    wpAny (model X.prog X.w) X.A (f v u) (EP X pins σ Q) X.xe s
/-- a one-place operation -/
def UnR (X : Cx) (f : Value → Sem Value) (r : V → Hp → VK → Prop) : Prop :=
  ∀ (pins : List (Addr × Obj)) (s : Shared) (σ : St) (H : Hp) (x : V) (v : Value) (Q : VK), Inv X pins σ H s → RelV x v → r x H Q →
    wpAny (model X.prog X.w) X.A (f v) (EP X pins σ Q) X.xe s
/-- a call of a value that is known (a builtin, a type) with values -/
def CallR (X : Cx) (f : Value) (r : List V → Hp → VK → Prop) : Prop :=
  ∀ (pins : List (Addr × Obj)) (s : Shared) (σ : St) (H : Hp) (xs : List V) (us : List Value) (Q : VK), Inv X pins σ H s → Vals xs us → r xs H Q →
    wpAny (model X.prog X.w) X.A (call f us) (EP X pins σ Q) X.xe s
/-- a value's truth -/
def TruR (X : Cx) (r : V → Hp → (Bool → Hp → Prop) → Prop) : Prop :=
  ∀ (pins : List (Addr × Obj)) (s : Shared) (σ : St) (H : Hp) (x : V) (v : Value) (Q : Bool → Hp → Prop), Inv X pins σ H s → RelV x v → r x H Q →
    wpAny (model X.prog X.w) X.A (truthy v) (TP X pins σ Q) X.xe s

def tOp (r : R2) (ta tb : TE) : TE := fun σ H Q => ta σ H fun x H1 => tb σ H1 fun y H2 => r x y H2 Q
def tUn (r : V → Hp → VK → Prop) (ta : TE) : TE := fun σ H Q => ta σ H fun x H1 => r x H1 Q
/-- ints in, under C, and a value out -/
def rI (C : Int → Int → Prop) (g : Int → Int → V) : R2 := fun x y H Q => ∃ i j, x = .int i ∧ y = .int j ∧ C i j ∧ Q (g i j) H
def rI0 (g : Int → Int → V) : R2 := fun x y H Q => ∃ i j, x = .int i ∧ y = .int j ∧ Q (g i j) H
def rU (g : Int → V) : V → Hp → VK → Prop := fun x H Q => ∃ i, x = .int i ∧ Q (g i) H

section
variable {X : Cx} {a b c : Expr} {ta tb tc : TE} {pos : Pos}

theorem binT (ha : PE X a ta) (hb : PE X b tb) {pins : List (Addr × Obj)} {s : Shared} {σ : St} {H : Hp} {R : V → V → Hp → Prop} (I : Inv X pins σ H s)
    (h : ta σ H fun x H1 => tb σ H1 fun y H2 => R x y H2) {Q : Value → Shared → Prop} {f : Value → Value → Sem Value}
    (hf : ∀ v u s2 x y H2, Inv X pins σ H2 s2 → RelV x v → RelV y u → R x y H2 → wpAny (model X.prog X.w) X.A (f v u) Q X.xe s2) :
    wpAny (model X.prog X.w) X.A (eval a X.env) (fun v s₁ => wpAny (model X.prog X.w) X.A (eval b X.env) (fun u s₂ => wpAny (model X.prog X.w) X.A (f v u) Q X.xe s₂) X.xe s₁) X.xe s := by
  refine thn (ha pins s σ H _ I h) fun v s1 ⟨x, H1, I1, r1, q1⟩ => ?_
  refine thn (hb pins s1 σ H1 _ I1 q1) fun u s2 ⟨y, H2, I2, r2, q2⟩ => ?_
  exact hf v u s2 x y H2 I2 r1 r2 q2

theorem pe_op {op : Operator} {r : R2} (ho : OpR X (binaryOp op) r) (ha : PE X a ta) (hb : PE X b tb) : PE X (.BinOp a op b pos) (tOp r ta tb) := by
  intro pins s σ H Q I h
  exact wpAny_BinOp (binT ha hb I h fun v u s2 x y H2 I2 rx ry q => ho pins s2 σ H2 x y v u Q I2 rx ry q)
theorem pe_un {op : UnaryOp} {r : V → Hp → VK → Prop} (ho : UnR X (unaryOp op) r) (ha : PE X a ta) : PE X (.UnaryOp op a pos) (tUn r ta) := by
  intro pins s σ H Q I h
  exact UnaryOp_ (thn (ha pins s σ H _ I h) fun v s1 ⟨x, H1, I1, r1, q1⟩ => ho pins s1 σ H1 x v Q I1 r1 q1)
/-! ### ints -/
theorem opI {f : Value → Value → Sem Value} {C : Int → Int → Prop} {g : Int → Int → Int}
    (rule : ∀ (i j : Int) (t u : Tok) (s : Shared) (Q : Value → Shared → Prop) (E : Value → Shared → Prop), C i j → Q (.int (g i j) s.toks) { s with toks := s.toks + 1 } → wpAny (model X.prog X.w) X.A (f (.int i t) (.int j u)) Q E s) :
    OpR X f (rI C fun i j => .int (g i j)) := by
  intro pins s σ H x y v u Q I rx ry h
  obtain ⟨i, j, rfl, rfl, hc, q⟩ := h
  obtain ⟨t, rfl⟩ := rx
  obtain ⟨t', rfl⟩ := ry
  exact rule i j t t' s _ _ hc ⟨.int (g i j), H, I.tok _, ⟨_, rfl⟩, q⟩
theorem opI0 {f : Value → Value → Sem Value} {g : Int → Int → Int}
    (rule : ∀ (i j : Int) (t u : Tok) (s : Shared) (Q : Value → Shared → Prop) (E : Value → Shared → Prop), Q (.int (g i j) s.toks) { s with toks := s.toks + 1 } → wpAny (model X.prog X.w) X.A (f (.int i t) (.int j u)) Q E s) :
    OpR X f (rI0 fun i j => .int (g i j)) := by
  intro pins s σ H x y v u Q I rx ry h
  obtain ⟨i, j, rfl, rfl, q⟩ := h
  obtain ⟨t, rfl⟩ := rx
  obtain ⟨t', rfl⟩ := ry
  exact rule i j t t' s _ _ ⟨.int (g i j), H, I.tok _, ⟨_, rfl⟩, q⟩
theorem opB0 {f : Value → Value → Sem Value} {g : Int → Int → Bool}
    (rule : ∀ (i j : Int) (t u : Tok) (s : Shared) (Q : Value → Shared → Prop) (E : Value → Shared → Prop), Q (.bool (g i j)) s → wpAny (model X.prog X.w) X.A (f (.int i t) (.int j u)) Q E s) :
    OpR X f (rI0 fun i j => .bl (g i j)) := by
  intro pins s σ H x y v u Q I rx ry h
  obtain ⟨i, j, rfl, rfl, q⟩ := h
  obtain ⟨t, rfl⟩ := rx
  obtain ⟨t', rfl⟩ := ry
  exact rule i j t t' s _ _ ⟨.bl (g i j), H, I, rfl, q⟩

def CDiv (i j : Int) : Prop := 0 < j ∧ j < 1073741824
def CDivN (i j : Int) : Prop := j ≠ 0 ∧ j.natAbs < 1073741824
def CPow (i j : Int) : Prop := 0 ≤ j ∧ j ≤ 1000000 ∧ i.natAbs < 2 ^ 64
def CMul (i j : Int) : Prop := (-(2 ^ 64) < i ∧ i < 2 ^ 64) ∨ (-(2 ^ 64) < j ∧ j < 2 ^ 64)
theorem CMul.ok {i j : Int} (h : CMul i j) : IntMulOk i j := by
  rcases h with ⟨h1, h2⟩ | ⟨h1, h2⟩
  · exact .of_left (intBits_le_64 h1 h2)
  · exact .of_right (intBits_le_64 h1 h2)
theorem op_add : OpR X (binaryOp .Add) (rI0 fun i j => .int (i + j)) := opI0 fun _ _ _ _ _ _ _ q => add_int q
theorem op_sub : OpR X (binaryOp .Sub) (rI0 fun i j => .int (i - j)) := opI0 fun _ _ _ _ _ _ _ q => sub_int q
theorem op_mul : OpR X (binaryOp .Mult) (rI CMul fun i j => .int (i * j)) := opI fun _ _ _ _ _ _ _ hc q => mul_int q hc.ok
/-- % by a positive divisor of any size -/
theorem op_mod : OpR X (binaryOp .Mod) (rI (fun _ j => 0 < j) fun i j => .int (i % j)) := opI fun i j _ _ _ _ _ hc q => by
  have h1 : (0 : Int) < j := hc
  exact mod_int' (by omega) (by rw [Int.fmod_eq_emod_of_nonneg i (by omega)]; exact q)
theorem op_pow : OpR X (binaryOp .Pow) (rI CPow fun i j => .int (i ^ j.toNat)) := opI fun _ _ _ _ _ _ _ hc q => pow_int_small hc.1 hc.2.1 hc.2.2 q
theorem unI {f : Value → Sem Value} {g : Int → Int}
    (rule : ∀ (i : Int) (t : Tok) (s : Shared) (Q : Value → Shared → Prop) (E : Value → Shared → Prop), Q (.int (g i) s.toks) { s with toks := s.toks + 1 } → wpAny (model X.prog X.w) X.A (f (.int i t)) Q E s) :
    UnR X f (rU fun i => .int (g i)) := by
  intro pins s σ H x v Q I rx h
  obtain ⟨i, rfl, q⟩ := h
  obtain ⟨t, rfl⟩ := rx
  exact rule i t s _ _ ⟨.int (g i), H, I.tok _, ⟨_, rfl⟩, q⟩
theorem un_neg : UnR X (unaryOp .USub) (rU fun i => .int (-i)) := unI fun _ _ _ _ _ q => neg_int q
/-! ### bools among ints: n += (a < b) -/
end

/-! ### comparisons -/
/-- the scalars that == tells apart as data does -/
def scal : V → V → Bool
  | .non, .non => true | .non, .int _ => true | .int _, .non => true | .non, .bl _ => true | .bl _, .non => true | .non, .str _ => true | .str _, .non => true
  | .int _, .int _ => true | .bl _, .bl _ => true | .str _, .str _ => true | .byt _, .byt _ => true
  | .int _, .str _ => true | .str _, .int _ => true | .bl _, .str _ => true | .str _, .bl _ => true
  | _, _ => false
def rEq : R2 := fun x y H Q => scal x y = true ∧ Q (.bl (decide (x = y))) H
def rNe : R2 := fun x y H Q => scal x y = true ∧ Q (.bl (!decide (x = y))) H

theorem dec_int {i j : Int} : decide (V.int i = V.int j) = (i == j) := by
  rw [Bool.eq_iff_iff]
  simp
theorem dec_bl {i j : Bool} : decide (V.bl i = V.bl j) = (i == j) := by
  rw [Bool.eq_iff_iff]
  simp
theorem dec_str {i j : Str} : decide (V.str i = V.str j) = (i == j) := by
  rw [Bool.eq_iff_iff]
  simp
theorem dec_byt {i j : Array UInt8} : decide (V.byt i = V.byt j) = (i.toList == j.toList) := by
  rw [Bool.eq_iff_iff]
  cases i
  cases j
  simp

section
variable {X : Cx} {a b c : Expr} {ta tb tc : TE} {pos : Pos}
theorem fin_bl {pins : List (Addr × Obj)} {σ : St} {H : Hp} {s : Shared} {Q : VK} {k k' : Bool} (I : Inv X pins σ H s) (q : Q (.bl k) H) (e : k = k') : EP X pins σ Q (.bool k') s := by
  subst e
  exact ⟨.bl k, H, I, rfl, q⟩
theorem op_eq : OpR X (compareOp .Eq) rEq := by
  intro pins s σ H x y v u Q I rx ry h
  obtain ⟨hs, q⟩ := h
  cases x with
  | non =>
    cases rx
    cases y with
    | non => cases ry; exact PySem.EqNone.eq_none_none (fin_bl I q (by simp))
    | bl j => cases ry; exact PySem.EqNone.eq_none_bool (fin_bl I q (by simp))
    | int j => obtain ⟨t', rfl⟩ := ry; exact PySem.EqNone.eq_none_int (fin_bl I q (by simp))
    | str j => obtain ⟨t', rfl⟩ := ry; exact PySem.EqNone.eq_none_str (fin_bl I q (by simp))
    | _ => exact absurd (show false = true from hs) Bool.false_ne_true
  | bl i =>
    cases rx
    cases y with
    | non => cases ry; exact PySem.EqNone.eq_bool_none (fin_bl I q (by simp))
    | bl j => cases ry; exact eq_bool (fin_bl I q dec_bl)
    | str j => obtain ⟨t', rfl⟩ := ry; exact PySem.EqMixed.eq_bool_str (fin_bl I q (by simp))
    | _ => exact absurd (show false = true from hs) Bool.false_ne_true
  | int i =>
    obtain ⟨t, rfl⟩ := rx
    cases y with
    | non => cases ry; exact PySem.EqNone.eq_int_none (fin_bl I q (by simp))
    | int j => obtain ⟨t', rfl⟩ := ry; exact eq_int (fin_bl I q dec_int)
    | str j => obtain ⟨t', rfl⟩ := ry; exact PySem.EqMixed.eq_int_str (fin_bl I q (by simp))
    | _ => exact absurd (show false = true from hs) Bool.false_ne_true
  | str i =>
    obtain ⟨t, rfl⟩ := rx
    cases y with
    | non => cases ry; exact PySem.EqNone.eq_str_none (fin_bl I q (by simp))
    | bl j => cases ry; exact PySem.EqMixed.eq_str_bool (fin_bl I q (by simp))
    | int j => obtain ⟨t', rfl⟩ := ry; exact PySem.EqMixed.eq_str_int (fin_bl I q (by simp))
    | str j => obtain ⟨t', rfl⟩ := ry; exact eq_str (fin_bl I q dec_str)
    | _ => exact absurd (show false = true from hs) Bool.false_ne_true
  | byt i =>
    obtain ⟨t, rfl⟩ := rx
    cases y with
    | byt j => obtain ⟨t', rfl⟩ := ry; exact PySem.W.eq_bytes (fin_bl I q dec_byt)
    | _ => exact absurd (show false = true from hs) Bool.false_ne_true
  | _ => cases y <;> exact absurd (show false = true from hs) Bool.false_ne_true
theorem op_ne : OpR X (compareOp .NotEq) rNe := by
  intro pins s σ H x y v u Q I rx ry h
  obtain ⟨hs, q⟩ := h
  cases x with
  | non =>
    cases rx
    cases y with
    | non => cases ry; exact PySem.EqNone.ne_none_none (fin_bl I q (by simp))
    | bl j => cases ry; exact PySem.EqNone.ne_none_bool (fin_bl I q (by simp))
    | int j => obtain ⟨t', rfl⟩ := ry; exact PySem.EqNone.ne_none_int (fin_bl I q (by simp))
    | str j => obtain ⟨t', rfl⟩ := ry; exact PySem.EqNone.ne_none_str (fin_bl I q (by simp))
    | _ => exact absurd (show false = true from hs) Bool.false_ne_true
  | bl i =>
    cases rx
    cases y with
    | non => cases ry; exact PySem.EqNone.ne_bool_none (fin_bl I q (by simp))
    | bl j => cases ry; exact ne_bool (fin_bl I q (congrArg not dec_bl))
    | str j => obtain ⟨t', rfl⟩ := ry; exact PySem.EqMixed.ne_bool_str (fin_bl I q (by simp))
    | _ => exact absurd (show false = true from hs) Bool.false_ne_true
  | int i =>
    obtain ⟨t, rfl⟩ := rx
    cases y with
    | non => cases ry; exact PySem.EqNone.ne_int_none (fin_bl I q (by simp))
    | int j => obtain ⟨t', rfl⟩ := ry; exact ne_int (fin_bl I q (congrArg not dec_int))
    | str j => obtain ⟨t', rfl⟩ := ry; exact PySem.EqMixed.ne_int_str (fin_bl I q (by simp))
    | _ => exact absurd (show false = true from hs) Bool.false_ne_true
  | str i =>
    obtain ⟨t, rfl⟩ := rx
    cases y with
    | non => cases ry; exact PySem.EqNone.ne_str_none (fin_bl I q (by simp))
    | bl j => cases ry; exact PySem.EqMixed.ne_str_bool (fin_bl I q (by simp))
    | int j => obtain ⟨t', rfl⟩ := ry; exact PySem.EqMixed.ne_str_int (fin_bl I q (by simp))
    | str j => obtain ⟨t', rfl⟩ := ry; exact ne_str (fin_bl I q (congrArg not dec_str))
    | _ => exact absurd (show false = true from hs) Bool.false_ne_true
  | byt i =>
    obtain ⟨t, rfl⟩ := rx
    cases y with
    | byt j => obtain ⟨t', rfl⟩ := ry; exact PySem.W.ne_bytes (fin_bl I q (congrArg not dec_byt))
    | _ => exact absurd (show false = true from hs) Bool.false_ne_true
  | _ => cases y <;> exact absurd (show false = true from hs) Bool.false_ne_true

theorem op_lt : OpR X (compareOp .Lt) (rI0 fun i j => .bl (decide (i < j))) := opB0 fun _ _ _ _ _ _ _ q => lt_int q
theorem op_le : OpR X (compareOp .LtE) (rI0 fun i j => .bl (decide (i ≤ j))) := opB0 fun _ _ _ _ _ _ _ q => le_int q
theorem op_gt : OpR X (compareOp .Gt) (rI0 fun i j => .bl (decide (j < i))) := opB0 fun _ _ _ _ _ _ _ q => gt_int q
/-- the one string within the other -/
theorem op_in_str : OpR X (compareOp .In) (fun x y H Q => ∃ i j, x = .str i ∧ y = .str j ∧ Q (.bl (!(Builtin.Str.occurrences j i 0 j.length 1).isEmpty)) H) := by
  intro pins s σ H x y v u Q I rx ry h
  obtain ⟨i, j, rfl, rfl, q⟩ := h
  obtain ⟨t, rfl⟩ := rx
  obtain ⟨t', rfl⟩ := ry
  exact in_str (fin_bl I q rfl)

/-- is None, is not None: the right side a value none -/
theorem op_isN : OpR X (compareOp .Is) (fun x y H Q => y = .non ∧ Q (.bl (decide (x = .non))) H) := by
  intro pins s σ H x y v u Q I rx ry h
  obtain ⟨rfl, q⟩ := h
  cases ry
  refine is_none_gen (fin_bl I q ?_)
  cases x <;> first
    | (cases rx; rfl)
    | (obtain ⟨t, rfl⟩ := rx; rfl)
theorem op_notin_str : OpR X (compareOp .NotIn) (fun x y H Q => ∃ i j, x = .str i ∧ y = .str j ∧ Q (.bl (!(!(Builtin.Str.occurrences j i 0 j.length 1).isEmpty))) H) := by
  intro pins s σ H x y v u Q I rx ry h
  obtain ⟨i, j, rfl, rfl, q⟩ := h
  obtain ⟨t, rfl⟩ := rx
  obtain ⟨t', rfl⟩ := ry
  exact notIn_str (fin_bl I q rfl)
/-- is, is not of two objects that are tracked lists or instances -/
def isObj : HO → Bool
  | .lst _ => true
  | .ins _ _ _ => true
  | _ => false
theorem nomark (b : Expr) {op : CmpOp} (h : op ≠ .In := by decide) (h2 : op ≠ .NotIn := by decide) : behindInMarks op b = false := by
  have e1 : (op == CmpOp.In) = false := by cases op <;> first | rfl | exact absurd rfl h
  have e2 : (op == CmpOp.NotIn) = false := by cases op <;> first | rfl | exact absurd rfl h2
  cases b <;> simp [behindInMarks, e1, e2]
/-- a comparison as a value; hm: nomark b, or (for in, not in) by with_unfolding_all rfl -/
theorem pe_cmpR {op : CmpOp} {r : R2} (ho : OpR X (compareOp op) r) (ha : PE X a ta) (hb : PE X b tb) (hm : behindInMarks op b = false) : PE X (.Compare a [op] [b] pos) (tOp r ta tb) := by
  intro pins s σ H Q I h
  exact wpAny_Compare1 (binT ha hb I h fun v u s2 x y H2 I2 rx ry q => ho pins s2 σ H2 x y v u Q I2 rx ry q) hm
/-- a reading of a value as a test -/
def tTest (t : TE) : TT := fun σ H Q => t σ H fun x H' => ∃ k, x = .bl k ∧ Q k H'
theorem pt_cmpR {op : CmpOp} {r : R2} (ho : OpR X (compareOp op) r) (ha : PE X a ta) (hb : PE X b tb) (hm : behindInMarks op b = false) : PT X (.Compare a [op] [b] pos) (tTest (tOp r ta tb)) := by
  intro pins s σ H Q I h
  refine wpAny_isTrue_Compare1 (thn (ha pins s σ H _ I h) fun v s1 ⟨x, H1, I1, r1, q1⟩ => thn (hb pins s1 σ H1 _ I1 q1) fun u s2 ⟨y, H2, I2, r2, q2⟩ =>
    thn (ho pins s2 σ H2 x y v u _ I2 r1 r2 q2) fun c s3 ⟨z, H3, I3, r3, k, e, q3⟩ => ?_) hm
  subst e
  cases r3
  exact wpAny_truthy_bool ⟨H3, I3, q3⟩
/-- a op1 b op2 c -/
def tChain (r r' : R2) (ta tb tc : TE) : TE := fun σ H Q => ta σ H fun x H1 => tb σ H1 fun y H2 => r x y H2 fun z H3 => ∃ k, z = .bl k ∧
  (if k = true then tc σ H3 fun w' H4 => r' y w' H4 Q else Q (.bl false) H3)
theorem pe_chain {op op' : CmpOp} {r r' : R2} (ho : OpR X (compareOp op) r) (ho' : OpR X (compareOp op') r') (ha : PE X a ta) (hb : PE X b tb) (hc : PE X c tc)
    (hm : lastMarks [op, op'] [b, c] = false := by with_unfolding_all rfl) : PE X (.Compare a [op, op'] [b, c] pos) (tChain r r' ta tb tc) := by
  intro pins s σ H Q I h
  refine Compare_chain (thn (ha pins s σ H _ I h) fun v s1 ⟨x, H1, I1, r1, q1⟩ => chain_link (thn (hb pins s1 σ H1 _ I1 q1) fun u s2 ⟨y, H2, I2, r2, q2⟩ =>
    thn (ho pins s2 σ H2 x y v u _ I2 r1 r2 q2) fun d s3 ⟨z, H3, I3, r3, k, e, q3⟩ => ?_)) hm
  subst e
  cases r3
  refine wpAny_truthy_bool ?_
  cases k with
  | false => exact ite_ff ⟨.bl false, H3, I3, rfl, q3⟩
  | true => exact ite_tt (chain_last (thn (hc pins s3 σ H3 _ I3 q3) fun w' s4 ⟨z', H4, I4, r4, q4⟩ => ho' pins s4 σ H4 y z' u w' Q I4 r2 r4 q4))
theorem pt_chain {op op' : CmpOp} {r r' : R2} (ho : OpR X (compareOp op) r) (ho' : OpR X (compareOp op') r') (ha : PE X a ta) (hb : PE X b tb) (hc : PE X c tc)
    (hm : lastMarks [op, op'] [b, c] = false := by with_unfolding_all rfl) : PT X (.Compare a [op, op'] [b, c] pos) (tTest (tChain r r' ta tb tc)) := by
  intro pins s σ H Q I h
  refine isTrue_chain (thn (ha pins s σ H _ I h) fun v s1 ⟨x, H1, I1, r1, q1⟩ => test_link (thn (hb pins s1 σ H1 _ I1 q1) fun u s2 ⟨y, H2, I2, r2, q2⟩ =>
    thn (ho pins s2 σ H2 x y v u _ I2 r1 r2 q2) fun d s3 ⟨z, H3, I3, r3, k, e, q3⟩ => ?_)) hm
  subst e
  cases r3
  refine wpAny_truthy_bool ?_
  cases k with
  | false =>
    obtain ⟨k', e', q'⟩ := q3
    cases e'
    exact ite_ff ⟨H3, I3, q'⟩
  | true =>
    refine ite_tt (test_last (thn (hc pins s3 σ H3 _ I3 q3) fun w' s4 ⟨z', H4, I4, r4, q4⟩ => thn (ho' pins s4 σ H4 y z' u w' _ I4 r2 r4 q4) fun d' s5 ⟨z2, H5, I5, r5, k2, e2, q5⟩ => ?_))
    subst e2
    cases r5
    exact wpAny_truthy_bool ⟨H5, I5, q5⟩

/-! ### truth -/
/-- a value's truth by the abstract heap -/
def TruV (K : PySem.W.Frag) (x : V) (H : Hp) (k : Bool) : Prop :=
  match x with
  | .non => k = false
  | .bl b => k = b
  | .int i => k = (i != 0)
  | .str y => y.length ≤ sizeLine ∧ k = ((y.length : Int) != 0)
  | .byt y => y.size ≤ sizeLine ∧ k = ((y.size : Int) != 0)
  | .ref p => (∃ xs, SqL K H p xs ∧ k = !xs.isEmpty) ∨ (∃ xs, SqT K H p xs ∧ k = !xs.isEmpty) ∨ ∃ kvs, H p = some (.dK kvs) ∧ k = !kvs.isEmpty
  | _ => False
theorem line63 : (sizeLine : Nat) < 2 ^ 63 := by rw [sizeLine_eq]; decide
/-! ### strs and bytes -/
theorem op_add_str : OpR X (binaryOp .Add) (fun x y H Q => ∃ i j, x = .str i ∧ y = .str j ∧ i.length + j.length ≤ sizeLine ∧ Q (.str (i ++ j)) H) := by
  intro pins s σ H x y v u Q I rx ry h
  obtain ⟨i, j, rfl, rfl, hz, q⟩ := h
  obtain ⟨t, rfl⟩ := rx
  obtain ⟨t', rfl⟩ := ry
  exact add_str (fun t' tk => ⟨.str (i ++ j), H, I.tok _, ⟨_, rfl⟩, q⟩) hz
theorem op_add_byt : OpR X (binaryOp .Add) (fun x y H Q => ∃ i j, x = .byt i ∧ y = .byt j ∧ i.size + j.size ≤ 16777216 ∧ Q (.byt (i ++ j)) H) := by
  intro pins s σ H x y v u Q I rx ry h
  obtain ⟨i, j, rfl, rfl, hz, q⟩ := h
  obtain ⟨t, rfl⟩ := rx
  obtain ⟨t', rfl⟩ := ry
  exact PySem.W.KBy.add_bytes hz (fun t' tk => ⟨.byt (i ++ j), H, I.tok _, ⟨_, rfl⟩, q⟩)

def PlainIxT (b : Expr) : Prop := ∀ o i, subscripted b false o i = operate [o, i] (getItem o i)
/-! ### scalar builtins, by CallR -/
theorem vals1 {x : V} {us : List Value} (r : Vals [x] us) : ∃ u, us = [u] ∧ RelV x u := by
  cases r with
  | cons r1 r2 => cases r2; exact ⟨_, rfl, r1⟩
theorem vals2 {x y : V} {us : List Value} (r : Vals [x, y] us) : ∃ u w', us = [u, w'] ∧ RelV x u ∧ RelV y w' := by
  cases r with
  | cons r1 r2 =>
    cases r2 with
    | cons r3 r4 => cases r4; exact ⟨_, _, rfl, r1, r3⟩
theorem call_max2 (hc : X.calm = true) : CallR X (.builtin "max") (fun xs H Q => ∃ i j, xs = [.int i, .int j] ∧ Q (.int (if j > i then j else i)) H) := by
  intro pins s σ H xs us Q I r h
  obtain ⟨i, j, rfl, q⟩ := h
  obtain ⟨u, w', rfl, ⟨t, rfl⟩, ⟨t', rfl⟩⟩ := vals2 r
  refine max_two_ints (I.ok.hd hc) fun h' tk k => ⟨_, H, I.kept k, ?_, q⟩
  by_cases hj : j > i
  · rw [if_pos hj, if_pos hj]; exact ⟨_, rfl⟩
  · rw [if_neg hj, if_neg hj]; exact ⟨_, rfl⟩
theorem call_min2 (hc : X.calm = true) : CallR X (.builtin "min") (fun xs H Q => ∃ i j, xs = [.int i, .int j] ∧ Q (.int (if j < i then j else i)) H) := by
  intro pins s σ H xs us Q I r h
  obtain ⟨i, j, rfl, q⟩ := h
  obtain ⟨u, w', rfl, ⟨t, rfl⟩, ⟨t', rfl⟩⟩ := vals2 r
  refine min_two_ints (I.ok.hd hc) fun h' tk k => ⟨_, H, I.kept k, ?_, q⟩
  by_cases hj : j < i
  · rw [if_pos hj, if_pos hj]; exact ⟨_, rfl⟩
  · rw [if_neg hj, if_neg hj]; exact ⟨_, rfl⟩
theorem call_str_int : CallR X (.type "str") (fun xs H Q => ∃ i, xs = [.int i] ∧ i.natAbs.log2 < 1920 ∧ Q (.str (toString i)) H) := by
  intro pins s σ H xs us Q I r h
  obtain ⟨i, rfl, hz, q⟩ := h
  obtain ⟨u, rfl, t, rfl⟩ := vals1 r
  exact PySem.P.str_of_int hz ⟨.str _, H, I.tok _, ⟨_, rfl⟩, q⟩
/-- len of a str, a bytes, a list, a tuple -/
def LenV (K : PySem.W.Frag) (x : V) (H : Hp) (n : Nat) : Prop :=
  match x with
  | .str y => y.length ≤ sizeLine ∧ n = y.length
  | .byt y => y.size ≤ sizeLine ∧ n = y.size
  | .ref p => (∃ xs, SqL K H p xs ∧ n = xs.length) ∨ ∃ xs, SqT K H p xs ∧ n = xs.length
  | _ => False
end
end L2

namespace L2
open PySem PySem.Spec PyProof.Rows

/-! ### an instance, its attributes a map -/
structure ObjM (h : Heap) (x dx C : Addr) (mA : Str → Option Value) : Prop where
  obj : h.get? x = some (PySem.W.instObj C dx)
  ns : h.Ns1 dx mA
  ne : dx ≠ x

theorem lookIn_ns {h : Heap} {dx : Addr} {mA : Str → Option Value} (n : h.Ns1 dx mA) : ∃ od, h.get? dx = some od ∧ ∀ name, PySem.W.lookIn name od = some (mA name) := by
  obtain ⟨o, es, ep, ho, hd, hk, _, hm⟩ := n
  refine ⟨o, ho, fun name => ?_⟩
  have e := hm name
  unfold nsFind findBy at e
  rw [← Array.find?_toList] at e
  unfold PySem.W.lookIn
  rw [hd]
  dsimp only
  split
  · rename_i y q
    rw [q] at e
    exact congrArg some e
  · rename_i q
    rw [q] at e
    have a : es.toList.any (·.refKey) = false := by
      rw [List.any_eq_false]
      intro y hy
      obtain ⟨z, t, hkey⟩ := hk y (Array.mem_toList_iff.mp hy)
      simp [DictEntry.refKey, hkey]
    have a' : ¬ es.toList.any (·.refKey) = true := by rw [a]; exact Bool.false_ne_true
    rw [if_neg a']
    exact congrArg some e

theorem ObjM.look {h : Heap} {x dx C : Addr} {mA : Str → Option Value} (I : ObjM h x dx C mA) : ∃ od, PySem.W.InstAt h x (PySem.W.instObj C dx) C (some od) ∧ ∀ name, PySem.W.lookIn name od = some (mA name) :=
  let ⟨od, ho, hl⟩ := lookIn_ns I.ns
  ⟨od, ⟨I.obj, rfl, rfl, ho⟩, hl⟩

section
variable {prog : Program} {w : World} {A : Around} {E : Value → Shared → Prop} {s : Shared} {K : PySem.W.Frag} {x dx C f : Addr} {mA : Str → Option Value} {name : Str} {v : Value}

theorem get_map {expr : Bool} {Q : Value → Shared → Prop} (X : K.In s.heap) (I : ObjM s.heap x dx C mA) (hg : PySem.W.plainGet K C name = true) (hh : PySem.W.hasDictIn K C = true)
    (ha : PySem.W.findIn K (.ref C) name = some none) (hv : mA name = some v) (hv' : PySem.W.handedIn v = true) (h : Q v { s with toks := s.toks + 1 }) :
    wpAny (model prog w) A (getAttr (.ref x) name expr) Q E s := by
  obtain ⟨od, J, hl⟩ := I.look
  exact PySem.W.get_value X J (PySem.W.plainGet_of hg).1 (PySem.W.findObj_own hh ha rfl (by rw [hl, hv])) hv' h

theorem get_meth {pl : Sem Bool} {Q : Value × List Value → Shared → Prop} (X : K.In s.heap) (I : ObjM s.heap x dx C mA) (hg : PySem.W.plainGet K C name = true)
    (hf : PySem.W.findIn K (.ref C) name = some (some (.ref f))) (ht : PySem.W.isFn K (.ref f) = true) (hv : mA name = none) (h : Q (.ref f, [.ref x]) s) :
    wpAny (model prog w) A (getMethod (.ref x) name pl) Q E s := by
  obtain ⟨od, J, hl⟩ := I.look
  exact PySem.W.method_fn X J (PySem.W.plainGet_of hg).1 (PySem.W.plainGet_of hg).2 hf (beq_iff_eq.mp ht) (by show (PySem.W.lookIn name od).map (·.isSome) = some false; rw [hl, hv]; rfl) h

theorem set_map {ns : List Str} {Q : Unit → Shared → Prop} (X : K.In s.heap) (I : ObjM s.heap x dx C mA)
    (hs : PySem.W.findIn K (.ref C) "__setattr__" = some (some (.builtin "object.__setattr__"))) (hp : PySem.W.plainOver K C = true) (ht : PySem.W.takerIn K C name = some none) (hh : PySem.W.hasDictIn K C = true)
    (hw : PySem.Within mA ns) (hsz : ns.length ≤ sizeLine)
    (h : ∀ h', ObjM h' x dx C (fun y => if y = name then some v else mA y) → Heap.SameBut dx s.heap h' → Q () { s with heap := h', toks := s.toks + 2 }) :
    wpAny (model prog w) A (setAttr (.ref x) name v) Q E s := by
  obtain ⟨od, J, hl⟩ := I.look
  refine PySem.W.set_plain X J hs (PySem.W.osa_open (s := { s with toks := s.toks + 1 }) (r := none) X J hp ht fun b => ?_)
  obtain ⟨cd, hc, hd'⟩ := PySem.W.any_some hh
  have hx : s.heap.get? x = some ⟨.ref C, some dx, .plain, #[]⟩ := I.obj
  refine wpAny_bind (wpAny_pure (wpAny_bind (wpAny_bind (wpAny_loadPart hx (wpAny_bind (PySem.W.Looks.here (s := { s with toks := s.toks + 1 }) (PySem.W.looks_clsIn X hc) ?_))))))
  rw [hd']
  refine wpAny_pure (a := some dx) (wpAny_bind (wpAny_pure (wpAny_bind ?_)))
  refine wpAny_nsSet1 (s := { s with toks := s.toks + 1 }) I.ns fun h' hn2 hs2 => ?_
  obtain ⟨oD, esD, epD, hoD, hdD, hcD⟩ := hn2.count (PySem.Within.cons name v hw)
  refine wpAny_bind (wpAny_lookBehind hoD (by rw [hdD]; exact pastItsLine_dict (Nat.le_trans hcD (by rw [List.length_cons]; omega))) ?_)
  exact wpAny_pure (h _ ⟨(hs2.2 _ (Ne.symm I.ne)).trans I.obj, hn2, I.ne⟩ hs2)

/-- C(..): the dict at the heap's end, the instance behind it; then its __init__ -/
theorem make_map {R : Result → Shared → Prop} {vs : List Value} {kw : List (Str × Value)} (X : K.In s.heap) (hm : PySem.W.makesIn K C = true)
    (hi : PySem.W.findIn K (.ref C) "__init__" = some (some (.ref f))) (hf : PySem.W.typeIn K (.ref f) = some (.type "function"))
    (h : codeAny (model prog w) (A.under (.builtin "type.__call__" ⟨.ref C :: vs, kw⟩)) (.call (.ref f) ⟨.ref (s.heap.objs.size + 1) :: vs, kw⟩) (PySem.W.InitBack (s.heap.objs.size + 1) R)
      { s with heap := (s.heap.push PySem.W.emptyDict).push (PySem.W.instObj C s.heap.objs.size) }) :
    codeAny (model prog w) A (.call (.ref C) ⟨vs, kw⟩) R s := by
  obtain ⟨hh, g, d, t, os⟩ := s
  exact PySem.W.make_core (PySem.W.makes_of X hm) (PySem.W.looks_findIn X hi) (fun self => PySem.W.bind_fn X self hf) (.inl rfl) h
end

/-! ### the attributes as a list of pairs -/
def putF (f : Str) (v : V) : List (Str × V) → List (Str × V)
  | [] => [(f, v)]
  | (g, x) :: r => if g = f then (g, v) :: r else (g, x) :: putF f v r
theorem lookup_putF (f g : Str) (v : V) : ∀ fs : List (Str × V), (putF f v fs).lookup g = if g = f then some v else fs.lookup g
  | [] => by
    show List.lookup g [(f, v)] = _
    by_cases h : g = f
    · have hb : (g == f) = true := beq_iff_eq.mpr h
      simp only [List.lookup, hb, if_pos h]
    · have hb : (g == f) = false := beq_eq_false_iff_ne.mpr h
      simp only [List.lookup, hb, if_neg h]
  | (k, x) :: r => by
    have ih := lookup_putF f g v r
    rw [show putF f v ((k, x) :: r) = (if k = f then (k, v) :: r else (k, x) :: putF f v r) from rfl]
    by_cases hk : k = f
    · rw [if_pos hk]
      by_cases h : g = k
      · have hb : (g == k) = true := beq_iff_eq.mpr h
        simp only [List.lookup, hb, if_pos (h.trans hk)]
      · have hb : (g == k) = false := beq_eq_false_iff_ne.mpr h
        simp only [List.lookup, hb, if_neg (fun e : g = f => h (e.trans hk.symm))]
    · rw [if_neg hk]
      by_cases h : g = k
      · have hb : (g == k) = true := beq_iff_eq.mpr h
        simp only [List.lookup, hb, if_neg (fun e : g = f => hk (h.symm.trans e))]
      · have hb : (g == k) = false := beq_eq_false_iff_ne.mpr h
        simp only [List.lookup, hb]
        exact ih
theorem keys_putF (f : Str) (v : V) : ∀ fs : List (Str × V), f ∈ (putF f v fs).map (·.1) ∧ ∀ g, g ∈ fs.map (·.1) → g ∈ (putF f v fs).map (·.1)
  | [] => ⟨by simp [putF], fun g h => by simp at h⟩
  | (k, x) :: r => by
    obtain ⟨i1, i2⟩ := keys_putF f v r
    rw [show putF f v ((k, x) :: r) = (if k = f then (k, v) :: r else (k, x) :: putF f v r) from rfl]
    by_cases hk : k = f
    · rw [if_pos hk]
      subst hk
      exact ⟨by simp, fun g h => by simpa using h⟩
    · rw [if_neg hk]
      refine ⟨?_, fun g h => ?_⟩
      · rw [List.map_cons]
        exact List.mem_cons_of_mem _ i1
      · rw [List.map_cons] at h ⊢
        rcases List.mem_cons.mp h with e | e
        · exact List.mem_cons.mpr (.inl e)
        · exact List.mem_cons_of_mem _ (i2 g e)
theorem length_putF (f : Str) (v : V) : ∀ fs : List (Str × V), (putF f v fs).length ≤ fs.length + 1
  | [] => by simp [putF]
  | (k, x) :: r => by
    have ih := length_putF f v r
    rw [show putF f v ((k, x) :: r) = (if k = f then (k, v) :: r else (k, x) :: putF f v r) from rfl]
    by_cases hk : k = f
    · rw [if_pos hk, List.length_cons, List.length_cons]; omega
    · rw [if_neg hk, List.length_cons, List.length_cons]; omega

theorem RelO.some_of {v : V} {o : Option Value} (r : RelO (some v) o) : ∃ u, o = some u ∧ RelV v u := by
  cases o with
  | none => exact (show False from r).elim
  | some u => exact ⟨u, rfl, r⟩
theorem RelO.none_of {o : Option Value} (r : RelO none o) : o = none := by
  cases o with
  | none => rfl
  | some u => exact (show False from r).elim
theorem handed_of {v : V} {u : Value} (r : RelV v u) : PySem.W.handedIn u = true := by
  cases v with
  | non => cases (show u = Value.none from r); rfl
  | bl b => cases (show u = Value.bool b from r); rfl
  | int i => obtain ⟨t, e⟩ := (show ∃ t, u = Value.int i t from r); cases e; rfl
  | str x => obtain ⟨t, e⟩ := (show ∃ t, u = Value.str x t from r); cases e; rfl
  | byt b => obtain ⟨t, e⟩ := (show ∃ t, u = Value.bytes b t from r); cases e; rfl
  | flt b => obtain ⟨t, e⟩ := (show ∃ t, u = Value.float b t from r); cases e; rfl
  | ref a => cases (show u = Value.ref a from r); rfl
  | ty n => cases (show u = Value.type n from r); rfl

section
variable {P : Program} {w : World} {H H' : Hp} {h h' : Heap} {a C dx : Addr} {fs fs' : List (Str × V)}
theorem ins_get (hok : HOk P w H h) (e : H a = some (.ins C dx fs)) : ∃ mA, ObjM h a dx C mA ∧ (∀ f, RelO (fs.lookup f) (mA f)) ∧ PySem.Within mA (fs.map (·.1)) ∧ fs.length ≤ 1000 ∧ H dx = some (.own a) := by
  obtain ⟨d, z, ne, ob, mA, n, r, q⟩ := (show ObjOk P w H h a (.ins C dx fs) from hok a _ e)
  exact ⟨mA, ⟨ob, n, ne⟩, r, q, z, d⟩
end

/-! ### what of the text a class must have -/
structure Cls (K : PySem.W.Frag) (C : Addr) : Prop where
  pg : PySem.W.plainGet K C Str.empty = true
  hd : PySem.W.hasDictIn K C = true
  po : PySem.W.plainOver K C = true
  sa : PySem.W.findIn K (.ref C) "__setattr__" = some (some (.builtin "object.__setattr__"))
theorem Cls.get {K : PySem.W.Frag} {C : Addr} (c : Cls K C) (f : Str) : PySem.W.plainGet K C f = true := c.pg
/-- no class of it has the name -/
def NoAttr (K : PySem.W.Frag) (C : Addr) (f : Str) : Prop := PySem.W.findIn K (.ref C) f = some none
theorem NoAttr.taker {K : PySem.W.Frag} {C : Addr} {f : Str} (n : NoAttr K C f) : PySem.W.takerIn K C f = some none := by
  unfold PySem.W.takerIn
  rw [show PySem.W.findIn K (.ref C) f = some none from n]
  rfl
/-- a constant of the class -/
structure Con (K : PySem.W.Frag) (C : Addr) (f : Str) (v : V) (u : Value) : Prop where
  at_ : PySem.W.findIn K (.ref C) f = some (some u)
  rel : RelV v u
  get : PySem.W.specialIn K u "__get__" = some none
  cp : PySem.W.copiedNames.contains f = false
/-- a method: a plain def of the class or of one above it -/
structure Meth (K : PySem.W.Frag) (C : Addr) (m : Str) (f : Addr) : Prop where
  at_ : PySem.W.findIn K (.ref C) m = some (some (.ref f))
  fn : PySem.W.isFn K (.ref f) = true
  kp : PySem.W.keepIn K (.ref f) = true

section
variable {X : Cx} {pins : List (Addr × Obj)} {σ : St} {H : Hp} {s : Shared} {a C dx : Addr} {fs : List (Str × V)} {f : Str} {v : V} {A : Around} {E : Value → Shared → Prop}

theorem getattr_ok {b : Bool} {Q : Value → Shared → Prop} (I : Inv X pins σ H s) (e : H a = some (.ins C dx fs)) (c : Cls X.K C) (n : NoAttr X.K C f) (l : fs.lookup f = some v)
    (h : ∀ u s', Inv X pins σ H s' → RelV v u → Q u s') : wpAny (model X.prog X.w) A (getAttr (.ref a) f b) Q E s := by
  obtain ⟨mA, O, r, _, _, _⟩ := ins_get I.hok e
  obtain ⟨u, hu, ru⟩ := RelO.some_of (v := v) (o := mA f) (by rw [← l]; exact r f)
  exact get_map I.kIn O (c.get f) c.hd n hu (handed_of ru) (h u _ (I.tok _) ru)

theorem getmeth_ok {m : Str} {g : Addr} {pl : Sem Bool} {Q : Value × List Value → Shared → Prop} (I : Inv X pins σ H s) (e : H a = some (.ins C dx fs)) (c : Cls X.K C) (k : Meth X.K C m g) (l : fs.lookup m = none)
    (h : Q (.ref g, [.ref a]) s) : wpAny (model X.prog X.w) A (getMethod (.ref a) m pl) Q E s := by
  obtain ⟨mA, O, r, _, _, _⟩ := ins_get I.hok e
  have hn : mA m = none := RelO.none_of (by rw [← l]; exact r m)
  exact get_meth I.kIn O (c.get m) k.at_ k.fn hn h

theorem setattr_ok {y : V} {u : Value} {Q : Unit → Shared → Prop} (I : Inv X pins σ H s) (e : H a = some (.ins C dx fs)) (c : Cls X.K C) (n : NoAttr X.K C f) (hl : fs.length < 1000) (ry : RelV y u)
    (h : ∀ s', Inv X pins σ (upd H a (.ins C dx (putF f y fs))) s' → Q () s') : wpAny (model X.prog X.w) A (setAttr (.ref a) f u) Q E s := by
  obtain ⟨mA, O, r, wi, _, ho⟩ := ins_get I.hok e
  have hz : (fs.map (·.1)).length ≤ sizeLine := by rw [List.length_map, sizeLine_eq]; omega
  refine set_map I.kIn O c.sa c.po n.taker c.hd wi hz fun h' O' sb => h _ ?_
  have hd : ∃ o, h'.get? dx = some o := let ⟨o, _, _, e', _⟩ := O'.ns; ⟨o, e'⟩
  refine I.write (x := a) (e := dx) (by rw [e]; exact True.intro) (.inr ho) (fun b q hb z => (sb.2 b hb).trans z) hd ?_
  refine ⟨by rw [upd_ne O.ne]; exact ho, ?_, O.ne, O'.obj, _, O'.ns, fun g => ?_, fun g hg => ?_⟩
  · have := length_putF f y fs; omega
  · show RelO ((putF f y fs).lookup g) (if g = f then some u else mA g)
    rw [lookup_putF]
    by_cases q : g = f
    · rw [if_pos q, if_pos q]; exact ry
    · rw [if_neg q, if_neg q]; exact r g
  · by_cases q : g = f
    · rw [q]; exact (keys_putF f y fs).1
    · refine (keys_putF f y fs).2 g (wi g fun z => hg ?_)
      show (if g = f then some u else mA g) = none
      rw [if_neg q]; exact z

/-- a new instance, tracked, without attributes -/
theorem Inv.made (I : Inv X pins σ H s) : Inv X pins σ (upd (upd H s.heap.objs.size (.own (s.heap.objs.size + 1))) (s.heap.objs.size + 1) (.ins C s.heap.objs.size []))
    { s with heap := (s.heap.push PySem.W.emptyDict).push (PySem.W.instObj C s.heap.objs.size) } := by
  have e1 : (s.heap.push PySem.W.emptyDict).get? s.heap.objs.size = some PySem.W.emptyDict := Heap.get?_push_size s.heap rfl
  have e2 : ((s.heap.push PySem.W.emptyDict).push (PySem.W.instObj C s.heap.objs.size)).get? (s.heap.objs.size + 1) = some (PySem.W.instObj C s.heap.objs.size) := by
    have := Heap.get?_push_size (s.heap.push PySem.W.emptyDict) (o := PySem.W.instObj C s.heap.objs.size) rfl
    rwa [Heap.size_push] at this
  have e3 : (s.heap.push PySem.W.emptyDict).Ns s.heap.objs.size (fun _ => none) := ⟨PySem.W.emptyDict, #[], _, e1, rfl, (fun e he => absurd he (by simp)), fun _ => rfl⟩
  have I1 := I.laid (a := s.heap.objs.size) (o := .own (s.heap.objs.size + 1)) (h' := s.heap.push PySem.W.emptyDict) (t' := s.toks) (fun b u q => Heap.get?_push_of_some _ q) (Nat.le_refl _) ⟨_, e1⟩
  refine I1.laid (a := s.heap.objs.size + 1) (o := .ins C s.heap.objs.size []) (t' := s.toks) (fun b u q => Heap.get?_push_of_some _ q) (Nat.le_of_eq (Heap.size_push _ _)) ?_
  have ne : s.heap.objs.size ≠ s.heap.objs.size + 1 := Nat.ne_of_lt (Nat.lt_succ_self _)
  refine ⟨by rw [upd_ne ne, upd_same], Nat.zero_le _, ne, e2, fun _ => none, (Heap.Ns1.of_empty e3).at fun o q => Heap.get?_push_of_some _ q, fun _ => True.intro, fun y hy => absurd rfl hy⟩

/-- e.f where nothing but the object is asked: through attributeBase (super) and the last hold -/
theorem attr_of {prog : Program} {w : World} {env : Env} {e : Expr} {f : Str} {pos : Pos} {s : Shared} {Q : Value → Shared → Prop} (hb : attributeBase e f env (eval e env) = eval e env)
    (h : wpAny (model prog w) A (eval e env) (fun o s₁ => wpAny (model prog w) A (getAttr o f true) Q E s₁) E s) : wpAny (model prog w) A (eval (.Attribute e f pos) env) Q E s :=
  Attribute_any_ h (by rw [arm_eval_Attribute, hb])
end

/-! ### readings and rules -/
/-- e.f, an attribute of the instance -/
def tFld (K : PySem.W.Frag) (ta : TE) (f : Str) : TE := fun σ H Q => ta σ H fun x H1 => ∃ a C dx fs v, x = .ref a ∧ H1 a = some (.ins C dx fs) ∧ Cls K C ∧ NoAttr K C f ∧ fs.lookup f = some v ∧ Q v H1
/-- e.f, a constant of the class -/
def tCon (K : PySem.W.Frag) (ta : TE) (f : Str) : TE := fun σ H Q => ta σ H fun x H1 => ∃ a C dx fs v u, x = .ref a ∧ H1 a = some (.ins C dx fs) ∧ Cls K C ∧ Con K C f v u ∧ fs.lookup f = none ∧ Q v H1
/-- e.f = value -/
def sFld (K : PySem.W.Frag) (ta tv : TE) (f : Str) : TS := fun D σ H => tv σ H fun y H1 => ta σ H1 fun x H2 => ∃ a C dx fs, x = .ref a ∧ H2 a = some (.ins C dx fs) ∧ Cls K C ∧ NoAttr K C f ∧ fs.length < 1000 ∧
  D.nx σ (upd H2 a (.ins C dx (putF f y fs)))
/-- an augmented operator on two values -/
def InOp (X : Cx) (op : Operator) (rd : V → V → Hp → VK → Prop) : Prop :=
  ∀ (pins : List (Addr × Obj)) (s : Shared) (σ : St) (H : Hp) (x y : V) (u v : Value) (Q : VK), Inv X pins σ H s → RelV x u → RelV y v → rd x y H Q → wpAny (model X.prog X.w) X.A (inplaceOp op u v) (EP X pins σ Q) X.xe s
/-- e.f op= value -/
def sFldAug (K : PySem.W.Frag) (ta tv : TE) (rd : V → V → Hp → VK → Prop) (f : Str) : TS := fun D σ H => ta σ H fun x H1 => ∃ a C dx fs v, x = .ref a ∧ H1 a = some (.ins C dx fs) ∧ Cls K C ∧ NoAttr K C f ∧ fs.lookup f = some v ∧
  tv σ H1 fun y H2 => rd v y H2 fun z H3 => ∃ dx' fs', H3 a = some (.ins C dx' fs') ∧ fs'.length < 1000 ∧ D.nx σ (upd H3 a (.ins C dx' (putF f z fs')))

section
variable {X : Cx} {o e value : Expr} {f : Str} {pos pos' tpos : Pos} {ta tv : TE}
theorem pe_fld (he : PE X e ta) (hb : attributeBase e f X.env (eval e X.env) = eval e X.env) : PE X (.Attribute e f pos) (tFld X.K ta f) := by
  intro pins s σ H Q I h
  refine attr_of hb (thn (he pins s σ H _ I h) fun u s1 ⟨x, H1, I1, rx, a, C, dx, fs, v, ex, ea, c, n, l, q⟩ => ?_)
  subst ex
  obtain rfl : u = Value.ref a := rx
  exact getattr_ok I1 ea c n l fun u' s2 I2 ru => ⟨v, H1, I2, ru, q⟩
theorem ps_fld (ha : PE X o ta) (hv : PE X value tv) (hs : swapsWith value (some (.Attribute o f pos')) pos.line X.env = pure false) : PS X (.Assign [.Attribute o f pos'] value pos) (sFld X.K ta tv f) := by
  intro pins s σ H D I h
  refine plainObj_wpAny_Assign_Attribute (thn (hv pins s σ H _ I h) fun u s1 ⟨y, H1, I1, ry, q⟩ => thn (ha pins s1 σ H1 _ I1 q) fun ov s2 ⟨x, H2, I2, rx, a, C, dx, fs, ex, ea, c, n, l, q2⟩ => ?_) hs
  subst ex
  obtain rfl : ov = Value.ref a := rx
  exact setattr_ok I2 ea c n l ry fun s3 I3 => ⟨σ, _, I3, q2⟩
def rAdd : V → V → Hp → VK → Prop := fun x y H Q => ∃ i j, x = .int i ∧ y = .int j ∧ Q (.int (i + j)) H
def rSub : V → V → Hp → VK → Prop := fun x y H Q => ∃ i j, x = .int i ∧ y = .int j ∧ Q (.int (i - j)) H
end

/-! ### isinstance -/
section
variable {X : Cx} {pins : List (Addr × Obj)} {σ : St} {H : Hp} {s : Shared} {A : Around} {E : Value → Shared → Prop} {Q : Value → Shared → Prop} {c : Value} {b : Bool}
/-- the type of a value, as the fragment's deciders take it; for an instance its class -/
inductive TyOf (K : PySem.W.Frag) (H : Hp) : V → Value → Prop where
  | non : TyOf K H .non (.type "NoneType")
  | bl (x : Bool) : TyOf K H (.bl x) (.type "bool")
  | int (i : Int) : TyOf K H (.int i) (.type "int")
  | str (x : Str) : TyOf K H (.str x) (.type "str")
  | flt (x : UInt64) : TyOf K H (.flt x) (.type "float")
  | lst {a : Addr} {xs : List V} (e : H a = some (.lst xs)) : TyOf K H (.ref a) (.type "list")
  | frz {a : Addr} {o : Obj} {xs : List V} (e : H a = some (.frz o (.lst xs))) : TyOf K H (.ref a) (.type "list")
  | tup {a : Addr} {xs : List V} (e : H a = some (.tup xs)) : TyOf K H (.ref a) (.type "tuple")
  | dK {a : Addr} {kvs : List (Key × V)} (e : H a = some (.dK kvs)) : TyOf K H (.ref a) (.type "dict")
  | dT {a : Addr} {kvs : List (List Key × V)} (e : H a = some (.dT kvs)) : TyOf K H (.ref a) (.type "dict")
  | ins {a C dx : Addr} {fs : List (Str × V)} (e : H a = some (.ins C dx fs)) (cl : Cls K C) (ha : PySem.W.findIn K (.ref C) "__class__" = some (some (.builtin "object.__class__")))
      (hn : PySem.W.specialIn K (.builtin "object.__class__") "__get__" = some (some (.builtin "getset_descriptor.__get__"))) (htk : PySem.W.takesIn K (.builtin "object.__class__") = some true)
      (hm : PySem.W.mroIn K C (.type "object") = some true) : TyOf K H (.ref a) (.ref C)
/-- isinstance(x, c) for one class c, a built-in or an own one: kitOne's answer -/
theorem isinst_ok {x : V} {u t : Value} (I : Inv X pins σ H s) (rx : RelV x u) (ty : TyOf X.K H x t) (e : PySem.W.kitOne X.K t c = some b) (h : ∀ tk, Q (.bool b) { s with toks := tk }) :
    wpAny (model X.prog X.w) A (call (.builtin "isinstance") [u, c]) Q E s := by
  cases ty with
  | non => cases (show u = Value.none from rx); exact PySem.W.kia_one PySem.W.kitx_none I.kIn True.intro e (fun z => nomatch z) h
  | bl y => cases (show u = Value.bool y from rx); exact PySem.W.kia_one PySem.W.kitx_bool I.kIn True.intro e (fun z => nomatch z) h
  | int i => obtain ⟨t, q⟩ := (show ∃ t, u = Value.int i t from rx); cases q; exact PySem.W.kia_one PySem.W.kitx_int I.kIn True.intro e (fun z => nomatch z) h
  | str y => obtain ⟨t, q⟩ := (show ∃ t, u = Value.str y t from rx); cases q; exact PySem.W.kia_one PySem.W.kitx_str I.kIn True.intro e (fun z => nomatch z) h
  | flt y => obtain ⟨t, q⟩ := (show ∃ t, u = Value.float y t from rx); cases q; exact PySem.W.kia_one PySem.W.kitx_float I.kIn True.intro e (fun z => nomatch z) h
  | @lst a xs ea =>
    cases (show u = Value.ref a from rx)
    obtain ⟨_, _, n, _, h1⟩ := (show ObjOk X.prog X.w H s.heap a (.lst xs) from I.hok a _ ea)
    exact PySem.W.kia_one PySem.W.kitx_list I.kIn ⟨_, h1, rfl⟩ e (fun z => nomatch z) h
  | @frz a ob xs ea =>
    cases (show u = Value.ref a from rx)
    obtain ⟨_, _, _, n, _, h1⟩ := (show ObjOk X.prog X.w H s.heap a (.frz ob (.lst xs)) from I.hok a _ ea)
    exact PySem.W.kia_one PySem.W.kitx_list I.kIn ⟨_, h1, rfl⟩ e (fun z => nomatch z) h
  | @tup a xs ea =>
    cases (show u = Value.ref a from rx)
    obtain ⟨_, _, _, p⟩ := (show ObjOk X.prog X.w H s.heap a (.tup xs) from I.hok a _ ea)
    obtain ⟨o, h1, h2, _⟩ := p
    exact PySem.W.kia_one PySem.W.kitx_tuple I.kIn ⟨o, h1, h2⟩ e (fun z => nomatch z) h
  | @dK a kvs ea =>
    cases (show u = Value.ref a from rx)
    obtain ⟨_, _, vs, _, p⟩ := (show ObjOk X.prog X.w H s.heap a (.dK kvs) from I.hok a _ ea)
    obtain ⟨o, es, ep, h1, h2, _⟩ := p
    exact PySem.W.kia_one PySem.W.kitx_dict I.kIn ⟨o, h1, h2.1⟩ e (fun z => nomatch z) h
  | @dT a kvs ea =>
    cases (show u = Value.ref a from rx)
    obtain ⟨_, _, xs, _, o, es, ep, h1, h2, _⟩ := (show ObjOk X.prog X.w H s.heap a (.dT kvs) from I.hok a _ ea)
    exact PySem.W.kia_one PySem.W.kitx_dict I.kIn ⟨o, h1, h2.1⟩ e (fun z => nomatch z) h
  | @ins a C dx fs ea cl ha hn htk hm =>
    cases (show u = Value.ref a from rx)
    obtain ⟨mA, O, _⟩ := ins_get I.hok ea
    obtain ⟨od, J, _⟩ := O.look
    exact PySem.W.kia_one (PySem.W.kitx_own (cl.get _) cl.hd ha hn htk hm) I.kIn J e (fun z => nomatch z) h
end
end L2

namespace L2
open PySem PySem.Spec PyProof.Rows

/-! ### room -/
structure Room (k : Nat) (A : Around) : Prop where
  hd : A.handled = none
  dp : A.depth + 3 * k + 5 < recursionLimit
  un : A.units + 16 * k + 200 < cLine
theorem Room.mono {j k : Nat} {A : Around} (r : Room k A) (h : j ≤ k) : Room j A := ⟨r.hd, by have := r.dp; omega, by have := r.un; omega⟩
theorem Room.deeper {k : Nat} {A : Around} (r : Room (k + 1) A) (env : Env) : Room k (A.deeper env) :=
  ⟨r.hd, by have := r.dp; show A.depth + 1 + 3 * k + 5 < _; omega, by have := r.un; show A.units + 3 + 16 * k + 200 < _; omega⟩
theorem make_depth {A : Around} {C : Addr} {us : List Value} {kw : List (Str × Value)} : (A.under (.builtin "type.__call__" ⟨.ref C :: us, kw⟩)).depth = A.depth + 1 := by
  first | rfl | simp [Around.under, Code.weight, Code.isCreation, Code.isGuard, Code.isCaller, Code.frames, Code.isFrame, guardIds]
theorem make_units {A : Around} {C : Addr} {us : List Value} {kw : List (Str × Value)} : (A.under (.builtin "type.__call__" ⟨.ref C :: us, kw⟩)).units = A.units + 1 := by
  first | rfl | simp [Around.under, Code.cUnits, Code.frames, Code.isFrame]
theorem Room.make {k : Nat} {A : Around} (r : Room (k + 1) A) (C : Addr) (us : List Value) (kw : List (Str × Value)) : Room k (A.under (.builtin "type.__call__" ⟨.ref C :: us, kw⟩)) :=
  ⟨r.hd, by have := r.dp; rw [make_depth]; omega, by have := r.un; rw [make_units]; omega⟩
theorem Room.depth {k : Nat} {A : Around} (r : Room k A) : A.depth < recursionLimit := by have := r.dp; omega
theorem Room.units {k : Nat} {A : Around} (r : Room k A) : A.units + 64 < cLine := by have := r.un; omega
/-! ### argument lists and displays -/
def tNil : TA := fun _ H Q => Q [] H
def tCons (ta : TE) (tr : TA) : TA := fun σ H Q => ta σ H fun x H1 => tr σ H1 fun xs H2 => Q (x :: xs) H2
section
variable {X : Cx} {e : Expr} {es : List Expr} {te : TE} {t : TA} {pos : Pos}
theorem pa_nil : PA X [] tNil := fun _ _ _ _ H Q I h => Calls.spliced_nil ⟨[], H, I, .nil, h⟩
theorem pa_cons (ha : PE X e te) (hr : PA X es t) (hs : starEach (e :: es) X.env = (false, eval e X.env) :: starEach es X.env := by rfl) : PA X (e :: es) (tCons te t) := by
  intro pos pins s σ H Q I h
  rw [hs]
  show wpAny _ _ (spliced ((false, eval e X.env) :: backTo pos (starEach es X.env))) _ _ s
  refine Calls.spliced_cons (thn (ha pins s σ H _ I h) fun u s1 ⟨x, H1, I1, r1, q1⟩ => ?_)
  exact thn (hr pos pins s1 σ H1 _ I1 q1) fun us s2 ⟨xs, H2, I2, r2, q2⟩ => ⟨x :: xs, H2, I2, .cons r1 r2, q2⟩

/-- a tuple, a list of written items -/
def tTup (t : TA) : TE := fun σ H Q => t σ H fun xs H1 => xs.length ≤ sizeLine ∧ ∀ p, H1 p = none → Q (.ref p) (upd H1 p (.tup xs))
def tLst (t : TA) : TE := fun σ H Q => t σ H fun xs H1 => xs.length ≤ sizeLine ∧ ∀ p, H1 p = none → Q (.ref p) (upd H1 p (.lst xs))
theorem pe_tup {x1} (h : PA X es t) : PE X (.Tuple es x1 pos) (tTup t) := by
  intro pins s σ H Q I hq
  refine wpAny_Tuple_spliced (thn (h pos pins s σ H _ I hq) fun us s1 ⟨xs, H1, I1, r, z, q⟩ => ⟨by rw [← r.length]; exact z, ?_⟩)
  have hf : H1 s1.heap.objs.size = none := I1.hok.fresh (Nat.le_refl _)
  refine ⟨.ref s1.heap.objs.size, upd H1 s1.heap.objs.size (.tup xs), I1.laid (t' := s1.toks) (fun b u e => Heap.get?_push_of_some _ e) (Nat.le_refl _) ?_, rfl, q _ hf⟩
  exact ⟨z, us, r, ⟨_, Heap.get?_push_size _ rfl, rfl, _, rfl⟩⟩
theorem pe_lst (h : PA X es t) : PE X (.List es pos) (tLst t) := by
  intro pins s σ H Q I hq
  refine wpAny_List_spliced (thn (h pos pins s σ H _ I hq) fun us s1 ⟨xs, H1, I1, r, z, q⟩ => ⟨by rw [← r.length]; exact z, ?_⟩)
  have hf : H1 s1.heap.objs.size = none := I1.hok.fresh (Nat.le_refl _)
  refine ⟨.ref s1.heap.objs.size, upd H1 s1.heap.objs.size (.lst xs), I1.laid (t' := s1.toks) (fun b u e => Heap.get?_push_of_some _ e) (Nat.le_refl _) ?_, rfl, q _ hf⟩
  exact ⟨z, us, 0, r, Heap.get?_push_size _ rfl⟩
end

/-! ### what a def promises -/
/-- a def's promise: the bound arguments in the parameters' order, the heap, the wanted end, the wanted exception -/
abbrev Sp := List V → Hp → VK → XK → Prop
/-- how an exception lies behind a call (file 08 gives it): the callers' frames, abstract heap and state ahead of the call, the wish, the exception, the state -/
abbrev CXT := List Env → Hp → Shared → XK → Value → Shared → Prop

/-- the state at a call -/
structure Env0 (P : Program) (w : World) (K : PySem.W.Frag) (mg : Str → Option Value) (base : Heap) (A : Around) (outer : List Env) (s : Shared) (H : Hp) : Prop where
  frames : A.frames = some outer
  mod : Mod K mg base
  bs : ∀ b o, base.get? b = some o → s.heap.get? b = some o ∧ H b = none
  bsz : base.objs.size ≤ s.heap.objs.size
  funs : s.heap.FunFrames base outer
  frf : ∀ b ∈ frs outer, H b = none
  hok : HOk P w H s.heap
  bare : AllBare s.gens
/-- a call's end -/
def CE (outer : List Env) (P : Program) (w : World) (H : Hp) (s : Shared) (Q : VK) (u : Value) (s' : Shared) : Prop :=
  ∃ v H', s'.os = s.os ∧ AllBare s'.gens ∧ Un (frs outer) [] H H' s.heap s'.heap ∧ HOk P w H' s'.heap ∧ RelV v u ∧ Q v H'
def CR (CX : CXT) (outer : List Env) (P : Program) (w : World) (H : Hp) (s : Shared) (Q : VK) (E : XK) (r : Result) (s' : Shared) : Prop :=
  match r with
  | .ok (.ret u) => CE outer P w H s Q u s'
  | .ok _ => False
  | .error e => CX outer H s E e s'
structure FnOk (P : Program) (w : World) (K : PySem.W.Frag) (mg : Str → Option Value) (base : Heap) (CX : CXT) (k : Nat) (f : Addr) (fd : FuncData) (ps : List Str) (sp : Sp) : Prop where
  len : ∀ vs H Q E, sp vs H Q E → vs.length = ps.length
  run : ∀ (A : Around) (outer : List Env) (s : Shared) (H : Hp) (args : Args) (us : List Value) (vs : List V) (Q : VK) (E : XK), Room k A → Env0 P w K mg base A outer s H → BindsTo s fd args (ps.zip us) → Vals vs us → sp vs H Q E →
    codeAny (model P w) A (.call (.ref f) args) (CR CX outer P w H s Q E) s
theorem FnOk.mono {P : Program} {w : World} {K : PySem.W.Frag} {mg : Str → Option Value} {base : Heap} {CX : CXT} {j k : Nat} {f : Addr} {fd : FuncData} {ps : List Str} {sp : Sp} (F : FnOk P w K mg base CX j f fd ps sp) (h : j ≤ k) :
    FnOk P w K mg base CX k f fd ps sp := ⟨F.len, fun A outer s H args us vs Q E hr => F.run A outer s H args us vs Q E (hr.mono h)⟩
theorem Env0.make {P : Program} {w : World} {K : PySem.W.Frag} {mg : Str → Option Value} {base : Heap} {A : Around} {outer : List Env} {s : Shared} {H : Hp} (e : Env0 P w K mg base A outer s H) (C : Addr) (us : List Value) (kw : List (Str × Value)) :
    Env0 P w K mg base (A.under (.builtin "type.__call__" ⟨.ref C :: us, kw⟩)) outer s H := ⟨by first | exact e.frames | (simpa [Around.under, Code.envs, Code.isFrame, pushEnvs] using e.frames), e.mod, e.bs, e.bsz, e.funs, e.frf, e.hok, e.bare⟩
section
variable {X : Cx} {pins : List (Addr × Obj)} {σ : St} {H : Hp} {s s' : Shared}
/-- from a body: what a callee wants -/
theorem Inv.env0 (I : Inv X pins σ H s) : Env0 X.prog X.w X.K X.mg X.base X.A X.stack s H :=
  ⟨I.ok.frames, I.ok.mod, I.bs, Nat.le_trans I.ok.bsz I.sz, I.stack, I.stkFree, I.hok, I.bare⟩
/-- behind a call -/
theorem Inv.after {Q : VK} {u : Value} (I : Inv X pins σ H s) (h : CE X.stack X.prog X.w H s Q u s') : EP X pins σ Q u s' := by
  obtain ⟨v, H', os, bare, un, hok, r, q⟩ := h
  obtain ⟨hh, g, d, t, os'⟩ := s'
  obtain rfl : os' = s.os := os
  exact ⟨v, H', I.call (h' := hh) (g' := g) (d' := d) (t' := t) (ch := []) un hok bare (fun b z => absurd z (by simp)), r, q⟩
end

/-! ### calls -/
/-- f(..): the written arguments, then the defaults dvs; E: what is wanted of an exception -/
def tCall (sp : Sp) (dvs : List V) (E : XK) (t : TA) : TE := fun σ H Q => t σ H fun vs H1 => sp (vs ++ dvs) H1 Q E
/-- o.m(..) of an instance of the class at C -/
def tMeth (C : Addr) (m : Str) (sp : Sp) (dvs : List V) (E : XK) (ta : TE) (t : TA) : TE := fun σ H Q => ta σ H fun x H1 => ∃ a dx fs, x = .ref a ∧ H1 a = some (.ins C dx fs) ∧ fs.lookup m = none ∧
  t σ H1 fun vs H2 => sp (x :: (vs ++ dvs)) H2 Q E
/-- C(..): a new instance and its dict, then __init__ -/
def tMake (C : Addr) (sp : Sp) (dvs : List V) (E : XK) (t : TA) : TE := fun σ H Q => t σ H fun vs H1 => ∀ x dx, H1 x = none → H1 dx = none → dx ≠ x →
  sp (.ref x :: (vs ++ dvs)) (upd (upd H1 dx (.own x)) x (.ins C dx [])) (fun v H2 => v = .non ∧ Q (.ref x) H2) E

/-- how the parameters are bound: us the positional arguments, kw the keywords' values by name, ds the defaults that fill up -/
def Binds (K : PySem.W.Frag) (fd : FuncData) (ps : List Str) (ds : List Value) : Prop :=
  ∀ (s : Shared) (us : List Value), K.In s.heap → (us ++ ds).length = ps.length → BindsTo s fd ⟨us, []⟩ (ps.zip (us ++ ds))
/-- every parameter is given -/
theorem Binds.all {K : PySem.W.Frag} {fd : FuncData} {ps : List Str} (h : ∀ us : List Value, us.length = ps.length → bindArgs fd ⟨us, []⟩ = pure (ps.zip us)) : Binds K fd ps [] := fun s us _ hl => by
  rw [List.append_nil] at hl ⊢
  exact .of_eq (h us hl)

/-- an exception of a callee reaches what this body wants of exceptions -/
def Passes (CX : CXT) (X : Cx) (E : XK) : Prop := ∀ (pins : List (Addr × Obj)) (σ : St) (H : Hp) (s : Shared) (e : Value) (s' : Shared), Inv X pins σ H s → CX X.stack H s E e s' → X.xe e s'

section
variable {X : Cx} {CX : CXT} {k : Nat} {f C : Addr} {fd : FuncData} {ps : List Str} {sp : Sp} {dvs : List V} {ds : List Value} {E : XK} {x m : Str} {p pos apos : Pos} {e o : Expr} {es : List Expr} {ta : TE} {t : TA}

/-- the callee runs -/
theorem run_fn {pins : List (Addr × Obj)} {σ : St} {H : Hp} {s : Shared} {Q : VK} {us : List Value} {vs : List V} (F : FnOk X.prog X.w X.K X.mg X.base CX k f fd ps sp) (hr : Room k X.A) (hb : Binds X.K fd ps ds) (hd : Vals dvs ds) (hx : Passes CX X E)
    (I : Inv X pins σ H s) (r : Vals vs us) (h : sp (vs ++ dvs) H Q E) : wpAny (model X.prog X.w) X.A (call (.ref f) us) (EP X pins σ Q) X.xe s := by
  have r2 : Vals (vs ++ dvs) (us ++ ds) := r.append hd
  have hl : (us ++ ds).length = ps.length := by rw [← r2.length]; exact F.len _ _ _ _ h
  refine wpAny_call (codeAny_mono (F.run X.A X.stack s H ⟨us, []⟩ (us ++ ds) (vs ++ dvs) Q E hr I.env0 (hb s us I.kIn hl) r2 h) fun r s' hq => ?_)
  cases r with
  | error e => exact hx pins σ H s e s' I hq
  | ok fl =>
    cases fl with
    | ret u => exact I.after hq
    | next => exact False.elim hq
    | brk => exact False.elim hq
    | cont => exact False.elim hq

theorem pe_call (F : FnOk X.prog X.w X.K X.mg X.base CX k f fd ps sp) (hr : Room k X.A) (hg : Gl X x) (hm : X.mg x = some (.ref f)) (hk : PySem.W.keepIn X.K (.ref f) = true) (hb : Binds X.K fd ps ds) (hd : Vals dvs ds) (hx : Passes CX X E)
    (ha : PA X (e :: es) t) (hdb : (x == ("__debug__" : Str)) = false := by decide) (he : starEach (e :: es) X.env = (false, eval e X.env) :: starEach es X.env := by rfl) (hpl : (backTo pos (starEach es X.env)).any (·.1) = false := by rfl) :
    PE X (.Call (.Name x p) (e :: es) [] pos) (tCall sp dvs E t) := by
  intro pins s σ H Q I h
  refine wpAny_Call_Name_kw (ld_glob I hg hm ?_ hdb)
  refine PySem.W.callWith_K (h₀ := X.base) I.ok.mod.kin hk (thn (ha pos pins s σ H _ I h) fun us s1 ⟨vs, H1, I1, r, q⟩ => ⟨I1.kIn, ?_⟩) he hpl
  exact run_fn F hr hb hd hx I1 r q
/-- what a class must have to be made -/
structure Mk (K : PySem.W.Frag) (C f : Addr) : Prop where
  makes : PySem.W.makesIn K C = true
  init : PySem.W.findIn K (.ref C) "__init__" = some (some (.ref f))
  fn : PySem.W.isFn K (.ref f) = true
  kp : PySem.W.keepIn K (.ref C) = true

theorem run_make {pins : List (Addr × Obj)} {σ : St} {H : Hp} {s : Shared} {Q : VK} {us : List Value} {vs : List V} (M : Mk X.K C f) (F : FnOk X.prog X.w X.K X.mg X.base CX k f fd ps sp) (hr : Room (k + 1) X.A) (hb : Binds X.K fd ps ds) (hd : Vals dvs ds)
    (hx : Passes CX X E) (I : Inv X pins σ H s) (r : Vals vs us)
    (h : ∀ x dx, H x = none → H dx = none → dx ≠ x → sp (.ref x :: (vs ++ dvs)) (upd (upd H dx (.own x)) x (.ins C dx [])) (fun v H2 => v = .non ∧ Q (.ref x) H2) E) :
    wpAny (model X.prog X.w) X.A (call (.ref C) us) (EP X pins σ Q) X.xe s := by
  have hq := h (s.heap.objs.size + 1) s.heap.objs.size (I.hok.fresh (Nat.le_succ _)) (I.hok.fresh (Nat.le_refl _)) (Nat.ne_of_lt (Nat.lt_succ_self _))
  have I2 := Inv.made (C := C) I
  have r2 : Vals (V.ref (s.heap.objs.size + 1) :: (vs ++ dvs)) (Value.ref (s.heap.objs.size + 1) :: (us ++ ds)) := .cons rfl (r.append hd)
  have hl : (Value.ref (s.heap.objs.size + 1) :: us ++ ds).length = ps.length := by
    have e := r2.length
    rw [F.len _ _ _ _ hq] at e
    exact e.symm
  refine wpAny_call (make_map (f := f) I.kIn M.makes M.init (beq_iff_eq.mp M.fn) (codeAny_mono (F.run _ X.stack _ _ ⟨Value.ref (s.heap.objs.size + 1) :: us, []⟩ (Value.ref (s.heap.objs.size + 1) :: (us ++ ds)) _ _ E (hr.make C us [])
    (I2.env0.make C us []) (hb _ (Value.ref (s.heap.objs.size + 1) :: us) I2.kIn hl) r2 hq) fun r s' hq' => ?_))
  cases r with
  | error e => exact hx pins σ _ _ e s' I2 hq'
  | ok fl =>
    cases fl with
    | ret u =>
      obtain ⟨v, H', I3, rv, ev, q3⟩ := I2.after hq'
      subst ev
      exact ⟨rv, ⟨V.ref (s.heap.objs.size + 1), H', I3, rfl, q3⟩⟩
    | next => exact False.elim hq'
    | brk => exact False.elim hq'
    | cont => exact False.elim hq'
theorem pe_make (M : Mk X.K C f) (F : FnOk X.prog X.w X.K X.mg X.base CX k f fd ps sp) (hr : Room (k + 1) X.A) (hg : Gl X x) (hm : X.mg x = some (.ref C)) (hb : Binds X.K fd ps ds) (hd : Vals dvs ds) (hx : Passes CX X E)
    (ha : PA X (e :: es) t) (hdb : (x == ("__debug__" : Str)) = false := by decide) (he : starEach (e :: es) X.env = (false, eval e X.env) :: starEach es X.env := by rfl) (hpl : (backTo pos (starEach es X.env)).any (·.1) = false := by rfl) :
    PE X (.Call (.Name x p) (e :: es) [] pos) (tMake C sp dvs E t) := by
  intro pins s σ H Q I h
  refine wpAny_Call_Name_kw (ld_glob I hg hm ?_ hdb)
  refine PySem.W.callWith_K (h₀ := X.base) I.ok.mod.kin M.kp (thn (ha pos pins s σ H _ I h) fun us s1 ⟨vs, H1, I1, r, q⟩ => ⟨I1.kIn, ?_⟩) he hpl
  exact run_make M F hr hb hd hx I1 r q
end

/-! ### keywords -/
/-- the values of the keywords, from the left -/
def PK (X : Cx) (kws : List Keyword) (t : TA) : Prop :=
  ∀ (pos : Pos) (pins : List (Addr × Obj)) (s : Shared) (σ : St) (H : Hp) (Q : List V → Hp → Prop), Inv X pins σ H s → t σ H Q → wpAny (model X.prog X.w) X.A (evalAll ((backToKw pos (keywordEach kws X.env)).map (·.2))) (AP X pins σ Q) X.xe s
section
variable {X : Cx} {CX : CXT} {k : Nat} {f C : Addr} {fd : FuncData} {ps ks : List Str} {sp : Sp} {E : XK} {x m : Str} {p pos apos kpos : Pos} {e o : Expr} {es : List Expr} {kws : List Keyword} {te ta : TE} {t tk : TA} {nm : Option Str}
/-- how a call with keywords binds: g puts the positional values us and the keywords' values ws (names ks) in the parameters' order, defaults among them -/
structure KBinds (K : PySem.W.Frag) (fd : FuncData) (ps ks : List Str) (g : List Value → List Value → List Value) (gV : List V → List V → List V) : Prop where
  to : ∀ (s : Shared) (us ws : List Value), K.In s.heap → (g us ws).length = ps.length → BindsTo s fd ⟨us, ks.zip ws⟩ (ps.zip (g us ws))
  rel : ∀ {vs : List V} {us : List Value} {zs : List V} {ws : List Value}, Vals vs us → Vals zs ws → Vals (gV vs zs) (g us ws)
def tCallK (sp : Sp) (gV : List V → List V → List V) (E : XK) (t tk : TA) : TE := fun σ H Q => t σ H fun vs H1 => tk σ H1 fun zs H2 => sp (gV vs zs) H2 Q E
variable {g : List Value → List Value → List Value} {gV : List V → List V → List V}
end

/-! ### a def's body keeps its promise -/
/-- names: the parameters first -/
structure FnScope (N P : List Str) (sc : Scope) : Prop where
  kind : sc.kind = .function
  co : sc.isCoroutine = false
  gen : sc.isGenerator = false
  nd : N.Nodup
  pre : N.take P.length = P
  par : ∀ x ∈ P, sc.names.lookup x = some .local ∨ sc.names.lookup x = some .cell
  nofree : ∀ y ∈ sc.names, y.2 ≠ .free

theorem bindL_out {kindOf : Str → Option NameKind} {x : Str} : ∀ {binds : List (Str × Value)} {m : Str → Option Value}, (∀ v, (x, v) ∉ binds) → bindL kindOf binds m x = m x
  | [], _, _ => rfl
  | (n, v) :: r, m, h => by
    unfold bindL
    rw [bindL_out fun w hw => h w (List.mem_cons_of_mem _ hw)]
    split
    · have : x ≠ n := by rintro rfl; exact h v List.mem_cons_self
      simp [this]
    · rfl
theorem bindC_out {kindOf : Str → Option NameKind} {x : Str} : ∀ {binds : List (Str × Value)} {m : Str → Option Value}, (∀ v, (x, v) ∉ binds) → bindC kindOf binds m x = m x
  | [], _, _ => rfl
  | (n, v) :: r, m, h => by
    unfold bindC
    rw [bindC_out fun w hw => h w (List.mem_cons_of_mem _ hw)]
    split
    · rfl
    · have : x ≠ n := by rintro rfl; exact h v List.mem_cons_self
      simp [this]
theorem bindL_get {kindOf : Str → Option NameKind} {x : Str} {v : Value} : ∀ {P : List Str} {vs : List Value} {i : Nat} {m : Str → Option Value}, P.Nodup → P[i]? = some x → vs[i]? = some v → kindOf x = some .local →
    bindL kindOf (P.zip vs) m x = some v
  | [], _, _, _, _, h, _, _ => by simp at h
  | _ :: _, [], _, _, _, _, h, _ => by simp at h
  | p :: P, w :: vs, 0, m, nd, h1, h2, hk => by
    simp at h1 h2; subst h1; subst h2
    show bindL kindOf ((p, w) :: P.zip vs) m p = _
    unfold bindL
    rw [bindL_out fun v hv => (List.nodup_cons.mp nd).1 (List.of_mem_zip hv).1, if_pos hk]
    simp
  | p :: P, w :: vs, i + 1, m, nd, h1, h2, hk => by
    show bindL kindOf ((p, w) :: P.zip vs) m x = _
    unfold bindL
    exact bindL_get (i := i) (List.nodup_cons.mp nd).2 (by simpa using h1) (by simpa using h2) hk
theorem bindC_get {kindOf : Str → Option NameKind} {x : Str} {v : Value} : ∀ {P : List Str} {vs : List Value} {i : Nat} {m : Str → Option Value}, P.Nodup → P[i]? = some x → vs[i]? = some v → kindOf x ≠ some .local →
    bindC kindOf (P.zip vs) m x = some v
  | [], _, _, _, _, h, _, _ => by simp at h
  | _ :: _, [], _, _, _, _, h, _ => by simp at h
  | p :: P, w :: vs, 0, m, nd, h1, h2, hk => by
    simp at h1 h2; subst h1; subst h2
    show bindC kindOf ((p, w) :: P.zip vs) m p = _
    unfold bindC
    rw [bindC_out fun v hv => (List.nodup_cons.mp nd).1 (List.of_mem_zip hv).1, if_neg hk]
    simp
  | p :: P, w :: vs, i + 1, m, nd, h1, h2, hk => by
    show bindC kindOf ((p, w) :: P.zip vs) m x = _
    unfold bindC
    exact bindC_get (i := i) (List.nodup_cons.mp nd).2 (by simpa using h1) (by simpa using h2) hk

/-- the names' values at the entry -/
def start (N : List Str) (vs : List V) : St := vs.map some ++ List.replicate (N.length - vs.length) none

/-- the context of a def's body, at its entry; an exception leaves the frame, then lies as CX says -/
def cxOf (CX : CXT) (P : Program) (w : World) (K : PySem.W.Frag) (mg : Str → Option Value) (base : Heap) (N : List Str) (qual : Str) (scope : Scope) (f : Addr) (cd : Value) (A : Around) (outer : List Env) (s : Shared) (H : Hp) (E : XK) : Cx where
  prog := P
  w := w
  K := K
  mg := mg
  base := base
  A := A.deeper (envOfC qual scope s.heap.objs.size f cd)
  N := N
  s₀ := s
  H₀ := H
  env := envOfC qual scope s.heap.objs.size f cd
  outer := outer
  stack := envOfC qual scope s.heap.objs.size f cd :: outer
  ex := []
  calm := true
  fn := fun _ => true
  pn := []
  xe := fun e s' => wpAny (model P w) (A.deeper (envOfC qual scope s.heap.objs.size f cd)) (leaving (envOfC qual scope s.heap.objs.size f cd) e) (fun _ s'' => CX outer H s E e s'') (fun e' s'' => CX outer H s E e' s'') s'

theorem cell_has {sc : Scope} {n : Nat} {x : Str} (h : sc.names.lookup x = some .cell) : ∃ c, (cellsFrom n sc.names []).lookup x = some c := by
  have q := PySem.W.cellsFrom_some sc.names n [] (.inl h)
  exact Option.isSome_iff_exists.mp q

theorem inv_start {CX : CXT} {P : Program} {w : World} {K : PySem.W.Frag} {mg : Str → Option Value} {base : Heap} {N ps : List Str} {qual : Str} {scope : Scope} {f : Addr} {cd : Value} {A : Around} {outer : List Env} {s s1 : Shared} {H : Hp} {E : XK} {us : List Value} {vs : List V}
    (S : FnScope N ps scope) (hd : A.handled = none) (e0 : Env0 P w K mg base A outer s H) (hl : vs.length = ps.length) (r : Vals vs us)
    (x : InCallC s s.heap.objs.size (bindL (envOfC qual scope s.heap.objs.size f cd).kindOf (ps.zip us) fun _ => none) (cellsFrom (s.heap.objs.size + 1) scope.names []) (bindC (envOfC qual scope s.heap.objs.size f cd).kindOf (ps.zip us) fun _ => none) s1) :
    Inv (cxOf CX P w K mg base N qual scope f cd A outer s H E) [] (start N vs) H s1 := by
  have hpl : ps.length ≤ N.length := by have := congrArg List.length S.pre; rw [List.length_take] at this; omega
  obtain ⟨h1, tk, rfl, hk⟩ := x.done
  have noA : ∀ b : Addr, b ∉ (cxOf CX P w K mg base N qual scope f cd A outer s H E).ex := fun b z => absurd (show b ∈ ([] : List Addr) from z) (by simp)
  refine ⟨⟨e0.mod, S.kind, rfl, rfl, Nat.le_refl _, fun y z c h1 h2 => ?_, fun y hy => ?_, fun y c _ h => ?_, fun _ => hd, Around.frames_deeper e0.frames, .inr ⟨rfl, rfl⟩, fun b z => absurd z (noA b), e0.bs, e0.bsz, fun b _ _ => noA b, fun b z => absurd z (noA b), e0.funs, e0.frf⟩,
    rfl, e0.bare, Un.kept hk, ⟨_, x.toInCall.ns, fun i y v h1 h2 h3 => ?_⟩, fun y c h => ⟨_, x.cell y c h⟩, e0.hok.fresh (Nat.le_refl _), fun y c h => ?_, fun p hp => absurd (show p ∈ ([] : List (Addr × Obj)) from hp) (by simp), e0.hok.kept hk, ?_⟩
  · exact name_of_addr x.apart (PySem.mem_of_lookup h1) (PySem.mem_of_lookup h2)
  · have hy : scope.names.lookup y = some .cell ∨ scope.names.lookup y = some .free := hy
    rcases hy with hy | hy
    · exact cell_has hy
    · exact absurd rfl (S.nofree _ (PySem.mem_of_lookup hy))
  · exact Nat.le_of_lt (x.above y c (PySem.mem_of_lookup h))
  · have hi : i < vs.length := by
      unfold start at h2
      by_cases hi : i < vs.length
      · exact hi
      · rw [List.getElem?_append_right (by simpa using hi)] at h2
        rw [List.getElem?_replicate] at h2
        split at h2 <;> cases h2
    have ha : vs[i]? = some v := by
      unfold start at h2
      rw [List.getElem?_append_left (by simpa using hi), List.getElem?_map] at h2
      cases e : vs[i]? with
      | none => rw [e] at h2; cases h2
      | some a => rw [e] at h2; cases h2; rfl
    obtain ⟨u, hu, rv⟩ := r.get ha
    have hp : ps[i]? = some y := by
      rw [← S.pre, List.getElem?_take_of_lt (by omega)]; exact h1
    have ndP : ps.Nodup := by rw [← S.pre]; exact S.nd.sublist (List.take_sublist _ _)
    refine ⟨u, rv, ?_⟩
    rcases S.par y (List.mem_of_getElem? hp) with k | k
    · exact .inl ⟨k, bindL_get ndP hp hu k⟩
    · obtain ⟨c, e⟩ := cell_has (n := s.heap.objs.size + 1) k
      refine .inr ⟨.inl k, c, e, ?_⟩
      have q := x.cell y c e
      rw [bindC_get ndP hp hu (by show scope.names.lookup y ≠ _; rw [k]; decide)] at q
      exact q
  · exact e0.hok.fresh (Nat.le_of_lt (x.above y c (PySem.mem_of_lookup h)))
  · unfold start
    show _ = N.length
    rw [List.length_append, List.length_map, List.length_replicate]
    omega

/-- THE RULE: a def (or a method) of the text, by its body. The body's reading t is chosen for each entry; it is run at the parameters' values -/
theorem fn_of {CX : CXT} {P : Program} {w : World} {K : PySem.W.Frag} {mg : Str → Option Value} {base : Heap} {k : Nat} {f : Addr} {name qual : Str} {params : Arguments} {body : List Stmt} {scope : Scope} {dV kV doc pm cdv ct oc : Value} {an od : Option Addr}
    {osl : Array (Option Value)} {N ps : List Str} {sp : Sp} (lk : K.lookup f = some ⟨oc, od, .func (PySem.W.fnOf name qual params body scope dV kV doc pm an cdv ct), osl⟩) (hcd : PySem.W.codeIn K cdv qual = true) (S : FnScope N ps scope)
    (len : ∀ vs H Q E, sp vs H Q E → vs.length = ps.length)
    (hbody : ∀ (A : Around) (outer : List Env) (s : Shared) (H : Hp) (vs : List V) (Q : VK) (E : XK), Room k (A.deeper (envOfC qual scope s.heap.objs.size f cdv)) → sp vs H Q E →
      ∃ t, PSs (cxOf CX P w K mg base N qual scope f cdv A outer s H E) body t ∧ t { nx := fun _ H' => Q .non H', rt := Q } (start N vs) H) :
    FnOk P w K mg base CX (k + 1) f (PySem.W.fnOf name qual params body scope dV kV doc pm an cdv ct) ps sp := by
  refine ⟨len, fun A outer s H args us vs Q E hr e0 hb r hsp => ?_⟩
  have hl := len _ _ _ _ hsp
  have KX : K.In s.heap := e0.mod.kin.keeps fun b o e => (e0.bs b o e).1
  have lim : s.heap.NoLimit := e0.mod.nolimit.keeps fun b o e => (e0.bs b o e).1
  have hkind : ∀ y ∈ ps.zip us, scope.names.lookup y.1 = some .local ∨ (scope.names.lookup y.1 = some .cell ∧ ((cellsFrom (s.heap.objs.size + 1) scope.names []).lookup y.1).isSome = true) := fun ⟨n, v⟩ hy => by
    rcases S.par n (List.of_mem_zip hy).1 with q | q
    · exact .inl q
    · exact .inr ⟨q, PySem.W.cellsFrom_some _ _ _ (.inl q)⟩
  refine codeAny_call_function hr.depth (KX _ _ lk) rfl S.co S.gen rfl (PySem.W.codeRec_of KX hcd) (hb _ _ _ _ ?_)
  refine wpAny_newFunctionEnv_cells S.kind hkind fun env he s1 x => ?_
  subst he
  refine ⟨lim.keeps x.toInCall.keep, codeAny_func ?_⟩
  obtain ⟨t, ht, hq⟩ := hbody A outer s H vs Q E (hr.deeper _) hsp
  have I : Inv (cxOf CX P w K mg base N qual scope f cdv A outer s H E) [] (start N vs) H s1 := inv_start S hr.hd e0 hl r x
  refine wpAny_mono (ht [] s1 (start N vs) H _ I hq) (fun fl s' hs => ?_) fun e s' hs => hs
  have fin : ∀ {σ' : St} {H' : Hp} {v : V} {u : Value}, Inv (cxOf CX P w K mg base N qual scope f cdv A outer s H E) [] σ' H' s' → RelV v u → Q v H' → CE outer P w H s Q u s' :=
    fun {σ' H' v u} J rv q => ⟨v, H', J.os, J.bare, J.base, J.hok, rv, q⟩
  cases fl with
  | ret u =>
    obtain ⟨v, σ', H', J, rv, q⟩ := hs
    exact fin J rv q
  | next =>
    obtain ⟨σ', H', J, q⟩ := hs
    exact fin (v := V.non) (u := Value.none) J rfl q
  | brk =>
    obtain ⟨_, _, _, q⟩ := hs
    exact False.elim q
  | cont =>
    obtain ⟨_, _, _, q⟩ := hs
    exact False.elim q
end L2

namespace L2
open PySem PySem.Spec PyProof.Rows
section
variable {X : Cx} {x : Str} {p pos : Pos} {e : Expr} {es : List Expr} {t : TA} {id T : String} {r : List V → Hp → VK → Prop}

def tCB (r : List V → Hp → VK → Prop) (t : TA) : TE := fun σ H Q => t σ H fun vs H1 => r vs H1 Q
/-- f(e, ..), f a built-in function -/
theorem pe_callB (hc : CallR X (.builtin id) r) (hg : Gl X x) (hm : X.mg x = none) (hv : bootBuiltins x = some (.builtin id)) (ha : PA X (e :: es) t) (hn : x ≠ "__name__" := by decide) (hdb : (x == ("__debug__" : Str)) = false := by decide)
    (he : starEach (e :: es) X.env = (false, eval e X.env) :: starEach es X.env := by rfl) (hpl : (backTo pos (starEach es X.env)).any (·.1) = false := by rfl) : PE X (.Call (.Name x p) (e :: es) [] pos) (tCB r t) := by
  intro pins s σ H Q I h
  refine wpAny_Call_Name_kw (ld_blt I hg hm hv ?_ hn hdb)
  exact PyProof.Rows.callWith_builtin1 (thn (ha pos pins s σ H _ I h) fun us s1 ⟨vs, H1, I1, r1, q1⟩ => hc pins s1 σ H1 vs us Q I1 r1 q1) he hpl
/-- T(e, ..), T a built-in type -/
theorem pe_callTy (hc : CallR X (.type T) r) (hg : Gl X x) (hm : X.mg x = none) (hv : bootBuiltins x = some (.type T)) (ha : PA X (e :: es) t) (hn : x ≠ "__name__" := by decide) (hdb : (x == ("__debug__" : Str)) = false := by decide)
    (he : starEach (e :: es) X.env = (false, eval e X.env) :: starEach es X.env := by rfl) (hpl : (backTo pos (starEach es X.env)).any (·.1) = false := by rfl) : PE X (.Call (.Name x p) (e :: es) [] pos) (tCB r t) := by
  intro pins s σ H Q I h
  refine wpAny_Call_Name_kw (ld_blt I hg hm hv ?_ hn hdb)
  exact PyProof.Rows.callWith_type1 (thn (ha pos pins s σ H _ I h) fun us s1 ⟨vs, H1, I1, r1, q1⟩ => hc pins s1 σ H1 vs us Q I1 r1 q1) he hpl
end
end L2

namespace HT
open PySem PyProof.Rows

/-- t < u of tuples of ints -/
def lexLt : List Int → List Int → Bool
  | [], [] => false
  | [], _ :: _ => true
  | _ :: _, [] => false
  | x :: xs, y :: ys => if x = y then lexLt xs ys else decide (x < y)
section
open PySem.SeqAt
open PySem.AutoSeq1 (wpAny_loadPart')
open PySem.MeetsSeq PySem.MeetsSeq2 PySem.MeetsSeq3

end

section
variable {prog : Program} {w : World} {A : Around} {E : Value → Shared → Prop} {s : Shared}

/-! ### t[a:b], not the whole -/
/-- a slice's bound as a place among n (d where it is left out) -/
def sIx (n d : Nat) : Option Int → Nat
  | none => d
  | some v => if v < 0 then (v + (n : Int)).toNat else min v.toNat n
theorem sIx_nat (n d k : Nat) : sIx n d (some (k : Int)) = min k n := by
  show (if (k : Int) < 0 then ((k : Int) + (n : Int)).toNat else min (k : Int).toNat n) = min k n
  rw [if_neg (by omega), Int.toNat_natCast]
end
end HT

namespace L2
open PySem PySem.Spec PyProof.Rows

/-! ### the parts of a slice -/
abbrev TO := St → Hp → (Option Int → Hp → Prop) → Prop
/-- a slice's part (left out, or an int) -/
def PO (X : Cx) (e : Option Expr) (t : TO) : Prop :=
  ∀ (pins : List (Addr × Obj)) (s : Shared) (σ : St) (H : Hp) (Q : Option Int → Hp → Prop), Inv X pins σ H s → t σ H Q →
    wpAny (model X.prog X.w) X.A (evalPart e X.env) (fun u s' => ∃ o H', Inv X pins σ H' s' ∧ IsPart u o ∧ Q o H') X.xe s
def tNoPart : TO := fun _ H Q => Q none H
def tPart (t : TE) : TO := fun σ H Q => t σ H fun x H1 => ∃ i, x = .int i ∧ Q (some i) H1

section
variable {X : Cx} {e : Expr} {te : TE} {lo hi : Option Expr} {tl th : TO} {pos p2 : Pos}

theorem po_none : PO X none tNoPart := by
  intro pins s σ H Q I h
  rw [evalPart_none]
  exact wpAny_pure ⟨none, H, I, .none, h⟩
theorem po_some (h : PE X e te) : PO X (some e) (tPart te) := by
  intro pins s σ H Q I hw
  rw [evalPart_some]
  refine thn (h pins s σ H _ I hw) fun u s1 ⟨x, H1, I1, r1, q1⟩ => ?_
  obtain ⟨i, rfl, q⟩ := q1
  obtain ⟨t, rfl⟩ := r1
  exact ⟨some i, H1, I1, .int i t, q⟩

/-- what a slice of a value is, by values: the slice object stands at sl -/
def SlR (X : Cx) (r : V → Option Int → Option Int → Hp → VK → Prop) : Prop :=
  ∀ (pins : List (Addr × Obj)) (s : Shared) (σ : St) (H : Hp) (x : V) (v vl vu : Value) (lo hi : Option Int) (sl : Addr) (Q : VK), Inv X pins σ H s → RelV x v → s.heap.IsSliceOf sl vl vu .none → IsPart vl lo → IsPart vu hi → r x lo hi H Q →
    ∃ T id, typeLookup (.type T) "__getitem__" = pure (some (.builtin id)) ∧ s.TypeIs v T ∧ wpAny (model X.prog X.w) X.A (getItem v (.ref sl)) (EP X pins σ Q) X.xe s
def tSl (r : V → Option Int → Option Int → Hp → VK → Prop) (te : TE) (tl th : TO) : TE := fun σ H Q => te σ H fun x H1 => tl σ H1 fun l H2 => th σ H2 fun u H3 => r x l u H3 Q
/-- a[lo:hi], any a -/
theorem pe_slice {r : V → Option Int → Option Int → Hp → VK → Prop} (hr : SlR X r) (he : PE X e te) (hl : PO X lo tl) (hu : PO X hi th) : PE X (.Subscript e (.Slice lo hi none p2) pos) (tSl r te tl th) := by
  intro pins s σ H Q I h
  refine Subscript_ (thn (he pins s σ H _ I h) fun v s1 ⟨x, H1, I1, r1, q1⟩ => ?_)
  refine wpAny_Slice (thn (hl pins s1 σ H1 _ I1 q1) fun vl s2 ⟨l, H2, I2, pl, q2⟩ => thn (hu pins s2 σ H2 _ I2 q2) fun vu s3 ⟨u, H3, I3, pu, q3⟩ => ?_)
  rw [evalPart_none]
  refine wpAny_pure ?_
  have I4 : Inv X pins σ H3 { s3 with heap := s3.heap.push { cls := .type "slice", data := .fields #[vl, vu, .none] } } := I3.kept (t' := s3.toks) fun b ob q => Heap.get?_push_of_some _ q
  obtain ⟨T, id, hT, ht, hg⟩ := hr pins { s3 with heap := s3.heap.push { cls := .type "slice", data := .fields #[vl, vu, .none] } } σ H3 x v vl vu l u s3.heap.objs.size Q I4 r1 (Heap.IsSliceOf.new ..) pl pu q3
  show wpAny (model X.prog X.w) X.A (subscriptTail e (.Slice lo hi none p2) v (.ref s3.heap.objs.size)) (EP X pins σ Q) X.xe { s3 with heap := s3.heap.push { cls := .type "slice", data := .fields #[vl, vu, .none] } }
  exact tail_any (ops := [.ref s3.heap.objs.size, v]) ht hT hg (by with_unfolding_all rfl)

/-- the items of xs[lo:hi] -/
def cutV (xs : List V) (lo hi : Option Int) : List V := (xs.drop (HT.sIx xs.length 0 lo)).take (HT.sIx xs.length xs.length hi - HT.sIx xs.length 0 lo)
theorem cutV_length (xs : List V) (lo hi : Option Int) : (cutV xs lo hi).length ≤ xs.length := by
  unfold cutV
  rw [List.length_take, List.length_drop]
  omega
/-- t[lo:hi], not the whole of it (the whole would be t itself) -/
def rSlT (K : PySem.W.Frag) : V → Option Int → Option Int → Hp → VK → Prop := fun x lo hi H Q => ∃ a xs, x = .ref a ∧ SqT K H a xs ∧
  ¬ (HT.sIx xs.length 0 lo = 0 ∧ HT.sIx xs.length xs.length hi = xs.length) ∧ ∀ p, H p = none → Q (.ref p) (upd H p (.tup (cutV xs lo hi)))
/-! ### t < u, t + u -/
def rLtT (K : PySem.W.Frag) : R2 := fun x y H Q => ∃ a b ns ms, x = .ref a ∧ y = .ref b ∧ SqT K H a (ns.map V.int) ∧ SqT K H b (ms.map V.int) ∧ Q (.bl (HT.lexLt ns ms)) H
/-- t + u, t not empty: u empty gives t itself -/
def rCatT (K : PySem.W.Frag) : R2 := fun x y H Q => ∃ a b xs ys, x = .ref a ∧ y = .ref b ∧ SqT K H a xs ∧ SqT K H b ys ∧ xs ≠ [] ∧ xs.length + ys.length ≤ sizeLine ∧
  (ys = [] → Q (.ref a) H) ∧ (ys ≠ [] → ∀ p, H p = none → Q (.ref p) (upd H p (.tup (xs ++ ys))))
end
end L2

namespace L2
open PySem PySem.Spec PyProof.Rows

/-! ### places -/
/-- the place that an index of any sign means -/
def ixN (n : Nat) (i : Int) : Option Nat := if 0 ≤ i then (if i < n then some i.toNat else none) else if -(n : Int) ≤ i then some (i + n).toNat else none
def atI {α : Type} (xs : List α) (i : Int) : Option α := (ixN xs.length i).bind fun j => xs[j]?
theorem ixN_seq {n : Nat} {i : Int} {j : Nat} (h : ixN n i = some j) : seqIndex? i n = some j ∧ j < n ∧ -(n : Int) ≤ i ∧ i < n := by
  unfold ixN at h
  by_cases h0 : 0 ≤ i
  · rw [if_pos h0] at h
    by_cases h1 : i < n
    · rw [if_pos h1] at h
      have e : i.toNat = j := Option.some.inj h
      exact ⟨by rw [seqIndex_of h0 h1, e], by omega, by omega, h1⟩
    · rw [if_neg h1] at h; cases h
  · rw [if_neg h0] at h
    by_cases h1 : -(n : Int) ≤ i
    · rw [if_pos h1] at h
      have e : (i + n).toNat = j := Option.some.inj h
      exact ⟨by rw [seqIndex_neg (by omega) h1, e], by omega, h1, by omega⟩
    · rw [if_neg h1] at h; cases h
theorem atI_get {α : Type} {xs : List α} {i : Int} {v : α} (h : atI xs i = some v) : ∃ j, seqIndex? i xs.length = some j ∧ xs[j]? = some v ∧ j < xs.length ∧ -(xs.length : Int) ≤ i ∧ i < xs.length := by
  unfold atI at h
  cases e : ixN xs.length i with
  | none => rw [e] at h; cases h
  | some j =>
    rw [e] at h
    obtain ⟨h1, h2, h3, h4⟩ := ixN_seq e
    exact ⟨j, h1, h, h2, h3, h4⟩
theorem atI_nat {α : Type} {xs : List α} {j : Nat} {v : α} (h : xs[j]? = some v) : atI xs (j : Int) = some v := by
  have hj : j < xs.length := (List.getElem?_eq_some_iff.mp h).1
  have e : ixN xs.length (j : Int) = some j := by
    unfold ixN
    rw [if_pos (by omega), if_pos (by omega)]; simp
  unfold atI; rw [e]; exact h
/-! ### what may be subscripted -/
/-- what stands as an index of a plain subscript -/
def PlainIx (b : Expr) : Prop := ∀ o i, subscripted b false o i = operate [o, i] (getItem o i)
/-- a subscript by values -/
def IxR (X : Cx) (r : R2) : Prop :=
  ∀ (value slice : Expr) (pins : List (Addr × Obj)) (s : Shared) (σ : St) (H : Hp) (x y : V) (v u : Value) (Q : VK), Inv X pins σ H s → RelV x v → RelV y u → r x y H Q →
    subscripted slice false v u = operate [v, u] (getItem v u) → wpAny (model X.prog X.w) X.A (subscriptTail value slice v u) (EP X pins σ Q) X.xe s
/-- a call of a builtin's method by values: the receiver, the arguments -/
def MtR (X : Cx) (id : String) (r : V → List V → Hp → VK → Prop) : Prop :=
  ∀ (pins : List (Addr × Obj)) (s : Shared) (σ : St) (H : Hp) (x : V) (xs : List V) (v : Value) (us : List Value) (Q : VK), Inv X pins σ H s → RelV x v → Vals xs us → r x xs H Q →
    wpAny (model X.prog X.w) X.A (call (.builtin id) (v :: us)) (EP X pins σ Q) X.xe s
section
variable {X : Cx} {a b : Expr} {ta tb : TE} {pos : Pos}
/-- a[b] -/
theorem pe_ix {r : R2} (hr : IxR X r) (ha : PE X a ta) (hb : PE X b tb) (hs : PlainIx b) : PE X (.Subscript a b pos) (tOp r ta tb) := by
  intro pins s σ H Q I h
  exact Subscript_ (binT ha hb I h fun v u s2 x y H2 I2 rx ry q => hr a b pins s2 σ H2 x y v u Q I2 rx ry q (hs _ _))

def rIxL (K : PySem.W.Frag) : R2 := fun x y H Q => ∃ p xs i v, x = .ref p ∧ y = .int i ∧ SqL K H p xs ∧ atI xs i = some v ∧ Q v H
def rIxT (K : PySem.W.Frag) : R2 := fun x y H Q => ∃ p xs i v, x = .ref p ∧ y = .int i ∧ SqT K H p xs ∧ atI xs i = some v ∧ Q v H
def rIxS : R2 := fun x y H Q => ∃ z i c, x = .str z ∧ y = .int i ∧ z.length ≤ sizeLine ∧ atI z.cps.toList i = some c ∧ Q (.str ⟨#[c]⟩) H
theorem ix_list : IxR X (rIxL X.K) := by
  intro value slice pins s σ H x y v u Q I rx ry h hs
  obtain ⟨p, xs, i, z, rfl, rfl, hq, he, q⟩ := h
  cases rx
  obtain ⟨t, rfl⟩ := ry
  obtain ⟨its, r, pl, hz⟩ := I.list hq
  obtain ⟨j, h1, h2, h3, h4, h5⟩ := atI_get he
  obtain ⟨w, ew, rw'⟩ := r.get h2
  have hl := r.length
  have hn := line63
  have fin : EP X pins σ Q w s := ⟨z, H, I, rw', q⟩
  by_cases h0 : 0 ≤ i
  · have hj : i.toNat = j := by
      rw [seqIndex_of h0 h5] at h1
      exact Option.some.inj h1
    exact item_listR pl.isList h0 (by omega) (by rw [hj]; simpa using ew) fin hs
  · have hj : (i + (its.toArray.size : Int)).toNat = j := by
      rw [seqIndex_neg (by omega) h4] at h1
      rw [List.size_toArray, ← hl]
      exact Option.some.inj h1
    exact subscriptTail_builtinR (x := w) pl.isList.typeIs slot_list_getitem.lookup
      (wpAny_getItem_list_neg (Q := fun r s' => r = w ∧ EP X pins σ Q r s') pl.isList (by omega) (by rw [List.size_toArray] <;> omega) (by omega) (by rw [hj]; simpa using ew) ⟨rfl, fin⟩) hs
theorem ix_tup : IxR X (rIxT X.K) := by
  intro value slice pins s σ H x y v u Q I rx ry h hs
  obtain ⟨p, xs, i, z, rfl, rfl, hq, he, q⟩ := h
  cases rx
  obtain ⟨t, rfl⟩ := ry
  obtain ⟨its, r, pl, hz⟩ := I.tuple hq
  obtain ⟨j, h1, h2, h3, h4, h5⟩ := atI_get he
  obtain ⟨w, ew, rw'⟩ := r.get h2
  have hl := r.length
  have hn := line63
  have fin : EP X pins σ Q w s := ⟨z, H, I, rw', q⟩
  exact subscriptTail_builtinR (x := w) pl.typeIs slot_tuple_getitem.lookup
    (getItem_tuple (j := j) (Q := fun r s' => r = w ∧ EP X pins σ Q r s') pl (by omega) (by omega) (by rw [List.size_toArray, ← hl]; exact h1) (by simpa using ew) ⟨rfl, fin⟩) hs
theorem ix_str : IxR X rIxS := by
  intro value slice pins s σ H x y v u Q I rx ry h hs
  obtain ⟨z, i, c, rfl, rfl, hz, he, q⟩ := h
  obtain ⟨t, rfl⟩ := rx
  obtain ⟨t', rfl⟩ := ry
  obtain ⟨j, h1, h2, h3, h4, h5⟩ := atI_get he
  have hl : z.cps.toList.length = z.length := by simp [Str.length]
  rw [hl] at h1 h4 h5
  have hn := line63
  exact tail_any (typeIs_str s z t) slot_str_getitem.lookup (getItem_str (c := c) (by
    have e1 : decide (i < -(2 ^ 63 : Int)) = false := decide_eq_false (by omega)
    have e2 : decide (i ≥ 2 ^ 63) = false := decide_eq_false (by omega)
    rw [e1, e2, Bool.or_false]) (by rw [h1]; simpa using h2) ⟨.str ⟨#[c]⟩, H, I.tok _, ⟨_, rfl⟩, q⟩) hs
/-- list, tuple or str -/
def rIx (K : PySem.W.Frag) : R2 := fun x y H Q => rIxL K x y H Q ∨ rIxT K x y H Q ∨ rIxS x y H Q
/-! ### xs[i] = v, any sign -/
/-- the list's object behind a store -/
theorem mapSeq_set (its : List Value) (n j : Nat) (u : Value) : Obj.mapSeq (·.setIfInBounds j u) { cls := .type "list", data := .seq its.toArray n } = { cls := .type "list", data := .seq (its.set j u).toArray n } := by
  simp [Obj.mapSeq]
theorem Inv.lst {pins : List (Addr × Obj)} {σ : St} {H : Hp} {s : Shared} {p : Addr} {xs : List V} (I : Inv X pins σ H s) (h : H p = some (.lst xs)) :
    ∃ (its : List Value) (n : Nat), Vals xs its ∧ s.heap.get? p = some { cls := .type "list", data := .seq its.toArray n } ∧ xs.length ≤ sizeLine := by
  obtain ⟨z, its, n, r, e⟩ := I.hok p _ h
  exact ⟨its, n, r, e, z⟩
/-- the list at p is written by an update of its object -/
theorem Inv.lstUpd {pins : List (Addr × Obj)} {σ : St} {H : Hp} {s : Shared} {p : Addr} {xs ys : List V} {its its' : List Value} {n n' : Nat} {f : Obj → Obj} (I : Inv X pins σ H s) (h : H p = some (.lst xs))
    (ho : s.heap.get? p = some { cls := .type "list", data := .seq its.toArray n }) (hf : f { cls := .type "list", data := .seq its.toArray n } = { cls := .type "list", data := .seq its'.toArray n' }) (r : Vals ys its') (hz : ys.length ≤ sizeLine) (t : Nat) :
    Inv X pins σ (upd H p (.lst ys)) { s with heap := s.heap.update p f, toks := t } := by
  have e : (s.heap.update p f).get? p = some { cls := .type "list", data := .seq its'.toArray n' } := by
    rw [Heap.get?_update_self f ho (by rw [hf] <;> rfl), hf]
  refine I.write (x := p) (e := p) (by rw [h]; trivial) (.inl rfl) (fun b u hb q => (Heap.get?_update_other _ _ (Ne.symm hb)).trans q) ⟨_, e⟩ ?_
  exact ⟨hz, its', n', r, e⟩
def rSetL : V → V → V → Hp → (Hp → Prop) → Prop := fun o i v H Q => ∃ p xs k j, o = .ref p ∧ i = .int k ∧ H p = some (.lst xs) ∧ ixN xs.length k = some j ∧ Q (upd H p (.lst (xs.set j v)))
theorem set_list : PSet X rSetL := by
  intro pins s σ H o i v ov iv u Q I ro ri rv h
  obtain ⟨p, xs, k, j, rfl, rfl, hp, hj, q⟩ := h
  cases ro
  obtain ⟨t, rfl⟩ := ri
  obtain ⟨its, n, r, ho, hz⟩ := I.lst hp
  obtain ⟨h1, h2, h3, h4⟩ := ixN_seq hj
  have hl := r.length
  have hn := line63
  have I' : Inv X pins σ (upd H p (.lst (xs.set j v))) { s with heap := s.heap.update p (Obj.mapSeq (·.setIfInBounds j u)) } :=
    I.lstUpd hp ho (mapSeq_set its n j u) (r.set rv j) (by rw [List.length_set]; exact hz) s.toks
  by_cases h0 : 0 ≤ k
  · have hk : k.toNat = j := by
      rw [seqIndex_of h0 h4] at h1
      exact Option.some.inj h1
    exact PySem.W.ki_setAt ho h0 (by omega) (by rw [List.size_toArray, ← hl]; exact h4) (by rw [hk]; exact ⟨_, I', q⟩)
  · have hk : (k + (its.toArray.size : Int)).toNat = j := by
      rw [seqIndex_neg (by omega) h3] at h1
      rw [List.size_toArray, ← hl]
      exact Option.some.inj h1
    exact PySem.W.ki_setBack ho (by omega) (by rw [List.size_toArray, ← hl]; exact h3) (by omega) (by rw [hk]; exact ⟨_, I', q⟩)

/-! ### slices -/
theorem slice_bounds (lo hi : Option Int) (n : Nat) : (sliceBounds lo hi none n).1 = ((HT.sIx n 0 lo : Nat) : Int) ∧ (sliceBounds lo hi none n).2.1 = ((HT.sIx n n hi : Nat) : Int) ∧ (sliceBounds lo hi none n).2.2 = 1 := by
  refine ⟨?_, ?_, rfl⟩
  · cases lo with
    | none => simp [sliceBounds, HT.sIx]
    | some i =>
      simp only [sliceBounds, HT.sIx, Option.getD_none, show (1 : Int) > 0 by decide, if_true]
      by_cases h : i < 0
      · simp only [h, if_true] <;> omega
      · simp only [h, if_false] <;> omega
  · cases hi with
    | none => simp [sliceBounds, HT.sIx]
    | some i =>
      simp only [sliceBounds, HT.sIx, Option.getD_none, show (1 : Int) > 0 by decide, if_true]
      by_cases h : i < 0
      · simp only [h, if_true] <;> omega
      · simp only [h, if_false] <;> omega
theorem slicePick_cut (its : List Value) (lo hi : Option Int) : slicePick its.toArray lo hi none = ((its.drop (HT.sIx its.length 0 lo)).take (HT.sIx its.length its.length hi - HT.sIx its.length 0 lo)).toArray := by
  obtain ⟨h1, h2, h3⟩ := slice_bounds lo hi its.toArray.size
  unfold slicePick
  rw [h1, h2, h3]
  simp only [sliceRange_one, pick_run, List.size_toArray] <;> rfl
/-- xs[lo:hi] of a list: a new list -/
def rSlL (K : PySem.W.Frag) : V → Option Int → Option Int → Hp → VK → Prop := fun x lo hi H Q => ∃ a xs, x = .ref a ∧ SqL K H a xs ∧ ∀ p, H p = none → Q (.ref p) (upd H p (.lst (cutV xs lo hi)))
theorem sl_list : SlR X (rSlL X.K) := by
  intro pins s σ H x v vl vu lo hi sl Q I rx hs pl pu h
  obtain ⟨a, xs, rfl, hx, q⟩ := h
  cases rx
  obtain ⟨its, r, ht, hz⟩ := I.list hx
  have hlen := r.length
  refine ⟨"list", _, slot_list_getitem.lookup, ht.isList.typeIs, ?_⟩
  refine wpAny_getItem_list_slice ht.isList hs pl pu .none (by simp) ?_ (by rw [List.size_toArray] <;> omega)
  rw [slicePick_cut, ← hlen]
  refine ⟨.ref s.heap.objs.size, _, I.laid (t' := s.toks) (o := .lst (cutV xs lo hi)) (fun b ob q => Heap.get?_push_of_some _ q) (Nat.le_refl _) ?_, rfl, q _ (I.hok.fresh (Nat.le_refl _))⟩
  exact ⟨Nat.le_trans (cutV_length xs lo hi) hz, _, 0, (r.drop (HT.sIx xs.length 0 lo)).take (HT.sIx xs.length xs.length hi - HT.sIx xs.length 0 lo), Heap.get?_push_size _ rfl⟩

/-! ### in, not in: flat items -/
def flatV : V → Bool
  | .non => true
  | .bl _ => true
  | .int _ => true
  | .str _ => true
  | _ => false
/-- == of flat values -/
def eqV : V → V → Bool
  | .non, .non => true
  | .bl a, .bl b => a == b
  | .bl a, .int b => (if a then 1 else 0) == b
  | .int a, .bl b => a == (if b then 1 else 0)
  | .int a, .int b => a == b
  | .str a, .str b => a == b
  | _, _ => false
theorem eqAt_V {A : Around} {s : Shared} {y x : V} {u v : Value} (ry : RelV y u) (rx : RelV x v) (fy : flatV y = true) (fx : flatV x = true) : SeqAt.EqAt A s u v (eqV y x) := by
  cases y with
  | non =>
    cases ry
    cases x with
    | non => cases rx; exact SeqAt.EqAt.same _
    | bl b => cases rx; exact SeqAt.EqAt.none_bool b
    | int b => obtain ⟨t, rfl⟩ := rx; exact SeqAt.EqAt.none_int b t
    | str b => obtain ⟨t, rfl⟩ := rx; exact SeqAt.EqAt.none_str b t
    | _ => exact absurd (show false = true from fx) Bool.false_ne_true
  | bl a =>
    cases ry
    cases x with
    | non => cases rx; exact SeqAt.EqAt.bool_none a
    | bl b => cases rx; exact SeqAt.EqAt.bool_bool a b
    | int b => obtain ⟨t, rfl⟩ := rx; exact SeqAt.EqAt.bool_int a b t
    | str b => obtain ⟨t, rfl⟩ := rx; exact SeqAt.EqAt.bool_str a b t
    | _ => exact absurd (show false = true from fx) Bool.false_ne_true
  | int a =>
    obtain ⟨t', rfl⟩ := ry
    cases x with
    | non => cases rx; exact SeqAt.EqAt.int_none a t'
    | bl b => cases rx; exact SeqAt.EqAt.int_bool a t' b
    | int b => obtain ⟨t, rfl⟩ := rx; exact SeqAt.EqAt.int_int a t' b t
    | str b => obtain ⟨t, rfl⟩ := rx; exact SeqAt.EqAt.int_str a t' b t
    | _ => exact absurd (show false = true from fx) Bool.false_ne_true
  | str a =>
    obtain ⟨t', rfl⟩ := ry
    cases x with
    | non => cases rx; exact SeqAt.EqAt.str_none a t'
    | bl b => cases rx; exact SeqAt.EqAt.str_bool a t' b
    | int b => obtain ⟨t, rfl⟩ := rx; exact SeqAt.EqAt.str_int a t' b t
    | str b => obtain ⟨t, rfl⟩ := rx; exact SeqAt.EqAt.str_str a t' b t
    | _ => exact absurd (show false = true from fx) Bool.false_ne_true
  | _ => exact absurd (show false = true from fy) Bool.false_ne_true
/-- the items' answers, read off the values (a value's own answer does not lean on its token) -/
def eqU (x : V) (u : Value) : Bool := match u with
  | .none => eqV .non x
  | .bool b => eqV (.bl b) x
  | .int i _ => eqV (.int i) x
  | .str z _ => eqV (.str z) x
  | _ => false
theorem eqU_of {x y : V} {u : Value} (r : RelV y u) (f : flatV y = true) : eqU x u = eqV y x := by
  cases y with
  | non => cases r; rfl
  | bl b => cases r; rfl
  | int i => obtain ⟨t, rfl⟩ := r; rfl
  | str z => obtain ⟨t, rfl⟩ := r; rfl
  | _ => exact absurd (show false = true from f) Bool.false_ne_true
theorem any_eqU {x : V} : ∀ {xs : List V} {us : List Value}, Vals xs us → xs.all flatV = true → us.any (eqU x) = xs.any fun y => eqV y x
  | _, _, .nil, _ => rfl
  | y :: xs, u :: us, .cons r t, f => by
    rw [List.all_cons, Bool.and_eq_true] at f
    rw [List.any_cons, List.any_cons, eqU_of r f.1, any_eqU t f.2]
theorem mem_eqAt {A : Around} {s : Shared} {x : V} {v : Value} (rx : RelV x v) (fx : flatV x = true) : ∀ {xs : List V} {us : List Value}, Vals xs us → xs.all flatV = true → ∀ u ∈ us, SeqAt.EqAt A s u v (eqU x u)
  | _, _, .nil, _ => fun u hu => by cases hu
  | y :: xs, u :: us, .cons r t, f => fun u' hu => by
    rw [List.all_cons, Bool.and_eq_true] at f
    rcases List.mem_cons.mp hu with rfl | hu
    · rw [eqU_of r f.1]; exact eqAt_V r rx f.1 fx
    · exact mem_eqAt rx fx t f.2 u' hu
def inV (x : V) (xs : List V) : Bool := xs.any fun y => eqV y x
/-- x in a list or tuple of flat items -/
def rIn (K : PySem.W.Frag) (neg : Bool) : R2 := fun x y H Q => ∃ p xs, y = .ref p ∧ (SqL K H p xs ∨ SqT K H p xs) ∧ flatV x = true ∧ xs.all flatV = true ∧ Q (.bl (if neg then !inV x xs else inV x xs)) H
theorem op_in_seq : OpR X (compareOp .In) (rIn X.K false) := by
  intro pins s σ H x y v u Q I rx ry h
  obtain ⟨p, xs, rfl, hq, fx, fs, q⟩ := h
  cases ry
  rcases hq with hq | hq
  · obtain ⟨its, r, pl, hz⟩ := I.list hq
    refine SeqAt.in_listAt (eqU x) pl.isList (fun w hw => mem_eqAt rx fx r fs w (by simpa using hw)) ⟨.bl _, H, I, rfl, ?_⟩
    rw [show its.toArray.any (eqU x) = its.any (eqU x) by simp, any_eqU r fs]
    exact q
  · obtain ⟨its, r, pl, hz⟩ := I.tuple hq
    refine SeqAt.in_tupleAt (eqU x) pl (fun w hw => mem_eqAt rx fx r fs w (by simpa using hw)) ⟨.bl _, H, I, rfl, ?_⟩
    rw [show its.toArray.any (eqU x) = its.any (eqU x) by simp, any_eqU r fs]
    exact q
/-! ### len, list(x), tuple(x) of any list or tuple that is read -/
theorem call_len_seq : CallR X (.builtin "len") (fun xs H Q => ∃ p ys, xs = [.ref p] ∧ (SqL X.K H p ys ∨ SqT X.K H p ys) ∧ Q (.int ys.length) H) := by
  intro pins s σ H xs us Q I r h
  obtain ⟨p, ys, rfl, hq, q⟩ := h
  obtain ⟨u, rfl, rx⟩ := vals1 r
  cases rx
  have hn := line63
  rcases hq with hq | hq
  · obtain ⟨its, r', pl, hz⟩ := I.list hq
    have hlen := r'.length
    exact Calls.call_len_list pl.isList (by simp only [List.size_toArray] <;> omega) ⟨.int ys.length, H, I.tok _, ⟨s.toks + 1, by rw [List.size_toArray, hlen]⟩, q⟩
  · obtain ⟨its, r', pl, hz⟩ := I.tuple hq
    have hlen := r'.length
    exact len_tuple pl (by simp only [List.size_toArray] <;> omega) ⟨.int ys.length, H, I.tok _, ⟨s.toks + 1, by rw [List.size_toArray, hlen]⟩, q⟩
theorem call_len_str : CallR X (.builtin "len") (fun xs H Q => ∃ z, xs = [.str z] ∧ z.length ≤ sizeLine ∧ Q (.int z.length) H) := by
  intro pins s σ H xs us Q I r h
  obtain ⟨z, rfl, hz, q⟩ := h
  obtain ⟨u, rfl, t, rfl⟩ := vals1 r
  have hn := line63
  exact len_str (by omega) ⟨.int z.length, H, I.tok _, ⟨_, rfl⟩, q⟩
theorem call_list_of : CallR X (.type "list") (fun xs H Q => ∃ p ys, xs = [.ref p] ∧ (SqL X.K H p ys ∨ SqT X.K H p ys) ∧ ∀ l, H l = none → Q (.ref l) (upd H l (.lst ys))) := by
  intro pins s σ H xs us Q I r h
  obtain ⟨p, ys, rfl, hq, q⟩ := h
  obtain ⟨u, rfl, rx⟩ := vals1 r
  cases rx
  have fin : ∀ (its : List Value), Vals ys its → ys.length ≤ sizeLine → ∀ (h' : Heap) (c' : Nat), (∀ b o', s.heap.get? b = some o' → h'.get? b = some o') →
      h'.get? s.heap.objs.size = some { cls := .type "list", dict := none, data := .seq its.toArray c', slots := #[] } → EP X pins σ Q (.ref s.heap.objs.size) { s with heap := h' } := fun its r' hz h' c' kp e =>
    ⟨.ref s.heap.objs.size, _, I.laid (t' := s.toks) kp (Nat.le_refl _) (show ObjOk X.prog X.w _ h' _ (.lst ys) from ⟨hz, its, c', r', e⟩), rfl, q _ (I.hok.fresh (Nat.le_refl _))⟩
  rcases hq with hq | hq
  · obtain ⟨its, r', pl, hz⟩ := I.list hq
    have hlen := r'.length
    obtain ⟨o, ho, hc, n, hd⟩ := pl.isList
    exact call_list_seq p (.inl rfl) ho hc hd (fun h' c' kp e => fin its r' hz h' c' kp e) (by simp only [List.size_toArray] <;> omega)
  · obtain ⟨its, r', pl, hz⟩ := I.tuple hq
    have hlen := r'.length
    obtain ⟨o, ho, hc, n, hd⟩ := pl
    exact call_list_seq p (.inr rfl) ho hc hd (fun h' c' kp e => fin its r' hz h' c' kp e) (by simp only [List.size_toArray] <;> omega)
/-! ### the call of a builtin's method: o.m(..) -/
/-- the value is of that builtin type -/
def tyV (K : PySem.W.Frag) (T : String) (x : V) (H : Hp) : Prop := match x with
  | .str _ => T = "str"
  | .int _ => T = "int"
  | .ref p => (T = "list" ∧ ∃ xs, SqL K H p xs) ∨ (T = "tuple" ∧ ∃ o, K.lookup p = some o ∧ o.cls = .type "tuple" ∧ o.dict = none) ∨
      (T = "dict" ∧ ((∃ kvs, H p = some (.dK kvs)) ∨ ∃ kvs, H p = some (.dT kvs))) ∨ (T = "set" ∧ ∃ S n, H p = some (.set S n))
  | _ => False
theorem tyV_is {pins : List (Addr × Obj)} {σ : St} {H : Hp} {s : Shared} {T : String} {x : V} {v : Value} (I : Inv X pins σ H s) (r : RelV x v) (ty : tyV X.K T x H) :
    s.TypeIs v T ∧ ∀ a, v = .ref a → ∃ ob, s.heap.get? a = some ob ∧ ob.dict = none := by
  cases x with
  | str z =>
    obtain ⟨t, rfl⟩ := r
    cases (show T = "str" from ty)
    exact ⟨typeIs_str s z t, fun _ e => nomatch e⟩
  | int i =>
    obtain ⟨t, rfl⟩ := r
    cases (show T = "int" from ty)
    exact ⟨typeIs_int s i t, fun _ e => nomatch e⟩
  | ref p =>
    cases r
    rcases ty with ⟨rfl, xs, hq⟩ | ⟨rfl, o, hk, hc, hd⟩ | ⟨rfl, hk⟩ | ⟨rfl, S, n, hk⟩
    · obtain ⟨its, _, pl, _⟩ := I.list hq
      refine ⟨pl.isList.typeIs, fun a e => ?_⟩
      cases e
      obtain ⟨o, n, e, c, hd, _⟩ := pl
      exact ⟨o, e, hd⟩
    · refine ⟨⟨o, I.kIn p o hk, hc⟩, fun a e => ?_⟩
      cases e
      exact ⟨o, I.kIn _ o hk, hd⟩
    · have z : ∃ o, s.heap.get? p = some o ∧ o.ExactDict := by
        rcases hk with ⟨kvs, hk⟩ | ⟨kvs, hk⟩
        · obtain ⟨_, _, _, _, o, _, _, e, ex, _⟩ := I.hok p _ hk
          exact ⟨o, e, ex⟩
        · obtain ⟨_, _, _, _, o, _, _, e, ex, _⟩ := I.hok p _ hk
          exact ⟨o, e, ex⟩
      obtain ⟨o, e, ex⟩ := z
      refine ⟨⟨o, e, ex.1⟩, fun a e2 => ?_⟩
      cases e2
      exact ⟨o, e, ex.2.1⟩
    · obtain ⟨o, _, _, _, e, ex, _⟩ := I.hok p _ hk
      refine ⟨⟨o, e, ex.1⟩, fun a e2 => ?_⟩
      cases e2
      exact ⟨o, e, ex.2.1⟩
  | _ => exact False.elim ty
def tBM0 (K : PySem.W.Frag) (T : String) (r : V → List V → Hp → VK → Prop) (to : TE) : TE := fun σ H Q => to σ H fun x H1 => tyV K T x H1 ∧ r x [] H1 Q
def tBM (K : PySem.W.Frag) (T : String) (r : V → List V → Hp → VK → Prop) (to : TE) (t : TA) : TE := fun σ H Q => to σ H fun x H1 => tyV K T x H1 ∧ t σ H1 fun xs H2 => r x xs H2 Q
variable {o e : Expr} {es : List Expr} {to : TE} {t : TA} {name : Str} {apos cpos : Pos} {T id : String} {r : V → List V → Hp → VK → Prop}
theorem pe_bm (pa : PlainAttrs T) (slot : Slot T name id) (hty : typeOf (.builtin id) = pure (.type "method_descriptor")) (hm : MtR X id r) (ho : PE X o to) (ha : PA X (e :: es) t)
    (hbase : attributeBase o name X.env (eval o X.env) = eval o X.env := by rfl)
    (hfew : ((backTo cpos (starEach (e :: es) X.env)).all (fun x => !x.1) && (backToKw cpos (keywordEach [] X.env)).all (fun x => x.1.isSome)
      && decide ((e :: es).length + ([] : List Keyword).length + (if ([] : List Keyword).isEmpty then 0 else 1) < 30)) = true := by rfl)
    (hline : (apos.endLine == cpos.line) = true := by rfl) (hs : starEach (e :: es) X.env = (false, eval e X.env) :: starEach es X.env := by rfl) (hplain : (backTo cpos (starEach es X.env)).any (·.1) = false := by rfl) :
    PE X (.Call (.Attribute o name apos) (e :: es) [] cpos) (tBM X.K T r to t) := by
  intro pins s σ H Q I h
  refine wpAny_Call_method_late hbase hfew hline rfl (thn (ho pins s σ H _ I h) fun v s1 ⟨x, H1, I1, r1, ty, q1⟩ => ?_)
  obtain ⟨h1, h2⟩ := tyV_is I1 r1 ty
  refine ⟨T, id, pa, slot, hty, h1, h2, ?_⟩
  have hA := ha cpos pins s1 σ H1 _ I1 q1
  rw [hs] at hA ⊢
  refine Calls.callWith_builtin (by show (false || (backTo cpos (starEach es X.env)).any (·.1)) = false; rw [hplain] <;> rfl) (Calls.evalArgs_plain ?_)
  exact thn hA fun us s2 ⟨vs, H2, I2, r2, q2⟩ => hm pins s2 σ H2 x vs v us Q I2 r1 r2 q2
/- xs.append(e), list.index on a module's tuple .. are MtR facts of 06m -/
end
end L2

namespace L2
open PySem PySem.Spec PyProof.Rows

def MtM (X : Cx) (id : String) (r : V → List V → Hp → VK → Prop) : Prop :=
  ∀ (pins : List (Addr × Obj)) (s : Shared) (σ : St) (H : Hp) (x : V) (xs : List V) (v : Value) (us : List Value) (Q : VK), Inv X pins σ H s → RelV x v → Vals xs us → r x xs H Q →
    wpAny (model X.prog X.w) X.A (call (.builtin id) (v :: us)) (EP X pins σ Q) X.xe s

/-! ### lists of values -/
theorem Vals.one : ∀ {x : V} {us : List Value}, Vals [x] us → ∃ u, us = [u] ∧ RelV x u
  | _, _, .cons r .nil => ⟨_, rfl, r⟩
section
variable {X : Cx} {pins : List (Addr × Obj)} {σ : St} {H : Hp} {s : Shared} {l b : Addr} {xs ys zs : List V}

/-! ### the two steps: a tracked list is rewritten, a new list is laid -/
theorem Inv.lset {its its' : List Value} {n : Nat} {f : Array Value → Array Value} {t' : Nat} (I : Inv X pins σ H s) (hH : H l = some (.lst xs))
    (e : s.heap.get? l = some { cls := .type "list", data := .seq its.toArray n }) (hf : f its.toArray = its'.toArray) (hv : Vals ys its') (hz : ys.length ≤ sizeLine) :
    Inv X pins σ (upd H l (.lst ys)) { s with heap := s.heap.update l (Obj.mapSeq f), toks := t' } := by
  have q := PySem.IsL.update e f
  rw [hf] at q
  refine I.write (x := l) (e := l) (by rw [hH]; exact trivial) (.inl rfl) (fun b' u hb hu => (Heap.get?_update_other s.heap (Obj.mapSeq f) (Ne.symm hb)).trans hu) ⟨_, q⟩ ?_
  exact ⟨hz, its', _, hv, q⟩
theorem Inv.lnew {its : List Value} {t' : Nat} (I : Inv X pins σ H s) (hv : Vals ys its) (hz : ys.length ≤ sizeLine) :
    Inv X pins σ (upd H s.heap.objs.size (.lst ys)) { s with heap := s.heap.push { cls := .type "list", data := .seq its.toArray }, toks := t' } :=
  I.laid (fun _ _ q => Heap.get?_push_of_some _ q) (Nat.le_refl _) ⟨hz, its, 0, hv, Heap.get?_push_size _ rfl⟩
theorem Inv.fresh (I : Inv X pins σ H s) : H s.heap.objs.size = none := I.hok.fresh (Nat.le_refl _)
theorem Inv.lstM (I : Inv X pins σ H s) (hH : H l = some (.lst xs)) : xs.length ≤ sizeLine ∧ ∃ (its : List Value) (n : Nat), Vals xs its ∧ xs.length = its.length ∧ s.heap.get? l = some { cls := .type "list", data := .seq its.toArray n } := by
  obtain ⟨z, its, n, r, e⟩ := I.hok l _ hH
  exact ⟨z, its, n, r, r.length, e⟩

end

section
variable {X : Cx}

/-! ### methods -/
def rAppend : V → List V → Hp → VK → Prop := fun x vs H Q => ∃ l xs y, x = .ref l ∧ vs = [y] ∧ H l = some (.lst xs) ∧ xs.length < sizeLine ∧ Q .non (upd H l (.lst (xs ++ [y])))
theorem mt_append : MtM X "list.append" rAppend := by
  intro pins s σ H x vs v us Q I rx rv h
  obtain ⟨l, xs, y, rfl, rfl, hH, hz, q⟩ := h
  cases rx
  obtain ⟨u, rfl, ru⟩ := rv.one
  obtain ⟨z, its, n, r, hl, e⟩ := I.lstM hH
  refine call_meets F.slot_list_append ⟨_, e, rfl⟩ F.entry_list_append (F.args_list_append_2 _ _) (PySem.list_append l its.toArray n u (by rw [List.size_toArray]; omega)) ⟨e, ?_⟩
  refine ⟨.non, _, I.lset (its' := its ++ [u]) hH e (by simp) (r.append (.cons ru .nil)) ?_, rfl, q⟩
  rw [List.length_append, List.length_singleton]
  omega

def rExtend : V → List V → Hp → VK → Prop := fun x vs H Q => ∃ l b xs zs, x = .ref l ∧ vs = [.ref b] ∧ H l = some (.lst xs) ∧ H b = some (.lst zs) ∧ xs.length + zs.length ≤ sizeLine ∧ Q .non (upd H l (.lst (xs ++ zs)))
def rPop : V → List V → Hp → VK → Prop := fun x vs H Q => ∃ l xs y, x = .ref l ∧ vs = [] ∧ H l = some (.lst xs) ∧ xs[xs.length - 1]? = some y ∧ Q y (upd H l (.lst xs.dropLast))
def rPopAt : V → List V → Hp → VK → Prop := fun x vs H Q => ∃ l xs i k y, x = .ref l ∧ vs = [.int i] ∧ H l = some (.lst xs) ∧ -(2 ^ 63) ≤ i ∧ i < 2 ^ 63 ∧ seqIndex? i xs.length = some k ∧ xs[k]? = some y ∧ Q y (upd H l (.lst (xs.eraseIdx k)))
def rReverse : V → List V → Hp → VK → Prop := fun x vs H Q => ∃ l xs, x = .ref l ∧ vs = [] ∧ H l = some (.lst xs) ∧ Q .non (upd H l (.lst xs.reverse))
def rClear : V → List V → Hp → VK → Prop := fun x vs H Q => ∃ l xs, x = .ref l ∧ vs = [] ∧ H l = some (.lst xs) ∧ Q .non (upd H l (.lst []))
/-! ### list + list, list += list, list * int -/
def rCat : R2 := fun x y H Q => ∃ l b xs zs, x = .ref l ∧ y = .ref b ∧ H l = some (.lst xs) ∧ H b = some (.lst zs) ∧ xs.length + zs.length ≤ sizeLine ∧ ∀ p, H p = none → Q (.ref p) (upd H p (.lst (xs ++ zs)))
theorem op_cat : OpR X (binaryOp .Add) rCat := by
  intro pins s σ H x y v u Q I rx ry h
  obtain ⟨l, b, xs, zs, rfl, rfl, hH, hB, hz, q⟩ := h
  cases rx
  cases ry
  obtain ⟨z, its, n, r, hl, e⟩ := I.lstM hH
  obtain ⟨z2, its2, n2, r2, hl2, e2⟩ := I.lstM hB
  refine PySem.P.add_list e e2 ?_ (by rw [List.size_toArray, List.size_toArray]; omega)
  have ea : its.toArray ++ its2.toArray = (its ++ its2).toArray := by simp
  rw [ea]
  exact ⟨.ref _, _, I.lnew (t' := s.toks) (r.append r2) (by rw [List.length_append]; omega), rfl, q _ I.fresh⟩
/-- a list times an int (a negative one is nothing) -/
def rRep : R2 := fun x y H Q => ∃ l k xs, x = .ref l ∧ y = .int k ∧ H l = some (.lst xs) ∧ -(2 ^ 63) ≤ k ∧ k < 2 ^ 63 ∧ xs.length * k.toNat ≤ sizeLine ∧
  ∀ p, H p = none → Q (.ref p) (upd H p (.lst (List.replicate k.toNat xs).flatten))
/-! ### del xs[i] -/
end

/-! ### xs[a:b] = ys -/
section
variable {prog : Program} {w : World} {A : Around} {E : Value → Shared → Prop} {s : Shared}
end

section
variable {X : Cx}
end
end L2

namespace Att
open PySem PySem.W PySem.Calls PyProof.Rows

/-! ### the script -/
theorem ints_of_wellAll {P : Params} {h : Heap} : ∀ (ns : List Int) (vs : List Value), WellAll P h vs (ns.map WData.int) → IntsAre vs ns := by
  intro ns
  induction ns with
  | nil =>
    intro vs w
    rw [List.map_nil] at w
    cases w
    exact .nil
  | cons n ns ih =>
    intro vs w
    rw [List.map_cons] at w
    cases w with
    | cons a b =>
      cases a
      exact .cons _ _ (ih _ b)

theorem script_of {l : OpenLaw} {n : Nat} (hn : l.most = some n) {P : Params} {h : Heap} {args : List WData} {vals : List Value}
    (hpre : l.row.toRowW.claim.pre args = true) (hwl : WellAll P h vals args) :
    ∃ a vs ns, vals = [Value.ref a] ∧ args = [WData.list (ns.map WData.int)] ∧ h.get? a = some { cls := .type "list", data := .seq vs.toArray } ∧ IntsAre vs ns ∧ ns.length ≤ n := by
  have hsh : WShape.hasAll [] args [.list .int] = true := (pre_splitW hpre).1
  have hc : l.pre.holds [] { args := args } = true := (pre_splitW hpre).2
  obtain ⟨d, r, rfl, h1, h2⟩ := hasAllW_cons hsh
  obtain rfl := hasAllW_nil h2
  obtain ⟨xs, rfl, h3⟩ := hasW_list h1
  obtain ⟨ns, rfl⟩ := items_int h3
  have hlen : ns.length ≤ n := by
    unfold OpenLaw.pre at hc
    have h4 : (WTm.not (.lt (.lit (.int (n : Int))) (.len (.arg 0)))).holds [] { args := [.list (ns.map .int)] } = true := by
      have h4 := (holds_andW hc).1
      rw [hn] at h4
      exact h4
    have h5 := condW_of h4 (w_not (w_lt w_lit (w_len_list (w_arg rfl))))
    rw [List.length_map] at h5
    refine Nat.le_of_not_lt fun q => ?_
    have q' : (n : Int) < ((ns.length : Nat) : Int) := by omega
    first
      | (rw [decide_eq_true q'] at h5; exact absurd h5 (by decide))
      | (simp at h5; omega)
  cases hwl with
  | cons w1 w2 =>
    cases w2
    cases w1 with
    | list ho hall => exact ⟨_, _, ns, rfl, rfl, ho, ints_of_wellAll ns _ hall, hlen⟩

theorem post_true (l : OpenLaw) (args : List WData) : l.row.toRowW.claim.post args (.bool true) args = true :=
  postW_of (r := l.row.toRowW) (X := (true == true))
    (show WShape.has [] (.bool true) .bool = true by first | rfl | decide | simp [WShape.has, WShape.arms, WShape.armsAll])
    (show (WTm.eq .res (.lit (.bool true))).value [] { args := args, res := some (.bool true), after := args } = some (.bool (true == true)) from w_eq_bool (w_res rfl) w_lit) rfl

/-! ### the attachment: holds_open's last premise (the goal 'hc' behind k_head) from a wpAny of the law's body -/
/-! ### rules over ANY heap (no ledger) from facts about the written part K: the library's own take a ledger (News) for what they write -/
section
variable {prog : Program} {w : World} {A : Around} {E : Value → Shared → Prop} {s : Shared} {K : Frag}

/-! the whole heap as the ledger: makes every rule that writes through a ledger a rule over any heap -/
def noObjs (h : Heap) : Heap := { h with objs := #[] }
def ledger (h : Heap) (L d : Addr) : List (Addr × Obj) := (List.range h.objs.size).filterMap fun a => if a = L ∨ a = d then none else (h.get? a).map fun o => (a, o)
end
end Att

namespace L2
open PySem PySem.Spec PyProof.Rows

theorem vals_ints : ∀ {vs : List Value} {ns : List Int}, IntsAre vs ns → Vals (ns.map V.int) vs
  | _, _, .nil => .nil
  | _, _, .cons n t h => .cons ⟨t, rfl⟩ (vals_ints h)

/-- nothing is tracked but the script, known to the object (or it is an object of the module) -/
def Only (H : Hp) : Prop := ∀ b, H b = none ∨ ∃ o xs, H b = some (.frz o (.lst xs))

/-- THE HEAD: the law's promise, at the heap behind the top. F, the promise of the law's def, may use that base is part of the heap (so K.In base, base.Ns mainGlobals mg stand in Mod) -/
theorem law_call {P : Program} {w : World} {K : PySem.W.Frag} {mg mb : Str → Option Value} {CX : CXT} {k : Nat} {fa a : Addr} {fd : FuncData} {x : Str} {sp : Sp} {s₁ : Shared} {vs : List Value} {ns : List Int}
    (KX : K.In s₁.heap) (hns : s₁.heap.Ns mainGlobals mg) (hb : s₁.heap.Ns builtinsNs mb) (hbb : ∀ x : Str, x ≠ "__name__" → mb x = bootBuiltins x) (hlim : s₁.heap.NoLimit) (hg : s₁.gens = #[])
    (ha : s₁.heap.get? a = some { cls := .type "list", data := .seq vs.toArray }) (hi : IntsAre vs ns) (hl : ns.length ≤ sizeLine) (hr : Room k callerA)
    (F : ∀ base : Heap, K.In base → base.Ns mainGlobals mg → FnOk P w K mg base CX k fa fd [x] sp) (hbind : ∀ (s : Shared) (u : Value), BindsTo s fd ⟨[u], []⟩ [(x, u)])
    (hsp : ∀ H : Hp, Only H → SqL K H a (ns.map V.int) → sp [.ref a] H (fun v _ => v = .bl true) fun _ _ _ => False)
    (hCX : ∀ H e s', CX [] H s₁ (fun _ _ _ => False) e s' → False) :
    codeAny (model P w) callerA (.call (.ref fa) ⟨[.ref a], []⟩) (fun r s' => r = .ok (.ret (.bool true)) ∧ OldK s₁.heap s'.heap ∧ s'.os = s₁.os ∧ AllBare s'.gens) s₁ := by
  have rv := vals_ints hi
  have lenV := hi.length
  -- from an abstract heap in which nothing but the script may be tracked
  have core : ∀ H : Hp, Only H → SqL K H a (ns.map V.int) → HOk P w H s₁.heap → (∀ b, H b ≠ none → b = a) → (H a ≠ none → K.lookup a = none) →
      codeAny (model P w) callerA (.call (.ref fa) ⟨[.ref a], []⟩) (fun r s' => r = .ok (.ret (.bool true)) ∧ OldK s₁.heap s'.heap ∧ s'.os = s₁.os ∧ AllBare s'.gens) s₁ := by
    intro H hO hS hok hA hK
    have base_of : ∀ {b : Addr} {o : Obj}, s₁.heap.get? b = some o → H b = none → (hidT s₁.heap H).get? b = some o := fun e n => hidT_get e n
    have noA : ∀ {b : Addr} {o : Obj} {es : Array DictEntry} {ep : Nat}, s₁.heap.get? b = some o → o.data = .dict es ep → H b = none := fun {b o es ep} e d => by
      cases q : H b with
      | none => rfl
      | some u =>
        have e' : b = a := hA b (by rw [q]; simp)
        subst e'
        rw [ha] at e; cases e
        have d' : Data.seq vs.toArray _ = Data.dict es ep := d
        cases d'
    have nsK : ∀ {b : Addr} {m : Str → Option Value}, s₁.heap.Ns b m → (hidT s₁.heap H).Ns b m := fun {b m} ⟨o, es, ep, e, d, r⟩ => ⟨o, es, ep, base_of e (noA e d), d, r⟩
    have hKb : K.In (hidT s₁.heap H) := fun b o e => base_of (KX b o e) (by
      cases q : H b with
      | none => rfl
      | some u =>
        have e' : b = a := hA b (by rw [q]; simp)
        subst e'
        rw [hK (by rw [q]; simp)] at e; cases e)
    have hM : Mod K mg (hidT s₁.heap H) := ⟨hKb, nsK hns, ⟨mb, nsK hb, hbb⟩, let ⟨mc, h1, h2⟩ := hlim; ⟨mc, nsK h1, h2⟩⟩
    have e0 : Env0 P w K mg (hidT s₁.heap H) callerA [] s₁ H := ⟨rfl, hM, fun b o e => of_hidT e, Nat.le_of_eq (hidT_size _ _), trivial, fun b hb => absurd (show b ∈ ([] : List Addr) from hb) (by simp), hok, .of_eq hg⟩
    refine codeAny_mono ((F _ hKb (nsK hns)).run callerA [] s₁ H ⟨[.ref a], []⟩ [.ref a] [.ref a] _ _ hr e0 (hbind s₁ (.ref a)) (.cons rfl .nil) (hsp H hO hS)) fun r s' h => ?_
    cases r with
    | error e => exact (hCX H e s' h).elim
    | ok fl =>
      cases fl with
      | next => exact False.elim h
      | brk => exact False.elim h
      | cont => exact False.elim h
      | ret u =>
        obtain ⟨v, H', os, bare, un, hok', r', q⟩ := h
        have q' : v = .bl true := q
        subst q'
        obtain rfl : u = Value.bool true := r'
        refine ⟨rfl, OldK.of_keep fun b o e => ?_, os, bare⟩
        cases q : H b with
        | none => exact un.keep b o e q (by intro z; exact absurd (show b ∈ ([] : List Addr) from z) (by simp)) (by simp)
        | some u =>
          rcases hO b with z | ⟨ob, xs, z⟩
          · rw [q] at z; cases z
          · have z2 := un.frzs b ob _ z
            obtain ⟨e1, _⟩ := hok b _ z
            obtain ⟨e2, _⟩ := hok' b _ z2
            rw [e] at e1; cases e1
            exact e2
  cases hk : K.lookup a with
  | some o =>
    -- the script is one of the module's own objects
    have e := KX a o hk
    rw [ha] at e
    cases e
    refine core (fun _ => none) (fun _ => .inl rfl) (.inr ⟨_, vs.toArray, _, hk, rfl, rfl, rfl, by rw [List.size_toArray, lenV]; exact hl, by simpa using rv⟩) (fun b u z => by have z' : (none : Option HO) = some u := z; cases z') (fun b z => absurd rfl z) fun z => absurd rfl z
  | none =>
    refine core (fun b => if b = a then some (.frz { cls := .type "list", data := .seq vs.toArray } (.lst (ns.map V.int))) else none) (fun b => ?_) (.inl (.inr ⟨{ cls := .type "list", data := .seq vs.toArray }, if_pos rfl⟩)) (fun b u z => ?_) (fun b z => ?_) fun _ => hk
    · by_cases hb : b = a
      · exact .inr ⟨_, _, if_pos hb⟩
      · exact .inl (if_neg hb)
    · by_cases hb : b = a
      · have z' := (if_pos hb).symm.trans z
        cases z'
        subst hb
        exact ⟨ha, by rw [List.length_map]; exact hl, vs, _, rv, ha⟩
      · have z' := (if_neg hb).symm.trans z
        cases z'
    · by_cases hb : b = a
      · exact hb
      · exact absurd (if_neg hb) z
end L2

namespace L2
open PySem PySem.Spec PyProof.Rows

abbrev KOf {K : PySem.W.Frag} {h : Heap} (_ : K.In h) : PySem.W.Frag := K

end L2

/- THE LAST THEOREM (shape; LID, My.* are yours):
   My.Adr: a structure of the addresses that your layer names (classes, functions); My.Txt K t: a structure (Prop) of the equations over K;
   My.txt_mk : {K} {implicit addresses ..} (e1 : nsIn K mainGlobals "law" = some (some (.ref f))) (e2 : K.lookup f = some ⟨oc, od, .func (fnOf "law" "law" params body scope dV kV doc pm an cdv ct), sl⟩) (e3 : codeIn K cdv "law" = true) .. : ∃ t, My.Txt K t

set_option maxRecDepth 100000 in
set_option maxHeartbeats 0 in
theorem PySem.Challenge.cw_LID_holds : PySem.Challenge.rw_LID.Holds := by
  w_on; o_law; k_head; (case hw => w_witness2)
  k_fill
  refine L2.walk_of (l := PySem.Challenge.rw_LID) (n := 63) (k := 40) (x := "script") (CX := fun w => ..) (sp := fun _ => My.sp_law) rfl (by decide) rfl ⟨rfl, by decide, by decide⟩ (fun w h Y => PySem.W.kIn_of Y) ?F ?S ?C
  case F =>
    intro w mg fa h KX G hmg
    have T : ∃ t, My.Txt (L2.KOf KX) t := by
      dsimp only [L2.KOf]                          -- K must stand as «<heap const> w.params» for k_is
      refine' My.txt_mk ?e1 ?e2 ?e3 ..
      (case e1 => PySem.W.k_is)                    -- in the order: a name -> its address -> its object -> its parts
      (case e2 => PySem.W.k_is)
      ..
    obtain ⟨t, T⟩ := T
    have e0 := hmg.symm.trans (PySem.W.mg_of KX G T.law)
    cases e0                                       -- fa is the law's own address
    exact ⟨_, fun s u => .of_eq rfl, fun base kb nb => My.law_fn T kb nb⟩     -- if «.of_eq rfl» comes too early: refine' ⟨_, ?b, fun base kb nb => My.law_fn T kb nb⟩; exact fun s u => .of_eq rfl
  case S => exact fun w H a ns hl hO hS => ..
  case C => exact ..
(the tactic k_is has no namespace: write k_is) -/

/-! SHORT WORDS over the layer: a def of the text, its body, what a loop and a test want. -/
namespace L2
open PySem PySem.Spec PyProof.Rows

/-! ### the text by places -/
/-- the j-th statement of a class's body -/
def inClass (s : Stmt) (j : Nat) : Stmt := match s with
  | .ClassDef _ _ _ body _ _ _ _ _ _ _ => body.getD j (.Pass ⟨0, 0, 0, 0⟩)
  | _ => .Pass ⟨0, 0, 0, 0⟩
def defArgs (s : Stmt) : Arguments := match s with
  | .FunctionDef _ a _ _ _ _ _ _ _ _ => a
  | _ => { posonlyargs := [], args := [], vararg := none, kwonlyargs := [], kw_defaults := [], kwarg := none, defaults := [] }
def defBody (s : Stmt) : List Stmt := match s with
  | .FunctionDef _ _ b _ _ _ _ _ _ _ => b
  | _ => []
def defScope (s : Stmt) : Scope := match s with
  | .FunctionDef _ _ _ _ _ _ sc _ _ _ => sc
  | _ => { kind := .function, names := [], isGenerator := false, isCoroutine := false }

/-! ### no exception leaves a def -/
abbrev CX0 : CXT := fun _ _ _ _ _ _ => False
abbrev E0 : XK := fun _ _ _ => False
theorem pass0 {X : Cx} : Passes CX0 X E0 := fun _ _ _ _ _ _ _ h => h.elim

/-! ### a def (or method) of the text as it stands behind the top -/
structure Fun (K : PySem.W.Frag) (x qual : Str) (st : Stmt) (f : Addr) (fd : FuncData) : Prop where
  ex : ∃ (oc : Value) (od : Option Addr) (kV doc pm : Value) (an : Option Addr) (cdv ct : Value) (osl : Array (Option Value)),
    fd = PySem.W.fnOf x qual (defArgs st) (defBody st) (defScope st) .none kV doc pm an cdv ct ∧ K.lookup f = some ⟨oc, od, .func fd, osl⟩ ∧ PySem.W.codeIn K cdv qual = true
  kp : PySem.W.keepIn K (.ref f) = true
section
variable {P : Program} {w : World} {K : PySem.W.Frag} {mg : Str → Option Value} {base : Heap}
/-- THE RULE for a def: its body as a term of rules, and the reading of that term -/
theorem Fun.ok {x qual : Str} {st : Stmt} {f : Addr} {fd : FuncData} {N ps : List Str} {k : Nat} {sp : Sp} (F : Fun K x qual st f fd) (S : FnScope N ps (defScope st)) (len : ∀ vs H Q E, sp vs H Q E → vs.length = ps.length)
    (hbody : ∀ (cdv : Value) (A : Around) (outer : List Env) (s : Shared) (H : Hp) (vs : List V) (Q : VK) (E : XK), Room k (A.deeper (envOfC qual (defScope st) s.heap.objs.size f cdv)) → sp vs H Q E →
      ∃ t, PSs (cxOf CX0 P w K mg base N qual (defScope st) f cdv A outer s H E).nox (defBody st) t ∧ t { nx := fun _ H' => Q .non H', rt := Q } (start N vs) H) : FnOk P w K mg base CX0 (k + 1) f fd ps sp := by
  obtain ⟨oc, od, kV, doc, pm, an, cdv, ct, osl, rfl, lk, hcd⟩ := F.ex
  refine fn_of lk hcd S len fun A outer s H vs Q E hr hsp => ?_
  obtain ⟨t, h, q⟩ := hbody cdv A outer s H vs Q E hr hsp
  exact ⟨t, h.nox, q⟩
/-- how its arguments bind (no defaults): h is «fun _ _ _ _ _ _ us hl => match us, hl with | [_, _], _ => rfl», one _ a parameter -/
theorem Fun.binds {x qual : Str} {st : Stmt} {f : Addr} {fd : FuncData} {ps : List Str} (F : Fun K x qual st f fd)
    (h : ∀ (kV doc pm : Value) (an : Option Addr) (cdv ct : Value) (us : List Value), us.length = ps.length → bindArgs (PySem.W.fnOf x qual (defArgs st) (defBody st) (defScope st) .none kV doc pm an cdv ct) ⟨us, []⟩ = pure (ps.zip us)) : Binds K fd ps [] := by
  obtain ⟨oc, od, kV, doc, pm, an, cdv, ct, osl, rfl, lk, hcd⟩ := F.ex
  exact .all (h kV doc pm an cdv ct)
theorem fun_mk {x qual : Str} {st : Stmt} {f : Addr} {oc : Value} {od an : Option Addr} {osl : Array (Option Value)} {kV doc pm cdv ct : Value} (l : K.lookup f = some ⟨oc, od, .func (PySem.W.fnOf x qual (defArgs st) (defBody st) (defScope st) .none kV doc pm an cdv ct), osl⟩)
    (c : PySem.W.codeIn K cdv qual = true) (k : PySem.W.keepIn K (.ref f) = true) : Fun K x qual st f (PySem.W.fnOf x qual (defArgs st) (defBody st) (defScope st) .none kV doc pm an cdv ct) := ⟨⟨oc, od, kV, doc, pm, an, cdv, ct, osl, rfl, l, c⟩, k⟩
end
theorem small1000 {n : Nat} (h : n ≤ 1000) : n < sizeLine := Nat.lt_of_le_of_lt h (by decide)

/-! ### expressions in short: the name that stands in the i-th slot -/
section
variable {X : Cx}
theorem pv (i : Nat) {x : Str} {pos : Pos} (hN : X.N[i]? = some x := by rfl) (hv : Vis X.env.scope x := by first | exact Or.inl rfl | exact Or.inr (Or.inl rfl) | exact Or.inr (Or.inr rfl)) (hd : (x == ("__debug__" : Str)) = false := by decide)
    (hcd : (x == ("__classdict__" : Str)) = false := by decide) : PE X (.Name x pos) (tVar i) := pe_var hN hv hd hcd
end

/-! ### tests -/
theorem iteF {A B : Prop} (h : B) : if false = true then A else B := by
  rw [if_neg Bool.false_ne_true]
  exact h
theorem iteT {A B : Prop} (h : A) : if true = true then A else B := by
  rw [if_pos rfl]
  exact h
theorem ite2 {c A B : Prop} [Decidable c] (h1 : c → A) (h2 : ¬ c → B) : if c then A else B := by
  by_cases h : c
  · rw [if_pos h]
    exact h1 h
  · rw [if_neg h]
    exact h2 h
theorem iteNS {c A B : Prop} [Decidable c] (hc : c) (h : B) : if (!decide c) = true then A else B := by
  rw [decide_eq_true hc]
  exact iteF h

/-! ### heaps -/
/-- all that was tracked is as it was -/
def Same (H H' : Hp) : Prop := ∀ b o, H b = some o → H' b = some o
theorem Same.refl (H : Hp) : Same H H := fun _ _ h => h
theorem Same.trans {H H1 H2 : Hp} (a : Same H H1) (b : Same H1 H2) : Same H H2 := fun c o h => b c o (a c o h)
theorem Same.free {H H' : Hp} (e : Same H H') {l : Addr} (h : H' l = Option.none) : H l = Option.none := by
  cases q : H l with
  | none => rfl
  | some o =>
    rw [e l o q] at h
    cases h
theorem Same.seq {K : PySem.W.Frag} {H H' : Hp} {a : Addr} {xs : List V} (e : Same H H') (h : SqL K H a xs) : SqL K H' a xs := by
  rcases h with (h | ⟨o, h⟩) | h
  · exact .inl (.inl (e _ _ h))
  · exact .inl (.inr ⟨o, e _ _ h⟩)
  · exact .inr h

end L2

set_option maxHeartbeats 4000000
namespace L2
abbrev Pr := Int × Int
def inR (n : Int) (p : Pr) : Bool := decide (p.1 ≤ n) && decide (n ≤ p.2)
def inP (ps : List Pr) (n : Int) : Bool := ps.any (inR n)
/-- pairs that hold a number each, ascending and apart -/
structure Apart (R : List Pr) : Prop where
  le : ∀ p ∈ R, p.1 ≤ p.2
  gap : R.Pairwise fun p q => p.2 + 2 ≤ q.1
/-- what the loop of tidy keeps: R told so far of the pairs qs -/
structure TidI (R qs : List Pr) : Prop where
  ap : Apart R
  mem : ∀ n, inP R n = inP qs n
  cov : ∀ p ∈ qs, p.1 ≤ p.2 → ∃ r ∈ R, r.1 ≤ p.1 ∧ p.2 ≤ r.2
  low : ∀ r ∈ R, ∃ q ∈ qs, r.1 = q.1
end L2

namespace L2
open PySem PySem.Spec PyProof.Rows
/-! ### a def of the text that may be called, bundled -/
def Callee (P : Program) (w : World) (K : PySem.W.Frag) (mg : Str → Option Value) (base : Heap) (k : Nat) (x : Str) (ps : List Str) (sp : Sp) : Prop :=
  ∃ f fd, FnOk P w K mg base CX0 k f fd ps sp ∧ Binds K fd ps [] ∧ PySem.W.keepIn K (.ref f) = true ∧ mg x = some (.ref f)
theorem Callee.mono {P : Program} {w : World} {K : PySem.W.Frag} {mg : Str → Option Value} {base : Heap} {j k : Nat} {x : Str} {ps : List Str} {sp : Sp} (C : Callee P w K mg base j x ps sp) (h : j ≤ k) : Callee P w K mg base k x ps sp :=
  let ⟨f, fd, F, r⟩ := C
  ⟨f, fd, F.mono h, r⟩
section
variable {X : Cx} {k : Nat} {x : Str} {ps : List Str} {sp : Sp} {e : Expr} {es : List Expr} {t : TA} {p pos : Pos}
/-- f(..) of a bundled def -/
def tFn (sp : Sp) (t : TA) : TE := fun σ H Q => t σ H fun vs H1 => sp vs H1 Q E0
theorem pe_fn (C : Callee X.prog X.w X.K X.mg X.base k x ps sp) (hr : Room k X.A) (hg : Gl X x) (ha : PA X (e :: es) t) (hdb : (x == ("__debug__" : Str)) = false := by decide)
    (he : starEach (e :: es) X.env = (false, eval e X.env) :: starEach es X.env := by rfl) (hpl : (backTo pos (starEach es X.env)).any (·.1) = false := by rfl) : PE X (.Call (.Name x p) (e :: es) [] pos) (tFn sp t) := by
  obtain ⟨f, fd, F, b, kk, m⟩ := C
  have h := pe_call (E := E0) (dvs := []) (ds := []) (p := p) F hr hg m kk b .nil pass0 ha hdb he hpl
  intro pins s σ H Q I q
  refine h pins s σ H Q I ?_
  have q' : t σ H fun vs H1 => sp vs H1 Q E0 := q
  have e1 : (fun (vs : List V) (H1 : Hp) => sp (vs ++ []) H1 Q E0) = fun vs H1 => sp vs H1 Q E0 := by
    funext vs H1
    rw [List.append_nil]
  show t σ H fun vs H1 => sp (vs ++ []) H1 Q E0
  rw [e1]
  exact q'
end
/-! ### a block with a word between its first statement and the rest -/
def tCut (t u : TS) : TS := fun D σ H => ∃ M : St → Hp → Prop, t { D with nx := M } σ H ∧ ∀ σ' H', M σ' H' → u D σ' H'
theorem pss_cut {X : Cx} {st : Stmt} {rest : List Stmt} {t u : TS} (h1 : PS X st t) (h2 : PSs X rest u) : PSs X (st :: rest) (tCut t u) := by
  intro pins s σ H D I ⟨M, a, b⟩
  refine wpAny_execs_cons (thn (h1 pins s σ H { D with nx := M } I a) fun fl s1 q => ?_)
  cases fl with
  | next => obtain ⟨σ', H', I', q⟩ := q; exact h2 pins s1 σ' H' D I' (b σ' H' q)
  | ret v => exact q
  | brk => exact q
  | cont => exact q
/-! ### isinstance(x, T), T a built-in type -/
section
variable {X : Cx}
end
/-! ### == and != of lists -/
/-- what == says of two items of lists: plain values; one object; two tuples of plain values -/
inductive EqI (K : PySem.W.Frag) (H : Hp) : V → V → Bool → Prop where
  | flat {x y : V} (fx : flatV x = true) (fy : flatV y = true) : EqI K H x y (eqV x y)
  | same (a : Addr) : EqI K H (.ref a) (.ref a) true
  | tup {a b : Addr} {xs ys : List V} (ha : SqT K H a xs) (hb : SqT K H b ys) (fx : xs.all flatV = true) (fy : ys.all flatV = true) : EqI K H (.ref a) (.ref b) (decide (xs.length = ys.length) && (List.zipWith eqV xs ys).all id)
theorem eqV_refl : ∀ {x : V}, flatV x = true → eqV x x = true
  | .non, _ => rfl
  | .bl b, _ => by simp [eqV]
  | .int i, _ => by simp [eqV]
  | .str z, _ => by simp [eqV]
theorem eqAll_refl : ∀ {xs : List V}, xs.all flatV = true → (List.zipWith eqV xs xs).all id = true
  | [], _ => rfl
  | x :: xs, h => by
    rw [List.all_cons, Bool.and_eq_true] at h
    rw [List.zipWith_cons_cons, List.all_cons, eqAll_refl h.2, Bool.and_true]
    exact eqV_refl h.1
theorem all_range_zip {f : Nat → Bool} : ∀ {xs ys : List V}, (∀ j x y, xs[j]? = some x → ys[j]? = some y → f j = eqV x y) → (List.range (min xs.length ys.length)).all f = (List.zipWith eqV xs ys).all id
  | [], ys, _ => by simp
  | x :: xs, [], _ => by simp
  | x :: xs, y :: ys, h => by
    have ih := all_range_zip (f := fun j => f (j + 1)) (xs := xs) (ys := ys) fun j a b e1 e2 => h (j + 1) a b (by simpa using e1) (by simpa using e2)
    have e0 := h 0 x y rfl rfl
    have em : min (x :: xs).length (y :: ys).length = min xs.length ys.length + 1 := by simp only [List.length_cons]; omega
    rw [em, List.range_succ_eq_map, List.all_cons, List.zipWith_cons_cons, List.all_cons, List.all_map, e0]
    show (eqV x y && (List.range (min xs.length ys.length)).all (fun j => f (j + 1))) = _
    rw [ih]
    rfl
section
variable {X : Cx} {pins : List (Addr × Obj)} {σ : St} {H : Hp} {s : Shared}
theorem EqI.at {A : Around} {x y : V} {u v : Value} {b : Bool} (e : EqI X.K H x y b) (I : Inv X pins σ H s) (hu : A.units + 1 < cLine) (rx : RelV x u) (ry : RelV y v) : SeqAt.EqAt A s u v b := by
  cases e with
  | flat fx fy => exact eqAt_V rx ry fx fy
  | same a =>
    cases (show u = Value.ref a from rx)
    cases (show v = Value.ref a from ry)
    exact SeqAt.EqAt.same _
  | @tup a b xs ys ha hb fx fy =>
    cases (show u = Value.ref a from rx)
    cases (show v = Value.ref b from ry)
    by_cases z : a = b
    · subst z
      have e := I.tuple_inj ha hb
      subst e
      rw [eqAll_refl fx, decide_eq_true rfl]
      exact SeqAt.EqAt.same _
    · obtain ⟨its, r, p, _⟩ := I.tuple ha
      obtain ⟨its', r', p', _⟩ := I.tuple hb
      have l1 := r.length
      have l2 := r'.length
      have h0 := SeqAt.RcAt.tuples (A := A) (e := fun j => match its[j]?, xs[j]?, ys[j]? with | _, some x, some y => eqV x y | _, _, _ => false) (show s.heap.IsTuple a its.toArray from p) (show s.heap.IsTuple b its'.toArray from p') (by omega) (fun j h1 h2 => by
        have j1 : j < its.length := by simpa using h1
        have j2 : j < its'.length := by simpa using h2
        have x1 : xs[j]? = some xs[j] := List.getElem?_eq_getElem (by omega)
        have y1 : ys[j]? = some ys[j] := List.getElem?_eq_getElem (by omega)
        obtain ⟨u1, q1, r1⟩ := r.get x1
        obtain ⟨u2, q2, r2⟩ := r'.get y1
        have eu : its.toArray[j] = u1 := by
          have := List.getElem?_eq_getElem j1
          rw [this] at q1; simpa using Option.some.inj q1
        have ev : its'.toArray[j] = u2 := by
          have := List.getElem?_eq_getElem j2
          rw [this] at q2; simpa using Option.some.inj q2
        rw [eu, ev]
        rw [x1, y1]
        have f1 : flatV xs[j] = true := List.all_eq_true.mp fx _ (List.getElem_mem _)
        have f2 : flatV ys[j] = true := List.all_eq_true.mp fy _ (List.getElem_mem _)
        exact eqAt_V r1 r2 f1 f2)
      have h1 := SeqAt.EqAt.of_refs z h0
      have e1 : ((List.range (min its.toArray.size its'.toArray.size)).all fun j => match its[j]?, xs[j]?, ys[j]? with | _, some x, some y => eqV x y | _, _, _ => false) = (List.zipWith eqV xs ys).all id := by
        have es : min its.toArray.size its'.toArray.size = min xs.length ys.length := by simp only [List.size_toArray]; omega
        rw [es]
        exact all_range_zip fun j x y q1 q2 => by rw [q1, q2]
      rw [e1] at h1
      have e2 : (its.toArray.size == its'.toArray.size) = decide (xs.length = ys.length) := by
        simp only [List.size_toArray, ← l1, ← l2]
        exact Bool.beq_eq_decide_eq _ _
      rw [e2, Bool.and_comm] at h1
      exact h1
end
/-- == (neg: !=) of two lists -/
def rEqL (K : PySem.W.Frag) (neg : Bool) : R2 := fun x y H Q => ∃ a b xs ys, x = .ref a ∧ y = .ref b ∧ SqL K H a xs ∧ SqL K H b ys ∧
  ((xs.length ≠ ys.length ∧ Q (.bl neg) H) ∨ (xs.length = ys.length ∧ ∃ f : Nat → Bool, (∀ j x y, xs[j]? = some x → ys[j]? = some y → EqI K H x y (f j)) ∧ Q (.bl (if neg then !(List.range xs.length).all f else (List.range xs.length).all f)) H))
section
variable {X : Cx}
theorem eqs_at {pins : List (Addr × Obj)} {σ : St} {H : Hp} {s : Shared} {A : Around} {xs ys : List V} {its its' : List Value} {f : Nat → Bool} (I : Inv X pins σ H s) (hu : A.units + 1 < cLine) (r : Vals xs its) (r' : Vals ys its')
    (hf : ∀ j x y, xs[j]? = some x → ys[j]? = some y → EqI X.K H x y (f j)) : ∀ j (h1 : j < its.toArray.size) (h2 : j < its'.toArray.size), SeqAt.EqAt A s its.toArray[j] its'.toArray[j] (f j) := fun j h1 h2 => by
  have j1 : j < its.length := by simpa using h1
  have j2 : j < its'.length := by simpa using h2
  have l1 := r.length
  have l2 := r'.length
  have x1 : xs[j]? = some xs[j] := List.getElem?_eq_getElem (by omega)
  have y1 : ys[j]? = some ys[j] := List.getElem?_eq_getElem (by omega)
  obtain ⟨u1, q1, r1⟩ := r.get x1
  obtain ⟨u2, q2, r2⟩ := r'.get y1
  have eu : its.toArray[j] = u1 := by
    have := List.getElem?_eq_getElem j1
    rw [this] at q1; simpa using Option.some.inj q1
  have ev : its'.toArray[j] = u2 := by
    have := List.getElem?_eq_getElem j2
    rw [this] at q2; simpa using Option.some.inj q2
  rw [eu, ev]
  exact (hf j _ _ x1 y1).at I hu r1 r2
theorem op_eqL {k : Nat} (hr : Room k X.A) : OpR X (compareOp .Eq) (rEqL X.K false) := by
  intro pins s σ H x y v u Q I rx ry h
  obtain ⟨a, b, xs, ys, rfl, rfl, ha, hb, h⟩ := h
  cases (show v = Value.ref a from rx)
  cases (show u = Value.ref b from ry)
  obtain ⟨its, r, p, _⟩ := I.list ha
  obtain ⟨its', r', p', _⟩ := I.list hb
  have l1 := r.length
  have l2 := r'.length
  have hu := hr.units
  rcases h with ⟨hn, q⟩ | ⟨hl, f, hf, q⟩
  · refine SeqAt.eq_list_lengthsAt p.isList p'.isList (by simp only [List.size_toArray, bne_iff_ne, ne_eq]; omega) (by omega) ⟨.bl false, H, I, rfl, q⟩
  · refine SeqAt.eq_listAt (e := f) p.isList p'.isList (by simp only [List.size_toArray]; omega) (by omega) (eqs_at I (by show X.A.units + 1 + 1 < cLine; omega) r r' hf) ⟨.bl _, H, I, rfl, ?_⟩
    rw [show its.toArray.size = xs.length by simp only [List.size_toArray]; omega]
    exact q
theorem op_neL {k : Nat} (hr : Room k X.A) : OpR X (compareOp .NotEq) (rEqL X.K true) := by
  intro pins s σ H x y v u Q I rx ry h
  obtain ⟨a, b, xs, ys, rfl, rfl, ha, hb, h⟩ := h
  cases (show v = Value.ref a from rx)
  cases (show u = Value.ref b from ry)
  obtain ⟨its, r, p, _⟩ := I.list ha
  obtain ⟨its', r', p', _⟩ := I.list hb
  have l1 := r.length
  have l2 := r'.length
  have hu := hr.units
  rcases h with ⟨hn, q⟩ | ⟨hl, f, hf, q⟩
  · refine SeqAt.RcNeAt.lists_lengths p.isList p'.isList (by simp only [List.size_toArray, bne_iff_ne, ne_eq]; omega) (by omega) X.prog X.w X.xe _ ⟨.bl true, H, I, rfl, q⟩
  · refine SeqAt.RcNeAt.lists (e := f) p.isList p'.isList (by simp only [List.size_toArray]; omega) (by omega) (eqs_at I (by show X.A.units + 1 + 1 < cLine; omega) r r' hf) X.prog X.w X.xe _ ⟨.bl _, H, I, rfl, ?_⟩
    rw [show its.toArray.size = xs.length by simp only [List.size_toArray]; omega]
    exact q
/-- two lists with the same items -/
theorem rNeL_same {K : PySem.W.Frag} {H : Hp} {Q : VK} {a b : Addr} {xs : List V} (ha : SqL K H a xs) (hb : SqL K H b xs) (fl : ∀ x ∈ xs, flatV x = true ∨ ∃ r, x = .ref r) (q : Q (.bl false) H) : rEqL K true (.ref a) (.ref b) H Q := by
  refine ⟨a, b, xs, xs, rfl, rfl, ha, hb, .inr ⟨rfl, fun _ => true, fun j x y e1 e2 => ?_, ?_⟩⟩
  · rw [e1] at e2; cases e2
    rcases fl x (List.mem_of_getElem? e1) with z | ⟨r, rfl⟩
    · have := EqI.flat (K := K) (H := H) z z
      rw [eqV_refl z] at this
      exact this
    · exact .same r
  · have : (List.range xs.length).all (fun _ => true) = true := by simp
    rw [this]
    exact q
end
/-! ### what stays -/
/-- every tuple stays -/
def SameT (H H' : Hp) : Prop := ∀ b xs, H b = some (.tup xs) → H' b = some (.tup xs)
theorem same_new {H : Hp} {p : Addr} (h : H p = none) (o : HO) : Same H (upd H p o) := fun b u q => by rw [upd_ne (ne_of_none q h)]; exact q
/-- an address that was free is changed -/
theorem Same.upd {H H' : Hp} {p : Addr} {o : HO} (s : Same H H') (h : H p = none) : Same H (upd H' p o) := fun b u q => by rw [upd_ne (ne_of_none q h)]; exact s b u q
/-! ### lists of pairs -/
def PL (H : Hp) : List V → List (Int × Int) → Prop := Paired fun x p => ∃ r, x = .ref r ∧ H r = some (.tup [.int p.1, .int p.2])
/-! ### lists of triples of ints -/
abbrev Tr := Int × Int × Int
def TL (H : Hp) : List V → List Tr → Prop := Paired fun x t => ∃ r, x = .ref r ∧ H r = some (.tup [.int t.1, .int t.2.1, .int t.2.2])
theorem dec_t {p : Prop} [Decidable p] (h : decide p = true) : p := of_decide_eq_true h
theorem dec_f {p : Prop} [Decidable p] (h : ¬ decide p = true) : ¬ p := fun e => h (decide_eq_true e)
end L2

namespace L2
open PySem PySem.Spec PyProof.Rows
/-! ### rules that name the written part by itself (within a block) -/
/-! ### a list comprehension with one clause whose target is a plain name -/
/-- the block's context: nothing raises in it; the frames that run are the def's own and its callers' -/
def cmpCx (X : Cx) (N : List Str) (scope : Scope) (cl : List (Str × Addr)) (fp : List Addr) (C : Addr) (s2 : Shared) (H2 : Hp) : Cx :=
  { prog := X.prog, w := X.w, K := X.K, mg := X.mg, base := X.base, A := X.A, N := N, s₀ := s2, H₀ := H2, env := compEnvC scope cl C X.env, outer := X.stack, stack := X.stack, ex := fp, fn := fun _ => false, calm := X.calm, pn := [], xe := fun _ _ => False }
/-- the tests of a clause -/
def PIf (X : Cx) (ifs : List Expr) (t : TT) : Prop :=
  ∀ (pins : List (Addr × Obj)) (s : Shared) (σ : St) (H : Hp) (Q : Bool → Hp → Prop), Inv X pins σ H s → t σ H Q →
    wpAny (model X.prog X.w) X.A (forIn ifs true fun c r => if r = true then do let ok ← isTrue c X.env (eval c X.env); pure (ForInStep.yield ok) else pure (ForInStep.yield r)) (TP X pins σ Q) X.xe s
def tYes : TT := fun _ H Q => Q true H
theorem pif_nil {X : Cx} : PIf X [] tYes := fun _ _ _ H _ I h => wpAny_tests_nil ⟨H, I, h⟩
/-- what is asked of the block's names: N its slots (the target first, then the def's own names that it sees), fr where these stand among the def's slots -/
structure CmpOk (X : Cx) (N : List Str) (fr : List Nat) (scope : Scope) (cl : List (Str × Addr)) (x : Str) : Prop where
  clos : closureFor scope X.env = pure cl
  kind : scope.kind = .function
  nocell : ∀ y ∈ scope.names, y.2 ≠ .cell
  names : ∀ y ∈ scope.names, y.2 = .local → scope.names.lookup y.1 = some .local
  hx : scope.names.lookup x = some .local
  nd : N.Nodup
  n0 : N[0]? = some x
  len : N.length = fr.length + 1
  sub : ∀ (i : Nat) (y : Str), N[i + 1]? = some y → ∃ j, fr[i]? = some j ∧ X.N[j]? = some y ∧ (X.env.kindOf y = some .cell ∨ X.env.kindOf y = some .free) ∧ ((relabel scope X.env).names.lookup y = some .cell ∨ (relabel scope X.env).names.lookup y = some .free)
  cells : ∀ y c, cl.lookup y = some c → X.env.cells.lookup y = some c
  has : ∀ y, ((relabel scope X.env).names.lookup y = some .cell ∨ (relabel scope X.env).names.lookup y = some .free) → ∃ c, cl.lookup y = some c
/-- a block that sees no name of the def -/
theorem cmpOk_plain {X : Cx} {scope : Scope} {x : Str} (kind : scope.kind = .function) (nofree : ∀ y ∈ scope.names, y.2 ≠ .free) (nocell : ∀ y ∈ scope.names, y.2 ≠ .cell)
    (names : ∀ y ∈ scope.names, y.2 = .local → scope.names.lookup y.1 = some .local) (hx : scope.names.lookup x = some .local) : CmpOk X [x] [] scope [] x := by
  have er : (relabel scope X.env).names = scope.names := map_eq_self fun y hy => by
    have z : (y.2 == NameKind.free) = false := by simpa using nofree y hy
    simp [z]
  have no : ∀ y, ¬ ((relabel scope X.env).names.lookup y = some .cell ∨ (relabel scope X.env).names.lookup y = some .free) := fun y h => by
    rw [er] at h
    rcases h with h | h
    · exact nocell _ (PySem.mem_of_lookup h) rfl
    · exact nofree _ (PySem.mem_of_lookup h) rfl
  exact ⟨closureFor_none nofree, kind, nocell, names, hx, by simp, rfl, rfl, fun i y e => by simp at e, (fun y c e => by cases e), fun y h => absurd h (no y)⟩
/-- a block that sees names of the def: those are cells there -/
theorem cmpOk_free {X : Cx} {N : List Str} {fr : List Nat} {scope : Scope} {cl : List (Str × Addr)} {x : Str} (clos : closureFor scope X.env = pure cl) (kind : scope.kind = .function) (nocell : ∀ y ∈ scope.names, y.2 ≠ .cell)
    (names : ∀ y ∈ scope.names, y.2 = .local → scope.names.lookup y.1 = some .local) (hx : scope.names.lookup x = some .local) (nd : N.Nodup) (n0 : N[0]? = some x) (len : N.length = fr.length + 1)
    (sub : ((List.range fr.length).all fun i => match N[i + 1]?, fr[i]? with | some y, some j => (X.N[j]? == some y) && ((X.env.kindOf y == some .cell) && ((relabel scope X.env).names.lookup y == some .cell)) | _, _ => false) = true)
    (cells : ∀ p ∈ cl, X.env.cells.lookup p.1 = some p.2) (has : ((relabel scope X.env).names.all fun p => (p.2 != .cell && p.2 != .free) || (cl.lookup p.1).isSome) = true) : CmpOk X N fr scope cl x := by
  refine ⟨clos, kind, nocell, names, hx, nd, n0, len, fun i y e => ?_, fun y c e => cells _ (PySem.mem_of_lookup e), fun y h => ?_⟩
  · have hi : i < fr.length := by have := (List.getElem?_eq_some_iff.mp e).1; omega
    have z := List.all_eq_true.mp sub i (List.mem_range.mpr hi)
    rw [e, List.getElem?_eq_getElem hi] at z
    simp only [Bool.and_eq_true, beq_iff_eq] at z
    exact ⟨_, List.getElem?_eq_getElem hi, z.1, .inl z.2.1, .inl z.2.2⟩
  · have look : ∀ k, (relabel scope X.env).names.lookup y = some k → (k = .cell ∨ k = .free) → ∃ c, cl.lookup y = some c := fun k e hk => by
      have z := List.all_eq_true.mp has _ (PySem.mem_of_lookup e)
      rcases hk with rfl | rfl
      · exact Option.isSome_iff_exists.mp (by simpa using z)
      · exact Option.isSome_iff_exists.mp (by simpa using z)
    rcases h with h | h
    · exact look _ h (.inl rfl)
    · exact look _ h (.inr rfl)
def cmpSt (σ : St) (fr : List Nat) (x : Option V) : St := x :: fr.map fun j => (σ[j]?).join
/-- the comprehension's reading: D the new list, W the invariant by the turn and a measure -/
def CompAt (J : It) (fr : List Nat) (tt : TT) (te : TE) (σ : St) (Q : VK) (H1 : Hp) : Prop := ∀ D, H1 D = none → ∃ W : Nat → Nat → Hp → Prop, (∃ m, W 0 m (upd H1 D (.lst []))) ∧ ∀ i m H, W i m H →
  (J.stop i H ∧ Q (.ref D) H) ∨ (J.go i H ∧ ∀ x H', J.yld i H x H' → tt (cmpSt σ fr (some x)) H' fun b H2 => if b = true then te (cmpSt σ fr (some x)) H2 fun y H3 => ∃ ys, H3 D = some (.lst ys) ∧ ys.length < sizeLine ∧ ∃ m', m' < m ∧ W (i + 1) m' (upd H3 D (.lst (ys ++ [y])))
    else ∃ m', m' < m ∧ W (i + 1) m' H2)
def tComp (wi : TI) (fr : List Nat) (tt : TT) (te : TE) : TE := fun σ H Q => wi σ H fun J H1 => CompAt J fr tt te σ Q H1
section
variable {prog : Program} {w : World} {A : Around} {R : Result → Shared → Prop} {s : Shared}
theorem comp_turns {elt target iter : Expr} {ifs : List Expr} {scope : Scope} {pos : Pos} {it acc : Value} {env : Env} (J : Nat → Shared → Prop)
    (turn : ∀ n s, J n s → wpAny (model prog w) A (pyNext it) (fun r s1 => match r with
      | none => R (.ok .next) s1
      | some v => wpAny (model prog w) A (letOwnedTupleGo target it v) (fun _ s2 => wpAny (model prog w) A (assign target env v) (fun _ s3 =>
          wpAny (model prog w) A (forIn ifs true fun c r => if r = true then do let ok ← isTrue c env (eval c env); pure (ForInStep.yield ok) else pure (ForInStep.yield r)) (fun ok s4 =>
            if ok = true then wpAny (model prog w) A (eval elt env) (fun y s5 => wpAny (model prog w) A (call (.builtin "list.append") [acc, y]) (fun _ s6 => ∃ m, m < n ∧ J m s6) (fun _ _ => False) s5) (fun _ _ => False) s4
            else ∃ m, m < n ∧ J m s4) (fun _ _ => False) s3) (fun _ _ => False) s2) (fun _ _ => False) s1) (fun _ _ => False) s)
    (n : Nat) (h : J n s) : codeAny (model prog w) A (.compLoop (.ListComp elt [⟨target, iter, ifs, 0⟩] scope pos) 0 it acc env) R s := by
  refine codeAny_loop rfl J (fun n s hJ => ?_) n h
  show wpAny _ A ((compTurn (.ListComp elt [⟨target, iter, ifs, 0⟩] scope pos) 0 it acc env).onRaise (fun x => do noteFrame x env; theTreesLotGoes x)) _ _ s
  refine wpAny_noted ?_
  rw [compTurn_list]
  refine wpAny_bind (wpAny_standAt (wpAny_bind (wpAny_mono (turn n s hJ) (fun r s1 h1 => ?_) fun _ _ z => z.elim)))
  cases r with
  | none => exact wpAny_pure h1
  | some v =>
    refine wpAny_bind (wpAny_mono h1 (fun _ s2 h2 => ?_) fun _ _ z => z.elim)
    refine wpAny_bind (wpAny_mono h2 (fun _ s3 h3 => wpAny_bind (wpAny_mono h3 (fun ok s4 h4 => ?_) fun _ _ z => z.elim)) fun _ _ z => z.elim)
    cases ok with
    | false => exact wpAny_pure ⟨rfl, h4⟩
    | true => exact wpAny_bind (wpAny_bind (wpAny_mono h4 (fun y s5 h5 => wpAny_bind (wpAny_mono h5 (fun _ s6 h6 => wpAny_pure (wpAny_pure ⟨rfl, h6⟩)) fun _ _ z => z.elim)) fun _ _ z => z.elim))
end
section
variable {X : Cx} {elt iter : Expr} {ifs : List Expr} {x : Str} {px pos : Pos} {scope : Scope} {cl : List (Str × Addr)} {N : List Str} {fr : List Nat} {tt : TT} {te : TE}
theorem comp_core {pins : List (Addr × Obj)} {σ : St} {s2 : Shared} {H2 : Hp} {it : Addr} {fp : List Addr} {tn : Nat → Heap → Prop} {J : It} {Q : VK} {E : Value → Shared → Prop} {RR : Value → Addr → Result → Shared → Prop}
    (O : CmpOk X N fr scope cl x) (hc : X.calm = true) (I2 : Inv X pins σ H2 s2) (T : Turn X.prog X.w X.K (.Name x px) J fp it tn) (st2 : tn 0 s2.heap) (f2 : ∀ b ∈ fp, FpOk X pins H2 b)
    (ht : ∀ fp C s H, PIf (cmpCx X N scope cl fp C s H) ifs tt) (he : ∀ fp C s H, PE (cmpCx X N scope cl fp C s H) elt te)
    (hW : CompAt J fr tt te σ Q H2)
    (fin : ∀ D C s' H', s2.heap.objs.size ≤ C → H' C = none → (∃ m, s'.heap.Ns C m) → Inv X pins σ H' s' → Q (.ref D) H' → RR (.ref D) C (.ok .next) s') :
    wpAny (model X.prog X.w) X.A (newList []) (fun acc s3 => wpAny (model X.prog X.w) X.A (newFunctionEnv scope X.env.globals cl [] X.env.qual none .none (some X.env)) (fun cenv s4 =>
      codeAny (model X.prog X.w) X.A (.compStart (.ListComp elt [⟨.Name x px, iter, ifs, 0⟩] scope pos) 0 (.ref it) acc { cenv with scope := relabel scope X.env }) (RR acc cenv.locals) s4) E s3) E s2 := by
  refine wpAny_newObj_type (wpAny_newFunctionEnv O.nocell (by intro y hy; simp at hy) (fun h1 hns hsb => ?_) O.kind)
  dsimp only at hns hsb ⊢
  generalize hG : s2.heap.push { cls := .type "list", dict := none, data := .seq ([] : List Value).toArray } = G at hns hsb ⊢
  have hC : G.objs.size = s2.heap.objs.size + 1 := by rw [← hG, Heap.size_push]
  have old : ∀ b o, s2.heap.get? b = some o → h1.get? b = some o := fun b o e => hsb.extBut b o (Nat.ne_of_lt (by rw [hC]; exact Nat.lt_succ_of_lt (Heap.lt_size e))) (Heap.get?_push_of_some _ (hG ▸ Heap.get?_push_of_some _ e))
  have hacc : h1.get? s2.heap.objs.size = some { cls := .type "list", data := .seq ([] : List Value).toArray 0 } := hsb.extBut _ _ (Nat.ne_of_lt (by rw [hC]; exact Nat.lt_succ_self _)) (Heap.get?_push_of_some _ (hG ▸ Heap.get?_push_size _ rfl))
  have hD : H2 s2.heap.objs.size = none := I2.fresh
  have okX : (cmpCx X N scope cl fp G.objs.size s2 H2).Ok := by
    refine ⟨I2.ok.mod, O.kind, I2.ok.glob, I2.ok.blt, by show s2.heap.objs.size ≤ G.objs.size; rw [hC]; exact Nat.le_succ _, fun y z c e1 e2 => I2.ok.inj y z c (O.cells y c e1) (O.cells z c e2), fun y hy => O.has y hy, fun y c z => absurd (show false = true from z) Bool.false_ne_true, I2.ok.hd, I2.ok.frames, .inl rfl,
      fun b hb => ⟨?_, fun y c e => (f2 b hb).2.2.2.2.1 y c (O.cells y c e)⟩, I2.bs, Nat.le_trans I2.ok.bsz I2.sz, fun b o e hb => ?_, fun b hb z => ?_, I2.stack, I2.stkFree⟩
    · obtain ⟨o, e, _⟩ := T.obj _ _ st2 b hb
      show b ≠ G.objs.size
      exact Nat.ne_of_lt (by rw [hC]; exact Nat.lt_succ_of_lt (Heap.lt_size e))
    · rcases (f2 b hb).2.2.2.1 with z | z
      · exact I2.ok.noex b o e z
      · exact absurd (Nat.lt_of_lt_of_le (Heap.lt_size e) (Nat.le_trans I2.ok.bsz z)) (Nat.lt_irrefl _)
    · rcases List.mem_cons.mp (I2.stkSub b z) with z | z
      · exact (f2 b hb).2.1 z
      · exact (f2 b hb).2.2.1 z
  have statX : ∀ {H' : Hp}, (∀ b ∈ fp, H' b = none) → ∀ b ∈ fp, FpOk (cmpCx X N scope cl fp G.objs.size s2 H2) [] H' b := fun hn b hb =>
    ⟨hn b hb, (okX.exf b hb).1, okX.exfs b hb, .inl hb, (okX.exf b hb).2, fun p hp => absurd (show p ∈ ([] : List (Addr × Obj)) from hp) (by simp)⟩
  have I' : Inv (cmpCx X N scope cl fp G.objs.size s2 H2) [] (cmpSt σ fr none) (upd H2 s2.heap.objs.size (.lst [])) { s2 with heap := h1, toks := s2.toks + ([] : List (Str × Value)).length } := by
    refine ⟨okX, rfl, I2.bare, Un.laid old (Nat.le_refl _) hD, ⟨_, hns, fun i y v e1 e2 e3 => ?_⟩, fun y c e => ?_, ?_, fun y c e => ?_, fun p hp => absurd (show p ∈ ([] : List (Addr × Obj)) from hp) (by simp), I2.hok.laid old (Nat.le_refl _) ⟨Nat.zero_le _, [], 0, .nil, hacc⟩, ?_⟩
    · cases i with
      | zero => cases e2
      | succ i =>
        obtain ⟨j, q1, q2, q3, q4⟩ := O.sub i y e1
        have e2' : (σ[j]?).join = some v := by
          have : (fr.map fun j => (σ[j]?).join)[i]? = some (some v) := e2
          rw [List.getElem?_map, q1] at this
          exact Option.some.inj this
        have e4 : σ[j]? = some (some v) := by
          cases z : σ[j]? with
          | none => rw [z] at e2'; cases e2'
          | some t => rw [z] at e2'; exact congrArg some e2'
        obtain ⟨m, _, hl⟩ := I2.loc
        have vis : Vis X.env.scope y := .inr q3
        obtain ⟨u, r, l⟩ := hl j y v q2 e4 vis
        refine ⟨u, r, .inr ⟨q4, ?_⟩⟩
        obtain ⟨c', hc'⟩ := O.has y q4
        rcases l with ⟨k, _⟩ | ⟨_, c, ec, ic⟩
        · rcases q3 with z | z
          · rw [z] at k; cases k
          · rw [z] at k; cases k
        · have := O.cells y c' hc'
          have e' : c = c' := Option.some.inj (ec.symm.trans this)
          obtain ⟨o, ho, hd⟩ := ic
          rw [e'] at ho
          exact ⟨c', hc', o, old c' o ho, hd⟩
    · obtain ⟨v, o, ho, hd⟩ := I2.cell y c (O.cells y c e)
      exact ⟨v, o, old c o ho, hd⟩
    · show upd H2 s2.heap.objs.size (.lst []) G.objs.size = none
      rw [upd_ne (Nat.ne_of_gt (by rw [hC]; exact Nat.lt_succ_self _))]
      exact I2.hok.fresh (by rw [hC]; exact Nat.le_succ _)
    · obtain ⟨v, o, ho, hd⟩ := I2.cell y c (O.cells y c e)
      rw [upd_ne (Nat.ne_of_lt (Heap.lt_size ho))]
      exact I2.freeC y c (O.cells y c e)
    · show (cmpSt σ fr none).length = N.length
      rw [O.len]; simp [cmpSt]
  have st1 : tn 0 h1 := T.keep _ _ _ st2 fun b hb o e => old b o e
  have loop : ∀ s3 : Shared, s3 = { s2 with heap := h1, toks := s2.toks + ([] : List (Str × Value)).length } →
      codeAny (model X.prog X.w) X.A (.compLoop (.ListComp elt [⟨.Name x px, iter, ifs, 0⟩] scope pos) 0 (.ref it) (.ref s2.heap.objs.size) (compEnvC scope cl G.objs.size X.env)) (RR (.ref s2.heap.objs.size) G.objs.size) s3 := by
    rintro s3 rfl
    obtain ⟨W, ⟨m0, w0⟩, turn⟩ := hW _ hD
    refine comp_turns (fun n s' => ∃ i t H', Inv (cmpCx X N scope cl fp G.objs.size s2 H2) [] (cmpSt σ fr t) H' s' ∧ tn i s'.heap ∧ (∀ b ∈ fp, H' b = none) ∧ W i n H') ?_ m0
      ⟨0, none, _, I', st1, fun b hb => by
        rw [upd_ne (by obtain ⟨o, e, _⟩ := T.obj _ _ st2 b hb; exact Nat.ne_of_lt (Heap.lt_size e))]
        exact (f2 b hb).1, w0⟩
    rintro n s' ⟨i, t, H', I3, st3, fr3, w3⟩
    rcases turn i n H' w3 with ⟨stop, qn⟩ | ⟨go, step⟩
    · refine thn (T.done (cmpCx X N scope cl fp G.objs.size s2 H2) rfl rfl rfl hc i [] s' _ H' _ I3 (statX fr3) st3 stop) fun r s4 ⟨hr, I4⟩ => ?_
      subst hr
      obtain ⟨m, hm, _⟩ := I4.loc
      refine fin _ _ s4 H' (by rw [hC]; exact Nat.le_succ _) I4.free ⟨m, hm⟩ (I2.call' (ch := fp) I4.os I4.base I4.hok I4.bare fun b hb => ?_) qn
      exact ⟨(f2 b hb).2.2.2.1, (f2 b hb).2.1, (f2 b hb).2.2.2.2.1, (f2 b hb).2.2.2.2.2⟩
    · refine thn (T.item (cmpCx X N scope cl fp G.objs.size s2 H2) rfl rfl rfl hc i [] s' _ H' _ I3 (statX fr3) st3 go) fun r s4 ⟨u, hr, h4⟩ => ?_
      subst hr
      refine thn h4 fun _ s5 ⟨y, H5, I5, r5, y5, st5, fr5⟩ => ?_
      have I5' := I5.pinned (statX fr5) (T.obj _ _ st5)
      have lx : (cmpCx X N scope cl fp G.objs.size s2 H2).env.scope.names.lookup x = some .local := lookup_relabel_local O.hx
      refine thn (pg_name (X := cmpCx X N scope cl fp G.objs.size s2 H2) (i := 0) O.nd O.n0 (.inl lx) (.inr lx) _ s5 _ H5 y u (fun σ' H' => σ' = cmpSt σ fr (some y) ∧ H' = H5) I5' r5 ⟨rfl, rfl⟩) fun _ s6 ⟨σ6, H6, I6, e6, e6'⟩ => ?_
      subst e6; subst e6'
      have again : ∀ {σ7 : St} {H7 : Hp} {s7 : Shared} {m' : Nat}, σ7 = cmpSt σ fr (some y) → Inv (cmpCx X N scope cl fp G.objs.size s2 H2) ([] ++ pinsAt fp s5.heap) σ7 H7 s7 → m' < n → W (i + 1) m' H7 →
          ∃ m, m < n ∧ ∃ i t H', Inv (cmpCx X N scope cl fp G.objs.size s2 H2) [] (cmpSt σ fr t) H' s7 ∧ tn i s7.heap ∧ (∀ b ∈ fp, H' b = none) ∧ W i m H' := fun {σ7 H7 s7 m'} e7 I7 hm w7 => by
        subst e7
        refine ⟨m', hm, i + 1, some y, H7, I7.unpinned, T.keep _ _ _ st5 fun b hb o e => (I7.pin (b, o) (List.mem_append_right _ (List.mem_append_right _ (mem_pinsAt hb e)))).1, fun b hb => ?_, w7⟩
        obtain ⟨o, e, d⟩ := T.obj _ _ st5 b hb
        exact (I7.pin (b, o) (List.mem_append_right _ (List.mem_append_right _ (mem_pinsAt hb e)))).2.1
      refine thn (ht fp G.objs.size s2 H2 _ s6 _ H6 _ I6 (step y H6 y5)) fun ok s7 ⟨H7, I7, q7⟩ => ?_
      cases ok with
      | false =>
        rw [if_neg Bool.false_ne_true] at q7 ⊢
        obtain ⟨m', hm, w7⟩ := q7
        exact again rfl I7 hm w7
      | true =>
        rw [if_pos rfl] at q7 ⊢
        refine thn (he fp G.objs.size s2 H2 _ s7 _ H7 _ I7 q7) fun u8 s8 ⟨v8, H8, I8, r8, ys, hys, hlen, m', hm, w8⟩ => ?_
        refine thn (mt_append (X := cmpCx X N scope cl fp G.objs.size s2 H2) _ s8 _ H8 (.ref s2.heap.objs.size) [v8] _ [u8] (fun _ H9 => W (i + 1) m' H9) I8 rfl (.cons r8 .nil) ⟨_, ys, v8, rfl, rfl, hys, hlen, w8⟩) fun _ s9 ⟨_, H9, I9, _, w9⟩ => ?_
        exact again rfl I9 hm w9
  exact codeAny_compStart_list (loop _ rfl) (T.self _ 0 _ _ _ st1 (loop _ rfl))
/-- the frame of a block is let go -/
theorem Inv.left {pins : List (Addr × Obj)} {σ σ2 : St} {s2 s' : Shared} {H2 H' : Hp} {C : Addr} {h' : Heap} (I2 : Inv X pins σ2 H2 s2) (I' : Inv X pins σ H' s') (hC : s2.heap.objs.size ≤ C) (hn : H' C = none) (hs : Heap.SameBut C s'.heap h') : Inv X pins σ H' { s' with heap := h' } := by
  refine I'.turned (t' := s'.toks) (it := C) (fun b o hb e => (hs.2 b hb).trans e) hn (Nat.ne_of_gt (Nat.lt_of_lt_of_le I2.lt hC)) (.inr (Nat.le_trans I2.sz hC)) (fun y c e => ?_) fun p hp => ?_
  · obtain ⟨v, o, ho, _⟩ := I2.cell y c e
    exact Nat.ne_of_lt (Nat.lt_of_lt_of_le (Heap.lt_size ho) hC)
  · exact Nat.ne_of_lt (Nat.lt_of_lt_of_le (Heap.lt_size (I2.pin p hp).1) hC)
/-- [elt for x in iter if ..] -/
theorem pe_comp {wi : TI} (hi : PI X (.Name x px) iter wi) (O : CmpOk X N fr scope cl x) (hc : X.calm = true) (ht : ∀ fp C s H, PIf (cmpCx X N scope cl fp C s H) ifs tt) (he : ∀ fp C s H, PE (cmpCx X N scope cl fp C s H) elt te)
    (hs : ∀ v, foldedSetIterable iter X.env v = pure v := by intro _; rfl) : PE X (.ListComp elt [⟨.Name x px, iter, ifs, 0⟩] scope pos) (tComp wi fr tt te) := by
  intro pins s σ H Q I h
  rw [eval_ListComp]
  refine wpAny_comprehension_free (use := none) rfl hs O.clos O.kind O.names (thn (hi pins s σ H _ I h) fun v s1 h1 => thn h1 fun itv s2 h2 => ?_)
  obtain ⟨it, fp, tn, J, H2, e, I2, T, st2, f2, hW⟩ := h2
  subst e
  refine comp_core (RR := fun acc C => compPost (model X.prog X.w) X.A X.xe none (EP X pins σ Q) acc C) O hc I2 T st2 f2 ht he hW fun D C s' H' hC hn ⟨m, hm⟩ I' q => ?_
  exact ⟨m, hm, fun h' hs' => ⟨.ref D, H', I2.left I' hC hn hs', rfl, q⟩⟩
/-- y = [elt for x in iter if ..], both on one row: stored ahead of the block's end -/
theorem ps_comp {wi : TI} {i : Nat} {y : Str} {py spos : Pos} (hN : X.N.Nodup) (hy : X.N[i]? = some y) (hl : Loc X.env.scope y) (hi : PI X (.Name x px) iter wi) (O : CmpOk X N fr scope cl x) (hc : X.calm = true)
    (ht : ∀ fp C s H, PIf (cmpCx X N scope cl fp C s H) ifs tt) (he : ∀ fp C s H, PE (cmpCx X N scope cl fp C s H) elt te) (hs : ∀ v, foldedSetIterable iter X.env v = pure v := by intro _; rfl)
    (hsw : swapsWith (.ListComp elt [⟨.Name x px, iter, ifs, 0⟩] scope pos) (some (.Name y py)) spos.line X.env = pure true := by rfl) (hf : X.fn y = true ∨ X.env.scope.names.lookup y = some .local := by first | exact .inl rfl | exact .inr rfl | assumption) :
    PS X (.Assign [.Name y py] (.ListComp elt [⟨.Name x px, iter, ifs, 0⟩] scope pos) spos) (tAsg (tComp wi fr tt te) (gName i)) := by
  intro pins s σ H D0 I h
  rw [exec_Assign_Name_used _ _ _ _ hsw]
  refine wpAny_bind (wpAny_standAt (wpAny_bind ?_))
  show wpAny _ X.A (do let _ ← comprehension (.ListComp elt [⟨.Name x px, iter, ifs, 0⟩] scope pos) scope X.env _ (newList []) false (eval iter X.env) (some (assign (.Name y py) X.env))) _ _ s
  refine wpAny_bind (wpAny_mono (wpAny_comprehension_free (use := some (assign (.Name y py) X.env)) (Q := fun _ s' => SP X pins D0 .next s') rfl hs O.clos O.kind O.names (thn (hi pins s σ H _ I h) fun v s1 h1 => thn h1 fun itv s2 h2 => ?_)) (fun _ s' hq => wpAny_pure (wpAny_pure hq)) fun _ _ z => z)
  obtain ⟨it, fp, tn, J, H2, e, I2, T, st2, f2, hW⟩ := h2
  subst e
  refine comp_core (Q := fun v H1 => gName i v σ H1 D0.nx) (RR := fun acc C => compPost (model X.prog X.w) X.A X.xe (some (assign (.Name y py) X.env)) (fun _ s' => SP X pins D0 .next s') acc C) O hc I2 T st2 f2 ht he hW fun D C s' H' hC hn ⟨m, hm⟩ I' q => ?_
  show wpAny _ X.A (assign (.Name y py) X.env (.ref D)) _ _ s'
  refine wpAny_assign_Name (store_ok2 I' hN hy hl (v := .ref D) rfl (fun s3 I3 ⟨a, hsa, ha⟩ => ?_) hf)
  have hCa : C ≠ a := by
    rcases ha with z | z
    · rw [z]; exact Nat.ne_of_gt (Nat.lt_of_lt_of_le I2.lt hC)
    · obtain ⟨v, o, ho, _⟩ := I2.cell y a z
      exact Nat.ne_of_gt (Nat.lt_of_lt_of_le (Heap.lt_size ho) hC)
  exact ⟨m, hm.sameBut hsa hCa, fun h' hs' => ⟨_, H', I2.left I3 hC hn hs', q⟩⟩
/-- what is wanted behind a turn that tells nothing; behind one that tells y -/
def CNext (Pv : Addr → Nat → List V → Hp → Prop) (D : Addr) (i n : Nat) (H2 : Hp) : Prop := ∃ m', m' < n - i ∧ m' = n - (i + 1) ∧ i + 1 ≤ n ∧ ∃ zs, Pv D (i + 1) zs H2
def CYes (Pv : Addr → Nat → List V → Hp → Prop) (D : Addr) (i n : Nat) : VK := fun y H3 => ∃ ys, H3 D = some (.lst ys) ∧ ys.length < sizeLine ∧ CNext Pv D i n (upd H3 D (.lst (ys ++ [y])))
theorem CNext.mk {Pv : Addr → Nat → List V → Hp → Prop} {D : Addr} {i n : Nat} {H2 : Hp} {zs : List V} (hi : i < n) (h : Pv D (i + 1) zs H2) : CNext Pv D i n H2 := ⟨n - (i + 1), by omega, rfl, hi, zs, h⟩
theorem CYes.mk {Pv : Addr → Nat → List V → Hp → Prop} {D : Addr} {i n : Nat} {H3 : Hp} {ys : List V} {y : V} (hi : i < n) (e : H3 D = some (.lst ys)) (hl : ys.length < sizeLine) (h : Pv D (i + 1) (ys ++ [y]) (upd H3 D (.lst (ys ++ [y])))) : CYes Pv D i n y H3 := ⟨ys, e, hl, .mk hi h⟩
/-- over a list that the block leaves as it is -/
theorem comp_list {K : PySem.W.Frag} {a : Addr} {xs : List V} {σ : St} {H1 : Hp} {Q : VK} (Pv : Addr → Nat → List V → Hp → Prop) (h0 : ∀ D, H1 D = none → Pv D 0 [] (upd H1 D (.lst [])))
    (hk : ∀ D i ys H, H1 D = none → i ≤ xs.length → Pv D i ys H → SqL K H a xs)
    (hs : ∀ D i x ys H, H1 D = none → xs[i]? = some x → Pv D i ys H → tt (cmpSt σ fr (some x)) H fun b H2 => if b = true then te (cmpSt σ fr (some x)) H2 (CYes Pv D i xs.length) else CNext Pv D i xs.length H2)
    (hd : ∀ D ys H, H1 D = none → Pv D xs.length ys H → Q (.ref D) H) : CompAt (Itl K a) fr tt te σ Q H1 := by
  intro D hD
  refine ⟨fun i m H => m = xs.length - i ∧ i ≤ xs.length ∧ ∃ ys, Pv D i ys H, ⟨_, rfl, Nat.zero_le _, [], h0 D hD⟩, ?_⟩
  rintro i m H ⟨rfl, hi, ys, p⟩
  have q := hk D i ys H hD hi p
  by_cases hlt : i < xs.length
  · refine .inr ⟨⟨xs, xs[i], q, by simp [hlt]⟩, fun x H' y => ?_⟩
    obtain ⟨e, y⟩ := y
    subst e
    exact hs D i x ys _ hD (y xs q) p
  · have e : i = xs.length := by omega
    subst e
    exact .inl ⟨⟨xs, q, Nat.le_refl _⟩, hd D ys H hD p⟩
/-- over a range -/
theorem comp_range {lo : Int} {n : Nat} {σ : St} {H1 : Hp} {Q : VK} (Pv : Addr → Nat → List V → Hp → Prop) (h0 : ∀ D, H1 D = none → Pv D 0 [] (upd H1 D (.lst [])))
    (hs : ∀ D i ys H, H1 D = none → i < n → Pv D i ys H → tt (cmpSt σ fr (some (.int (lo + i)))) H fun b H2 => if b = true then te (cmpSt σ fr (some (.int (lo + i)))) H2 (CYes Pv D i n) else CNext Pv D i n H2)
    (hd : ∀ D ys H, H1 D = none → Pv D n ys H → Q (.ref D) H) : CompAt (Itr lo n) fr tt te σ Q H1 := by
  intro D hD
  refine ⟨fun i m H => m = n - i ∧ i ≤ n ∧ ∃ ys, Pv D i ys H, ⟨_, rfl, Nat.zero_le _, [], h0 D hD⟩, ?_⟩
  rintro i m H ⟨rfl, hi, ys, p⟩
  by_cases hlt : i < n
  · refine .inr ⟨hlt, fun x H' y => ?_⟩
    obtain ⟨e, y⟩ := y
    subst e; subst y
    exact hs D i ys _ hD hlt p
  · have e : i = n := by omega
    subst e
    exact .inl ⟨Nat.le_refl _, hd D ys H hD p⟩
end
end L2

namespace L2
open PySem PySem.Spec PyProof.Rows
/-! ### a list comprehension whose target is any (a tuple of names): k names of the target first, then the def's own that the block sees -/
structure CmpOkG (X : Cx) (N : List Str) (k : Nat) (fr : List Nat) (scope : Scope) (cl : List (Str × Addr)) : Prop where
  clos : closureFor scope X.env = pure cl
  kind : scope.kind = .function
  nocell : ∀ y ∈ scope.names, y.2 ≠ .cell
  names : ∀ y ∈ scope.names, y.2 = .local → scope.names.lookup y.1 = some .local
  len : N.length = k + fr.length
  sub : ∀ (i : Nat) (y : Str), N[k + i]? = some y → ∃ j, fr[i]? = some j ∧ X.N[j]? = some y ∧ (X.env.kindOf y = some .cell ∨ X.env.kindOf y = some .free) ∧ ((relabel scope X.env).names.lookup y = some .cell ∨ (relabel scope X.env).names.lookup y = some .free)
  cells : ∀ y c, cl.lookup y = some c → X.env.cells.lookup y = some c
  has : ∀ y, ((relabel scope X.env).names.lookup y = some .cell ∨ (relabel scope X.env).names.lookup y = some .free) → ∃ c, cl.lookup y = some c
def cmpStG (σ : St) (fr : List Nat) (ts : St) : St := ts ++ fr.map fun j => (σ[j]?).join
def CompAtG (J : It) (gt : TG) (k : Nat) (fr : List Nat) (tt : TT) (te : TE) (σ : St) (Q : VK) (H1 : Hp) : Prop := ∀ D, H1 D = none → ∃ W : Nat → Nat → Hp → Prop, (∃ m, W 0 m (upd H1 D (.lst []))) ∧ ∀ i m H, W i m H →
  (J.stop i H ∧ Q (.ref D) H) ∨ (J.go i H ∧ ∀ x H', J.yld i H x H' → ∀ ts : St, ts.length = k → gt x (cmpStG σ fr ts) H' fun σ2 H2 => (∃ ts2 : St, ts2.length = k ∧ σ2 = cmpStG σ fr ts2) ∧ tt σ2 H2 fun b H3 => if b = true then te σ2 H3 fun y H4 => ∃ ys, H4 D = some (.lst ys) ∧ ys.length < sizeLine ∧ ∃ m', m' < m ∧ W (i + 1) m' (upd H4 D (.lst (ys ++ [y])))
    else ∃ m', m' < m ∧ W (i + 1) m' H3)
def tCompG (wi : TI) (gt : TG) (k : Nat) (fr : List Nat) (tt : TT) (te : TE) : TE := fun σ H Q => wi σ H fun J H1 => CompAtG J gt k fr tt te σ Q H1
section
variable {X : Cx} {elt iter tg : Expr} {ifs : List Expr} {pos : Pos} {scope : Scope} {cl : List (Str × Addr)} {N : List Str} {k : Nat} {fr : List Nat} {gt : TG} {tt : TT} {te : TE}
end
end L2

namespace Srt
open PySem PySem.W PyProof.Rows
/-- the tree's end under an oracle; each question is about places below n -/
def Ok (n : Nat) (lt : Nat → Nat → Bool) {α : Type} : KasT α → (α → Prop) → Prop
  | .ret a, Q => Q a
  | .ask i j k, Q => i < n ∧ j < n ∧ Ok n lt (k (lt i j)) Q
section
variable {n : Nat} {lt : Nat → Nat → Bool}
abbrev g (p : Array Nat) (i : Nat) : Nat := p.getD i 0
/-- p holds places below n alone -/
def Bd (n : Nat) (p : Array Nat) : Prop := 0 < n ∧ ∀ i, g p i < n
/-- ascending up to k; not ascending up to k -/
def Up (lt : Nat → Nat → Bool) (p : Array Nat) (k : Nat) : Prop := ∀ i j, i ≤ j → j < k → lt (g p j) (g p i) = false
def Dn (lt : Nat → Nat → Bool) (p : Array Nat) (k : Nat) : Prop := ∀ i j, i ≤ j → j < k → lt (g p i) (g p j) = false
structure Ord (lt : Nat → Nat → Bool) : Prop where
  tr : ∀ a b c, lt b a = false → lt c b = false → lt c a = false
  as : ∀ a b, lt a b = true → lt b a = false
/-- equal keys between a and b -/
def Eqs (lt : Nat → Nat → Bool) (p : Array Nat) (a b : Nat) : Prop := ∀ i j, a ≤ i → i < b → a ≤ j → j < b → lt (g p i) (g p j) = false
end
end Srt

namespace L2
open PySem PySem.Spec PySem.W PyProof.Rows
/-! ### sorted(..) of a short list of pairs of ints -/
def ltP (p q : Int × Int) : Bool := decide (p.1 < q.1) || (decide (p.1 = q.1) && decide (p.2 < q.2))
section
variable {prog : Program} {w : World} {A : Around} {E : Value → Shared → Prop} {s : Shared}
end
section
variable {X : Cx}
end
end L2

namespace L2
/-! ### both, gaps, without: the mathematics -/
/-- what the loop of both keeps: S told so far, A and B the rests -/
structure BothI (S A B A0 B0 : List Pr) : Prop where
  ap : Apart S
  aA : Apart A
  aB : Apart B
  mem : ∀ n, (inP A0 n && inP B0 n) = (inP S n || (inP A n && inP B n))
  gap : ∀ s ∈ S, (∀ p ∈ A, s.2 + 2 ≤ p.1) ∨ (∀ p ∈ B, s.2 + 2 ≤ p.1)
/-- what the loop of gaps keeps: F told so far of the spans T -/
structure GapI (F T : List Pr) (lo hi st : Int) : Prop where
  ap : Apart F
  lt : ∀ s ∈ F, s.2 + 2 ≤ st
  rng : ∀ s ∈ F, lo ≤ s.1 ∧ s.2 ≤ hi
  tk : ∀ p ∈ T, p.2 < st
  fr : st = lo ∨ ∃ p ∈ T, st = p.2 + 1
  ge : lo ≤ st
  mem : ∀ n, lo ≤ n → n ≤ hi → n < st → inP F n = !inP T n
end L2

namespace L2
/-! ### runs of pieces: the mathematics -/
/-- the pieces of a walk: each begins behind the one ahead of it -/
structure Walk (ts : List (Int × Int × Int)) : Prop where
  le : ∀ t ∈ ts, t.1 ≤ t.2.1
  nx : ∀ (i : Nat) a b, ts[i]? = some a → ts[i + 1]? = some b → b.1 = a.2.1 + 1
def pcs (msk : Int → Bool) (ts : List (Int × Int × Int)) (n : Int) : Bool := ts.any fun t => inR n (t.1, t.2.1) && msk t.2.2
/-- what the loop over the pieces keeps: R told of the first i pieces, at where the next one begins -/
structure RunI (R : List Pr) (ts : List (Int × Int × Int)) (msk : Int → Bool) (i : Nat) (at_ : Int) : Prop where
  ap : Apart R
  mem : ∀ n, inP R n = pcs msk (ts.take i) n
  lt : ∀ r ∈ R, r.2 < at_
  few : 2 * R.length ≤ i ∨ (2 * R.length ≤ i + 1 ∧ ∃ R' l, R = R' ++ [l] ∧ l.2 = at_ - 1)
section
variable {R : List Pr} {ts : List (Int × Int × Int)} {msk : Int → Bool} {i : Nat} {at_ : Int} {t : Int × Int × Int}
end
end L2

namespace L2
/-! ### edges: the mathematics -/
/-- each low, and the number behind each high -/
def ends (R : List Pr) : List Int := R.flatMap fun p => [p.1, p.2 + 1]
end L2

namespace L2
open PySem PySem.Spec PyProof.Rows
/-! ### texts: a loop over the signs, join, globals -/
/-- the signs of z, one by one -/
def Its (z : Str) : It := ⟨fun i _ => i < z.cps.size, fun i H x H' => H' = H ∧ ∃ c, z.cps[i]? = some c ∧ x = .str ⟨#[c]⟩, fun i _ => z.cps.size ≤ i⟩
theorem turn_ascii {P : Program} {w : World} {K : PySem.W.Frag} {tg : Expr} (z : Str) (t : Tok) (it : Addr) : Turn P w K tg (Its z) [it] it (fun i h => h.IsStrIter it "str_ascii_iterator" z t i) where
  mem := by simp
  obj := fun i h st b hb => by
    obtain ⟨o, e, c, d⟩ := st
    rw [show b = it by simpa using hb]
    exact ⟨o, e, fun v q => by rw [d] at q; cases q⟩
  keep := fun i h h' ⟨o, e, r⟩ k => ⟨o, k it (by simp) o e, r⟩
  item := by
    intro X hP hw hK hc i pins s σ H E I hf st hg
    subst hP hw hK
    have hlt : i < z.cps.size := hg
    have hi : z.cps[i]? = some z.cps[i] := Array.getElem?_eq_getElem hlt
    obtain ⟨f0, f1, f2, f3, f4, f5⟩ := hf it (by simp)
    refine wpAny_pyNext_ascii_item st hi fun h' st' sb => ?_
    have I1 : Inv X pins σ H { s with heap := h', toks := s.toks + 1 } := I.turned (t' := s.toks + 1) (fun b o hb e => (sb.2 b hb).trans e) f0 f1 f3 f4 f5
    obtain ⟨o, e, c, d⟩ := id st'
    exact ⟨_, rfl, go_of (s := { s with heap := h', toks := s.toks + 1 }) e c d (by decide) ⟨.str ⟨#[z.cps[i]]⟩, H, I1, ⟨_, rfl⟩, ⟨rfl, _, hi, rfl⟩, st', fun b hb => (hf b hb).1⟩⟩
  done := by
    intro X hP hw hK hc i pins s σ H E I hf st hg
    subst hP hw hK
    obtain ⟨f0, f1, f2, f3, f4, f5⟩ := hf it (by simp)
    exact wpAny_pyNext_ascii_end (I.ok.hd hc) st (by simpa using (show z.cps.size ≤ i from hg)) fun h' eb => ⟨rfl, I.turned (t' := s.toks) (fun b o hb e => eb b o hb e) f0 f1 f3 f4 f5⟩
  self := fun _ _ _ _ _ st h => wpAny_pyIter_striter_ascii st h
theorem turn_wide {P : Program} {w : World} {K : PySem.W.Frag} {tg : Expr} (z : Str) (t : Tok) (it : Addr) : Turn P w K tg (Its z) [it] it (fun i h => h.IsStrIter it "str_iterator" z t i) where
  mem := by simp
  obj := fun i h st b hb => by
    obtain ⟨o, e, c, d⟩ := st
    rw [show b = it by simpa using hb]
    exact ⟨o, e, fun v q => by rw [d] at q; cases q⟩
  keep := fun i h h' ⟨o, e, r⟩ k => ⟨o, k it (by simp) o e, r⟩
  item := by
    intro X hP hw hK hc i pins s σ H E I hf st hg
    subst hP hw hK
    have hlt : i < z.cps.size := hg
    have hi : z.cps[i]? = some z.cps[i] := Array.getElem?_eq_getElem hlt
    obtain ⟨f0, f1, f2, f3, f4, f5⟩ := hf it (by simp)
    refine wpAny_pyNext_wide_item st hi fun h' st' sb => ?_
    have I1 : Inv X pins σ H { s with heap := h', toks := s.toks + 1 } := I.turned (t' := s.toks + 1) (fun b o hb e => (sb.2 b hb).trans e) f0 f1 f3 f4 f5
    obtain ⟨o, e, c, d⟩ := id st'
    exact ⟨_, rfl, go_of (s := { s with heap := h', toks := s.toks + 1 }) e c d (by decide) ⟨.str ⟨#[z.cps[i]]⟩, H, I1, ⟨_, rfl⟩, ⟨rfl, _, hi, rfl⟩, st', fun b hb => (hf b hb).1⟩⟩
  done := by
    intro X hP hw hK hc i pins s σ H E I hf st hg
    subst hP hw hK
    obtain ⟨f0, f1, f2, f3, f4, f5⟩ := hf it (by simp)
    exact wpAny_pyNext_wide_end (I.ok.hd hc) st (by simpa using (show z.cps.size ≤ i from hg)) fun h' eb => ⟨rfl, I.turned (t' := s.toks) (fun b o hb e => eb b o hb e) f0 f1 f3 f4 f5⟩
  self := fun _ _ _ _ _ st h => wpAny_pyIter_striter_wide st h
section
variable {X : Cx} {tg : Expr}
def iStr (tl : TE) : PySem.W.Frag → St → Hp → (It → Hp → Prop) → Prop := fun _ σ H R => tl σ H fun x H1 => ∃ z, x = .str z ∧ R (Its z) H1
theorem pi_str {l : Expr} {tl : TE} (hl : PE X l tl) : PI X tg l (iStr tl X.K) := by
  intro pins s σ H R I h
  refine thn (hl pins s σ H _ I h) fun v s1 ⟨x, H1, I1, r1, q1⟩ => ?_
  obtain ⟨z, e, q⟩ := q1
  subst e
  obtain ⟨t, rfl⟩ := r1
  have fpo : ∀ b ∈ [s1.heap.objs.size], FpOk X pins H1 b := fun b hb => by
    rw [show b = s1.heap.objs.size by simpa using hb]
    exact I1.fpOk (Nat.le_refl _) (I1.hok.fresh (Nat.le_refl _))
  cases ha : z.cps.all (· < 128) with
  | true => exact wpAny_pyIter_ascii ha ⟨s1.heap.objs.size, [s1.heap.objs.size], _, _, H1, rfl, I1.kept (t' := s1.toks) fun b o e => Heap.get?_push_of_some _ e, turn_ascii z t _, ⟨_, Heap.get?_push_size _ rfl, rfl, rfl⟩, fpo, q⟩
  | false => exact wpAny_pyIter_wide ha ⟨s1.heap.objs.size, [s1.heap.objs.size], _, _, H1, rfl, I1.kept (t' := s1.toks) fun b o e => Heap.get?_push_of_some _ e, turn_wide z t _, ⟨_, Heap.get?_push_size _ rfl, rfl, rfl⟩, fpo, q⟩
end
theorem for_str {z : Str} {g : TG} {tb : TS} {D : Ends} {σ : St} {H : Hp} (Pv : Nat → St → Hp → Prop) (h0 : Pv 0 σ H)
    (hs : ∀ i c σ H, z.cps.toList[i]? = some c → Pv i σ H → g (.str ⟨#[c]⟩) σ H fun σ2 H2 => tb { D with nx := Pv (i + 1), ct := Pv (i + 1), bk := D.nx } σ2 H2) (hd : ∀ σ H, Pv z.cps.size σ H → D.nx σ H) :
    ∃ W : Nat → Nat → St → Hp → Prop, (∃ m, W 0 m σ H) ∧ ∀ i m σ H, W i m σ H →
      ((Its z).stop i H ∧ D.nx σ H) ∨ ((Its z).go i H ∧ ∃ N : St → Hp → Prop, (∀ σ' H', N σ' H' → ∃ m', m' < m ∧ W (i + 1) m' σ' H') ∧ ∀ x H', (Its z).yld i H x H' → g x σ H' fun σ2 H2 => tb { D with nx := N, ct := N, bk := D.nx } σ2 H2) := by
  refine ⟨fun i m σ H => m = z.cps.size - i ∧ i ≤ z.cps.size ∧ Pv i σ H, ⟨_, rfl, Nat.zero_le _, h0⟩, ?_⟩
  rintro i m σ H ⟨rfl, hi, p⟩
  by_cases hlt : i < z.cps.size
  · refine .inr ⟨hlt, Pv (i + 1), fun σ' H' p' => ⟨z.cps.size - (i + 1), by omega, rfl, hlt, p'⟩, fun x H' y => ?_⟩
    obtain ⟨e, c, y1, y2⟩ := y
    subst e; subst y2
    exact hs i c σ _ (by simpa using y1) p
  · have e : i = z.cps.size := by omega
    subst e
    exact .inl ⟨Nat.le_refl _, hd σ H p⟩
theorem strs_are : ∀ {ys : List Str} {us : List Value}, Vals (ys.map V.str) us → StrsAre us ys
  | [], _, .nil => .nil
  | y :: ys, _, .cons r t => by
    obtain ⟨t0, rfl⟩ := r
    exact .cons y t0 (strs_are t)
section
variable {X : Cx}
/-- sep.join(xs), xs a list of texts -/
def rJoin (K : PySem.W.Frag) : V → List V → Hp → VK → Prop := fun x vs H Q => ∃ (z : Str) (a : Addr) (ys : List Str), x = .str z ∧ vs = [.ref a] ∧ SqL K H a (ys.map V.str) ∧ z.length ≤ 64 ∧ (ys.map (·.length)).sum + ys.length * 64 ≤ 16777216 ∧ Q (.str (Txt.join z ys)) H
theorem mt_join : MtM X "str.join" (rJoin X.K) := by
  intro pins s σ H x vs v us Q I rx rv h
  obtain ⟨z, a, ys, rfl, rfl, hq, h1, h2, q⟩ := h
  obtain ⟨t, rfl⟩ := rx
  obtain ⟨u, rfl, ru⟩ := rv.one
  cases (show u = Value.ref a from ru)
  obtain ⟨its, r, pl, hz⟩ := I.list hq
  exact join_listC pl.isList (by simpa using strs_are r) h1 h2 fun t' k => ⟨.str (Txt.join z ys), H, I.tok k, ⟨_, rfl⟩, q⟩
/-- a global whose value is known -/
theorem pe_gl {x : Str} {v : V} {pos : Pos} (hg : Gl X x) (h : ∃ u, X.mg x = some u ∧ RelV v u) (hd : (x == ("__debug__" : Str)) = false := by decide) : PE X (.Name x pos) (tC v) :=
  let ⟨_, m, r⟩ := h
  pe_glob hg m r hd
end
/-- a sign that stands in g -/
def sg (g : Str) (c : Nat) : Bool := !(Builtin.Str.occurrences g ⟨#[c]⟩ 0 g.length 1).isEmpty
def allIn (z g : Str) : Bool := z.cps.toList.all (sg g)
end L2

namespace L2
open PySem PySem.Spec PyProof.Rows PySem.NumText
/-! ### texts of numbers: slices, startswith, int(text), figures -/
section
variable {X : Cx}
theorem isPart_of {v : Value} {o : Option Int} (h : IsPart v o) : ∃ p : Option (Int × Tok), v = partValue p ∧ p.map (·.1) = o := by
  cases h with
  | none => exact ⟨none, rfl, rfl⟩
  | int i t => exact ⟨some (i, t), rfl, rfl⟩
/-- z[lo:hi] -/
def rSlS : V → Option Int → Option Int → Hp → VK → Prop := fun x lo hi H Q => ∃ z, x = .str z ∧ z.length ≤ sizeLine ∧ Q (.str (Txt.slice z lo hi)) H
theorem sl_str : SlR X rSlS := by
  intro pins s σ H x v vl vu lo hi sl Q I rx hs pl pu h
  obtain ⟨z, rfl, hz, q⟩ := h
  obtain ⟨t, rfl⟩ := rx
  obtain ⟨l, rfl, el⟩ := isPart_of pl
  obtain ⟨u, rfl, eu⟩ := isPart_of pu
  refine ⟨"str", _, slot_str_getitem.lookup, typeIs_str s z t, ?_⟩
  refine wpAny_getItem_str_slice (l := l) (u := u) (st := none) hs rfl ?_
  unfold sliceMade slicePicked
  rw [el, eu]
  unfold Txt.slice at q
  show Made.post (if ((1 : Int) == 1 && (Builtin.Str.strSliceIndices lo hi 1 z.length).length == z.length) = true then _ else _) _ _
  by_cases c : ((1 : Int) == 1 && (Builtin.Str.strSliceIndices lo hi 1 z.length).length == z.length) = true
  · rw [if_pos c] at q ⊢
    exact ⟨.str z, H, I, ⟨_, rfl⟩, q⟩
  · have hle := Txt.slice_le z lo hi
    unfold Txt.slice at hle
    rw [if_neg c] at q hle ⊢
    exact ⟨Nat.le_trans hle hz, .str _, H, I.tok _, ⟨_, rfl⟩, q⟩
/-- int(text) -/
theorem call_int_text : CallR X (.type "int") (fun xs H Q => ∃ z n, xs = [.str z] ∧ intText? z = some n ∧ z.length ≤ 640 ∧ Q (.int n) H) := by
  intro pins s σ H xs us Q I r h
  obtain ⟨z, n, rfl, hn, hz, q⟩ := h
  obtain ⟨u, rfl, t, rfl⟩ := vals1 r
  exact PySem.W.KIN.call_text hn hz ⟨.int n, H, I.tok _, ⟨_, rfl⟩, q⟩
def rStarts : V → List V → Hp → VK → Prop := fun x vs H Q => ∃ z y : Str, x = .str z ∧ vs = [.str y] ∧ Q (.bl (Txt.startswith z y)) H
theorem mt_startswith : MtM X "str.startswith" rStarts := by
  intro pins s σ H x vs v us Q I rx rv h
  obtain ⟨z, y, rfl, rfl, q⟩ := h
  obtain ⟨t, rfl⟩ := rx
  obtain ⟨u, rfl, ru⟩ := rv.one
  obtain ⟨t', rfl⟩ := ru
  exact PySem.SC.startswith ⟨.bl _, H, I, rfl, q⟩
end
/-! figures -/
theorem fold_dv : ∀ (cs : List Nat) (a : Nat), cs.foldl (fun acc c => acc * 10 + (c - 48)) a = a * 10 ^ cs.length + digitsVal cs
  | [], a => by simp [digitsVal]
  | c :: cs, a => by
    have e : digitsVal (c :: cs) = (0 * 10 + (c - 48)) * 10 ^ cs.length + digitsVal cs := by
      unfold digitsVal; rw [List.foldl_cons, fold_dv cs]; rfl
    rw [List.foldl_cons, fold_dv cs, e, List.length_cons, Nat.pow_succ]
    simp only [Nat.add_mul, Nat.mul_assoc, Nat.mul_comm 10, Nat.zero_mul, Nat.zero_add, Nat.add_assoc]
theorem dv_cons (c : Nat) (cs : List Nat) : digitsVal (c :: cs) = (c - 48) * 10 ^ cs.length + digitsVal cs := by
  have e : digitsVal (c :: cs) = (0 * 10 + (c - 48)) * 10 ^ cs.length + digitsVal cs := by
    unfold digitsVal; rw [List.foldl_cons, fold_dv cs]; rfl
  rw [e, Nat.zero_mul, Nat.zero_add]
/-- figures with no nought ahead -/
structure Figs (cs : List Nat) : Prop where
  all : AllDigits cs
  one : cs.length = 1 ∨ ∃ c r, cs = c :: r ∧ 49 ≤ c
theorem Figs.ne {cs : List Nat} (F : Figs cs) : cs ≠ [] := by
  rintro rfl
  rcases F.one with h | ⟨c, r, h, _⟩ <;> cases h
theorem chars_back {cs : List Nat} (h : AllDigits cs) : (cs.map Char.ofNat).map Char.toNat = cs := by
  rw [List.map_map]
  conv => rhs; rw [← List.map_id cs]
  apply List.map_congr_left
  intro c hc
  obtain ⟨h1, h2⟩ := h c hc
  have : c = 48 ∨ c = 49 ∨ c = 50 ∨ c = 51 ∨ c = 52 ∨ c = 53 ∨ c = 54 ∨ c = 55 ∨ c = 56 ∨ c = 57 := by omega
  rcases this with rfl | rfl | rfl | rfl | rfl | rfl | rfl | rfl | rfl | rfl <;> rfl
theorem Figs.digits {cs : List Nat} (F : Figs cs) : Nat.toDigits 10 (digitsVal cs) = cs.map Char.ofNat := by
  have hl : cs.length ≠ 0 := fun e => F.ne (List.length_eq_zero_iff.mp e)
  refine toDigits_digitsVal (cs.length - 1) cs (by omega) F.all ?_
  rcases F.one with e | e
  · exact .inl (by omega)
  · exact .inr e
/-- the signs of str(n) -/
def numCs (n : Int) (cs : List Nat) : List Nat := if n < 0 then 45 :: cs else cs
theorem text_of {n : Int} {cs : List Nat} (F : Figs cs) (h : digitsVal cs = n.natAbs) : Str.ofString (toString n) = ⟨(numCs n cs).toArray⟩ := by
  have hd := F.digits
  rw [h] at hd
  by_cases hn : n < 0
  · obtain ⟨m, rfl⟩ : ∃ m, n = Int.negSucc m := ⟨(-n - 1).toNat, by omega⟩
    have e : toString (Int.negSucc m) = "-" ++ String.ofList (Nat.toDigits 10 (m + 1)) := rfl
    rw [Str.ofString_eq_toList, e, String.toList_append]
    unfold numCs
    rw [if_pos hn]
    have e2 : (Int.negSucc m).natAbs = m + 1 := rfl
    rw [e2] at hd
    rw [hd, List.map_append, show (String.ofList (cs.map Char.ofNat)).toList = cs.map Char.ofNat from String.toList_ofList, chars_back F.all]
    rfl
  · obtain ⟨m, rfl⟩ : ∃ m : Nat, n = (m : Int) := ⟨n.toNat, by omega⟩
    have e2 : ((m : Int)).natAbs = m := rfl
    rw [e2] at hd
    have z := PySem.W.KIN.signs_num m
    rw [hd, chars_back F.all] at z
    unfold numCs
    rw [if_neg hn, ← z]
end L2

/-! ### the script's numbers are of a bounded size -/
namespace L2
open PySem PySem.Spec PyProof.Rows PySem.W
theorem weight_ints : ∀ {ns : List Int} {n : Int}, n ∈ ns → Builtin.Int.intBits n ≤ WData.weightAll (ns.map WData.int)
  | m :: ns, n, h => by
    rw [List.map_cons, WData.weightAll.eq_2]
    rcases List.mem_cons.mp h with rfl | h
    · have e : (WData.int n).weight = Builtin.Int.intBits n := by rw [WData.weight.eq_7]; rfl
      rw [e]; omega
    · have := weight_ints h; omega
theorem bits_of_lay {ns : List Int} (h : WData.layableAll [WData.list (ns.map WData.int)] = true) : ∀ n ∈ ns, Builtin.Int.intBits n ≤ 2 ^ 20 := by
  intro n hn
  unfold WData.layableAll WData.layable at h
  simp only [List.all_cons, Bool.and_eq_true, decide_eq_true_eq] at h
  have h1 := h.1.2
  rw [WData.weight.eq_2] at h1
  exact Nat.le_trans (weight_ints hn) h1
theorem op_mulO {X : Cx} : OpR X (binaryOp .Mult) (rI IntMulOk fun i j => .int (i * j)) := opI fun _ _ _ _ _ _ _ hc q => mul_int q hc
theorem walk_ofB {l : PySem.W.OpenLaw} {n k : Nat} {q : Program} {loose : List Str} {XP : (Str → Option Value) → Heap → Prop} {YP : World → Heap → Prop} {d : DefRec} {K : Params → PySem.W.Frag} {CX : World → CXT} {sp : World → Sp} {x : Str}
    (hn : l.most = some n) (hn2 : n ≤ sizeLine) (hdf : d.params.defaults = []) (hr : Room k callerA)
    (hY : ∀ (w : World) (h : Heap), YP w h → (K w.params).In h)
    (F : ∀ (w : World) (mg : Str → Option Value) (fa : Addr) (h : Heap), (K w.params).In h → h.Ns mainGlobals mg → mg d.name = some (.ref fa) →
      ∃ fd : FuncData, (∀ (s : Shared) (u : Value), BindsTo s fd ⟨[u], []⟩ [(x, u)]) ∧
        ∀ base : Heap, (K w.params).In base → base.Ns mainGlobals mg → FnOk l.prog w (K w.params) mg base (CX w) k fa fd [x] (sp w))
    (hsp : ∀ (w : World) (H : Hp) (a : Addr) (ns : List Int), ns.length ≤ n → (∀ m ∈ ns, Builtin.Int.intBits m ≤ 2 ^ 20) → Only H → SqL (K w.params) H a (ns.map V.int) → sp w [.ref a] H (fun v _ => v = .bl true) fun _ _ _ => False)
    (hCX : ∀ (w : World) (H : Hp) (s : Shared) (e : Value) (s' : Shared), CX w [] H s (fun _ _ _ => False) e s' → False) :
    PySem.W.WalkO q loose XP YP l.row.toRowW d [] (fun f vs => PySem.call f vs) := by
  intro w s₀ s₁ mg mb G Y fa o pm cd doc dV kV ho hd hcd hD hmg hg args vals as hpre hlay hrd hwl hlo
  obtain rfl : dV = .none := Dflts.none hD hdf
  obtain rfl : kV = .none := Dflts.noKw hD
  obtain ⟨a, vs, ns, rfl, rfl, hobj, hints, hlen⟩ := Att.script_of hn hpre hwl
  have KX := hY w _ Y
  obtain ⟨fd, hb, hF⟩ := F w mg fa _ KX G.T.g hmg
  refine enter_call (codeAny_mono (law_call KX G.T.g G.T.b G.T.builtins G.T.nolimit hg hobj hints (Nat.le_trans hlen hn2) hr hF hb (fun H hO hS => hsp w H a ns hlen (bits_of_lay hlay) hO hS) fun H e s' => hCX w H s₁ e s') fun r s' hq => ?_)
  obtain ⟨rfl, h2, h3, h4⟩ := hq
  exact ⟨.inl ⟨.bool true, .bool true, [], rfl, fun _ => rfl, .bool true, Att.post_true l _, fun _ => ⟨List.Pairwise.nil, fun _ hm => (nomatch hm)⟩⟩, h2, h3, h4⟩
end L2

namespace L2
open PySem PySem.Spec PyProof.Rows
/-! ### exceptions of own classes: raised, passed on, caught -/
/-- an exception: its own record and the head of its trace -/
def ExcT (h : Heap) (e T : Addr) (cls a0 : Value) : Prop :=
  ∃ oe vs oT ts, h.get? e = some oe ∧ (oe.cls = cls ∧ vs[0]? = some a0) ∧ oe.data = .fields vs ∧ vs[1]? = some (.ref T) ∧ T ≠ e ∧ h.get? T = some oT ∧ oT.data = .fields ts ∧ ts[3]? = some .none
/-- what a step of a trace changes: the records at X, the slots of the frames at F -/
structure Stp (F X : List Addr) (h h' : Heap) : Prop where
  keep : ∀ b o, b ∉ F → b ∉ X → h.get? b = some o → h'.get? b = some o
  slot : ∀ b o, b ∈ F → h.get? b = some o → ∃ sl, h'.get? b = some { o with slots := sl }
section
variable {M : Model} {A : Around} {E : Value → Shared → Prop} {s : Shared} {base : Heap} {env : Env} {outer : List Env} {L e T : Addr} {oe : Obj} {vs : Array Value} {a0 cls : Value} {Q : Unit → Shared → Prop}
theorem hid_frames {base h : Heap} {l : List Env} (xs : List Addr) (ff : h.FunFrames base l) : h.FunFrames (PySem.W.hideAll h (xs ++ frs l)) l :=
  PySem.W.funFrames_hide ff fun v hv a ha => List.mem_append_right _ (List.mem_filterMap.mpr ⟨v, hv, ha⟩)
theorem new_head {base h h' : Heap} {l : List Env} {xs : List Addr} (ff : h.FunFrames base l) (hT : (PySem.W.hideAll h (xs ++ frs l)).get? T = none) (sl : ∀ b o, b ∈ frs l → h.get? b = some o → ∃ sl, h'.get? b = some { o with slots := sl })
    {oT : Obj} {ts : Array Value} (h1 : h'.get? T = some oT) (h2 : oT.data = .fields ts) : h.get? T = none ∨ T ∈ xs := by
  cases q : h.get? T with
  | none => exact .inl rfl
  | some o =>
    by_cases hx : T ∈ xs
    · exact .inr hx
    · by_cases hF : T ∈ frs l
      · obtain ⟨_, o2, q2, nf⟩ := ff.mem hF
        obtain ⟨sl', q3⟩ := sl T o2 hF q2
        rw [h1] at q3
        have q4 := Option.some.inj q3
        exact absurd (by rw [q4] at h2; exact h2) (nf ts)
      · have z := PySem.W.hideAll_get (xs ++ frs l) q (by simp [hx, hF])
        rw [hT] at z; cases z
/-- the exception lands in a frame: its entry, then out of flight -/
theorem land {E2 : Value → Shared → Prop} (hf : A.frames = some (env :: outer)) (ff : s.heap.FunFrames base (env :: outer)) (hL : env.frame = some L) (x : ExcT s.heap e T cls a0)
    (h : ∀ h' T', Stp (frs (env :: outer)) [e, T] s.heap h' → ExcT h' e T' cls a0 → (s.heap.get? T' = none ∨ T' = T) → Q () { s with heap := h' }) : wpAny M A (noteFrame (.ref e) env) (fun _ s2 => wpAny M A (setFlight (.ref e) none) Q E s2) E2 s := by
  obtain ⟨oe, vs, oT, ts, x1, x2, x3, x4, x5, x6, x7, x8⟩ := x
  refine wpAny_noteFrame_onW (base := PySem.W.hideAll s.heap ([e, T] ++ frs (env :: outer))) hf (hid_frames _ ff) hL ⟨oe, vs, T, oT, ts, x1, x2, x3, x4, PySem.W.hideAll_none _ (by simp), x5, x6, x7, x8⟩ (fun b o q => PySem.W.of_hideAll _ q) (PySem.W.hideAll_none _ (by simp)) fun h1 lw => ?_
  obtain ⟨st1, ff1, tr1, up1⟩ := lw
  refine wpAny_setFlight_noneW (s := { s with heap := h1 }) st1 ff1 tr1 fun h' st ff2 tr up => ?_
  obtain ⟨oe', vs', T', oT', ts', t1, t2, t3, t4, t5, t6, t7, t8, t9⟩ := tr
  have hslot : ∀ b o, b ∈ frs (env :: outer) → s.heap.get? b = some o → ∃ sl, h'.get? b = some { o with slots := sl } := fun b o hb q => by
    obtain ⟨_, o2, q2, nf⟩ := ff.mem hb
    rw [q] at q2; cases q2
    obtain ⟨sl, q3⟩ := up1 b o q nf
    exact ⟨sl, up b _ q3 nf⟩
  refine h h' T' ⟨fun b o hb hx q => st b o (PySem.W.hideAll_get _ q (by simp only [List.mem_append]; exact fun z => z.elim hx hb)), hslot⟩ ⟨oe', vs', oT', ts', t1, t2, t3, t4, t6, t7, t8, t9⟩ ?_
  rcases new_head ff t5 hslot t7 t8 with z | z
  · exact .inl z
  · rcases List.mem_cons.mp z with z | z
    · exact absurd z t6
    · exact .inr (by simpa using z)
theorem flight {l : List Env} (ff : s.heap.FunFrames base l) (x : ExcT s.heap e T cls a0)
    (h : ∀ h' T', Stp (frs l) [e, T] s.heap h' → ExcT h' e T' cls a0 → (s.heap.get? T' = none ∨ T' = T) → Q () { s with heap := h' }) : wpAny M A (setFlight (.ref e) none) Q E s := by
  obtain ⟨oe, vs, oT, ts, x1, x2, x3, x4, x5, x6, x7, x8⟩ := x
  refine wpAny_setFlight_noneW (base := PySem.W.hideAll s.heap ([e, T] ++ frs l)) (fun b o q => PySem.W.of_hideAll _ q) (hid_frames _ ff) ⟨oe, vs, T, oT, ts, x1, x2, x3, x4, PySem.W.hideAll_none _ (by simp), x5, x6, x7, x8⟩ fun h' st ff2 tr up => ?_
  obtain ⟨oe', vs', T', oT', ts', t1, t2, t3, t4, t5, t6, t7, t8, t9⟩ := tr
  have hslot : ∀ b o, b ∈ frs l → s.heap.get? b = some o → ∃ sl, h'.get? b = some { o with slots := sl } := fun b o hb q => by
    obtain ⟨_, o2, q2, nf⟩ := ff.mem hb
    rw [q] at q2; cases q2
    exact ⟨o.slots, up b _ q nf⟩
  refine h h' T' ⟨fun b o hb hx q => st b o (PySem.W.hideAll_get _ q (by simp only [List.mem_append]; exact fun z => z.elim hx hb)), hslot⟩ ⟨oe', vs', oT', ts', t1, t2, t3, t4, t6, t7, t8, t9⟩ ?_
  rcases new_head ff t5 hslot t7 t8 with z | z
  · exact .inl z
  · rcases List.mem_cons.mp z with z | z
    · exact absurd z t6
    · exact .inr (by simpa using z)
end
end L2

namespace L2
open PySem PySem.Spec PyProof.Rows
section
variable {P : Program} {w : World} {H H' : Hp} {h h' : Heap} {a : Addr} {o : HO} {F Y fs : List Addr}
theorem ObjOk.there (x : ObjOk P w H h a o) : ∃ ob, h.get? a = some ob := by
  cases o with
  | lst xs => obtain ⟨_, _, _, _, e⟩ := x; exact ⟨_, e⟩
  | tup xs => obtain ⟨_, _, _, ob, e, _⟩ := x; exact ⟨_, e⟩
  | dK kvs => obtain ⟨_, _, _, _, o, _, _, e, _⟩ := x; exact ⟨_, e⟩
  | dT kvs => obtain ⟨_, _, _, _, o, _, _, e, _⟩ := x; exact ⟨_, e⟩
  | set S n => obtain ⟨o, _, _, _, e, _⟩ := x; exact ⟨_, e⟩
  | ins C dx fs => obtain ⟨_, _, _, e, _⟩ := x; exact ⟨_, e⟩
  | own y => obtain ⟨_, e⟩ := x; exact ⟨_, e⟩
  | xd fs => obtain ⟨_, ⟨_, _, _, e, _⟩, _⟩ := x; exact ⟨_, e⟩
  | rng lo hi => obtain ⟨_, _, _, e⟩ := x; exact ⟨_, e⟩
  | frz ob u => obtain ⟨e, _⟩ := x; exact ⟨_, e⟩
  | tbl ps => exact ⟨_, (show h.get? a = some _ from x)⟩
  | met f y => exact ⟨_, (show h.get? a = some _ from x)⟩
  | ext φ => obtain ⟨_, ⟨_, e⟩, _⟩ := x; exact ⟨_, e⟩
theorem HOk.none_of (x : HOk P w H h) (e : h.get? a = none) : H a = none := by
  cases q : H a with
  | none => rfl
  | some u =>
    obtain ⟨ob, z⟩ := (x a u q).there
    rw [e] at z; cases z
theorem HOk.stp (x : HOk P w H h) (st : Stp F Y h h') (hF : ∀ b ∈ F, H b = none) (hY : ∀ b ∈ Y, H b = none) : HOk P w H h' := fun a o e =>
  (x a o e).stay (fun b u hb q => by
    have hn : H b ≠ none := by
      rcases hb with rfl | hb
      · rw [e]; simp
      · rw [hb]; simp
    exact st.keep b u (fun z => hn (hF b z)) (fun z => hn (hY b z)) q) (fun _ q => q) fun _ _ q => q
theorem Un.stp {H0 : Hp} {h0 : Heap} (u : Un fs [] H0 H h0 h) (st : Stp F Y h h') (h1 : ∀ b o, h0.get? b = some o → b ∈ F → b ∈ fs) (h2 : ∀ b ∈ fs, b ∈ F) (hY : ∀ b ∈ Y, h0.get? b = none) : Un fs [] H0 H h0 h' := by
  have nY : ∀ b o, h0.get? b = some o → b ∉ Y := fun b o q z => by rw [hY b z] at q; cases q
  refine ⟨fun b o q n hb hx => st.keep b o (fun z => hb (h1 b o q z)) (nY b o q) (u.keep b o q n hb hx), fun b o q n hb hx => ?_, u.free, fun b o q hx => ?_, u.tups, u.frzs, u.tbls⟩
  · obtain ⟨sl, q1⟩ := u.slot b o q n hb hx
    obtain ⟨sl2, q2⟩ := st.slot b _ (h2 b hb) q1
    exact ⟨sl2, q2⟩
  · obtain ⟨o1, q1⟩ := u.there b o q hx
    by_cases hF : b ∈ F
    · obtain ⟨sl2, q2⟩ := st.slot b _ hF q1
      exact ⟨_, q2⟩
    · exact ⟨_, st.keep b o1 hF (nY b o q) q1⟩
end
/-- how an exception of an own class lies behind a call -/
def CX1 (P : Program) (w : World) : CXT := fun outer H s E ev s' => ∃ (e T C : Addr) (a0 : Value) (H' : Hp), ev = .ref e ∧ s'.os = s.os ∧ AllBare s'.gens ∧ Un (frs outer) [] H H' s.heap s'.heap ∧ HOk P w H' s'.heap ∧
  ExcT s'.heap e T (.ref C) a0 ∧ s.heap.get? e = none ∧ s.heap.get? T = none ∧ H' e = none ∧ H' T = none ∧ E (.ref C) none H'
/-- a record that is new to a body, not its frame's, not pinned -/
structure NewAt (X : Cx) (pins : List (Addr × Obj)) (H : Hp) (b : Addr) : Prop where
  ent : X.s₀.heap.get? b = none
  unt : H b = none
  loc : b ≠ X.env.locals
  cel : ∀ x c, X.env.cells.lookup x = some c → c ≠ b
  pin : ∀ p ∈ X.pn ++ pins, p.1 ≠ b
section
variable {X : Cx} {pins : List (Addr × Obj)} {σ : St} {H : Hp} {s : Shared} {h' : Heap} {e T : Addr}
/-- what isn't there yet is new to the body -/
theorem Inv.newAt (I : Inv X pins σ H s) (hx : X.ex = []) {b : Addr} (hb : s.heap.get? b = none) : NewAt X pins H b := by
  refine ⟨?_, I.hok.none_of hb, ?_, ?_, ?_⟩
  · cases q : X.s₀.heap.get? b with
    | none => rfl
    | some o =>
      obtain ⟨o', q'⟩ := I.base.there b o q (by rw [hx]; simp)
      rw [hb] at q'; cases q'
  · rintro rfl
    obtain ⟨m, ⟨o, _, _, q, _⟩, _⟩ := I.loc
    rw [hb] at q; cases q
  · rintro x c hc rfl
    obtain ⟨v, o, q, _⟩ := I.cell x c hc
    rw [hb] at q; cases q
  · rintro p hp rfl
    obtain ⟨q, _⟩ := I.pin p hp
    rw [hb] at q; cases q
theorem Inv.excStep (I : Inv X pins σ H s) (hx : X.ex = []) (st : Stp (frs X.stack) [e, T] s.heap h') (ne : NewAt X pins H e) (nT : NewAt X pins H T) : Inv X pins σ H { s with heap := h' } := by
  have nY : ∀ b ∈ [e, T], NewAt X pins H b := fun b hb => by
    rcases List.mem_cons.mp hb with rfl | hb
    · exact ne
    · rw [show b = T by simpa using hb]; exact nT
  have hsub : ∀ b, b ≠ X.env.locals → b ∉ X.fs → b ∉ frs X.stack := fun b h1 h2 z => (List.mem_cons.mp (I.stkSub b z)).elim h1 h2
  have entY : ∀ b o, X.s₀.heap.get? b = some o → b ∉ [e, T] := fun b o q z => by rw [(nY b z).ent] at q; cases q
  have neL : ∀ b o, X.s₀.heap.get? b = some o → b ≠ X.env.locals := fun b o q => Nat.ne_of_lt (Nat.lt_of_lt_of_le (Heap.lt_size q) I.ok.above)
  have any : ∀ b o, b ∉ [e, T] → s.heap.get? b = some o → ∃ sl, h'.get? b = some { o with slots := sl } := fun b o hy q => by
    by_cases hF : b ∈ frs X.stack
    · exact st.slot b o hF q
    · exact ⟨o.slots, st.keep b o hF hy q⟩
  have cellK : ∀ x c, X.env.cells.lookup x = some c → ∀ v, s.heap.IsCell c v → h'.IsCell c v := fun x c ec v ⟨o, ho, hd⟩ => by
    obtain ⟨sl, q⟩ := any c o (fun z => (nY c z).cel x c ec rfl) ho
    exact ⟨_, q, hd⟩
  refine ⟨I.ok, I.os, I.bare, ⟨fun b o q n hb hxx => ?_, fun b o q n hb hxx => ?_, I.base.free, fun b o q hxx => ?_, I.base.tups, I.base.frzs, I.base.tbls⟩, ?_, fun x c ec => ?_, I.free, I.freeC, fun p hp => ?_, I.hok.stp st I.stkFree (fun b hb => (nY b hb).unt), I.len⟩
  · exact st.keep b o (hsub b (neL b o q) hb) (entY b o q) (I.base.keep b o q n hb hxx)
  · obtain ⟨sl, q1⟩ := I.base.slot b o q n hb hxx
    obtain ⟨sl2, q2⟩ := any b _ (entY b o q) q1
    exact ⟨sl2, q2⟩
  · obtain ⟨o1, q1⟩ := I.base.there b o q hxx
    obtain ⟨sl2, q2⟩ := any b _ (entY b o q) q1
    exact ⟨_, q2⟩
  · obtain ⟨m, ⟨oL, es, ep, hoL, r⟩, hl⟩ := I.loc
    obtain ⟨sl, q⟩ := any X.env.locals oL (fun z => (nY _ z).loc rfl) hoL
    refine ⟨m, ⟨_, es, ep, q, r⟩, fun i x v e1 e2 e3 => ?_⟩
    obtain ⟨u, ru, l⟩ := hl i x v e1 e2 e3
    refine ⟨u, ru, ?_⟩
    rcases l with l | ⟨k, c, ec, z⟩
    · exact .inl l
    · exact .inr ⟨k, c, ec, cellK x c ec _ z⟩
  · obtain ⟨v, z⟩ := I.cell x c ec
    exact ⟨v, cellK x c ec v z⟩
  · obtain ⟨q, n, nL, nf, d⟩ := I.pin p hp
    exact ⟨st.keep p.1 p.2 (hsub p.1 nL nf) (fun z => (nY _ z).pin p hp rfl) q, n, nL, nf, d⟩
end
/-! raise -/
/-- a class of the text below a built-in exception -/
structure ExcCls (K : PySem.W.Frag) (C : Addr) : Prop where
  ex : ∃ (bmB bmN : List Value) (newId B Bn nid initId inN : String), PySem.W.excIn K C bmB newId = true ∧ ExcBaseFacts Bn newId inN bmN ∧ bmB.contains (Value.type Bn) = true ∧ ExcBaseFacts B nid initId bmB
theorem ExcCls.value {K : PySem.W.Frag} {C : Addr} (h : PySem.W.excIn K C [.type "ValueError", .type "Exception", .type "BaseException", .type "object"] "ValueError.__new__" = true) : ExcCls K C :=
  ⟨_, _, _, _, _, _, _, _, h, PySem.F.excBase_ValueError, by decide, PySem.F.excBase_ValueError⟩
theorem ExcCls.obj {K : PySem.W.Frag} {C : Addr} {h : Heap} {bmB : List Value} {newId : String} (KI : K.In h) (e : PySem.W.excIn K C bmB newId = true) : ∃ bm N nm q bs hdct sn sub ab col dd k0 k1 k2 k3 k5 mN,
      h.get? C = some (excClassObj nm q C N bs bm hdct sn sub ab col dd k0 k1 k2 k3 k5 newId) ∧ h.Ns N mN ∧ mN "__init__" = none ∧ OwnTail h bmB bm := by
  unfold PySem.W.excIn at e
  split at e
  · rename_i dd cd sl lk
    split at e
    · rename_i C' bm k0 k1 k2 k3 n k5 em es
      simp only [Bool.and_eq_true, beq_iff_eq, Bool.not_eq_true'] at e
      obtain ⟨⟨⟨⟨⟨rfl, rfl⟩, hd⟩, ht⟩, hn⟩, hi⟩ := e
      obtain ⟨nm, bs, mro, ns, q, hdct, sn, sub, ab, col, hdel⟩ := cd
      dsimp only at em hd ht hn hi
      subst em hd
      have hsl : sl = #[k0, k1, k2, k3, some (Value.builtin n), k5] := by
        apply Array.toList_inj.mp
        rw [es]
      subst hsl
      exact ⟨bm, ns, nm, q, bs, hdct, sn, sub, ab, col, dd, k0, k1, k2, k3, k5, _, KI _ _ lk, Heap.Ns.of_isNs (PySem.W.isNs_of_in KI hn), PySem.W.nsMap_none_of_in KI hn hi, PySem.W.tail_of_in KI ht⟩
    · cases e
  · cases e
section
variable {P : Program} {w : World} {K : PySem.W.Frag} {mg : Str → Option Value} {base : Heap} {N : List Str} {qual : Str} {scope : Scope} {f : Addr} {cd : Value} {A : Around} {outer : List Env} {s0 : Shared} {H0 : Hp} {E : XK}
def tRaise (C : Addr) (E : XK) (t : TA) : TS := fun _ σ H => t σ H fun vs H1 => vs.length ≤ sizeLine ∧ E (.ref C) none H1
end
end L2

namespace L2
open PySem PySem.Spec PyProof.Rows
/-! ### a call that may raise; try with one except clause -/
/-- behind an exception, in the frame that sees it -/
def XP (X : Cx) (pins : List (Addr × Obj)) (σ : St) (EX : Addr → Hp → Prop) (ev : Value) (s' : Shared) : Prop :=
  ∃ (e T C : Addr) (a0 : Value) (H' : Hp), ev = .ref e ∧ Inv X pins σ H' s' ∧ ExcT s'.heap e T (.ref C) a0 ∧ NewAt X pins H' e ∧ NewAt X pins H' T ∧ EX C H'
abbrev TX := St → Hp → VK → (Addr → Hp → Prop) → Prop
def PEX (X : Cx) (e : Expr) (t : TX) : Prop :=
  ∀ (pins : List (Addr × Obj)) (s : Shared) (σ : St) (H : Hp) (Q : VK) (EX : Addr → Hp → Prop), Inv X pins σ H s → t σ H Q EX → wpAny (model X.prog X.w) X.A (eval e X.env) (EP X pins σ Q) (XP X pins σ EX) s
/-- a def that may raise, bundled -/
def CalleeX (P : Program) (w : World) (K : PySem.W.Frag) (mg : Str → Option Value) (base : Heap) (k : Nat) (x : Str) (ps : List Str) (sp : Sp) : Prop :=
  ∃ f fd, FnOk P w K mg base (CX1 P w) k f fd ps sp ∧ Binds K fd ps [] ∧ PySem.W.keepIn K (.ref f) = true ∧ mg x = some (.ref f)
theorem CalleeX.mono {P : Program} {w : World} {K : PySem.W.Frag} {mg : Str → Option Value} {base : Heap} {j k : Nat} {x : Str} {ps : List Str} {sp : Sp} (C : CalleeX P w K mg base j x ps sp) (h : j ≤ k) : CalleeX P w K mg base k x ps sp :=
  let ⟨f, fd, F, r⟩ := C
  ⟨f, fd, F.mono h, r⟩
section
variable {X : Cx} {pins : List (Addr × Obj)} {σ : St} {H : Hp} {s s' : Shared}
/-- an exception of a callee comes back -/
theorem Inv.afterX {E : XK} {EX : Addr → Hp → Prop} {ev : Value} (I : Inv X pins σ H s) (hx : X.ex = []) (hE : ∀ C H', E (.ref C) none H' → EX C H') (h : CX1 X.prog X.w X.stack H s E ev s') : XP X pins σ EX ev s' := by
  obtain ⟨e, T, C, a0, H', rfl, os, bare, un, hok, x, ne, nT, he, hT, q⟩ := h
  have I' : Inv X pins σ H' s' := I.call' (ch := []) os un hok bare fun b z => absurd z (by simp)
  have a := I.newAt hx ne
  have b := I.newAt hx nT
  exact ⟨e, T, C, a0, H', rfl, I', x, ⟨a.ent, he, a.loc, a.cel, a.pin⟩, ⟨b.ent, hT, b.loc, b.cel, b.pin⟩, hE _ _ q⟩
end
section
variable {X : Cx} {k : Nat} {x : Str} {ps : List Str} {sp : Sp} {e : Expr} {es : List Expr} {t : TA} {p pos : Pos}
def tFnX (sp : Sp) (t : TA) : TX := fun σ H Q EX => t σ H fun vs H1 => sp vs H1 Q fun cv _ H2 => ∃ C, cv = .ref C ∧ EX C H2
theorem pex_fn (C : CalleeX X.prog X.w X.K X.mg X.base k x ps sp) (hr : Room k X.A) (hx : X.ex = []) (hg : Gl X x) (ha : PA X.nox (e :: es) t) (hdb : (x == ("__debug__" : Str)) = false := by decide)
    (he : starEach (e :: es) X.env = (false, eval e X.env) :: starEach es X.env := by rfl) (hpl : (backTo pos (starEach es X.env)).any (·.1) = false := by rfl) : PEX X (.Call (.Name x p) (e :: es) [] pos) (tFnX sp t) := by
  obtain ⟨f, fd, F, b, kk, m⟩ := C
  intro pins s σ H Q EX I h
  refine wpAny_Call_Name_kw (ld_glob I hg m ?_ hdb)
  refine PySem.W.callWith_K (h₀ := X.base) I.ok.mod.kin kk (wpAny_mono (ha pos pins s σ H _ (I.wish _) h) (fun us s1 ⟨vs, H1, I1, r, q⟩ => ⟨I1.kIn, ?_⟩) fun _ _ z => False.elim z) he hpl
  have J : Inv X pins σ H1 s1 := I1.unwish
  have hl : us.length = ps.length := by rw [← r.length]; exact F.len _ _ _ _ q
  have bt : BindsTo s1 fd ⟨us, []⟩ (ps.zip us) := by
    have z := b s1 us J.kIn (by rw [List.append_nil]; exact hl)
    rw [List.append_nil] at z
    exact z
  refine wpAny_call (codeAny_mono (F.run X.A X.stack s1 H1 ⟨us, []⟩ us vs Q _ hr J.env0 bt r q) fun r s' hq => ?_)
  cases r with
  | error ev => exact J.afterX (E := fun cv _ H2 => ∃ C, cv = .ref C ∧ EX C H2) hx (fun C H' z => by obtain ⟨C', e1, z⟩ := z; cases e1; exact z) hq
  | ok fl =>
    cases fl with
    | ret u => exact J.after hq
    | next => exact False.elim hq
    | brk => exact False.elim hq
    | cont => exact False.elim hq
abbrev TSX := Ends → St → Hp → (Addr → Hp → Prop) → Prop
/-- a statement that may raise, at the state it was begun with -/
def PSX (X : Cx) (st : Stmt) (t : TSX) : Prop :=
  ∀ (pins : List (Addr × Obj)) (s : Shared) (σ : St) (H : Hp) (D : Ends) (EX : Addr → Hp → Prop), Inv X pins σ H s → t D σ H EX → wpAny (model X.prog X.w) X.A (exec st X.env) (SP X pins D) (XP X pins σ EX) s
def tSetX (i : Nat) (te : TX) : TSX := fun D σ H EX => te σ H (fun v H1 => D.nx (σ.set i (some v)) H1) EX
theorem psx_set {i : Nat} {y : Str} {e : Expr} {te : TX} {pos' : Pos} (hN : X.N.Nodup) (hi : X.N[i]? = some y) (hx : Loc X.env.scope y) (he : PEX X e te) (hs : swapsWith e (some (.Name y pos')) pos.line X.env = pure false := by rfl) (hf : X.fn y = true ∨ X.env.scope.names.lookup y = some .local := by first | exact .inl rfl | exact .inr rfl | assumption) :
    PSX X (.Assign [.Name y pos'] e pos) (tSetX i te) := by
  intro pins s σ H D EX I h
  refine wpAny_Assign_Name (thn (he pins s σ H _ EX I h) fun v s1 ⟨y, H1, I1, r1, q1⟩ => ?_) hs
  exact store_ok I1 hN hi hx r1 (fun s2 I2 => ⟨_, H1, I2, q1⟩) hf
def tDropX (te : TX) : TSX := fun D σ H EX => te σ H (fun _ H1 => D.nx σ H1) EX
end
/-! the except suite -/
/-- its context: the exception is handled, its record is pinned -/
def sfx (X : Cx) (e : Addr) (oe : Obj) : Cx := { X with A := X.A.mark (some (.ref e)), calm := false, pn := (e, oe) :: X.pn, xe := fun _ _ => False }
section
variable {X : Cx} {pins : List (Addr × Obj)} {σ : St} {H : Hp} {s s' : Shared} {e : Addr} {oe : Obj}
theorem Inv.suite (I : Inv X pins σ H s) (he : s.heap.get? e = some oe) (hn : NewAt X pins H e) (hd : ∀ v, oe.data ≠ .cell v) (hf : e ∉ X.fs) : Inv (sfx X e oe) pins σ H s := by
  refine ⟨⟨I.ok.mod, I.ok.kind, I.ok.glob, I.ok.blt, I.ok.above, I.ok.inj, I.ok.has, I.ok.cab, fun z => absurd z Bool.false_ne_true, I.ok.frames, I.ok.stk, I.ok.exf, I.ok.bs, I.ok.bsz, I.ok.noex, I.ok.exfs, I.ok.funs, I.ok.frf⟩, I.os, I.bare, I.base, I.loc, I.cell, I.free, I.freeC, fun p hp => ?_, I.hok, I.len⟩
  rcases List.mem_cons.mp (show p ∈ (e, oe) :: (X.pn ++ pins) from hp) with rfl | hp
  · exact ⟨he, hn.unt, hn.loc, hf, hd⟩
  · exact I.pin p hp
theorem Inv.unsuite (ok : X.Ok) (I : Inv (sfx X e oe) pins σ H s) : Inv X pins σ H s :=
  ⟨ok, I.os, I.bare, I.base, I.loc, I.cell, I.free, I.freeC, fun p hp => I.pin p (List.mem_cons_of_mem (e, oe) hp), I.hok, I.len⟩
theorem Inv.excObj (I : Inv (sfx X e oe) pins σ H s) : s.heap.get? e = some oe := (I.pin (e, oe) (List.mem_append_left _ List.mem_cons_self)).1
/-- the frame's map has changed at one name -/
theorem Inv.unbound {i : Nat} {x : Str} {m : Str → Option Value} {u : Option Value} {h' : Heap} (I : Inv X pins σ H s) (hi : X.N[i]? = some x) (hN : X.N.Nodup) (hm : s.heap.Ns X.env.locals m) (ns : h'.Ns X.env.locals fun y => if y = x then u else m y) (hs : Heap.SameBut X.env.locals s.heap h') :
    Inv X pins (σ.set i none) H { s with heap := h' } := by
  have cne := I.cne
  obtain ⟨oL, _, _, hoL, _⟩ := id hm
  refine ⟨I.ok, I.os, I.bare, ⟨fun b o e n hb hx => ?_, fun b o e n hb hx => ?_, I.base.free, fun b o e hx => ?_, I.base.tups, I.base.frzs, I.base.tbls⟩, ⟨_, ns, fun j y v' e1 e2 e3 => ?_⟩, fun y c e => ?_, I.free, I.freeC, fun p hp => ?_, ?_, by simpa using I.len⟩
  · exact (hs.2 b (Nat.ne_of_lt (Nat.lt_of_lt_of_le (Heap.lt_size e) I.ok.above))).trans (I.base.keep b o e n hb hx)
  · obtain ⟨sl, e1⟩ := I.base.slot b o e n hb hx
    exact ⟨sl, (hs.2 b (Nat.ne_of_lt (Nat.lt_of_lt_of_le (Heap.lt_size e) I.ok.above))).trans e1⟩
  · obtain ⟨o', e1⟩ := I.base.there b o e hx
    exact ⟨o', (hs.2 b (Nat.ne_of_lt (Nat.lt_of_lt_of_le (Heap.lt_size e) I.ok.above))).trans e1⟩
  · by_cases hj : j = i
    · subst hj
      by_cases hlt : j < σ.length
      · rw [List.getElem?_set_self hlt] at e2; cases e2
      · rw [List.getElem?_eq_none (by simpa using hlt)] at e2; cases e2
    · rw [List.getElem?_set_ne (Ne.symm hj)] at e2
      obtain ⟨m2, hm2, hl⟩ := I.loc
      obtain ⟨u', r', q⟩ := hl j y v' e1 e2 e3
      have em : m2 = m := by rw [hm2.eq_nsMap, hm.eq_nsMap]
      subst em
      refine ⟨u', r', ?_⟩
      rcases q with ⟨k, e⟩ | ⟨k, c, e, z⟩
      · refine .inl ⟨k, ?_⟩
        have : y ≠ x := fun e => hj (nodup_ix hN e1 (e ▸ hi))
        simp [this, e]
      · exact .inr ⟨k, c, e, z.sameBut hs (cne y c e)⟩
  · obtain ⟨w', z⟩ := I.cell y c e
    exact ⟨w', z.sameBut hs (cne y c e)⟩
  · obtain ⟨e, n, ne, nf, d⟩ := I.pin p hp
    exact ⟨(hs.2 p.1 ne).trans e, n, ne, nf, d⟩
  · intro b ob e
    refine (I.hok b ob e).stay (fun c w' hc q => (hs.2 c ?_).trans q) (fun _ q => q) fun _ _ q => q
    rintro rfl
    rcases hc with rfl | hc
    · rw [I.free] at e; cases e
    · rw [I.free] at hc; cases hc
end

section
variable {X : Cx} {pins : List (Addr × Obj)} {σ : St} {H : Hp} {s : Shared}
/-- behind the suite: the name is unbound -/
theorem unbind_ok {M : Model} {A : Around} {E : Value → Shared → Prop} {i : Nat} {x : Str} {pos : Pos} {Q : Unit → Shared → Prop} (I : Inv X pins σ H s) (hN : X.N.Nodup) (hi : X.N[i]? = some x) (hk : X.env.scope.names.lookup x = some .local)
    (h : ∀ s', Inv X pins (σ.set i none) H s' → Q () s') : wpAny M A (do bindName X.env x Value.none; unbindBehindTheSuite X.env x pos) Q E s := by
  refine wpAny_bind (wpAny_bindName (store_ok I hN hi (.inl hk) (v := .non) (u := Value.none) rfl (fun s1 I1 => ?_) (.inr hk)))
  refine wpAny_onRaise ?_
  obtain ⟨m, hm, hl⟩ := I1.loc
  have hiσ : i < σ.length := by rw [I.len]; exact (List.getElem?_eq_some_iff.mp hi).1
  obtain ⟨u, ru, l⟩ := hl i x .non hi (by rw [List.getElem?_set_self hiσ]) (.inl hk)
  have hcls : (X.env.scope.kind == .class || (X.env.scope.kind == .module && X.env.locals != X.env.globals)) = false := by rw [I.ok.kind]; rfl
  rcases l with ⟨k, em⟩ | ⟨k, _⟩
  · refine wpAny_unbindName_local hk hm em hcls fun h' v ns sb => ?_
    have J := I1.unbound hi hN hm ns sb
    rw [List.set_set] at J
    exact h _ J
  · exfalso
    have hk' : X.env.kindOf x = some .local := hk
    rcases k with k | k
    · rw [hk'] at k; cases k
    · rw [hk'] at k; cases k
end
def tTry (i : Nat) (B : Addr) (K : PySem.W.Frag) (G : Addr → Prop) (tb : TSX) (ts : Addr → Addr → TS) : TS := fun D σ H => tb D σ H fun C H1 => PySem.W.exmOne K (.ref C) (.ref B) = some true ∧ G C ∧
  ∀ e, ts C e { nx := fun σ' H' => D.nx (σ'.set i none) H', rt := D.rt, bk := fun σ' H' => D.bk (σ'.set i none) H', ct := fun σ' H' => D.ct (σ'.set i none) H' } (σ.set i (some (.ref e))) H1
section
variable {X : Cx} {st b₀ : Stmt} {su : List Stmt} {tb : TSX} {ts : Addr → Addr → TS} {Tn n : Str} {B : Addr} {i : Nat} {np hpos pos : Pos}
theorem ps_try {G : Addr → Prop} (hb : PSX X st tb) (hx : X.ex = []) (hst : X.stack = X.env :: X.outer) (hfr : X.env.frame = some X.env.locals) (hg : Gl X Tn) (hm : X.mg Tn = some (.ref B)) (hN : X.N.Nodup) (hi : X.N[i]? = some n) (hk : X.env.scope.names.lookup n = some .local)
    (hs : ∀ (C e : Addr) (oe : Obj), G C → oe.cls = .ref C → PSs (sfx X e oe) (b₀ :: su) (ts C e)) (hdb : (Tn == ("__debug__" : Str)) = false := by decide) :
    PS X (.Try [st] [.ExceptHandler (some (.Name Tn np)) (some n) (b₀ :: su) hpos] [] [] pos) (tTry i B X.K G tb ts) := by
  intro pins s σ H D I h
  refine wpAny_Try_except ?_
  refine wpAny_execs_cons (wpAny_mono (hb pins s σ H D _ I h) (fun f s1 q => ?_) fun ev s1 q => ?_)
  · cases f with
    | next => exact wpAny_execs_nil (wpAny_execs_nil q)
    | ret v => exact q
    | brk => exact q
    | cont => exact q
  obtain ⟨e, T, C, a0, H1, rfl, I1, x, ne, nT, hex, hG, q⟩ := q
  have fr1 : X.A.frames = some (X.env :: X.outer) := by rw [← hst]; exact I1.ok.frames
  have ff1 : s1.heap.FunFrames X.base (X.env :: X.outer) := by rw [← hst]; exact I1.stack
  refine land fr1 ff1 hfr x fun h2 T2 st2 x2 hT2 => ?_
  rw [← hst] at st2
  have I2 := I1.excStep hx st2 ne nT
  have nT2 : NewAt X pins H1 T2 := by
    rcases hT2 with z | z
    · exact I1.newAt hx z
    · rw [z]; exact nT
  -- the exception's record
  have notFs : ∀ {b : Addr} {o : Obj} {vs : Array Value} {hh : Heap}, hh.FunFrames X.base X.stack → hh.get? b = some o → o.data = .fields vs → b ∉ X.fs := fun {b o vs hh} ff g d z => by
    have z' : b ∈ frs X.stack := by rw [hst]; unfold frs; rw [List.filterMap_cons, hfr]; exact List.mem_cons_of_mem _ z
    obtain ⟨_, o2, g2, nf⟩ := ff.mem z'
    rw [g] at g2; cases g2
    exact nf vs d
  have I2' := I2
  obtain ⟨oe, vs, oT, ts2, y1, ⟨y2, y2'⟩, y3, y4, y5, y6, y7, y8⟩ := id x2
  have S2 : Inv (sfx X e oe) pins σ H1 { s1 with heap := h2 } := I2.suite y1 ne (fun v z => by rw [y3] at z; cases z) (notFs I2.stack y1 y3)
  refine wpAny_handleBy_cons ?_ (by intro z; cases z)
  refine codeAny_handlers_test (ld_glob (X := sfx X e oe) S2 hg hm ?_ hdb)
  refine PySem.W.exm_one (h := h2) S2.kIn (fun A' Q' E' s' k r => by
    have z := wpAny_typeOf_ref (M := model X.prog X.w) (A := A') (E := E') (Q := Q') (k _ _ y1)
    rw [y2] at z
    exact z r) hex _ _ _ _ (fun b o g => g) ?_
  rw [if_pos rfl]
  refine codeAny_handlers_suite_as ?_
  refine flight (s := { s1 with heap := h2 }) (l := X.stack) I2.stack x2 fun h3 T3 st3 x3 hT3 => ?_
  have I3 := I2.excStep hx st3 ne nT2
  obtain ⟨oe3, vs3, oT3, ts3, z1, ⟨z2, z2'⟩, z3, z4, z5, z6, z7, z8⟩ := id x3
  have S3 : Inv (sfx X e oe3) pins σ H1 { s1 with heap := h3 } := I3.suite z1 ne (fun v z => by rw [z3] at z; cases z) (notFs I3.stack z1 z3)
  refine store_ok (X := sfx X e oe3) S3 hN hi (.inl hk) (v := .ref e) (u := .ref e) rfl (fun s4 S4 => ?_) (.inr hk)
  refine wpAny_mono (hs C e oe3 hG z2 pins s4 _ H1 _ S4 (q e)) (fun fl s5 q5 => ?_) fun _ _ z => False.elim z
  cases fl with
  | next =>
    obtain ⟨σ5, H5, S5, q5⟩ := q5
    exact unbind_ok (S5.unsuite I.ok) hN hi hk fun s6 I6 => ⟨_, H5, I6, q5⟩
  | brk =>
    obtain ⟨σ5, H5, S5, q5⟩ := q5
    exact unbind_ok (S5.unsuite I.ok) hN hi hk fun s6 I6 => ⟨_, H5, I6, q5⟩
  | cont =>
    obtain ⟨σ5, H5, S5, q5⟩ := q5
    exact unbind_ok (S5.unsuite I.ok) hN hi hk fun s6 I6 => ⟨_, H5, I6, q5⟩
  | ret u =>
    obtain ⟨v, σ5, H5, S5, r5, q5⟩ := q5
    exact unbind_ok (S5.unsuite I.ok) hN hi hk fun s6 I6 => ⟨v, _, H5, I6, r5, q5⟩
end
end L2

namespace L2
open PySem PySem.Spec PyProof.Rows
/-! ### isinstance of an exception of an own class -/
/-- what a class must have: below a built-in exception, no hooks of its own -/
structure ExcLook (K : PySem.W.Frag) (C : Addr) : Prop where
  ga : PySem.W.findIn K (.ref C) "__getattribute__" = some (some (.builtin "BaseException.__getattribute__"))
  hk : PySem.W.findIn K (.ref C) "__getattr__" = some none
  cl : PySem.W.findIn K (.ref C) "__class__" = some (some (.builtin "object.__class__"))
  gt : PySem.W.specialIn K (.builtin "object.__class__") "__get__" = some (some (.builtin "getset_descriptor.__get__"))
  tk : PySem.W.takesIn K (.builtin "object.__class__") = some true
  ob : PySem.W.mroIn K C (.type "object") = some true
  be : PySem.W.mroIn K C (.type "BaseException") = some true
  me : PySem.W.kitCls K (.ref C) (.ref C) = some true
section
variable {prog : Program} {w : World} {A : Around} {E : Value → Shared → Prop} {s : Shared} {K : PySem.W.Frag} {e C : Addr} {oe : Obj}
theorem looks_type {hh : Heap} (g : hh.get? e = some oe) (c : oe.cls = .ref C) {M : Model} : PySem.W.Looks M hh (typeOf (.ref e)) (.ref C) := fun A' Q' E' s' k r => by
  have z := wpAny_typeOf_ref (M := M) (A := A') (E := E') (Q := Q') (k _ _ g)
  rw [c] at z
  exact z r
theorem exc_class_get {R : Result → Shared → Prop} {tp : Value} (KI : K.In s.heap) (g : s.heap.get? e = some oe) (c : oe.cls = .ref C) (hm : PySem.W.mroIn K C (.type "object") = some true) (h : R (.ok (.ret (.ref C))) s) :
    codeAny (model prog w) A (.call (.builtin "getset_descriptor.__get__") ⟨[.builtin "object.__class__", .ref e, tp], []⟩) R s := by
  have L0 : ∀ {M : Model}, PySem.W.Looks M s.heap (typeOf (.ref e)) (.ref C) := looks_type g c
  have L1 : ∀ {M : Model}, PySem.W.Looks M s.heap (isSubtype (.ref C) (.type "object")) true := PySem.W.looks_mroIn KI hm
  refine codeAny_call_builtin PySem.W.KF.slot_gs.plain PySem.W.KF.entry_gs (PySem.W.KF.slot_gs.check _ _ _ _ _ _ _ _ PySem.W.KF.type_class (PySem.W.KF.args_gs _ _ tp) ?_)
  show wpAny _ _ (do let __x ← Builtin.Getset_descriptor.descrGetArgs ⟨[.builtin "object.__class__", .ref e, tp], []⟩; match __x with | (d, obj, snd) => Builtin.Getset_descriptor.descrGetter d obj) _ _ s
  rw [PySem.W.dga_obj]
  refine wpAny_bind (wpAny_pure ?_)
  show wpAny _ _ (do Builtin.Getset_descriptor.descrCheckInstance (.builtin "object.__class__") (.ref e); again (Code.builtin "object.__class__" ⟨[.ref e], []⟩)) _ _ s
  have dn : Builtin.Getset_descriptor.descrNameAndClass (.builtin "object.__class__") = pure (Str.ofString "__class__", Value.type "object") := by
    show pure (Str.ofString (Builtin.Getset_descriptor.descrOwnerAndName "object.__class__").2, Value.type (Builtin.Getset_descriptor.descrOwnerAndName "object.__class__").1) = _
    rw [PySem.W.KF.owner_class]
  unfold Builtin.Getset_descriptor.descrCheckInstance
  rw [dn]
  refine wpAny_bind (wpAny_bind (wpAny_pure ?_))
  refine wpAny_bind (wpAny_bind (L0 _ _ _ _ (fun _ _ q => q) (L1 _ _ _ _ (fun _ _ q => q) ?_)))
  refine wpAny_ite_false rfl (wpAny_pure ?_)
  refine wpAny_pure ⟨Code.quiet_builtin _ (by decide +kernel), codeAny_builtin PySem.W.KF.entry_class ?_⟩
  refine wpAny_bind (wpAny_bind (L0 _ _ _ _ (fun _ _ q => q) ?_))
  refine wpAny_ite_false rfl (wpAny_pure (wpAny_pure h))
theorem exc_check {M : Model} {nameV : Value} {Q : Unit → Shared → Prop} (KI : K.In s.heap) (g : s.heap.get? e = some oe) (c : oe.cls = .ref C) (hm : PySem.W.mroIn K C (.type "BaseException") = some true) (h : Q () s) :
    wpAny M A (checkBuiltinCall "BaseException.__getattribute__" ⟨[.ref e, nameV], []⟩) Q E s := by
  have hk : builtinKind "BaseException.__getattribute__" = some .slot := by decide +kernel
  have hsp : splitId "BaseException.__getattribute__" = some ("BaseException", "__getattribute__") := by decide +kernel
  have ha := PySem.F.args_bexc_ga (.ref e) nameV
  unfold checkBuiltinCall
  rw [hk, hsp]
  refine wpAny_bind (wpAny_bind (looks_type g c _ _ _ _ (fun _ _ q => q) (PySem.W.looks_mroIn KI hm _ _ _ _ (fun _ _ q => q) ?_)))
  refine wpAny_ite_false rfl ?_
  unfold argsOk at ha
  generalize Manifest.signature? "BaseException.__getattribute__" = sg at ha ⊢
  cases sg with
  | none => exact wpAny_pure h
  | some sig => exact wpAny_of_eq ha h
theorem exc_class {Q : Option Value → Shared → Prop} (KI : K.In s.heap) (X : ExcLook K C) (g : s.heap.get? e = some oe) (c : oe.cls = .ref C) (h : Q (some (.ref C)) { s with toks := s.toks + 1 }) : wpAny (model prog w) A (getAttr? (.ref e) "__class__") Q E s := by
  have L0 : ∀ {M : Model}, PySem.W.Looks M s.heap (typeOf (.ref e)) (.ref C) := looks_type g c
  refine wpAny_bind (wpAny_mkText (wpAny_bind (wpAny_attempt (wpAny_holding (wpAny_bind (L0 _ _ _ _ (fun _ _ q => q) (wpAny_bind (PySem.W.looks_findIn KI X.ga _ _ _ _ (fun _ _ q => q) ?_))))))))
  refine wpAny_ite_false rfl ?_
  refine wpAny_bind ?_
  show wpAny _ _ (if onTheHeap (.ref C) = true then typeLookup (.ref C) "__getattr__" else pure none) _ _ _
  refine wpAny_ite_true rfl (PySem.W.looks_findIn KI X.hk _ _ _ _ (fun _ _ q => q) ?_)
  refine wpAny_bind (wpAny_attempt (wpAny_holding ?_))
  show wpAny _ _ (if (false && onTheHeap (.builtin "BaseException.__getattribute__")) = true then _ else boundAndCalled (.builtin "BaseException.__getattribute__") (.ref e) (Value.str (Str.ofString "__class__") s.toks)) _ _ _
  refine wpAny_ite_false rfl (wpAny_bind (wpAny_of_eq (PySem.F.attr_ValueError.ga.bind (.ref e)) (wpAny_call ?_)))
  refine codeAny_call_builtin PySem.F.attr_ValueError.ga.plain PySem.F.entry_bexc_ga (exc_check (s := { s with toks := s.toks + 1 }) KI g c X.be ?_)
  refine wpAny_bind (wpAny_of_eq (show slotArgs "__getattribute__" 1 ⟨[.ref e, Value.str (Str.ofString "__class__") s.toks], []⟩ = pure (Value.ref e, [Value.str (Str.ofString "__class__") s.toks]) from rfl) ?_)
  refine wpAny_bind (wpAny_of_eq (show Builtin.ObjectAttr.attrName (Value.str (Str.ofString "__class__") s.toks) = pure (Str.ofString "__class__") from rfl) ?_)
  refine wpAny_bind (L0 _ _ _ _ (fun _ _ q => q) ?_)
  refine wpAny_bind ?_
  unfold Builtin.ObjectAttr.find
  refine wpAny_bind (PySem.W.looks_findIn KI X.cl _ _ _ _ (fun _ _ q => q) ?_)
  refine wpAny_bind (PySem.W.looks_specialIn KI X.gt _ _ _ _ (fun _ _ q => q) ?_)
  refine wpAny_bind (wpAny_bind (PySem.W.looks_takesIn KI X.tk _ _ _ _ (fun _ _ q => q) (wpAny_ite_true rfl (wpAny_pure ?_))))
  refine wpAny_bind (wpAny_rule (wpAny_pure ?_))
  refine wpAny_bind (wpAny_holding (wpAny_call (exc_class_get (s := { s with toks := s.toks + 1 }) KI g c X.ob ?_)))
  exact wpAny_pure (PySem.W.handed_on rfl (wpAny_pure h))
theorem kitx_exc (X : ExcLook K C) (c : oe.cls = .ref C) : PySem.W.KitX K (.ref e) (.ref C) fun h => h.get? e = some oe where
  ty := fun M h KI g => looks_type g c
  it := fun M h KI g => (PySem.W.kit_cls KI X.me).2.1
  ne := fun h tp dd its n sl KI g => by
    refine Bool.eq_false_iff.mpr fun z => ?_
    have z' := Value.ref.inj (beq_iff_eq.mp z)
    subst z'
    have m := X.be
    unfold PySem.W.mroIn PySem.W.clsIn at m
    cases q : List.lookup C K with
    | none => rw [q] at m; cases m
    | some o =>
      have k := KI C o q
      rw [g] at k
      have k' := Option.some.inj k
      rw [q, ← k'] at m
      cases m
  ca := fun {prog w A E Q s} KI g h => exc_class KI X g c h
end
section
variable {X : Cx} {e C : Addr} {oe : Obj}
theorem vals_refs : ∀ {cs : List Addr} {us : List Value}, Vals (cs.map V.ref) us → us = cs.map Value.ref
  | [], _, .nil => rfl
  | c :: cs, _, .cons r t => by rw [vals_refs t]; exact congrArg (· :: cs.map Value.ref) r
/-- isinstance(e, ..) in the except suite -/
theorem call_isiX (c : oe.cls = .ref C) (L : ExcLook X.K C) : CallR (sfx X e oe) (.builtin "isinstance") (fun xs H Q => ∃ y b, xs = [.ref e, y] ∧ ((∃ B, y = .ref B ∧ PySem.W.kitOne X.K (.ref C) (.ref B) = some b) ∨ (∃ T, y = .ty T ∧ PySem.W.kitOne X.K (.ref C) (.type T) = some b) ∨
    (∃ (tp : Addr) (cs : List Addr), y = .ref tp ∧ H tp = some (.tup (cs.map V.ref)) ∧ PySem.W.kitAny X.K (.ref C) (cs.map Value.ref) = some b)) ∧ Q (.bl b) H) := by
  intro pins s σ H xs us Q I r h
  obtain ⟨y, b, rfl, hy, q⟩ := h
  have g := I.excObj
  have KI : X.K.In s.heap := I.kIn
  cases r with
  | cons rx r2 =>
    cases r2 with
    | cons ry r3 =>
      cases r3
      cases (show _ = Value.ref e from rx)
      have fin : ∀ tk, EP (sfx X e oe) pins σ Q (Value.bool b) { s with toks := tk } := fun tk => ⟨.bl b, H, I.tok tk, rfl, q⟩
      rcases hy with ⟨B, rfl, k⟩ | ⟨T, rfl, k⟩ | ⟨tp, cs, rfl, ht, k⟩
      · cases (show _ = Value.ref B from ry)
        exact PySem.W.kia_one (kitx_exc L c) KI g k (fun z => nomatch z) fin
      · cases (show _ = Value.type T from ry)
        exact PySem.W.kia_one (kitx_exc L c) KI g k (fun z => nomatch z) fin
      · cases (show _ = Value.ref tp from ry)
        obtain ⟨_, its, rv, ⟨cl, dd, dt, sl⟩, g2, g3, n, g4⟩ := I.hok tp _ ht
        have ei := vals_refs rv
        subst ei
        dsimp only at g3 g4
        subst g3 g4
        exact PySem.W.kia_tup (kitx_exc L c) KI g g2 k (fun z => nomatch z) fin
end
end L2

namespace L2
open PySem PySem.Spec PyProof.Rows
/-! ### f'{text!r} ..', a text times a number, find, join of more -/
section
variable {X : Cx}
def tFr (c : Str) (ta : TE) : TE := fun σ H Q => ta σ H fun x H1 => ∃ z : Str, x = .str z ∧ z.length ≤ 1000 ∧ (∀ n ∈ z.cps.toList, n < 16 ^ 8) ∧ c.length ≤ 1000 ∧ ∀ z2 : Str, Q (.str z2) H1
theorem len_app (x y : Str) : (x ++ y).length = x.length + y.length := by
  show (Str.append x y).cps.size = x.cps.size + y.cps.size
  unfold Str.append
  simp
theorem pe_fr {a : Expr} {ta : TE} {c : Str} {k : Nat} {p1 p2 pos : Pos} (ha : PE X a ta) : PE X (.JoinedStr [.FormattedValue a 114 none p1, .Constant (.str c) k p2] pos) (tFr c ta) := by
  intro pins s σ H Q I h
  refine wpAny_JoinedStr (Joins_cons (wpAny_FormattedValue_repr (thn (ha pins s σ H _ I h) fun v s1 ⟨x, H1, I1, r1, z, ez, hz, hc, hl, q⟩ => ?_)))
  subst ez
  obtain ⟨t, rfl⟩ := r1
  have hr := StrLaws.reprText_len z hc
  have hb : ∀ n, n ≤ 20000 → n ≤ sizeLine := fun n hn => Nat.le_trans hn (by decide)
  refine pyReprObj_str (formatField_str (fun t' tk => ?_) (hb _ (by omega))) (hb _ (by omega))
  have e0 : ∀ y : Str, (Str.empty ++ y).length = y.length := fun y => by rw [len_app]; show 0 + _ = _; omega
  refine ⟨_, _, rfl, hb _ (by rw [e0]; omega), Joins_cons ?_⟩
  have J : Inv X pins σ H1 { s1 with toks := tk } := I1.tok tk
  refine thn (pe_str (X := X) (x := c) (j := k) (pos := p2) pins { s1 with toks := tk } σ H1 (fun v H' => v = .str c ∧ H' = H1) J ⟨rfl, rfl⟩) fun v s2 ⟨y, H2, I2, r2, e1, e2⟩ => ?_
  subst e1 e2
  obtain ⟨t2, rfl⟩ := r2
  refine ⟨_, _, rfl, hb _ (by rw [len_app, e0]; omega), Joins_nil ⟨hb _ (by rw [len_app, e0]; omega), ?_⟩⟩
  exact ⟨.str _, H2, I2.tok _, ⟨_, rfl⟩, q _⟩
def rFind : V → List V → Hp → VK → Prop := fun x vs H Q => ∃ z y : Str, x = .str z ∧ vs = [.str y] ∧ Q (.int (Txt.find z y)) H
theorem mt_find : MtM X "str.find" rFind := by
  intro pins s σ H x vs v us Q I rx rv h
  obtain ⟨z, y, rfl, rfl, q⟩ := h
  obtain ⟨t, rfl⟩ := rx
  obtain ⟨u, rfl, ru⟩ := rv.one
  obtain ⟨t', rfl⟩ := ru
  exact PySem.SC.find ⟨.int _, H, I.tok _, ⟨_, rfl⟩, q⟩
theorem op_rep_str : OpR X (binaryOp .Mult) (fun x y H Q => ∃ z n, x = .str z ∧ y = .int n ∧ MulOk z n ∧ Q (.str (Txt.mul z n)) H) := by
  intro pins s σ H x y v u Q I rx ry h
  obtain ⟨z, n, rfl, rfl, hk, q⟩ := h
  obtain ⟨t, rfl⟩ := rx
  obtain ⟨t', rfl⟩ := ry
  exact PySem.SB.mul hk fun t' k => ⟨.str _, H, I.tok _, ⟨_, rfl⟩, q⟩
end
end L2

namespace L2
open PySem PySem.Spec PyProof.Rows
/-! ### own classes: methods bundled, instances made, a method of a class above called by that class's name; calls of these that may raise -/
theorem pass1 {P : Program} {w : World} {X : Cx} : Passes (CX1 P w) X E0 := fun _ _ _ _ _ _ _ h => by
  obtain ⟨_, _, _, _, _, _, _, _, _, _, _, _, _, _, _, q⟩ := h
  exact q.elim
/-- a method of the class at C, bundled -/
def MCallee (CX : CXT) (P : Program) (w : World) (K : PySem.W.Frag) (mg : Str → Option Value) (base : Heap) (k : Nat) (C : Addr) (m : Str) (ps : List Str) (sp : Sp) : Prop :=
  ∃ f fd, Meth K C m f ∧ FnOk P w K mg base CX k f fd ps sp ∧ Binds K fd ps []
/-- a class that can be made, bundled with its __init__ -/
def MkCallee (CX : CXT) (P : Program) (w : World) (K : PySem.W.Frag) (mg : Str → Option Value) (base : Heap) (k : Nat) (x : Str) (C : Addr) (ps : List Str) (sp : Sp) : Prop :=
  ∃ f fd, Mk K C f ∧ FnOk P w K mg base CX k f fd ps sp ∧ Binds K fd ps [] ∧ mg x = some (.ref C)
/-- what the text must have for B.m(..) -/
structure BaseM (K : PySem.W.Frag) (B : Addr) (m : Str) (f : Addr) : Prop where
  sp : PySem.W.specialIn K (.ref B) "__getattribute__" = some (some (.builtin "type.__getattribute__"))
  rd : PySem.W.readsIn K B (.type "type") = true
  at_ : PySem.W.findCls K (.ref B) (.type "type") m = some (.val (.ref f))
  kp : PySem.W.keepIn K (.ref f) = true
def BCallee (CX : CXT) (P : Program) (w : World) (K : PySem.W.Frag) (mg : Str → Option Value) (base : Heap) (k : Nat) (x : Str) (m : Str) (ps : List Str) (sp : Sp) : Prop :=
  ∃ f fd B, BaseM K B m f ∧ FnOk P w K mg base CX k f fd ps sp ∧ Binds K fd ps [] ∧ mg x = some (.ref B)
section
variable {CX : CXT} {P : Program} {w : World} {K : PySem.W.Frag} {mg : Str → Option Value} {base : Heap} {j k : Nat} {C : Addr} {x m : Str} {ps : List Str} {sp : Sp}
theorem MCallee.mono (c : MCallee CX P w K mg base j C m ps sp) (h : j ≤ k) : MCallee CX P w K mg base k C m ps sp :=
  let ⟨f, fd, M, F, b⟩ := c
  ⟨f, fd, M, F.mono h, b⟩
theorem MkCallee.mono (c : MkCallee CX P w K mg base j x C ps sp) (h : j ≤ k) : MkCallee CX P w K mg base k x C ps sp :=
  let ⟨f, fd, M, F, b⟩ := c
  ⟨f, fd, M, F.mono h, b⟩
theorem BCallee.mono (c : BCallee CX P w K mg base j x m ps sp) (h : j ≤ k) : BCallee CX P w K mg base k x m ps sp :=
  let ⟨f, fd, B, M, F, b⟩ := c
  ⟨f, fd, B, M, F.mono h, b⟩
end
/-- the readings -/
def tMt (C : Addr) (m : Str) (sp : Sp) (ta : TE) (t : TA) : TE := fun σ H Q => ta σ H fun x H1 => ∃ a dx fs, x = .ref a ∧ H1 a = some (.ins C dx fs) ∧ fs.lookup m = none ∧ t σ H1 fun vs H2 => sp (x :: vs) H2 Q E0
def tMk (C : Addr) (sp : Sp) (t : TA) : TE := fun σ H Q => t σ H fun vs H1 => ∀ x dx, H1 x = none → H1 dx = none → dx ≠ x →
  sp (.ref x :: vs) (upd (upd H1 dx (.own x)) x (.ins C dx [])) (fun v H2 => v = .non ∧ Q (.ref x) H2) E0
def tMtX (C : Addr) (m : Str) (sp : Sp) (ta : TE) (t : TA) : TX := fun σ H Q EX => ta σ H fun x H1 => ∃ a dx fs, x = .ref a ∧ H1 a = some (.ins C dx fs) ∧ fs.lookup m = none ∧ t σ H1 fun vs H2 => sp (x :: vs) H2 Q fun cv _ H3 => ∃ C', cv = .ref C' ∧ EX C' H3
def tMkX (C : Addr) (sp : Sp) (t : TA) : TX := fun σ H Q EX => t σ H fun vs H1 => ∀ x dx, H1 x = none → H1 dx = none → dx ≠ x →
  sp (.ref x :: vs) (upd (upd H1 dx (.own x)) x (.ins C dx [])) (fun v H2 => v = .non ∧ Q (.ref x) H2) fun cv _ H3 => ∃ C', cv = .ref C' ∧ EX C' H3
section
variable {X : Cx} {CX : CXT} {k : Nat} {f C : Addr} {fd : FuncData} {ps : List Str} {sp : Sp} {x m : Str} {p np pos apos : Pos} {e o : Expr} {es : List Expr} {ta : TE} {t : TA}
theorem run0 {pins : List (Addr × Obj)} {σ : St} {H : Hp} {s : Shared} {Q : VK} {us : List Value} {vs : List V} {E : XK} (F : FnOk X.prog X.w X.K X.mg X.base CX k f fd ps sp) (hr : Room k X.A) (hb : Binds X.K fd ps []) (hx : Passes CX X E)
    (I : Inv X pins σ H s) (r : Vals vs us) (h : sp vs H Q E) : wpAny (model X.prog X.w) X.A (call (.ref f) us) (EP X pins σ Q) X.xe s :=
  run_fn (dvs := []) (ds := []) F hr hb .nil hx I r (by rw [List.append_nil]; exact h)
/-- o.m() -/
theorem pe_mt0 {pl : Sem Bool} (M : MCallee CX X.prog X.w X.K X.mg X.base k C m ps sp) (hx : Passes CX X E0) (c : Cls X.K C) (hr : Room k X.A) (he : PE X o ta)
    (ht : eval (.Call (.Attribute o m apos) [] [] pos) X.env = (do
      let ov ← eval o X.env
      standAt apos.atName
      let (f, first) ← holding [ov] (getMethod ov m pl)
      callWith pos f first (backTo pos (starEach [] X.env)) (backToKw pos (keywordEach [] X.env))) := by rfl) :
    PE X (.Call (.Attribute o m apos) [] [] pos) (tMt C m sp ta tNil) := by
  obtain ⟨f, fd, hm, F, hb⟩ := M
  intro pins s σ H Q I h
  refine PySem.W.methodCall_KW (pl := pl) (thn (he pins s σ H _ I h) fun u s1 ⟨x, H1, I1, rx, a, dx, fs, ex, ea, l, q⟩ => ?_) ht
  subst ex
  obtain rfl : u = Value.ref a := rx
  refine getmeth_ok I1 ea c hm l ?_
  exact PySem.W.callWith_K0 (first := [.ref a]) I1.kIn hm.kp (run0 (us := [.ref a]) (vs := [.ref a]) F hr hb hx I1 (.cons rfl .nil) q)
/-- B.m(e, ..), m of the class B -/
theorem pe_base {pl : Sem Bool} (M : BCallee CX X.prog X.w X.K X.mg X.base k x m ps sp) (hx : Passes CX X E0) (hr : Room k X.A) (hg : Gl X x) (ha : PA X (e :: es) t) (hdb : (x == ("__debug__" : Str)) = false := by decide)
    (hst : starEach (e :: es) X.env = (false, eval e X.env) :: starEach es X.env := by rfl) (hpl : (backTo pos (starEach es X.env)).any (·.1) = false := by rfl)
    (ht : eval (.Call (.Attribute (.Name x np) m apos) (e :: es) [] pos) X.env = (do
      let ov ← eval (.Name x np) X.env
      standAt apos.atName
      let (f, first) ← holding [ov] (getMethod ov m pl)
      callWith pos f first (backTo pos (starEach (e :: es) X.env)) (backToKw pos (keywordEach [] X.env))) := by rfl) :
    PE X (.Call (.Attribute (.Name x np) m apos) (e :: es) [] pos) (tFn sp t) := by
  obtain ⟨f, fd, B, hB, F, hb, hm⟩ := M
  intro pins s σ H Q I h
  refine PySem.W.methodCall_KW (pl := pl) (ld_glob I hg hm ?_ hdb) ht
  refine PySem.W.method_cls I.kIn hB.sp (PySem.W.cls_value (mc := .type "type") I.kIn hB.rd hB.at_ (handed_of (v := .ref f) rfl) ?_)
  refine PySem.W.callWith_K (first := []) (h₀ := X.base) I.ok.mod.kin hB.kp (thn (ha pos pins _ σ H _ (I.tok _) h) fun us s2 ⟨vs, H2, I2, r, q2⟩ => ⟨I2.kIn, ?_⟩) hst hpl
  exact run0 (us := us) (vs := vs) F hr hb hx I2 r q2
/-- C(e, ..) -/
theorem pe_mk (M : MkCallee CX X.prog X.w X.K X.mg X.base k x C ps sp) (hx : Passes CX X E0) (hr : Room (k + 1) X.A) (hg : Gl X x) (ha : PA X (e :: es) t) (hdb : (x == ("__debug__" : Str)) = false := by decide)
    (he : starEach (e :: es) X.env = (false, eval e X.env) :: starEach es X.env := by rfl) (hpl : (backTo pos (starEach es X.env)).any (·.1) = false := by rfl) :
    PE X (.Call (.Name x p) (e :: es) [] pos) (tMk C sp t) := by
  obtain ⟨f, fd, M, F, hb, hm⟩ := M
  have h := pe_make (E := E0) (dvs := []) (ds := []) (p := p) M F hr hg hm hb .nil hx ha hdb he hpl
  intro pins s σ H Q I q
  refine h pins s σ H Q I ?_
  have q' : t σ H fun vs H1 => ∀ x dx, H1 x = none → H1 dx = none → dx ≠ x → sp (.ref x :: vs) (upd (upd H1 dx (.own x)) x (.ins C dx [])) (fun v H2 => v = .non ∧ Q (.ref x) H2) E0 := q
  show t σ H fun vs H1 => ∀ x dx, H1 x = none → H1 dx = none → dx ≠ x → sp (.ref x :: (vs ++ [])) (upd (upd H1 dx (.own x)) x (.ins C dx [])) (fun v H2 => v = .non ∧ Q (.ref x) H2) E0
  have e1 : (fun (vs : List V) (H1 : Hp) => ∀ x dx, H1 x = none → H1 dx = none → dx ≠ x → sp (.ref x :: (vs ++ [])) (upd (upd H1 dx (.own x)) x (.ins C dx [])) (fun v H2 => v = .non ∧ Q (.ref x) H2) E0) = fun vs H1 => ∀ x dx, H1 x = none → H1 dx = none → dx ≠ x → sp (.ref x :: vs) (upd (upd H1 dx (.own x)) x (.ins C dx [])) (fun v H2 => v = .non ∧ Q (.ref x) H2) E0 := by
    funext vs H1
    rw [List.append_nil]
  rw [e1]
  exact q'
end
/-! f'{value!r} ..' of a plain value -/
/-- what can be shown: none, a bool, a number of few figures, a text of small signs -/
inductive Shw : V → Prop where
  | non : Shw .non
  | bl (b : Bool) : Shw (.bl b)
  | int {i : Int} (h : i.natAbs < 10 ^ 60) : Shw (.int i)
  | str {z : Str} (h : z.length ≤ 1000) (k : ∀ n ∈ z.cps.toList, n < 16 ^ 8) : Shw (.str z)
theorem log_sm {n : Int} (h : n.natAbs < 10 ^ 60) : n.natAbs.log2 < 1920 := by
  by_cases z : n.natAbs = 0
  · rw [z]; decide
  · have := (Nat.log2_lt (k := 200) z).mpr (Nat.lt_trans h (by decide))
    omega
section
variable {X : Cx}
def tFrV (c : Str) (ta : TE) : TE := fun σ H Q => ta σ H fun x H1 => Shw x ∧ c.length ≤ 1000 ∧ ∀ z2 : Str, Q (.str z2) H1
end
/-! == of two tuples -/
def rEqT (K : PySem.W.Frag) (neg : Bool) : R2 := fun x y H Q => ∃ a b xs ys, x = .ref a ∧ y = .ref b ∧ SqT K H a xs ∧ SqT K H b ys ∧
  ∃ f : Nat → Bool, (∀ j x y, xs[j]? = some x → ys[j]? = some y → EqI K H x y (f j)) ∧ Q (.bl (if neg then !((List.range (min xs.length ys.length)).all f && xs.length == ys.length) else (List.range (min xs.length ys.length)).all f && xs.length == ys.length)) H
section
variable {X : Cx}
end
end L2

namespace L2
open PySem PySem.Spec PyProof.Rows
/-! ### set(list) for keys of any kind; len(set) -/
section
variable {κ : Type} [DecidableEq κ]
/-- how many different keys stand ahead of place i -/
def cntK (ks : List κ) : Nat → Nat
  | 0 => 0
  | i + 1 => match ks[i]? with
    | some k => if k ∈ ks.take i then cntK ks i else cntK ks i + 1
    | none => cntK ks i
theorem cntK_le (ks : List κ) : ∀ i, cntK ks i ≤ i
  | 0 => Nat.le_refl _
  | i + 1 => by
    have ih := cntK_le ks i
    unfold cntK
    split
    · split <;> omega
    · omega
theorem cntK_full (ks : List κ) : ∀ i, i ≤ ks.length → (cntK ks i = i ↔ (ks.take i).Nodup)
  | 0, _ => by simp [cntK]
  | i + 1, h => by
    have ih := cntK_full ks i (by omega)
    have le := cntK_le ks i
    have e : ks[i]? = some ks[i] := List.getElem?_eq_getElem (by omega)
    have et : ks.take (i + 1) = ks.take i ++ [ks[i]] := by rw [List.take_add_one, e]; rfl
    unfold cntK
    rw [e, et, List.nodup_append]
    dsimp only
    by_cases m : ks[i] ∈ ks.take i
    · rw [if_pos m]
      exact ⟨fun z => absurd z (by omega), fun z => absurd rfl (z.2.2 _ m _ (by simp))⟩
    · rw [if_neg m]
      refine ⟨fun z => ⟨ih.mp (by omega), by simp, fun a ha b hb => ?_⟩, fun z => by rw [ih.mpr z.1]⟩
      rw [show b = ks[i] by simpa using hb]
      exact fun q => m (q ▸ ha)
variable {prog : Program} {w : World} {A : Around} {E : Value → Shared → Prop} {s : Shared} {knd : KeyKind prog w κ}
theorem setOf_stay {h h' : Heap} {a : Addr} {S : κ → Bool} {n : Nat} (x : h.SetOf knd a S n) (k : ∀ o, h.get? a = some o → h'.get? a = some o) : h'.SetOf knd a S n := by
  obtain ⟨o, es, ep, t, ho, r⟩ := x
  exact ⟨o, es, ep, t, k o ho, r⟩
theorem setOf_as {h : Heap} {a : Addr} {S S' : κ → Bool} {n n' : Nat} (x : h.SetOf knd a S n) (e1 : S = S') (e2 : n = n') : h.SetOf knd a S' n' := e1 ▸ e2 ▸ x
/-- the loop that puts the walked items in -/
theorem fill_loop {R : Result → Shared → Prop} {I : Addr} {fp wr : List Addr} {G : Array GenState → Array GenState → Prop} {n : Nat} {P : Nat → Value → Prop} {St : Nat → Shared → Prop} (W : WalksS prog w A.in1 I fp wr G n P St) {a : Addr} (ha : a ∉ fp) {ks : List κ}
    (hv : ∀ i v, P i v → ∃ k, ks[i]? = some k ∧ knd.is k v = true ∧ v.scannable = true) (hb : n + 1 < scanBound) : ∀ (d i : Nat) (s : Shared), n = i + d → St i s → s.heap.SetOf knd a (fun k => decide (k ∈ ks.take i)) (cntK ks i) →
      (∀ s', Moved (a :: wr) G s s' → s'.heap.SetOf knd a (fun k => decide (k ∈ ks.take n)) (cntK ks n) → R (.ok (.ret .none)) s') → codeAny (model prog w) A (.builtin "set.update.loop" ⟨[.ref a, .ref I], []⟩) R s := by
  have hw : a ∉ wr := fun z => ha (W.sub a z)
  intro d
  induction d with
  | zero =>
    intro i s e st x fin
    rw [show n = i by omega] at W fin
    refine codeAny_builtin (R := R) (A := A) F.entry_set_update_loop ?_
    rw [Around.under_plainId (A := A) F.plain_set_update_loop _]
    show wpAny (model prog w) A.in1 (pyNext (.ref I) >>= _) _ _ s
    exact wpAny_bind (W.done s _ _ st fun s' m => wpAny_pure (fin s' (m.mono fun b hb => List.mem_cons_of_mem a hb) (setOf_stay x fun o q => m.heap a o hw q)))
  | succ d ih =>
    intro i s e st x fin
    refine codeAny_builtin (R := R) (A := A) F.entry_set_update_loop ?_
    rw [Around.under_plainId (A := A) F.plain_set_update_loop _]
    show wpAny (model prog w) A.in1 (pyNext (.ref I) >>= _) _ _ s
    refine wpAny_bind (W.item i s _ _ (by omega) st fun v s1 p st1 m => ?_)
    obtain ⟨k, ek, ik, sc⟩ := hv i v p
    have x1 := setOf_stay x fun o q => m.heap a o hw q
    show wpAny (model prog w) A.in1 (holding [v] (setAdd a v) >>= _) _ _ s1
    refine wpAny_bind (wpAny_holding (show wpAny (model prog w) A.in1 (setAdd a v) _ _ s1 from ?_))
    unfold setAdd
    refine wpAny_holding (wpAny_bind (knd.pyHash ik ?_))
    have le := cntK_le ks i
    refine wpAny_setAddHashed_of (knd := knd) (s := { s1 with toks := s1.toks + 1 }) ik sc x1 (by omega) fun h' sb x2 => ?_
    have et : ks.take (i + 1) = ks.take i ++ [k] := by rw [List.take_add_one, ek]; rfl
    have x3 : h'.SetOf knd a (fun q => decide (q ∈ ks.take (i + 1))) (cntK ks (i + 1)) := by
      refine setOf_as x2 (funext fun q => ?_) ?_
      · rw [et]
        by_cases z : q ∈ ks.take i <;> by_cases y : q = k <;> simp [z, y]
      · show (if decide (k ∈ ks.take i) = true then cntK ks i else cntK ks i + 1) = match ks[i]? with | some k => if k ∈ ks.take i then cntK ks i else cntK ks i + 1 | none => cntK ks i
        rw [ek]
        by_cases z : k ∈ ks.take i <;> simp [z]
    refine wpAny_pure ⟨plainId_quiet F.plain_set_update_loop _, ih (i + 1) { s1 with heap := h', toks := s1.toks + 1 } (by omega) (W.frame (i + 1) s1 h' (s1.toks + 1) st1 (Nat.le_succ _) fun b hbf o q => (sb.2 b fun z => ha (z ▸ hbf)).trans q) x3 fun s2 m2 x4 => ?_⟩
    refine fin s2 (Moved.trans W.gtrans ((m.mono fun b hb => List.mem_cons_of_mem a hb).then_heap (Nat.le_succ _) fun b o hbn q => ?_) m2) x4
    exact (sb.2 b fun z => hbn (z ▸ List.mem_cons_self)).trans q
/-- a set as it is made -/
abbrev newS (led : Bool) : Obj := { cls := .type "set", dict := none, data := .set #[] 0 (.fresh 0 0 led) }
/-- what is told behind set(..) -/
def Filled (knd : KeyKind prog w κ) (s : Shared) (ks : List κ) (h' : Heap) : Prop :=
  h'.SetOf knd s.heap.objs.size (fun k => decide (k ∈ ks)) (cntK ks ks.length) ∧ ∀ b o, b < s.heap.objs.size → s.heap.get? b = some o → h'.get? b = some o
/-- __init__ of the new set walks the list -/
theorem init_set {l : Addr} {items : Array Value} {ks : List κ} {led : Bool} (hh : A.handled = none) (hl : s.heap.IsList l items) (hk : ∀ (i : Nat) (v : Value), items[i]? = some v → ∃ k, ks[i]? = some k ∧ knd.is k v = true ∧ v.scannable = true) (hn : ks.length = items.size) (hb : items.size + 1 < scanBound) :
    codeAny (model prog w) A (.call (.builtin "set.__init__") ⟨[.ref s.heap.objs.size, .ref l], []⟩) (wants (fun r s2 => r = .none ∧ ∃ h' tk, s2 = { s with heap := h', toks := tk } ∧ Filled knd s ks h') E) { s with heap := s.heap.push (newS led) } := by
  have g0 : (s.heap.push (newS led)).get? s.heap.objs.size = some (newS led) := Heap.get?_push_size s.heap rfl
  have ty : Shared.TypeIs { s with heap := s.heap.push (newS led) } (.ref s.heap.objs.size) "set" := ⟨newS led, g0, rfl⟩
  refine codeAny_call_builtin F.called_set.init.plain F.entry_set_init (check_set_init_1 ty ?_)
  obtain ⟨⟨c1, c2, c3, c4⟩, ho, hc, m, hd⟩ := hl
  dsimp only at hc hd
  subst hc hd
  have g1 : (s.heap.push (newS led)).get? l = some { cls := .type "list", dict := c2, data := .seq items m, slots := c4 } := Heap.get?_push_of_some _ ho
  have y1 := F.sub_list_set
  have y2 := F.sub_list_frozenset
  have y3 : (Value.type "list" == Value.type "dict") = false := by decide
  have l1 : (s.heap.push (newS led)).IsList l items := ⟨_, g1, rfl, m, rfl⟩
  have lt : l < s.heap.objs.size := Heap.lt_size ho
  unfold Builtin.«set.__init__» Builtin.Frozenset.updateFrom noKeywords
  generalize hI : pyIter = it
  wp_walk
  subst hI
  refine wpAny_pyIter_list l1 (wpAny_bind (wpAny_runValue ?_))
  have nl : l ≠ (s.heap.push (newS led)).objs.size := by rw [Heap.size_push]; exact Nat.ne_of_lt (Nat.lt_succ_of_lt lt)
  have nf : s.heap.objs.size ∉ [(s.heap.push (newS led)).objs.size, l] := by
    rw [Heap.size_push]
    intro z
    rcases List.mem_cons.mp z with z | z
    · exact absurd z (Nat.ne_of_lt (Nat.lt_succ_self _))
    · exact absurd (by simpa using z) (Nat.ne_of_gt lt)
  refine fill_loop (knd := knd) ((Walks.list (by simp [hh]) _ l nl items).toS) nf (ks := ks) hk hb items.size 0 _ (Nat.zero_add _).symm ⟨⟨_, Heap.get?_push_size _ rfl, rfl, rfl⟩, l1.push _⟩ (setOf_as ((setObjOf_fresh (knd := knd) led).setOf (Heap.get?_push_of_some _ g0) (by unfold scanBound; omega)) (funext fun k => by simp) rfl) fun s' mv x => ?_
  obtain ⟨h', g', d', t', o'⟩ := s'
  obtain rfl : g' = s.gens := mv.gens
  obtain rfl : d' = s.drawn := mv.drawn
  obtain rfl : o' = s.os := mv.os
  refine wpAny_pure (show wpAny (model prog w) _ (ret Value.none) _ _ _ from wpAny_pure ⟨rfl, h', t', rfl, ?_, fun b o hb' q => ?_⟩)
  · rw [← hn] at x
    exact setOf_as x (funext fun k => by rw [List.take_length]) rfl
  · refine mv.heap b o (fun z => ?_) (Heap.get?_push_of_some _ (Heap.get?_push_of_some _ q))
    rcases List.mem_cons.mp z with z | z
    · exact absurd z (Nat.ne_of_lt hb')
    · have z2 : b = (s.heap.push (newS led)).objs.size := by simpa using z
      rw [Heap.size_push] at z2
      exact absurd z2 (Nat.ne_of_lt (Nat.lt_succ_of_lt hb'))
set_option maxRecDepth 100000 in
theorem call_setK {l : Addr} {items : Array Value} {ks : List κ} {Q : Value → Shared → Prop} (hh : A.handled = none) (hl : s.heap.IsList l items) (hk : ∀ (i : Nat) (v : Value), items[i]? = some v → ∃ k, ks[i]? = some k ∧ knd.is k v = true ∧ v.scannable = true) (hn : ks.length = items.size) (hb : items.size + 1 < scanBound)
    (h : ∀ h' tk, Filled knd s ks h' → Q (.ref s.heap.objs.size) { s with heap := h', toks := tk }) : wpAny (model prog w) A (call (.type "set") [.ref l]) Q E s := by
  obtain ⟨c, tl, mro⟩ := F.called_set.mro
  have a1 := F.called_set.made
  have a2 := F.called_set.sub
  have a3 := F.called_set.notType
  have a4 := F.called_set.canCreate
  have a5 := F.typeCall_set_1 (.ref l)
  refine wpAny_call (codeAny_of_tree (show wpAny (model prog w) _ (callAny (.type "set") _) _ _ _ from wpAny_pure ⟨Code.quiet_builtin _ (by decide +kernel), codeAny_builtin F.entry_type_call ?_⟩))
  rw [Around.under_plain (A := A) (weight_type_call_type "set" [.ref l] []) rfl]
  repeat (any_goals (first | assumption | wp_step))
  refine codeAny_mono (code_set_new_1 (.ref l) (E := E) (Q₁ := fun ob s1 => ∃ led, ob = .ref s.heap.objs.size ∧ s1 = { s with heap := s.heap.push (newS led) }) fun led => ⟨led, rfl, rfl⟩) fun r s1 hr => ?_
  cases r with
  | error e => exact hr
  | ok fl =>
    cases fl with
    | ret ob =>
      obtain ⟨led, rfl, rfl⟩ := hr
      have g0 : (s.heap.push (newS led)).get? s.heap.objs.size = some (newS led) := Heap.get?_push_size s.heap rfl
      have ty : Shared.TypeIs { s with heap := s.heap.push (newS led) } (.ref s.heap.objs.size) "set" := ⟨newS led, g0, rfl⟩
      have b1 := F.called_set.init.lookup
      have b2 := F.called_set.init.bind (.ref s.heap.objs.size)
      repeat (any_goals (first | assumption | wp_step))
      refine codeAny_mono (init_set (E := E) (knd := knd) (by simp [hh]) hl hk hn hb) fun r2 s2 hr2 => ?_
      cases r2 with
      | error e => exact hr2
      | ok f2 =>
        cases f2 with
        | ret r =>
          obtain ⟨rfl, h', tk, rfl, x⟩ := hr2
          repeat (any_goals (first | assumption | wp_step))
          exact h h' tk x
        | _ => exact hr2.elim
    | _ => exact hr.elim
end
/-! the layer's rules -/
/-- a set of texts -/
def SetO (P : Program) (w : World) (a : Addr) (zs : List Str) : HO := .ext fun h => h.SetOf (strKind P w) a (fun z => decide (z ∈ zs)) (cntK zs zs.length)
section
variable {X : Cx}
theorem vals_strs : ∀ {zs : List Str} {us : List Value}, Vals (zs.map V.str) us → ∀ (i : Nat) (v : Value), us[i]? = some v → ∃ z t, zs[i]? = some z ∧ v = .str z t
  | [], _, .nil, i, v, h => by simp at h
  | z :: zs, _, .cons ⟨t, e⟩ r, 0, v, h => by simp at h; exact ⟨z, t, rfl, by rw [← h, e]⟩
  | z :: zs, _, .cons _ r, i + 1, v, h => by
    obtain ⟨z', t, e1, e2⟩ := vals_strs r i v (by simpa using h)
    exact ⟨z', t, by simpa using e1, e2⟩
/-- set(xs) of a list of texts -/
theorem call_set_strs (hc : X.calm = true) : CallR X (.type "set") (fun xs H Q => ∃ (p : Addr) (zs : List Str), xs = [.ref p] ∧ SqL X.K H p (zs.map V.str) ∧ zs.length ≤ 1000 ∧ ∀ l, H l = none → Q (.ref l) (upd H l (SetO X.prog X.w l zs))) := by
  intro pins s σ H xs us Q I r h
  obtain ⟨p, zs, rfl, hS, hz, q⟩ := h
  obtain ⟨u, rfl, ru⟩ := r.one
  obtain rfl : u = Value.ref p := ru
  obtain ⟨its, rv, pl, _⟩ := I.list hS
  have hl := rv.length
  rw [List.length_map] at hl
  refine call_setK (knd := strKind X.prog X.w) (ks := zs) (I.ok.hd hc) pl.isList (fun i v e => ?_) (by simpa using hl) (by unfold scanBound; simp; omega) fun h' tk x => ?_
  · obtain ⟨z, t, e1, rfl⟩ := vals_strs rv i v (by simpa using e)
    exact ⟨z, e1, by show Value.isStrOf z (.str z t) = true; simp [Value.isStrOf], rfl⟩
  · obtain ⟨x1, x2⟩ := x
    refine ⟨.ref s.heap.objs.size, _, I.laid (a := s.heap.objs.size) (o := SetO X.prog X.w s.heap.objs.size zs) (h' := h') (t' := tk) (fun b o q => x2 b o (Heap.lt_size q) q) (Nat.le_refl _) ?_, rfl, q _ I.fresh⟩
    refine ⟨x1, ?_, fun h1 h2 y k => setOf_stay y k⟩
    obtain ⟨o, _, _, _, g, _⟩ := x1
    exact ⟨o, g⟩
end
end L2

namespace L2
open PySem PySem.Spec PyProof.Rows
/-! ### exceptions that pass through loops and callers -/
/-- as ExcT, with the flight of the trace's head -/
def ExcF (h : Heap) (e T : Addr) (cls a0 fl : Value) : Prop :=
  ∃ oe vs oT ts, h.get? e = some oe ∧ (oe.cls = cls ∧ vs[0]? = some a0) ∧ oe.data = .fields vs ∧ vs[1]? = some (.ref T) ∧ T ≠ e ∧ h.get? T = some oT ∧ oT.data = .fields ts ∧ ts[3]? = some fl
/-- an exception in the frame at L: just made, flying, or held there -/
inductive ExcS (h : Heap) (L e : Addr) (cls a0 : Value) : List Addr → Prop where
  | fresh {oe : Obj} {vs : Array Value} (he : h.get? e = some oe) (hc : oe.cls = cls) (hd : oe.data = .fields vs) (h1 : vs[1]? = some Value.none) (h0 : vs[0]? = some a0) : ExcS h L e cls a0 []
  | fly {T : Addr} (x : ExcF h e T cls a0 .none) : ExcS h L e cls a0 [T]
  | held {T : Addr} (x : ExcF h e T cls a0 (rawInt L)) : ExcS h L e cls a0 [T]
section
variable {M : Model} {A : Around} {E : Value → Shared → Prop} {s : Shared} {base : Heap} {env : Env} {outer : List Env} {L e T : Addr} {a0 cls fl : Value} {Q : Unit → Shared → Prop} {Ts : List Addr}
theorem Stp.refl (F Y : List Addr) (h : Heap) : Stp F Y h h := ⟨fun _ _ _ _ q => q, fun _ o _ q => ⟨o.slots, q⟩⟩
/-- the frame's entry is there behind it -/
theorem note (hf : A.frames = some (env :: outer)) (ff : s.heap.FunFrames base (env :: outer)) (hL : env.frame = some L) (x : ExcS s.heap L e cls a0 Ts)
    (h : ∀ h' T', Stp (frs (env :: outer)) (e :: Ts) s.heap h' → ExcF h' e T' cls a0 (rawInt L) → (s.heap.get? T' = none ∨ T' ∈ Ts) → Q () { s with heap := h' }) : wpAny M A (noteFrame (.ref e) env) Q E s := by
  cases x with
  | @fresh oe vs he hc hd h1 h0 =>
    unfold noteFrame
    simp only [hL]
    refine wpAny_bind (wpAny_field he hd h1 ?_)
    rw [if_neg (by decide)]
    refine wpAny_entryW (base := PySem.W.hideAll s.heap ([e] ++ frs (env :: outer))) hf (hid_frames _ ff) hL he (fun b o q => PySem.W.of_hideAll _ q) (PySem.W.hideAll_none _ (by simp)) hd (Array.getElem?_eq_some_iff.mp h1).1 h0 fun h' lw => ?_
    obtain ⟨st, _, ⟨oe', vs', T, oT, ts, t1, t2, t3, t4, t5, t6, t7, t8, t9⟩, up⟩ := lw
    have hslot : ∀ b o, b ∈ frs (env :: outer) → s.heap.get? b = some o → ∃ sl, h'.get? b = some { o with slots := sl } := fun b o hb q => by
      obtain ⟨_, o2, q2, nf⟩ := ff.mem hb
      rw [q] at q2; cases q2
      exact up b o q nf
    refine h h' T ⟨fun b o hb hx q => st b o (PySem.W.hideAll_get _ q (by simp only [List.mem_append]; exact fun z => z.elim hx hb)), hslot⟩ ⟨oe', vs', oT, ts, t1, ⟨t2.1.trans hc, t2.2⟩, t3, t4, t6, t7, t8, t9⟩ ?_
    rcases new_head ff t5 hslot t7 t8 with z | z
    · exact .inl z
    · exact absurd (by simpa using z) t6
  | @fly T x =>
    obtain ⟨oe, vs, oT, ts, x1, x2, x3, x4, x5, x6, x7, x8⟩ := x
    refine wpAny_noteFrame_onW (base := PySem.W.hideAll s.heap ([e, T] ++ frs (env :: outer))) hf (hid_frames _ ff) hL ⟨oe, vs, T, oT, ts, x1, x2, x3, x4, PySem.W.hideAll_none _ (by simp), x5, x6, x7, x8⟩ (fun b o q => PySem.W.of_hideAll _ q) (PySem.W.hideAll_none _ (by simp)) fun h' lw => ?_
    obtain ⟨st, _, ⟨oe', vs', T', oT', ts', t1, t2, t3, t4, t5, t6, t7, t8, t9⟩, up⟩ := lw
    have hslot : ∀ b o, b ∈ frs (env :: outer) → s.heap.get? b = some o → ∃ sl, h'.get? b = some { o with slots := sl } := fun b o hb q => by
      obtain ⟨_, o2, q2, nf⟩ := ff.mem hb
      rw [q] at q2; cases q2
      exact up b o q nf
    refine h h' T' ⟨fun b o hb hx q => st b o (PySem.W.hideAll_get _ q (by simp only [List.mem_append]; exact fun z => z.elim hx hb)), hslot⟩ ⟨oe', vs', oT', ts', t1, t2, t3, t4, t6, t7, t8, t9⟩ ?_
    rcases new_head ff t5 hslot t7 t8 with z | z
    · exact .inl z
    · rcases List.mem_cons.mp z with z | z
      · exact absurd z t6
      · exact .inr z
  | @held T x =>
    obtain ⟨oe, vs, oT, ts, x1, x2, x3, x4, x5, x6, x7, x8⟩ := id x
    exact wpAny_noteFrame_againW (base := PySem.W.hideAll s.heap [T]) hL ⟨oe, vs, T, oT, ts, x1, x2, x3, x4, PySem.W.hideAll_none _ (by simp), x5, x6, x7, x8⟩ (h s.heap T (Stp.refl _ _ _) x (.inr (by simp)))
/-- the head's flight is set -/
theorem flyTo {fr : Option Addr} {l : List Env} (ff : s.heap.FunFrames base l) (x : ExcF s.heap e T cls a0 fl) (h : ∀ h', Stp (frs l) [e, T] s.heap h' → ExcF h' e T cls a0 (fr.elim Value.none fun f => rawInt f) → Q () { s with heap := h' }) : wpAny M A (setFlight (.ref e) fr) Q E s := by
  obtain ⟨oe, vs, oT, ts, x1, x2, x3, x4, x5, x6, x7, x8⟩ := x
  have sz : 3 < ts.size := (Array.getElem?_eq_some_iff.mp x8).1
  have oth : ∀ b, b ≠ T → (s.heap.update T (Obj.mapFields (·.setIfInBounds 3 (fr.elim Value.none fun f => rawInt f)))).get? b = s.heap.get? b := fun b hb => Heap.get?_update_other _ _ (Ne.symm hb)
  unfold setFlight
  refine wpAny_bind (wpAny_field x1 x3 x4 ?_)
  rw [if_pos (show (Value.ref T != Value.none) = true by simp)]
  refine wpAny_setField x6 x7 sz (h _ ⟨fun b o hb hx q => (oth b fun z => hx (by simp [z])).trans q, fun b o hb q => ?_⟩ ⟨oe, vs, _, _, (oth e (Ne.symm x5)).trans x1, x2, x3, x4, x5, Heap.get?_update_self _ x6 (Obj.isFreed_of_fields (Obj.data_mapFields x7 _)), Obj.data_mapFields x7 _, by simp [sz]⟩)
  obtain ⟨_, o2, q2, nf⟩ := ff.mem hb
  rw [q] at q2; cases q2
  exact ⟨o.slots, (oth b fun z => nf ts (by rw [z, x6] at q; cases q; exact x7)).trans q⟩
end
section
variable {X : Cx} {pins : List (Addr × Obj)} {σ : St} {H : Hp} {s : Shared} {h' : Heap} {Y : List Addr}
theorem Inv.excStepY (I : Inv X pins σ H s) (st : Stp (frs X.stack) Y s.heap h') (nY : ∀ b ∈ Y, NewAt X pins H b) : Inv X pins σ H { s with heap := h' } := by
  have hsub : ∀ b, b ≠ X.env.locals → b ∉ X.fs → b ∉ frs X.stack := fun b h1 h2 z => (List.mem_cons.mp (I.stkSub b z)).elim h1 h2
  have entY : ∀ b o, X.s₀.heap.get? b = some o → b ∉ Y := fun b o q z => by rw [(nY b z).ent] at q; cases q
  have neL : ∀ b o, X.s₀.heap.get? b = some o → b ≠ X.env.locals := fun b o q => Nat.ne_of_lt (Nat.lt_of_lt_of_le (Heap.lt_size q) I.ok.above)
  have any : ∀ b o, b ∉ Y → s.heap.get? b = some o → ∃ sl, h'.get? b = some { o with slots := sl } := fun b o hy q => by
    by_cases hF : b ∈ frs X.stack
    · exact st.slot b o hF q
    · exact ⟨o.slots, st.keep b o hF hy q⟩
  have cellK : ∀ x c, X.env.cells.lookup x = some c → ∀ v, s.heap.IsCell c v → h'.IsCell c v := fun x c ec v ⟨o, ho, hd⟩ => by
    obtain ⟨sl, q⟩ := any c o (fun z => (nY c z).cel x c ec rfl) ho
    exact ⟨_, q, hd⟩
  refine ⟨I.ok, I.os, I.bare, ⟨fun b o q n hb hxx => ?_, fun b o q n hb hxx => ?_, I.base.free, fun b o q hxx => ?_, I.base.tups, I.base.frzs, I.base.tbls⟩, ?_, fun x c ec => ?_, I.free, I.freeC, fun p hp => ?_, I.hok.stp st I.stkFree (fun b hb => (nY b hb).unt), I.len⟩
  · exact st.keep b o (hsub b (neL b o q) hb) (entY b o q) (I.base.keep b o q n hb hxx)
  · obtain ⟨sl, q1⟩ := I.base.slot b o q n hb hxx
    obtain ⟨sl2, q2⟩ := any b _ (entY b o q) q1
    exact ⟨sl2, q2⟩
  · obtain ⟨o1, q1⟩ := I.base.there b o q hxx
    obtain ⟨sl2, q2⟩ := any b _ (entY b o q) q1
    exact ⟨_, q2⟩
  · obtain ⟨m, ⟨oL, es, ep, hoL, r⟩, hl⟩ := I.loc
    obtain ⟨sl, q⟩ := any X.env.locals oL (fun z => (nY _ z).loc rfl) hoL
    refine ⟨m, ⟨_, es, ep, q, r⟩, fun i x v e1 e2 e3 => ?_⟩
    obtain ⟨u, ru, l⟩ := hl i x v e1 e2 e3
    refine ⟨u, ru, ?_⟩
    rcases l with l | ⟨k, c, ec, z⟩
    · exact .inl l
    · exact .inr ⟨k, c, ec, cellK x c ec _ z⟩
  · obtain ⟨v, z⟩ := I.cell x c ec
    exact ⟨v, cellK x c ec v z⟩
  · obtain ⟨q, n, nL, nf, d⟩ := I.pin p hp
    exact ⟨st.keep p.1 p.2 (hsub p.1 nL nf) (fun z => (nY _ z).pin p hp rfl) q, n, nL, nf, d⟩
end
/-- what is wanted of an exception in a def's body: it lies as ExcS tells, the state is that of the body -/
def XEof (X : Cx) (L : Addr) (E : XK) : Value → Shared → Prop := fun ev s' => ∃ (e C : Addr) (a0 : Value) (Ts : List Addr) (pins : List (Addr × Obj)) (σ : St) (H' : Hp), ev = .ref e ∧ Inv X pins σ H' s' ∧ ExcS s'.heap L e (.ref C) a0 Ts ∧ (∀ b ∈ e :: Ts, NewAt X pins H' b) ∧ E (.ref C) none H'
theorem passes_XE {X : Cx} {L : Addr} {E : XK} (hst : X.stack = X.env :: X.outer) (hfr : X.env.frame = some L) (hx : X.ex = []) : PassesOwn (model X.prog X.w) X.A X.env (XEof X L E) := by
  rintro ev s1 ⟨e, C, a0, Ts, pins, σ, H, rfl, I, x, ny, q⟩
  have fr1 : X.A.frames = some (X.env :: X.outer) := by rw [← hst]; exact I.ok.frames
  have ff1 : s1.heap.FunFrames X.base (X.env :: X.outer) := by rw [← hst]; exact I.stack
  refine note fr1 ff1 hfr x fun h2 T st x2 hT => ?_
  rw [← hst] at st
  have I2 := I.excStepY st ny
  have nT : NewAt X pins H T := by
    rcases hT with z | z
    · exact I.newAt hx z
    · exact ny T (List.mem_cons_of_mem e z)
  have n2 : ∀ b ∈ [e, T], NewAt X pins H b := fun b hb => by
    rcases List.mem_cons.mp hb with z | z
    · rw [z]; exact ny e List.mem_cons_self
    · rw [show b = T by simpa using z]; exact nT
  show wpAny (model X.prog X.w) X.A (do
    if (← field (.ref e) 1) == .none then unsupported "frame.own-activation:exception-without-traceback"
    setFlight (.ref e) X.env.frame) _ _ { s1 with heap := h2 }
  obtain ⟨oe, vs, oT, ts, y1, y2, y3, y4, y5, y6, y7, y8⟩ := id x2
  refine wpAny_bind (wpAny_field (s := { s1 with heap := h2 }) y1 y3 y4 ?_)
  rw [if_neg (show ¬ (Value.ref T == Value.none) = true by simp)]
  show wpAny (model X.prog X.w) X.A (setFlight (.ref e) X.env.frame) _ _ _
  rw [hfr]
  refine flyTo (s := { s1 with heap := h2 }) (l := X.stack) I2.stack x2 fun h3 st3 x3 => ?_
  exact ⟨e, C, a0, [T], pins, σ, H, rfl, I2.excStepY st3 n2, .held x3, n2, q⟩
section
variable {P : Program} {w : World} {K : PySem.W.Frag} {mg : Str → Option Value} {base : Heap} {N : List Str} {qual : Str} {scope : Scope} {f : Addr} {cd : Value} {A : Around} {outer : List Env} {s0 : Shared} {H0 : Hp} {E : XK}
/-- the context of a body that may raise -/
abbrev cxE (P : Program) (w : World) (K : PySem.W.Frag) (mg : Str → Option Value) (base : Heap) (N : List Str) (qual : Str) (scope : Scope) (f : Addr) (cd : Value) (A : Around) (outer : List Env) (s0 : Shared) (H0 : Hp) (E : XK) : Cx :=
  (cxOf (CX1 P w) P w K mg base N qual scope f cd A outer s0 H0 E).wish (XEof (cxOf (CX1 P w) P w K mg base N qual scope f cd A outer s0 H0 E) s0.heap.objs.size E)
/-- an exception leaves the body -/
theorem XE_leaves {ev : Value} {s : Shared} (h : XEof (cxOf (CX1 P w) P w K mg base N qual scope f cd A outer s0 H0 E) s0.heap.objs.size E ev s) : (cxOf (CX1 P w) P w K mg base N qual scope f cd A outer s0 H0 E).xe ev s := by
  obtain ⟨e, C, a0, Ts, pins, σ, H, rfl, I, x, ny, q⟩ := h
  have fr1 : (cxOf (CX1 P w) P w K mg base N qual scope f cd A outer s0 H0 E).A.frames = some (envOfC qual scope s0.heap.objs.size f cd :: outer) := I.ok.frames
  have hL : (envOfC qual scope s0.heap.objs.size f cd).frame = some s0.heap.objs.size := rfl
  show wpAny (model P w) _ (leaving (envOfC qual scope s0.heap.objs.size f cd) (.ref e)) _ _ s
  unfold leaving
  refine wpAny_bind (note fr1 I.stack hL x fun h2 T st x2 hT => ?_)
  have I2 := I.excStepY st ny
  have nT : NewAt (cxOf (CX1 P w) P w K mg base N qual scope f cd A outer s0 H0 E) pins H T := by
    rcases hT with z | z
    · exact I.newAt rfl z
    · exact ny T (List.mem_cons_of_mem e z)
  have ne := ny e List.mem_cons_self
  have n2 : ∀ b ∈ [e, T], NewAt (cxOf (CX1 P w) P w K mg base N qual scope f cd A outer s0 H0 E) pins H b := fun b hb => by
    rcases List.mem_cons.mp hb with z | z
    · rw [z]; exact ne
    · rw [show b = T by simpa using z]; exact nT
  refine flyTo (s := { s with heap := h2 }) (l := envOfC qual scope s0.heap.objs.size f cd :: outer) I2.stack x2 fun h3 st3 x3 => ?_
  refine ⟨e, T, C, a0, H, rfl, I2.os, I2.bare, I2.base.stp st3 (fun b o q hb => ?_) (fun b hb => ?_) (fun b hb => (n2 b hb).ent), I2.hok.stp st3 I2.stkFree (fun b hb => (n2 b hb).unt), x3, ne.ent, nT.ent, ne.unt, nT.unt, q⟩
  · rcases List.mem_cons.mp (I2.stkSub b hb) with z | z
    · exact absurd (Nat.lt_of_lt_of_le (Heap.lt_size q) I2.ok.above) (by rw [z]; exact Nat.lt_irrefl _)
    · exact z
  · show b ∈ frs (envOfC qual scope s0.heap.objs.size f cd :: outer)
    unfold frs
    rw [List.filterMap_cons]
    exact List.mem_cons_of_mem _ hb
theorem PSs.leaves {st : List Stmt} {t : TS} (h : PSs (cxE P w K mg base N qual scope f cd A outer s0 H0 E) st t) : PSs (cxOf (CX1 P w) P w K mg base N qual scope f cd A outer s0 H0 E) st t := fun pins s σ H D I hw =>
  wpAny_mono (h pins s σ H D (I.wish _) hw) (fun _ _ q => q.unwish) fun _ _ z => XE_leaves z
/-- THE RULE for a def that may raise, in loops too -/
theorem Fun.okE {x : Str} {st : Stmt} {fd : FuncData} {ps : List Str} {k : Nat} {sp : Sp} (F : Fun K x qual st f fd) (S : FnScope N ps (defScope st)) (len : ∀ vs H Q E, sp vs H Q E → vs.length = ps.length)
    (hbody : ∀ (cdv : Value) (A : Around) (outer : List Env) (s : Shared) (H : Hp) (vs : List V) (Q : VK) (E : XK), Room k (A.deeper (envOfC qual (defScope st) s.heap.objs.size f cdv)) → sp vs H Q E →
      ∃ t, PSs (cxE P w K mg base N qual (defScope st) f cdv A outer s H E) (defBody st) t ∧ t { nx := fun _ H' => Q .non H', rt := Q } (start N vs) H) : FnOk P w K mg base (CX1 P w) (k + 1) f fd ps sp := by
  obtain ⟨oc, od, kV, doc, pm, an, cdv, ct, osl, rfl, lk, hcd⟩ := F.ex
  refine fn_of lk hcd S len fun A outer s H vs Q E hr hsp => ?_
  obtain ⟨t, h, q⟩ := hbody cdv A outer s H vs Q E hr hsp
  exact ⟨t, h.leaves, q⟩
/-- raise C(..) -/
theorem ps_raiseE {x : Str} {C : Addr} {np cpos pos : Pos} {e₀ : Expr} {es : List Expr} {t : TA} (X : ExcCls K C) (hd : A.handled = none) (hg : Gl (cxE P w K mg base N qual scope f cd A outer s0 H0 E) x) (hm : mg x = some (.ref C))
    (ha : PA (cxE P w K mg base N qual scope f cd A outer s0 H0 E) (e₀ :: es) t) (hdb : (x == ("__debug__" : Str)) = false := by decide)
    (he : starEach (e₀ :: es) (envOfC qual scope s0.heap.objs.size f cd) = (false, eval e₀ (envOfC qual scope s0.heap.objs.size f cd)) :: starEach es (envOfC qual scope s0.heap.objs.size f cd) := by rfl)
    (hpl : (backTo cpos (starEach es (envOfC qual scope s0.heap.objs.size f cd))).any (·.1) = false := by rfl) :
    PS (cxE P w K mg base N qual scope f cd A outer s0 H0 E) (.Raise (some (.Call (.Name x np) (e₀ :: es) [] cpos)) none pos) (tRaise C E t) := by
  intro pins s σ H D I h
  obtain ⟨bmB, bmN, newId, B, Bn, nid, initId, inN, hx, F1, F2, F3⟩ := X.ex
  obtain ⟨bm, N', nm, q, bs, hdct, sn, sub, ab, col, dd, k0, k1, k2, k3, k5, mN, o1, o2, o3, o4⟩ := ExcCls.obj I.ok.mod.kin hx
  refine wpAny_Raise_call_subU (C := C) (nm := nm) (q := q) (N := N') (bs := bs) (bm := bm) (hdct := hdct) (sn := sn) (sub := sub) (ab := ab) (col := col) (dd := dd) (k0 := k0) (k1 := k1) (k2 := k2) (k3 := k3) (k5 := k5) F1 F2 F3 (OwnTail.hasType o4 F3.hasBase) hd (by
    show (backTo cpos (starEach (e₀ :: es) (envOfC qual scope s0.heap.objs.size f cd))).any (·.1) = false
    rw [he]
    show (false || (backTo cpos (starEach es (envOfC qual scope s0.heap.objs.size f cd))).any (·.1)) = false
    rw [hpl]; rfl) (mN := mN) o3 (ld_glob I hg hm ⟨rfl, ?_⟩ hdb)
  show wpAny _ _ (evalArgs (.ref C) true (backTo cpos (starEach (e₀ :: es) (envOfC qual scope s0.heap.objs.size f cd))) []) _ _ s
  rw [he]
  refine Calls.evalArgs_plain ?_
  have z : wpAny (model P w) (cxE P w K mg base N qual scope f cd A outer s0 H0 E).A (spliced (backTo cpos (starEach (e₀ :: es) (envOfC qual scope s0.heap.objs.size f cd)))) _ _ s := ha cpos pins s σ H _ I h
  rw [he] at z
  refine thn z fun us s2 ⟨vs, H2, I2, r, hl, q2⟩ => ⟨rfl, by rw [← r.length]; exact hl, ?_⟩
  refine ⟨I2.bk C _ o1, ?_, o4.keeps I2.bk, fun h' e m => ?_⟩
  · obtain ⟨o, es', ep, g1, g2⟩ := o2
    exact ⟨o, es', ep, I2.bk _ _ g1, g2⟩
  · have J := I2.unwish
    obtain ⟨t', he', _, _⟩ := m.there
    refine ⟨e, C, .ref t', [], pins, σ, H2, rfl, J.kept (t' := s2.toks) m.keeps, .fresh he' rfl rfl rfl rfl, fun b hb => ?_, q2⟩
    rw [show b = e by simpa using hb]
    exact J.newAt rfl m.new
/-- what a callee raises passes on -/
theorem passE : Passes (CX1 P w) (cxE P w K mg base N qual scope f cd A outer s0 H0 E) E := fun pins σ H s ev s' I h => by
  obtain ⟨e, T, C, a0, H', rfl, J, x, ne, nT, q⟩ := (I.unwish).afterX (EX := fun C H' => E (.ref C) none H') rfl (fun _ _ z => z) h
  refine ⟨e, C, a0, [T], pins, σ, H', rfl, J, .fly x, fun b hb => ?_, q⟩
  rcases List.mem_cons.mp hb with z | z
  · rw [z]; exact ne
  · rw [show b = T by simpa using z]; exact nT
end
end L2

namespace L2
open PySem PySem.Spec PyProof.Rows
/-! ### list.index, len of a set of texts, calls whose exceptions pass on -/
section
variable {X : Cx}
def rIndex (K : PySem.W.Frag) : V → List V → Hp → VK → Prop := fun x vs H Q => ∃ (p : Addr) (xs : List V) (y z : V) (j : Nat), x = .ref p ∧ vs = [y] ∧ SqL K H p xs ∧ flatV y = true ∧ xs.all flatV = true ∧ xs[j]? = some z ∧ eqV z y = true ∧ (∀ (m : Nat) (u : V), m < j → xs[m]? = some u → eqV u y = false) ∧ Q (.int j) H
theorem call_len_setO : CallR X (.builtin "len") (fun xs H Q => ∃ (l : Addr) (zs : List Str), xs = [.ref l] ∧ H l = some (SetO X.prog X.w l zs) ∧ zs.length ≤ 1000 ∧ Q (.int ((cntK zs zs.length : Nat) : Int)) H) := by
  intro pins s σ H xs us Q I r h
  obtain ⟨l, zs, rfl, e, hz, q⟩ := h
  obtain ⟨u, rfl, ru⟩ := r.one
  obtain rfl : u = Value.ref l := ru
  obtain ⟨⟨o, es, ep, t, g1, g2, g3, _, _, _, g4, g5⟩, _, _⟩ := I.hok l _ e
  have le := cntK_le zs zs.length
  refine call_len_set g1 g2 g3 g4 (by rw [g5]; omega) ⟨.int _, H, I.tok _, ⟨_, rfl⟩, ?_⟩
  rw [g5]; exact q
end
/-- calls, with what is wanted of their exceptions -/
def tFnE (sp : Sp) (E : XK) (t : TA) : TE := fun σ H Q => t σ H fun vs H1 => sp vs H1 Q E
def tMtE (C : Addr) (m : Str) (sp : Sp) (E : XK) (ta : TE) (t : TA) : TE := fun σ H Q => ta σ H fun x H1 => ∃ a dx fs, x = .ref a ∧ H1 a = some (.ins C dx fs) ∧ fs.lookup m = none ∧ t σ H1 fun vs H2 => sp (x :: vs) H2 Q E
def tMkE (C : Addr) (sp : Sp) (E : XK) (t : TA) : TE := fun σ H Q => t σ H fun vs H1 => ∀ x dx, H1 x = none → H1 dx = none → dx ≠ x →
  sp (.ref x :: vs) (upd (upd H1 dx (.own x)) x (.ins C dx [])) (fun v H2 => v = .non ∧ Q (.ref x) H2) E
section
variable {X : Cx} {k : Nat} {f C : Addr} {fd : FuncData} {ps : List Str} {sp : Sp} {x m : Str} {p np pos apos : Pos} {e o : Expr} {es : List Expr} {ta : TE} {t : TA} {E : XK}
theorem pe_fnE (M : CalleeX X.prog X.w X.K X.mg X.base k x ps sp) (hx : Passes (CX1 X.prog X.w) X E) (hr : Room k X.A) (hg : Gl X x) (ha : PA X (e :: es) t) (hdb : (x == ("__debug__" : Str)) = false := by decide)
    (he : starEach (e :: es) X.env = (false, eval e X.env) :: starEach es X.env := by rfl) (hpl : (backTo pos (starEach es X.env)).any (·.1) = false := by rfl) : PE X (.Call (.Name x p) (e :: es) [] pos) (tFnE sp E t) := by
  obtain ⟨f, fd, F, b, kk, hm⟩ := M
  intro pins s σ H Q I h
  refine wpAny_Call_Name_kw (ld_glob I hg hm ?_ hdb)
  refine PySem.W.callWith_K (h₀ := X.base) I.ok.mod.kin kk (thn (ha pos pins s σ H _ I h) fun us s1 ⟨vs, H1, I1, r, q⟩ => ⟨I1.kIn, run0 F hr b hx I1 r q⟩) he hpl
theorem pe_mkE {CX : CXT} (M : MkCallee CX X.prog X.w X.K X.mg X.base k x C ps sp) (hx : Passes CX X E) (hr : Room (k + 1) X.A) (hg : Gl X x) (ha : PA X (e :: es) t) (hdb : (x == ("__debug__" : Str)) = false := by decide)
    (he : starEach (e :: es) X.env = (false, eval e X.env) :: starEach es X.env := by rfl) (hpl : (backTo pos (starEach es X.env)).any (·.1) = false := by rfl) :
    PE X (.Call (.Name x p) (e :: es) [] pos) (tMkE C sp E t) := by
  obtain ⟨f, fd, M, F, hb, hm⟩ := M
  have h := pe_make (E := E) (dvs := []) (ds := []) (p := p) M F hr hg hm hb .nil hx ha hdb he hpl
  intro pins s σ H Q I q
  refine h pins s σ H Q I ?_
  have e1 : (fun (vs : List V) (H1 : Hp) => ∀ x dx, H1 x = none → H1 dx = none → dx ≠ x → sp (.ref x :: (vs ++ [])) (upd (upd H1 dx (.own x)) x (.ins C dx [])) (fun v H2 => v = .non ∧ Q (.ref x) H2) E) = fun vs H1 => ∀ x dx, H1 x = none → H1 dx = none → dx ≠ x → sp (.ref x :: vs) (upd (upd H1 dx (.own x)) x (.ins C dx [])) (fun v H2 => v = .non ∧ Q (.ref x) H2) E := by
    funext vs H1
    rw [List.append_nil]
  show t σ H fun vs H1 => ∀ x dx, H1 x = none → H1 dx = none → dx ≠ x → sp (.ref x :: (vs ++ [])) (upd (upd H1 dx (.own x)) x (.ins C dx [])) (fun v H2 => v = .non ∧ Q (.ref x) H2) E
  rw [e1]
  exact q
end
end L2

namespace L2
open PySem PySem.Spec PyProof.Rows PySem.Builtin PySem.Builtin.Str
/-! ### text.split(mark), text.partition(mark) -/
section
variable {X : Cx}
theorem vals_of : ∀ {l : List (Str × Tok)} {zs : List Str}, l.map (·.1) = zs → Vals (zs.map V.str) (strValues l)
  | [], _, rfl => .nil
  | p :: l, _, rfl => .cons ⟨p.2, rfl⟩ (vals_of (l := l) rfl)
theorem split_few (z y : Str) (hz : z.length + 2 ≤ sizeLine) : (Txt.split z y).length ≤ sizeLine := by
  unfold Txt.split
  split
  · show 1 ≤ sizeLine; omega
  · split
    · show 1 ≤ sizeLine; omega
    · have e1 := StrLaws.occ_length_le z y 0 z.length (z.length + 1)
      rw [length_partsBetween]; omega
def rSplit : V → List V → Hp → VK → Prop := fun x vs H Q => ∃ z y : Str, x = .str z ∧ vs = [.str y] ∧ (y.length == 0) = false ∧ z.length + 2 ≤ sizeLine ∧ ∀ l, H l = none → Q (.ref l) (upd H l (.lst ((Txt.split z y).map V.str)))
theorem mt_split : MtM X "str.split" rSplit := by
  intro pins s σ H x vs v us Q I rx rv h
  obtain ⟨z, y, rfl, rfl, hy, hz, q⟩ := h
  obtain ⟨t, rfl⟩ := rx
  obtain ⟨u0, rfl, ru⟩ := rv.one
  obtain ⟨u, rfl⟩ := ru
  have fin : ∀ (l : List (Str × Tok)) (k : Nat), l.map (·.1) = Txt.split z y → EP X pins σ Q (.ref s.heap.objs.size) { s with heap := s.heap.push { cls := .type "list", data := .seq (strValues l).toArray }, toks := k } := fun l k e =>
    ⟨.ref s.heap.objs.size, _, I.laid (a := s.heap.objs.size) (o := .lst ((Txt.split z y).map V.str)) (t' := k) (fun b o g => Heap.get?_push_of_some _ g) (Nat.le_refl _) ⟨by rw [List.length_map]; exact split_few z y hz, strValues l, 0, vals_of e, Heap.get?_push_size _ rfl⟩, rfl, q _ I.fresh⟩
  have hn : (partsBetween z (occurrences z y 0 z.length (z.length + 1)) y.length).length ≤ sizeLine := by
    have := StrLaws.occ_length_le z y 0 z.length (z.length + 1)
    rw [length_partsBetween]; omega
  cases h1 : (decide (z.length < y.length) || decide (Builtin.Str.strKind z < Builtin.Str.strKind y)) with
  | true => exact call_meets PySem.F.slot_str_split (typeIs_str _ _ _) PySem.F.entry_str_split (PySem.F.args_str_split_2 _ _) (meets_str_split_cannot_occur z y t u h1) (fin [(z, t)] s.toks (by unfold Txt.split; rw [if_pos h1]; rfl))
  | false =>
    have n1 : ¬ (decide (z.length < y.length) || decide (Builtin.Str.strKind z < Builtin.Str.strKind y)) = true := by rw [h1]; exact Bool.false_ne_true
    cases hf : (occurrences z y 0 z.length (z.length + 1)).isEmpty with
    | true => exact call_meets PySem.F.slot_str_split (typeIs_str _ _ _) PySem.F.entry_str_split (PySem.F.args_str_split_2 _ _) (meets_str_split_not_found z y t u h1 hy hf) (fin [(z, t)] s.toks (by unfold Txt.split; rw [if_neg n1, if_pos hf]; rfl))
    | false =>
      have n2 : ¬ (occurrences z y 0 z.length (z.length + 1)).isEmpty = true := by rw [hf]; exact Bool.false_ne_true
      refine call_meets PySem.F.slot_str_split (typeIs_str _ _ _) PySem.F.entry_str_split (PySem.F.args_str_split_2 _ _) (meets_str_split_sep z y t u h1 hy hf (by omega) hn) ?_
      have f := fin (numbered s.toks (partsBetween z (occurrences z y 0 z.length (z.length + 1)) y.length)) (s.toks + (partsBetween z (occurrences z y 0 z.length (z.length + 1)) y.length).length) (by rw [numbered_texts]; unfold Txt.split; rw [if_neg n1, if_neg n2])
      rw [← strsFrom_eq] at f
      exact f
def rPart : V → List V → Hp → VK → Prop := fun x vs H Q => ∃ z y : Str, x = .str z ∧ vs = [.str y] ∧ (y.length == 0) = false ∧ z.length ≤ sizeLine ∧ ∀ p, H p = none → Q (.ref p) (upd H p (.tup [.str (Txt.partition z y).1, .str (Txt.partition z y).2.1, .str (Txt.partition z y).2.2]))
theorem mt_partition : MtM X "str.partition" rPart := by
  intro pins s σ H x vs v us Q I rx rv h
  obtain ⟨z, y, rfl, rfl, hy, hz, q⟩ := h
  obtain ⟨t, rfl⟩ := rx
  obtain ⟨u0, rfl, ru⟩ := rv.one
  obtain ⟨u, rfl⟩ := ru
  have fin : ∀ (a b c : Str) (ta tb tc : Tok) (k : Nat), (∀ p, H p = none → Q (.ref p) (upd H p (.tup [.str a, .str b, .str c]))) → EP X pins σ Q (.ref s.heap.objs.size) { s with heap := s.heap.push { cls := .type "tuple", data := .seq [.str a ta, .str b tb, .str c tc].toArray }, toks := k } := fun a b c ta tb tc k q =>
    ⟨.ref s.heap.objs.size, _, I.laid (a := s.heap.objs.size) (o := .tup [.str a, .str b, .str c]) (t' := k) (fun b o g => Heap.get?_push_of_some _ g) (Nat.le_refl _) ⟨(by show 3 ≤ sizeLine; decide), [.str a ta, .str b tb, .str c tc], .cons ⟨_, rfl⟩ (.cons ⟨_, rfl⟩ (.cons ⟨_, rfl⟩ .nil)), ⟨_, Heap.get?_push_size _ rfl, rfl, _, rfl⟩⟩, rfl, q _ I.fresh⟩
  refine call_meets PySem.F.slot_str_partition (typeIs_str _ _ _) PySem.F.entry_str_partition (PySem.F.args_str_partition_2 _ _) (meets_str_partition z y t u hy hz) ?_
  unfold Txt.partition at q
  revert q
  cases occurrences z y 0 z.length 1 with
  | nil => intro q; exact fin _ _ _ _ _ _ _ q
  | cons i r => intro q; exact fin _ _ _ _ _ _ _ q
end
end L2

namespace L2
open PySem PySem.Builtin PySem.Builtin.Str PySem.StrLaws
/-! ### what split tells: no part holds the mark -/
theorem occ_keeps (s sub : Str) (hi limit : Nat) : ∀ (l : List Nat) (st : Array Nat × Nat) (c : Nat), c ∈ st.fst.toList → c ∈ (forIn l st (occBody s sub hi limit)).run.fst.toList
  | [], _, _, h => h
  | a :: l, st, c, h => by
    rw [List.forIn_cons]
    unfold occBody
    split
    · exact occ_keeps s sub hi limit l _ c (by rw [Array.toList_push]; exact List.mem_append_left _ h)
    · exact occ_keeps s sub hi limit l _ c h
theorem occ_all (s sub : Str) (hi limit : Nat) (hl : hi < limit) : ∀ (m a : Nat) (st : Array Nat × Nat), st.fst.size ≤ a → a + m ≤ hi + 1 → ∀ i, a ≤ i → i < a + m → st.snd ≤ i → At s sub hi i →
    ∃ c ∈ (forIn (List.range' a m) st (occBody s sub hi limit)).run.fst.toList, c ≤ i ∧ i < c + sub.length ∨ (c ≤ i ∧ i ≤ c)
  | 0, a, st, _, _, i, h1, h2, _, _ => absurd h2 (by omega)
  | m + 1, a, st, hs, ha, i, h1, h2, h3, h4 => by
    rw [List.range'_succ, List.forIn_cons]
    unfold occBody
    split
    · rename_i hc
      by_cases e : i = a
      · refine ⟨a, occ_keeps s sub hi limit _ _ a (by rw [Array.toList_push]; exact List.mem_append_right _ (by simp)), .inr ⟨by omega, by omega⟩⟩
      · by_cases e2 : i < a + sub.length
        · exact ⟨a, occ_keeps s sub hi limit _ _ a (by rw [Array.toList_push]; exact List.mem_append_right _ (by simp)), .inl ⟨by omega, e2⟩⟩
        · exact occ_all s sub hi limit hl m (a + 1) (st.fst.push a, a + sub.length) (by simp; omega) (by omega) i (by omega) (by omega) (by show a + sub.length ≤ i; omega) h4
    · rename_i hc
      by_cases e : i = a
      · subst e
        exact absurd ⟨⟨⟨by omega, h3⟩, h4.1⟩, h4.2⟩ hc
      · exact occ_all s sub hi limit hl m (a + 1) st (by omega) (by omega) i (by omega) (by omega) h3 h4
/-- between two cuts of a chain there is none -/
theorem chain_gap {s sub : Str} {hi : Nat} : ∀ {a : Nat} {cuts : List Nat} {f : Nat}, ChainTo s sub hi a cuts f → ∀ c ∈ cuts, a ≤ c
  | a, [], f, h, c, hc => by cases hc
  | a, d :: r, f, h, c, hc => by
    rcases List.mem_cons.mp hc with e | e
    · rw [e]; exact h.1
    · have := chain_gap h.2.2 c e
      have := h.1
      omega
theorem sub_in (x y : Str) {a c j : Nat} (hc : c ≤ x.length) (hj : a + j + y.length ≤ c) : subAt (strSub x a c) y j = subAt x y (a + j) := by
  rw [subAt_eq, subAt_eq, strSub_toList]
  congr 1
  rw [List.drop_take, List.drop_drop, List.take_take]
  congr 1
  omega
theorem len_sub (x : Str) {a c : Nat} (hc : c ≤ x.length) : (strSub x a c).length = c - a := by
  show (strSub x a c).cps.size = c - a
  rw [← Array.length_toList, strSub_toList, List.length_take, List.length_drop, Array.length_toList]
  have : x.cps.size = x.length := rfl
  omega
theorem parts_clean (x y : Str) (hy : 1 ≤ y.length) : ∀ (cuts : List Nat) (a f : Nat), ChainTo x y x.length a cuts f → (∀ i, a ≤ i → At x y x.length i → ∃ c ∈ cuts, c ≤ i ∧ (i < c + y.length ∨ i ≤ c)) → a ≤ x.length →
    ∀ p ∈ partsFrom x y.length a cuts, ∀ j, j + y.length ≤ p.length → subAt p y j = false
  | [], a, f, h, cov, ha, p, hp, j, hj => by
    have e : p = strSub x a x.length := by simpa [partsFrom] using hp
    subst e
    rw [len_sub x (Nat.le_refl _)] at hj
    rw [sub_in x y (Nat.le_refl _) (by omega)]
    cases q : subAt x y (a + j) with
    | false => rfl
    | true =>
      obtain ⟨c, hc, _⟩ := cov (a + j) (by omega) ⟨by omega, q⟩
      cases hc
  | c :: r, a, f, h, cov, ha, p, hp, j, hj => by
    have hc1 := h.1
    have hc2 := h.2.1.1
    rcases List.mem_cons.mp (show p ∈ strSub x a c :: partsFrom x y.length (c + y.length) r from hp) with e | hp
    · subst e
      rw [len_sub x (by omega)] at hj
      rw [sub_in x y (c := c) (by omega) (by omega)]
      cases q : subAt x y (a + j) with
      | false => rfl
      | true =>
        obtain ⟨d, hd, h1, _⟩ := cov (a + j) (by omega) ⟨by omega, q⟩
        rcases List.mem_cons.mp hd with e | hd
        · omega
        · have := chain_gap h.2.2 d hd
          omega
    · refine parts_clean x y hy r (c + y.length) f h.2.2 (fun i hi at_ => ?_) (by omega) p hp j hj
      obtain ⟨d, hd, h1, h2⟩ := cov i (by omega) at_
      rcases List.mem_cons.mp hd with e | hd
      · omega
      · exact ⟨d, hd, h1, h2⟩
/-- no part of what split tells holds the mark -/
theorem split_clean (x y : Str) (hy : 1 ≤ y.length) (hk : decide (Builtin.Str.strKind x < Builtin.Str.strKind y) = false) : ∀ p ∈ Txt.split x y, ∀ j, j + y.length ≤ p.length → subAt p y j = false := by
  intro p hp j hj
  have cov : ∀ i, 0 ≤ i → At x y x.length i → ∃ c ∈ occurrences x y 0 x.length (x.length + 1), c ≤ i ∧ (i < c + y.length ∨ i ≤ c) := fun i _ at_ => by
    rw [occ_eq]
    have hlt := at_.1
    obtain ⟨c, hc, h⟩ := occ_all x y x.length (x.length + 1) (Nat.lt_succ_self _) (x.length + 1 - 0) 0 (#[], 0) (Nat.le_refl _) (by omega) i (Nat.zero_le _) (by omega) (Nat.zero_le _) at_
    exact ⟨c, hc, by omega, by omega⟩
  obtain ⟨f, ch⟩ := occ_chain x y (x.length + 1)
  have main := parts_clean x y hy _ 0 f ch cov (Nat.zero_le _)
  unfold Txt.split at hp
  split at hp
  · rename_i h1
    rw [hk, Bool.or_false, decide_eq_true_eq] at h1
    have e : p = x := by simpa using hp
    rw [e] at hj
    omega
  · split at hp
    · rename_i h2
      have e : p = x := by simpa using hp
      subst e
      have en : occurrences p y 0 p.length (p.length + 1) = [] := List.isEmpty_iff.mp h2
      cases q : subAt p y j with
      | false => rfl
      | true =>
        obtain ⟨c, hc, _⟩ := cov j (Nat.zero_le _) ⟨hj, q⟩
        rw [en] at hc; cases hc
    · rw [partsBetween_eq] at hp
      exact main p hp j hj
end L2

namespace L2
open PySem PySem.Builtin PySem.Builtin.Str PySem.StrLaws
/-! ### texts joined and split -/
def tl (z : Str) : List Nat := z.cps.toList
theorem tl_app (a b : Str) : tl (a ++ b) = tl a ++ tl b := by
  unfold tl
  rw [Str.cps_append, Array.toList_append]
theorem tl_inj {a b : Str} (h : tl a = tl b) : a = b := by
  cases a with
  | mk x =>
    cases b with
    | mk y =>
      have : x = y := Array.toList_inj.mp h
      rw [this]
theorem tl_len (z : Str) : (tl z).length = z.length := by unfold tl; rw [Array.length_toList]; rfl
theorem join_is (m : Str) (zs : List Str) : Txt.join m zs = Str.join m zs := glued_eq_join m zs
theorem join_cons (m x y : Str) (r : List Str) : Str.join m (x :: y :: r) = x ++ m ++ Str.join m (y :: r) := rfl
theorem tl_join (m x y : Str) (r : List Str) : tl (Str.join m (x :: y :: r)) = tl x ++ (tl m ++ tl (Str.join m (y :: r))) := by rw [join_cons, tl_app, tl_app, List.append_assoc]
theorem count_join (c : Nat) (m : Str) : ∀ zs : List Str, (tl (Str.join m zs)).count c = (zs.map fun z => (tl z).count c).sum + (zs.length - 1) * (tl m).count c
  | [] => by show (tl Str.empty).count c = _; simp [tl, Str.empty]
  | [x] => by show (tl x).count c = _; simp
  | x :: y :: r => by
    rw [tl_join, List.count_append, List.count_append, count_join c m (y :: r)]
    simp only [List.map_cons, List.sum_cons, List.length_cons]
    have : r.length + 1 + 1 - 1 = (r.length + 1 - 1) + 1 := by omega
    rw [this, Nat.succ_mul]
    omega
/-- ", " -/
def mk2 : Str := Str.ofString ", "
theorem tl_mk2 : tl mk2 = [44, 32] := rfl
/-- lists of texts without a comma that tell the same when joined -/
theorem join_uniq : ∀ {W P : List Str}, W ≠ [] → P ≠ [] → (∀ w ∈ W, 44 ∉ tl w) → (∀ p ∈ P, ∀ j, (tl p)[j]? = some 44 → (tl p)[j + 1]? ≠ some 32) → tl (Str.join mk2 P) = tl (Str.join mk2 W) → P = W
  | [], _, h, _, _, _, _ => absurd rfl h
  | _, [], _, h, _, _, _ => absurd rfl h
  | [w], [p], _, _, _, _, e => by
    have e : tl p = tl w := e
    rw [tl_inj e]
  | [w], p :: p2 :: P, _, _, hw, _, e => by
    have e : tl (Str.join mk2 (p :: p2 :: P)) = tl w := e
    rw [tl_join, tl_mk2] at e
    have : 44 ∈ tl w := by rw [← e]; simp
    exact absurd this (hw w (by simp))
  | w :: w2 :: W, [p], _, _, _, hp, e => by
    have e : tl p = tl (Str.join mk2 (w :: w2 :: W)) := e
    rw [tl_join, tl_mk2] at e
    have a1 : (tl p)[(tl w).length]? = some 44 := by rw [e]; simp
    have a2 : (tl p)[(tl w).length + 1]? = some 32 := by
      rw [e, List.getElem?_append_right (by omega)]
      rw [show (tl w).length + 1 - (tl w).length = 1 by omega]
      rfl
    exact absurd a2 (hp p (by simp) _ a1)
  | w :: w2 :: W, p :: p2 :: P, _, _, hw, hp, e => by
    rw [tl_join, tl_join, tl_mk2] at e
    have hl : (tl p).length = (tl w).length := by
      rcases Nat.lt_trichotomy (tl p).length (tl w).length with g | g | g
      · have a1 : (tl p ++ ([44, 32] ++ tl (Str.join mk2 (p2 :: P))))[(tl p).length]? = some 44 := by simp
        rw [e, List.getElem?_append_left g] at a1
        exact absurd (List.mem_of_getElem? a1) (hw w (by simp))
      · exact g
      · have a1 : (tl w ++ ([44, 32] ++ tl (Str.join mk2 (w2 :: W))))[(tl w).length]? = some 44 := by simp
        have a2 : (tl w ++ ([44, 32] ++ tl (Str.join mk2 (w2 :: W))))[(tl w).length + 1]? = some 32 := by
          rw [List.getElem?_append_right (by omega), show (tl w).length + 1 - (tl w).length = 1 by omega]
          rfl
        rw [← e] at a1 a2
        rw [List.getElem?_append_left g] at a1
        by_cases g2 : (tl w).length + 1 < (tl p).length
        · rw [List.getElem?_append_left g2] at a2
          exact absurd a2 (hp p (by simp) _ a1)
        · rw [List.getElem?_append_right (by omega), show (tl w).length + 1 - (tl p).length = 0 by omega] at a2
          cases a2
    have e2 := List.append_inj e hl
    have e3 : tl (Str.join mk2 (p2 :: P)) = tl (Str.join mk2 (w2 :: W)) := by
      have := e2.2
      exact (List.append_inj this rfl).2
    rw [tl_inj e2.1, join_uniq (by simp) (by simp) (fun z hz => hw z (List.mem_cons_of_mem _ hz)) (fun z hz => hp z (List.mem_cons_of_mem _ hz)) e3]
theorem split_ne (x : Str) : Txt.split x mk2 ≠ [] := by
  unfold Txt.split
  split
  · simp
  · split
    · simp
    · intro h
      have := congrArg List.length h
      rw [length_partsBetween] at this
      simp at this
theorem kind1 (x : Str) : decide (Builtin.Str.strKind x < Builtin.Str.strKind mk2) = false := by
  have h2 : Builtin.Str.strKind mk2 = 1 := by decide +kernel
  rw [h2]
  unfold Builtin.Str.strKind
  split
  · rfl
  · split <;> rfl
theorem split_parts (x : Str) : ∀ p ∈ Txt.split x mk2, ∀ j, (tl p)[j]? = some 44 → (tl p)[j + 1]? ≠ some 32 := fun p hp j h1 h2 => by
  have hj := (List.getElem?_eq_some_iff.mp h2).1
  rw [tl_len] at hj
  have := split_clean x mk2 (by decide) (kind1 x) p hp j (by show j + 2 ≤ p.length; omega)
  rw [subAt_eq] at this
  have e : (p.cps.toList.drop j).take mk2.length = mk2.cps.toList := by
    have g1 := List.getElem?_eq_some_iff.mp h1
    have g2 := List.getElem?_eq_some_iff.mp h2
    obtain ⟨l1, e1⟩ := g1
    obtain ⟨l2, e2⟩ := g2
    show ((tl p).drop j).take 2 = [44, 32]
    rw [List.drop_eq_getElem_cons l1, List.drop_eq_getElem_cons l2, e1, e2]
    rfl
  rw [e] at this
  simp at this
theorem split_join {W : List Str} (h : W ≠ []) (hw : ∀ w ∈ W, 44 ∉ tl w) : Txt.split (Txt.join mk2 W) mk2 = W := by
  refine join_uniq h (split_ne _) hw (split_parts _) ?_
  rw [join_split, join_is]
/-- letters -/
def Ltr (z : Str) : Prop := ∀ c ∈ tl z, 97 ≤ c ∧ c ≤ 122
theorem Ltr.no {z : Str} (h : Ltr z) {c : Nat} (hc : c < 97) : (tl z).count c = 0 := List.count_eq_zero.mpr fun m => by have := h c m; omega
theorem sum_zero {zs : List Str} {c : Nat} (h : ∀ z ∈ zs, (tl z).count c = 0) : (zs.map fun z => (tl z).count c).sum = 0 := by
  induction zs with
  | nil => rfl
  | cons z zs ih => rw [List.map_cons, List.sum_cons, h z (by simp), ih fun w hw => h w (by simp [hw])]
/-- words that are split out: as many commas as blanks -/
theorem parts_even {x : Str} (h : ∀ p ∈ Txt.split x mk2, Ltr p) : (tl x).count 44 = (tl x).count 32 := by
  have e := join_split x mk2
  have c1 := count_join 44 mk2 (Txt.split x mk2)
  have c2 := count_join 32 mk2 (Txt.split x mk2)
  rw [e, sum_zero fun z hz => (h z hz).no (by decide)] at c1 c2
  rw [c1, c2]
  rfl
theorem join_odd {m : Str} {zs : List Str} (hz : ∀ z ∈ zs, Ltr z) (h2 : 2 ≤ zs.length) (hm : (tl m).count 44 ≠ (tl m).count 32) : ¬ ∀ p ∈ Txt.split (Txt.join m zs) mk2, Ltr p := fun h => by
  have e := parts_even h
  rw [join_is, count_join, count_join, sum_zero fun z h => (hz z h).no (by decide), sum_zero fun z h => (hz z h).no (by decide), Nat.zero_add, Nat.zero_add] at e
  exact hm (Nat.eq_of_mul_eq_mul_left (by omega) e)
/-- the last sign of joined words -/
theorem join_last (m : Str) : ∀ {P : List Str}, P ≠ [] → (∀ p ∈ P, Ltr p ∧ tl p ≠ []) → ∃ c, (tl (Str.join m P)).getLast? = some c ∧ 97 ≤ c
  | [], h, _ => absurd rfl h
  | [p], _, h => by
    obtain ⟨h1, h2⟩ := h p (by simp)
    have e := List.getLast?_eq_some_getLast h2
    exact ⟨(tl p).getLast h2, e, (h1 _ (List.getLast_mem h2)).1⟩
  | p :: q :: r, _, h => by
    obtain ⟨c, e, hc⟩ := join_last m (P := q :: r) (by simp) fun z hz => h z (List.mem_cons_of_mem _ hz)
    refine ⟨c, ?_, hc⟩
    rw [tl_join, List.getLast?_append, List.getLast?_append, e]
    rfl
theorem join_tail {t : Str} : ¬ ∀ p ∈ Txt.split (t ++ mk2) mk2, Ltr p ∧ tl p ≠ [] := fun h => by
  obtain ⟨c, e, hc⟩ := join_last mk2 (split_ne (t ++ mk2)) h
  rw [join_split, tl_app, tl_mk2, List.getLast?_append] at e
  have : c = 32 := by simpa using e.symm
  omega
/-! ### ".." in a text -/
def dots : Str := Str.ofString ".."
theorem tl_dots : tl dots = [46, 46] := rfl
theorem dots_in {e0 e1 : Str} : (!(occurrences (e0 ++ dots ++ e1) dots 0 (e0 ++ dots ++ e1).length 1).isEmpty) = true := by
  rcases occ_head (e0 ++ dots ++ e1) dots 1 (Nat.le_refl _) with ⟨_, h⟩ | ⟨i, r, e, _⟩
  · have hl : (e0 ++ dots ++ e1).length = e0.length + 2 + e1.length := by rw [Str.length_append, Str.length_append]; rfl
    refine absurd ⟨?_, ?_⟩ (h e0.length)
    · show e0.length + 2 ≤ _
      rw [hl]; omega
    · rw [subAt_eq]
      show (((tl (e0 ++ dots ++ e1)).drop e0.length).take 2 == tl dots) = true
      rw [tl_app, tl_app, List.append_assoc, ← tl_len e0, List.drop_left, tl_dots]
      rfl
  · rw [e]; rfl
theorem dots_out {t : Str} (h : (tl t).count 46 ≤ 1) : (!(occurrences t dots 0 t.length 1).isEmpty) = false := by
  rcases occ_head t dots 1 (Nat.le_refl _) with ⟨e, _⟩ | ⟨i, r, e, hat, _⟩
  · rw [e]; rfl
  · exfalso
    have h2 := hat.2
    rw [subAt_eq] at h2
    have h3 : ((tl t).drop i).take 2 = [46, 46] := eq_of_beq h2
    have c1 : (tl t).count 46 = ((tl t).take i).count 46 + ((tl t).drop i).count 46 := by rw [← List.count_append, List.take_append_drop]
    have c2 : ((tl t).drop i).count 46 = (((tl t).drop i).take 2).count 46 + (((tl t).drop i).drop 2).count 46 := by rw [← List.count_append, List.take_append_drop]
    rw [h3] at c2
    have c3 : ([46, 46] : List Nat).count 46 = 2 := rfl
    omega
/-- a text parted at ".." -/
theorem part_is {t : Str} (h : (!(occurrences t dots 0 t.length 1).isEmpty) = true) : tl t = tl (Txt.partition t dots).1 ++ ([46, 46] ++ tl (Txt.partition t dots).2.2) := by
  rcases occ_head t dots 1 (Nat.le_refl _) with ⟨e, _⟩ | ⟨i, r, e, hat, _⟩
  · rw [e] at h; cases h
  · unfold Txt.partition
    rw [e]
    have h1 := hat.1
    have h2 := hat.2
    rw [subAt_eq] at h2
    have h3 : ((tl t).drop i).take 2 = [46, 46] := eq_of_beq h2
    have h4 : (tl t).length = t.length := tl_len t
    show tl t = tl (strSub t 0 i) ++ ([46, 46] ++ tl (strSub t (i + 2) t.length))
    have a1 : tl (strSub t 0 i) = (tl t).take i := by
      show (strSub t 0 i).cps.toList = _
      rw [strSub_toList]; rfl
    have a2 : tl (strSub t (i + 2) t.length) = (tl t).drop (i + 2) := by
      show (strSub t (i + 2) t.length).cps.toList = _
      rw [strSub_toList]
      exact List.take_of_length_le (by rw [List.length_drop]; show (tl t).length - _ ≤ _; omega)
    rw [a1, a2, ← h3]
    conv => lhs; rw [← List.take_append_drop i (tl t), ← List.take_append_drop 2 ((tl t).drop i)]
    rw [List.drop_drop]
/-- ends without a dot stand on their own -/
theorem ends_uniq {a b c d : List Nat} (h : a ++ ([46, 46] ++ b) = c ++ ([46, 46] ++ d)) (ha : 46 ∉ a) (hb : 46 ∉ b) : a = c ∧ b = d := by
  have hc : (a ++ ([46, 46] ++ b)).count 46 = (c ++ ([46, 46] ++ d)).count 46 := by rw [h]
  rw [List.count_append, List.count_append, List.count_append, List.count_append, List.count_eq_zero.mpr ha, List.count_eq_zero.mpr hb] at hc
  have c0 : 46 ∉ c := List.count_eq_zero.mp (by omega)
  have hl : a.length = c.length := by
    rcases Nat.lt_trichotomy a.length c.length with g | g | g
    · have a1 : (a ++ ([46, 46] ++ b))[a.length]? = some 46 := by simp
      rw [h, List.getElem?_append_left g] at a1
      exact absurd (List.mem_of_getElem? a1) c0
    · exact g
    · have a1 : (c ++ ([46, 46] ++ d))[c.length]? = some 46 := by simp
      rw [← h, List.getElem?_append_left g] at a1
      exact absurd (List.mem_of_getElem? a1) ha
  have e := List.append_inj h hl
  exact ⟨e.1, (List.append_inj e.2 rfl).2⟩
end L2

namespace L2
open PySem PySem.Spec PyProof.Rows
/-! ### min and max of a list of ints; a set of ints and how many it has -/
section
variable {X : Cx}
end
/-- a set of ints -/
def SetI (P : Program) (w : World) (a : Addr) (ns : List Int) : HO := .ext fun h => h.SetOf (intKind P w) a (fun z => decide (z ∈ ns)) (cntK ns ns.length)
section
variable {X : Cx}
end
end L2
namespace L2
open PySem PySem.Spec PyProof.Rows
section
variable {X : Cx}
def rUpper : V → List V → Hp → VK → Prop := fun x vs H Q => ∃ z : Str, x = .str z ∧ vs = [] ∧ z.length ≤ 1000 ∧ Q (.str (Txt.upper z)) H
end
end L2

namespace L2
open PySem PySem.Spec PyProof.Rows
/-! ### isinstance against an own class or a built-in one, of a tuple of the module too -/
def TyG (K : PySem.W.Frag) (H : Hp) (x : V) (t : Value) : Prop := TyOf K H x t ∨ ∃ a ys, x = .ref a ∧ SqT K H a ys ∧ t = .type "tuple"
inductive ClV : V → Value → Prop where
  | ty (T : String) : ClV (.ty T) (.type T)
  | ref (C : Addr) : ClV (.ref C) (.ref C)
section
variable {X : Cx}
theorem call_isiG : CallR X (.builtin "isinstance") (fun xs H Q => ∃ x c cv t b, xs = [x, c] ∧ ClV c cv ∧ TyG X.K H x t ∧ PySem.W.kitOne X.K t cv = some b ∧ Q (.bl b) H) := by
  intro pins s σ H xs us Q I r h
  obtain ⟨x, c, cv, t, b, rfl, rc, ty, e, q⟩ := h
  cases r with
  | cons rx r2 =>
    cases r2 with
    | @cons _ cu _ _ ry r3 =>
      cases r3
      have ec : cu = cv := by cases rc <;> exact ry
      subst ec
      rcases ty with ty | ⟨a, ys, rfl, hS, rfl⟩
      · exact isinst_ok I rx ty e fun tk => ⟨.bl b, H, I.tok tk, rfl, q⟩
      · cases (show _ = Value.ref a from rx)
        obtain ⟨its, r, ⟨o, h1, h2, _⟩, _⟩ := I.tuple hS
        exact PySem.W.kia_one PySem.W.kitx_tuple I.kIn ⟨o, h1, h2⟩ e (fun z => nomatch z) fun tk => ⟨.bl b, H, I.tok tk, rfl, q⟩
end
/-- what the text must have for isinstance of an instance of C -/
structure InsT (K : PySem.W.Frag) (C : Addr) : Prop where
  cl : Cls K C
  ha : PySem.W.findIn K (.ref C) "__class__" = some (some (.builtin "object.__class__"))
  hn : PySem.W.specialIn K (.builtin "object.__class__") "__get__" = some (some (.builtin "getset_descriptor.__get__"))
  tk : PySem.W.takesIn K (.builtin "object.__class__") = some true
  hm : PySem.W.mroIn K C (.type "object") = some true
theorem InsT.ty {K : PySem.W.Frag} {C : Addr} (h : InsT K C) {H : Hp} {a dx : Addr} {fs : List (Str × V)} (e : H a = some (.ins C dx fs)) : TyG K H (.ref a) (.ref C) := .inl (.ins e h.cl h.ha h.hn h.tk h.hm)
/-! ### a method of one of several classes -/
def PolM (CX : CXT) (P : Program) (w : World) (K : PySem.W.Frag) (mg : Str → Option Value) (base : Heap) (k : Nat) (m : Str) (ps : List Str) (cs : List (Addr × Sp)) : Prop :=
  ∀ p ∈ cs, MCallee CX P w K mg base k p.1 m ps p.2 ∧ Cls K p.1
section
variable {CX : CXT} {P : Program} {w : World} {K : PySem.W.Frag} {mg : Str → Option Value} {base : Heap} {k : Nat} {C : Addr} {m : Str} {ps : List Str} {sp : Sp} {cs : List (Addr × Sp)}
end
def tMtP (cs : List (Addr × Sp)) (m : Str) (ta : TE) (t : TA) : TE := fun σ H Q => ta σ H fun x H1 => ∃ a p dx fs, x = .ref a ∧ p ∈ cs ∧ H1 a = some (.ins p.1 dx fs) ∧ fs.lookup m = none ∧ t σ H1 fun vs H2 => p.2 (x :: vs) H2 Q E0
section
variable {X : Cx} {CX : CXT} {k : Nat} {f C : Addr} {fd : FuncData} {ps : List Str} {sp : Sp} {x m : Str} {p np pos apos : Pos} {e o : Expr} {es : List Expr} {ta : TE} {t : TA} {cs : List (Addr × Sp)}
end
/-! ### a tuple of the module -/
def ModT (K : PySem.W.Frag) (a : Addr) (xs : List V) : Prop := ∃ (o : Obj) (its : Array Value) (n : Nat), K.lookup a = some o ∧ o.cls = .type "tuple" ∧ o.data = .seq its n ∧ its.size ≤ sizeLine ∧ Vals xs its.toList
end L2
namespace L2
open PySem PySem.Spec PyProof.Rows
theorem iteTS {c A B : Prop} [Decidable c] (hc : c) (h : A) : if decide c = true then A else B := by rw [if_pos (decide_eq_true hc)]; exact h
end L2

set_option Elab.async false
set_option maxRecDepth 100000
set_option maxHeartbeats 4000000
set_option linter.all false
namespace My
open PySem L2
def top (i : Nat) : Stmt := PySem.Challenge.pw_rowjudge_k16_domains_read.main.body.getD i (.Pass ⟨0, 0, 0, 0⟩)
abbrev s_all_among : Stmt := top 12
abbrev s_is_word : Stmt := top 13
abbrev s_is_number : Stmt := top 14
abbrev s_number_of : Stmt := top 15
abbrev s_number_text : Stmt := top 16
abbrev s_alike : Stmt := top 20
abbrev s_read_domain : Stmt := top 21
abbrev s_read_numbers : Stmt := top 22
abbrev s_law_cell_at : Stmt := top 24
abbrev s_law_number : Stmt := top 25
abbrev s_law_ends : Stmt := top 26
abbrev s_law_read : Stmt := top 27
abbrev s_law_whole : Stmt := top 28
abbrev s_law_alike : Stmt := top 29
abbrev s_law_numbers_right : Stmt := top 30
abbrev s_law_word : Stmt := top 31
abbrev s_law_is_word : Stmt := top 32
abbrev s_law_good : Stmt := top 33
abbrev s_law_words_right : Stmt := top 34
abbrev s_Words_written_Words : Stmt := inClass (top 19) 4
abbrev s_Words___init___Words : Stmt := inClass (top 19) 0
abbrev s_Domain___init___Words : Stmt := inClass (top 17) 0
abbrev s_Numbers___init___Numbers : Stmt := inClass (top 18) 0
abbrev s_Domain___init___Numbers : Stmt := inClass (top 17) 0
abbrev s_Numbers_written_Numbers : Stmt := inClass (top 18) 4
abbrev s_law : Stmt := top 35
theorem sc_all_among : FnScope ["text", "signs", "sign"] ["text", "signs"] (defScope s_all_among) := ⟨rfl, rfl, rfl, by decide +kernel, rfl, by decide +kernel, by decide +kernel⟩
theorem sc_is_word : FnScope ["text"] ["text"] (defScope s_is_word) := ⟨rfl, rfl, rfl, by decide +kernel, rfl, by decide +kernel, by decide +kernel⟩
theorem sc_is_number : FnScope ["text", "figures"] ["text"] (defScope s_is_number) := ⟨rfl, rfl, rfl, by decide +kernel, rfl, by decide +kernel, by decide +kernel⟩
theorem sc_number_of : FnScope ["text"] ["text"] (defScope s_number_of) := ⟨rfl, rfl, rfl, by decide +kernel, rfl, by decide +kernel, by decide +kernel⟩
theorem sc_number_text : FnScope ["number"] ["number"] (defScope s_number_text) := ⟨rfl, rfl, rfl, by decide +kernel, rfl, by decide +kernel, by decide +kernel⟩
theorem sc_alike : FnScope ["one", "other"] ["one", "other"] (defScope s_alike) := ⟨rfl, rfl, rfl, by decide +kernel, rfl, by decide +kernel, by decide +kernel⟩
theorem sc_read_domain : FnScope ["text"] ["text"] (defScope s_read_domain) := ⟨rfl, rfl, rfl, by decide +kernel, rfl, by decide +kernel, by decide +kernel⟩
theorem sc_read_numbers : FnScope ["text", "ends", "low", "high"] ["text"] (defScope s_read_numbers) := ⟨rfl, rfl, rfl, by decide +kernel, rfl, by decide +kernel, by decide +kernel⟩
theorem sc_law_cell_at : FnScope ["script", "k"] ["script", "k"] (defScope s_law_cell_at) := ⟨rfl, rfl, rfl, by decide +kernel, rfl, by decide +kernel, by decide +kernel⟩
theorem sc_law_number : FnScope ["text", "figures", "number", "sign"] ["text"] (defScope s_law_number) := ⟨rfl, rfl, rfl, by decide +kernel, rfl, by decide +kernel, by decide +kernel⟩
theorem sc_law_ends : FnScope ["cell", "one", "two", "way", "ends", "at", "odd"] ["cell"] (defScope s_law_ends) := ⟨rfl, rfl, rfl, by decide +kernel, rfl, by decide +kernel, by decide +kernel⟩
theorem sc_law_read : FnScope ["text", "found", "refused", "e"] ["text"] (defScope s_law_read) := ⟨rfl, rfl, rfl, by decide +kernel, rfl, by decide +kernel, by decide +kernel⟩
theorem sc_law_whole : FnScope ["found"] ["found"] (defScope s_law_whole) := ⟨rfl, rfl, rfl, by decide +kernel, rfl, by decide +kernel, by decide +kernel⟩
theorem sc_law_alike : FnScope ["one", "other", "due", "found", "back"] ["one", "other", "due"] (defScope s_law_alike) := ⟨rfl, rfl, rfl, by decide +kernel, rfl, by decide +kernel, by decide +kernel⟩
theorem sc_law_numbers_right : FnScope ["cell", "ends", "low", "high", "text", "found", "domain"] ["cell"] (defScope s_law_numbers_right) := ⟨rfl, rfl, rfl, by decide +kernel, rfl, by decide +kernel, by decide +kernel⟩
theorem sc_law_word : FnScope ["cell", "some", "size"] ["cell"] (defScope s_law_word) := ⟨rfl, rfl, rfl, by decide +kernel, rfl, by decide +kernel, by decide +kernel⟩
theorem sc_law_is_word : FnScope ["text", "sign"] ["text"] (defScope s_law_is_word) := ⟨rfl, rfl, rfl, by decide +kernel, rfl, by decide +kernel, by decide +kernel⟩
theorem sc_law_good : FnScope ["words", "k"] ["words"] (defScope s_law_good) := ⟨rfl, rfl, rfl, by decide +kernel, rfl, by decide +kernel, by decide +kernel⟩
theorem sc_law_words_right : FnScope ["words", "text", "good", "found", "domain", "others"] ["words", "text", "good"] (defScope s_law_words_right) := ⟨rfl, rfl, rfl, by decide +kernel, rfl, by decide +kernel, by decide +kernel⟩
theorem sc_Words_written_Words : FnScope ["self"] ["self"] (defScope s_Words_written_Words) := ⟨rfl, rfl, rfl, by decide +kernel, rfl, by decide +kernel, by decide +kernel⟩
theorem sc_Words___init___Words : FnScope ["self", "words", "word"] ["self", "words"] (defScope s_Words___init___Words) := ⟨rfl, rfl, rfl, by decide +kernel, rfl, by decide +kernel, by decide +kernel⟩
theorem sc_Domain___init___Words : FnScope ["self", "low", "high"] ["self", "low", "high"] (defScope s_Domain___init___Words) := ⟨rfl, rfl, rfl, by decide +kernel, rfl, by decide +kernel, by decide +kernel⟩
theorem sc_Numbers___init___Numbers : FnScope ["self", "low", "high"] ["self", "low", "high"] (defScope s_Numbers___init___Numbers) := ⟨rfl, rfl, rfl, by decide +kernel, rfl, by decide +kernel, by decide +kernel⟩
theorem sc_Domain___init___Numbers : FnScope ["self", "low", "high"] ["self", "low", "high"] (defScope s_Domain___init___Numbers) := ⟨rfl, rfl, rfl, by decide +kernel, rfl, by decide +kernel, by decide +kernel⟩
theorem sc_Numbers_written_Numbers : FnScope ["self"] ["self"] (defScope s_Numbers_written_Numbers) := ⟨rfl, rfl, rfl, by decide +kernel, rfl, by decide +kernel, by decide +kernel⟩
theorem sc_law : FnScope ["script", "cell", "words", "head", "way", "bad", "at", "good", "mark", "text"] ["script"] (defScope s_law) := ⟨rfl, rfl, rfl, by decide +kernel, rfl, by decide +kernel, by decide +kernel⟩
structure Bl (K : PySem.W.Frag) (mg : Str → Option Value) (cTableError cBadNumber cBadName cBadDomain cDomain cNumbers cWords : Addr) : Prop where
  TableError_ : mg "TableError" = some (.ref cTableError)
  n_TableError : PySem.W.nsIn K mainGlobals "TableError" = some (some (.ref cTableError))
  BadNumber_ : mg "BadNumber" = some (.ref cBadNumber)
  n_BadNumber : PySem.W.nsIn K mainGlobals "BadNumber" = some (some (.ref cBadNumber))
  BadName_ : mg "BadName" = some (.ref cBadName)
  n_BadName : PySem.W.nsIn K mainGlobals "BadName" = some (some (.ref cBadName))
  BadDomain_ : mg "BadDomain" = some (.ref cBadDomain)
  n_BadDomain : PySem.W.nsIn K mainGlobals "BadDomain" = some (some (.ref cBadDomain))
  Domain_ : mg "Domain" = some (.ref cDomain)
  n_Domain : PySem.W.nsIn K mainGlobals "Domain" = some (some (.ref cDomain))
  Numbers_ : mg "Numbers" = some (.ref cNumbers)
  n_Numbers : PySem.W.nsIn K mainGlobals "Numbers" = some (some (.ref cNumbers))
  Words_ : mg "Words" = some (.ref cWords)
  n_Words : PySem.W.nsIn K mainGlobals "Words" = some (some (.ref cWords))
  x_BadNumber : ExcCls K cBadNumber
  l_BadNumber : ExcLook K cBadNumber
  x_BadDomain : ExcCls K cBadDomain
  l_BadDomain : ExcLook K cBadDomain
  k_Numbers : Cls K cNumbers
  k_Words : Cls K cWords
  t_Numbers : InsT K cNumbers
  t_Words : InsT K cWords
  na_Numbers_low : NoAttr K cNumbers "low"
  na_Numbers_high : NoAttr K cNumbers "high"
  na_Words_low : NoAttr K cWords "low"
  na_Words_high : NoAttr K cWords "high"
  na_Words_words : NoAttr K cWords "words"
  f_nn : PySem.W.kitOne K (.ref cNumbers) (.ref cNumbers) = some true
  f_wn : PySem.W.kitOne K (.ref cWords) (.ref cNumbers) = some false
  f_nw : PySem.W.kitOne K (.ref cNumbers) (.ref cWords) = some false
  f_ww : PySem.W.kitOne K (.ref cWords) (.ref cWords) = some true
  f_nd : PySem.W.kitOne K (.ref cNumbers) (.ref cDomain) = some true
  f_wd : PySem.W.kitOne K (.ref cWords) (.ref cDomain) = some true
  f_d0 : PySem.W.exmOne K (.ref cBadDomain) (.ref cTableError) = some true
  f_d1 : PySem.W.kitOne K (.ref cBadDomain) (.ref cBadDomain) = some true
  f_d2 : PySem.W.kitOne K (.ref cBadDomain) (.type "ValueError") = some true
  f_d3 : PySem.W.kitAny K (.ref cBadDomain) [.ref cBadNumber, .ref cBadName] = some false
  len_ : mg "len" = none
  int_ : mg "int" = none
  str_ : mg "str" = none
  isinstance_ : mg "isinstance" = none
  min_ : mg "min" = none
  max_ : mg "max" = none
  ValueError_ : mg "ValueError" = none
  bool_ : mg "bool" = none
  range_ : mg "range" = none
  list_ : mg "list" = none
  set_ : mg "set" = none
  MOST_SIGNS_ : ∃ u, mg "MOST_SIGNS" = some u ∧ RelV (V.int 12) u
  SMALL_LETTERS_ : ∃ u, mg "SMALL_LETTERS" = some u ∧ RelV (V.str "abcdefghijklmnopqrstuvwxyz") u
  MOST_FIGURES_ : ∃ u, mg "MOST_FIGURES" = some u ∧ RelV (V.int 60) u
  FIGURES_ : ∃ u, mg "FIGURES" = some u ∧ RelV (V.str "0123456789") u
  MOST_WORDS_ : ∃ u, mg "MOST_WORDS" = some u ∧ RelV (V.int 40) u
theorem getI {xs : List V} {i : Nat} {x : V} (e : xs[i]? = some x) : atI xs (0 + (i : Int)) = some x := by
  rw [Int.zero_add]; exact atI_nat e
theorem ret_r1 {H : Hp} {r : Addr} {o : HO} {b : Addr} {u : HO} (h : H r = some u) (n : H b = none) : upd H b o r = some u := by rw [upd_ne (ne_of_none h n)]; exact h
theorem take_snoc {α : Type} {l : List α} {i : Nat} {x : α} (e : l[i]? = some x) : l.take (i + 1) = l.take i ++ [x] := by rw [List.take_add_one, e]; rfl
def lets : Str := "abcdefghijklmnopqrstuvwxyz"
def isw (z : Str) : Bool := decide ((1 : Int) ≤ ((z.length : Nat) : Int)) && (decide (((z.length : Nat) : Int) ≤ 12) && (!decide (V.str z = V.str "not") && allIn z lets))
theorem all_no {l : List Nat} {i : Nat} {c : Nat} {p : Nat → Bool} (e : l[i]? = some c) (h : p c = false) : l.all p = false := by
  cases q : l.all p with
  | false => rfl
  | true => rw [List.all_eq_true.mp q c (List.mem_of_getElem? e)] at h; cases h
theorem all_succ {l : List Nat} {i : Nat} {c : Nat} {p : Nat → Bool} (e : l[i]? = some c) (h : p c = true) (ha : (l.take i).all p = true) : (l.take (i + 1)).all p = true := by
  rw [take_snoc e, List.all_append, ha]; simp [h]
theorem all_done {z g : Str} (h : (z.cps.toList.take z.cps.size).all (sg g) = true) : allIn z g = true := by
  have e : z.cps.toList.take z.cps.size = z.cps.toList := by rw [← Array.length_toList]; exact List.take_length
  rw [e] at h; exact h
theorem not_sg {g : Str} {c : Nat} (h : (!(!(Builtin.Str.occurrences g ⟨#[c]⟩ 0 g.length 1).isEmpty)) = true) : sg g c = false := by unfold sg; simpa using h
theorem is_sg {g : Str} {c : Nat} (h : ¬ (!(!(Builtin.Str.occurrences g ⟨#[c]⟩ 0 g.length 1).isEmpty)) = true) : sg g c = true := by unfold sg; simpa using h
theorem big {n : Nat} (h : n ≤ 1000) : n ≤ sizeLine := Nat.le_of_lt (small1000 h)
/-- texts of few, small signs -/
structure Sm (n : Nat) (z : Str) : Prop where
  len : z.length ≤ n
  low : ∀ c ∈ z.cps.toList, c < 16 ^ 8
theorem Sm.le {m n : Nat} {z : Str} (h : Sm m z) (k : m ≤ n) : Sm n z := ⟨Nat.le_trans h.len k, h.low⟩
theorem Sm.app {m n : Nat} {x y : Str} (h : Sm m x) (k : Sm n y) : Sm (m + n) (x ++ y) := by
  refine ⟨by rw [len_app]; have := h.len; have := k.len; omega, fun c hc => ?_⟩
  have e : (x ++ y).cps.toList = x.cps.toList ++ y.cps.toList := by show (Str.append x y).cps.toList = _; unfold Str.append; simp
  rw [e] at hc
  rcases List.mem_append.mp hc with z | z
  · exact h.low c z
  · exact k.low c z
theorem Sm.one {c : Nat} (h : c < 16 ^ 8) : Sm 1 ⟨#[c]⟩ := by
  refine ⟨Nat.le_refl 1, fun x hx => ?_⟩
  have e : x = c := by simpa using hx
  rw [e]; exact h
theorem low_of (s : String) : ∀ c ∈ (Str.ofString s).cps.toList, c < 16 ^ 8 := fun c hc => by
  rw [Str.ofString_eq_toList] at hc
  simp only [List.mem_map] at hc
  obtain ⟨ch, _, rfl⟩ := hc
  exact ch.val.toNat_lt
theorem Sm.of (s : String) {n : Nat} (h : (Str.ofString s).length ≤ n) : Sm n (Str.ofString s) := ⟨h, low_of s⟩
theorem Sm.num {i : Int} (h : i.natAbs < 10 ^ 60) : Sm 61 (Str.ofString (toString i)) := by
  refine Sm.of _ ?_
  have e : (Str.ofString (toString i)).length = (toString i).length := by
    rw [Str.ofString_eq_toList]
    show (List.map Char.toNat (toString i).toList).toArray.size = _
    rw [List.size_toArray, List.length_map]
    exact String.length_toList
  rw [e]
  exact int_text_length_le10 (by decide) h
theorem Sm.join24 {ys : List Str} (h : ∀ y ∈ ys, y.length = 1) (k : ∀ y ∈ ys, Sm 1 y) (hl : ys.length ≤ 12) : (ys.map (·.length)).sum + ys.length * 64 ≤ 16777216 ∧ Sm 100 (PySem.Txt.join (Str.ofString "") ys) := by
  have e : (ys.map (·.length)).sum = ys.length := by
    clear hl k
    induction ys with
    | nil => rfl
    | cons y ys ih =>
      rw [List.map_cons, List.sum_cons, h y List.mem_cons_self, ih fun z hz => h z (List.mem_cons_of_mem _ hz), List.length_cons]
      omega
  refine ⟨by rw [e]; omega, ?_, fun c hc => ?_⟩
  · have z := PyProof.Rows.len_join_le (sep := Str.ofString "") (ys := ys) (n := 2 * ys.length - 1) (by show (ys.map (·.length)).sum + ys.length ≤ 2 * ys.length - 1 + 1; rw [e]; omega) (by decide)
    omega
  · have e2 : PySem.Txt.join (Str.ofString "") ys = (Str.ofString "").join ys := PySem.StrLaws.glued_eq_join _ _
    rw [e2] at hc
    rcases (PyProof.Rows.mem_join _ _ _).mp hc with ⟨t, ht, z⟩ | ⟨_, z⟩
    · exact (k t ht).low c z
    · exact low_of "" c z
def Pl : V → Prop
  | .non => True
  | .bl _ => True
  | .int _ => True
  | .str _ => True
  | _ => False
def isI : V → Bool
  | .int _ => true
  | _ => false
def bnd (i : Int) : Prop := i.natAbs < 10 ^ 60
theorem len_num {i : Int} (h : bnd i) : (Str.ofString (toString i)).length ≤ 61 := by
  have e : (Str.ofString (toString i)).length = (toString i).length := by
    rw [Str.ofString_eq_toList]
    show (List.map Char.toNat (toString i).toList).toArray.size = _
    rw [List.size_toArray, List.length_map]
    exact String.length_toList
  rw [e]
  exact int_text_length_le10 (by decide) h
/-- the new instance -/
def mkd (C : Addr) (H : Hp) (x dx : Addr) (lo hi : Int) : Hp := upd (upd H x (.ins C dx [("low", .int lo)])) x (.ins C dx [("low", .int lo), ("high", .int hi)])
theorem mkd_same {C : Addr} {H : Hp} {x dx : Addr} (lo hi : Int) (hx : H x = none) (hd : H dx = none) (hne : dx ≠ x) : Same H (mkd C (upd (upd H dx (.own x)) x (.ins C dx [])) x dx lo hi) := by
  unfold mkd
  exact ((((same_new hd _).upd hx).upd hx).upd hx)
theorem mem_map_int {ns : List Int} {i : Nat} {x : V} (e : (ns.map V.int)[i]? = some x) : ∃ c, x = .int c ∧ c ∈ ns := by
  rw [List.getElem?_map] at e
  cases z : ns[i]? with
  | none => rw [z] at e; cases e
  | some w => rw [z] at e; cases e; exact ⟨w, rfl, List.mem_of_getElem? z⟩
theorem put2 (v u : V) : putF (Str.ofString "high") u [(Str.ofString "low", v)] = [(Str.ofString "low", v), (Str.ofString "high", u)] := by
  unfold putF putF
  rw [if_neg (by decide)]
theorem put3 (v u t : V) : putF (Str.ofString "words") t [(Str.ofString "low", v), (Str.ofString "high", u)] = [(Str.ofString "low", v), (Str.ofString "high", u), (Str.ofString "words", t)] := by
  unfold putF putF putF
  rw [if_neg (by decide), if_neg (by decide)]
def hiW (zs : List Str) : Int := ((zs.length : Nat) : Int) - 1
def Wrd (C : Addr) (H : Hp) (a : Addr) (zs : List Str) : Prop := ∃ dx l, H a = some (.ins C dx [("low", .int 0), ("high", .int (hiW zs)), ("words", .ref l)]) ∧ H l = some (.lst (zs.map V.str))
theorem Wrd.same {C : Addr} {H H' : Hp} {a : Addr} {zs : List Str} (h : Wrd C H a zs) (s : Same H H') : Wrd C H' a zs := let ⟨dx, l, e, f⟩ := h; ⟨dx, l, s _ _ e, s _ _ f⟩
structure Good (zs : List Str) : Prop where
  some_ : 1 ≤ zs.length
  few : zs.length ≤ 40
  words : ∀ z ∈ zs, isw z = true
  once : zs.Nodup
def inW (zs : List Str) : V → Bool
  | .str z => decide (z ∈ zs)
  | _ => false
theorem flat_strs (zs : List Str) : (zs.map V.str).all flatV = true := by
  rw [List.all_map]
  exact List.all_eq_true.mpr fun _ _ => rfl
theorem inV_W (zs : List Str) (v : V) (h : Pl v) : inV v (zs.map V.str) = inW zs v := by
  unfold inV inW
  rw [List.any_map]
  cases v with
  | str z =>
    rw [Bool.eq_iff_iff, List.any_eq_true, decide_eq_true_iff]
    constructor
    · rintro ⟨y, hy, e⟩
      have : y = z := by simpa [eqV] using e
      rw [← this]; exact hy
    · intro hz
      exact ⟨z, hz, by simp [eqV]⟩
  | non => exact List.any_eq_false.mpr fun y _ => by simp [eqV]
  | bl b => exact List.any_eq_false.mpr fun y _ => by simp [eqV]
  | int i => exact List.any_eq_false.mpr fun y _ => by simp [eqV]
  | _ => exact h.elim
theorem get_strs {zs : List Str} {i : Nat} {x : V} (e : (zs.map V.str)[i]? = some x) : ∃ z, x = .str z ∧ zs[i]? = some z := by
  rw [List.getElem?_map] at e
  cases q : zs[i]? with
  | none => rw [q] at e; cases e
  | some z => rw [q] at e; cases e; exact ⟨z, rfl, rfl⟩
theorem put_strs {zs : List Str} {i : Nat} {z : Str} (e : zs[i]? = some z) : (zs.map V.str)[i]? = some (.str z) := by rw [List.getElem?_map, e]; rfl
def inB (lo hi : Int) : V → Bool
  | .int i => decide (lo ≤ i) && decide (i ≤ hi)
  | _ => false
def First (zs : List Str) (z : Str) (j : Nat) : Prop := zs[j]? = some z ∧ ∀ (m : Nat) (u : Str), m < j → zs[m]? = some u → u ≠ z
theorem sum_short {zs : List Str} (h : ∀ z ∈ zs, isw z = true) (hl : zs.length ≤ 40) : (zs.map (·.length)).sum + zs.length * 64 ≤ 16777216 := by
  have : ∀ ys : List Str, (∀ z ∈ ys, isw z = true) → (ys.map (·.length)).sum ≤ ys.length * 12 := fun ys => by
    induction ys with
    | nil => intro _; exact Nat.le_refl _
    | cons y ys ih =>
      intro hy
      have h1 := ih fun z hz => hy z (List.mem_cons_of_mem _ hz)
      have h2 := hy y List.mem_cons_self
      unfold isw at h2
      simp only [Bool.and_eq_true, decide_eq_true_eq] at h2
      rw [List.map_cons, List.sum_cons, List.length_cons]
      omega
  have := this zs h
  omega
theorem at_strs {zs : List Str} {k : Int} (h0 : 0 ≤ k) (h1 : k < ((zs.length : Nat) : Int)) : ∃ z, z ∈ zs ∧ atI (zs.map V.str) k = some (.str z) := by
  have hk : k.toNat < zs.length := by omega
  refine ⟨zs[k.toNat], List.getElem_mem hk, ?_⟩
  have z := atI_nat (put_strs (List.getElem?_eq_getElem hk))
  rw [show ((k.toNat : Nat) : Int) = k by omega] at z
  exact z
def yn : List Str := [Str.ofString "yes", Str.ofString "no"]
def Num (C : Addr) (H : Hp) (a : Addr) (lo hi : Int) : Prop := ∃ dx, H a = some (.ins C dx [("low", .int lo), ("high", .int hi)])
theorem Num.same {C : Addr} {H H' : Hp} {a : Addr} {lo hi : Int} (h : Num C H a lo hi) (s : Same H H') : Num C H' a lo hi := let ⟨dx, e⟩ := h; ⟨dx, s _ _ e⟩
theorem mkd_num (C : Addr) (H : Hp) (x dx : Addr) (lo hi : Int) : Num C (mkd C H x dx lo hi) x lo hi := ⟨dx, upd_same⟩
/-- two domains, as the law keeps them -/
structure Two (C : Addr) (H : Hp) (e d : Addr) (t0 t1 x0 x1 : Addr) (p0 p1 : Int × Int) : Prop where
  ends : H e = some (.lst [.ref t0, .ref t1])
  doms : H d = some (.lst [.ref x0, .ref x1])
  e0 : H t0 = some (.tup [.int p0.1, .int p0.2])
  e1 : H t1 = some (.tup [.int p1.1, .int p1.2])
  d0 : Num C H x0 p0.1 p0.2
  d1 : Num C H x1 p1.1 p1.2
structure Gd (p : Int × Int) : Prop where
  le : p.1 ≤ p.2
  lo : bnd p.1
  hi : bnd p.2
def ten : Str := "0123456789"
def figz (z : Str) : Str := if Txt.startswith z "-" = true then Txt.slice z (some 1) none else z
def isn (z : Str) : Bool := decide (V.str z = V.str "0") || (decide ((1 : Int) ≤ (((figz z).length : Nat) : Int)) && (decide ((((figz z).length : Nat) : Int) ≤ 60) && (!decide (V.str ⟨#[(figz z).cps.toList.headD 0]⟩ = V.str "0") && allIn (figz z) ten)))
theorem figz_len (z : Str) : (figz z).length ≤ z.length := by
  unfold figz
  by_cases h : Txt.startswith z "-" = true
  · rw [if_pos h]; exact Txt.slice_le _ _ _
  · rw [if_neg h]; exact Nat.le_refl _
theorem head_at {z : Str} (h : 1 ≤ z.length) : atI z.cps.toList 0 = some (z.cps.toList.headD 0) := by
  have e : z.cps.toList.length = z.length := by simp [Str.length]
  cases hc : z.cps.toList with
  | nil => rw [hc] at e; simp at e; omega
  | cons c r => exact atI_nat (j := 0) (show (c :: r)[0]? = some c from rfl)
theorem slice1 {c : Nat} {cs : List Nat} : Txt.slice ⟨(c :: cs).toArray⟩ (some 1) none = ⟨cs.toArray⟩ := by
  have h := StrLaws.sliceText_from (x := ⟨(c :: cs).toArray⟩) (i := 1) ⟨by decide, by simp; omega⟩
  have e : Txt.slice ⟨(c :: cs).toArray⟩ (some 1) none = StrLaws.sliceText ⟨(c :: cs).toArray⟩ (some 1) none := rfl
  rw [e, h]
  simp
theorem starts_minus {c : Nat} {cs : List Nat} : Txt.startswith ⟨(c :: cs).toArray⟩ "-" = (c == 45) := by
  have e : (Str.ofString "-") = ⟨#[45]⟩ := by decide +kernel
  show Txt.startswith ⟨(c :: cs).toArray⟩ (Str.ofString "-") = _
  rw [e]
  unfold Txt.startswith Builtin.Str.subAt
  simp [Str.length, List.extract_toArray]

/-- the number that a text writes -/
def valz (z : Str) : Int := if Txt.startswith z "-" = true then -((PySem.NumText.digitsVal (figz z).cps.toList : Nat) : Int) else ((PySem.NumText.digitsVal (figz z).cps.toList : Nat) : Int)
def dueV (z : Str) : V := if isn z = true then .int (valz z) else .non
theorem ten_mem {c : Nat} : sg ten c = decide (48 ≤ c ∧ c ≤ 57) := by
  unfold sg
  rw [PySem.StrLaws.found_one]
  have e : ten.cps.toList = [48, 49, 50, 51, 52, 53, 54, 55, 56, 57] := by decide +kernel
  rw [e]
  apply decide_eq_decide.mpr
  simp only [List.mem_cons, List.not_mem_nil, or_false]
  omega
theorem allIn_ten {z : Str} (h : allIn z ten = true) : PySem.NumText.AllDigits z.cps.toList := fun c hc => by
  have := List.all_eq_true.mp h c hc
  rw [ten_mem] at this
  exact of_decide_eq_true this
theorem find_ten {c : Nat} (h : sg ten c = true) : Txt.find ten ⟨#[c]⟩ = ((c - 48 : Nat) : Int) := by
  rw [ten_mem] at h
  have h := of_decide_eq_true h
  have : c = 48 ∨ c = 49 ∨ c = 50 ∨ c = 51 ∨ c = 52 ∨ c = 53 ∨ c = 54 ∨ c = 55 ∨ c = 56 ∨ c = 57 := by omega
  rcases this with rfl | rfl | rfl | rfl | rfl | rfl | rfl | rfl | rfl | rfl <;> decide +kernel
theorem z_cs (z : Str) : z = ⟨z.cps.toList.toArray⟩ := by simp
theorem first1 (z : Str) : decide (V.str (Txt.slice z none (some 1)) = V.str "-") = Txt.startswith z "-" := by
  have e : (Str.ofString "-") = ⟨#[45]⟩ := by decide +kernel
  rw [z_cs z]
  generalize z.cps.toList = cs
  cases cs with
  | nil => decide +kernel
  | cons c r =>
    have h := StrLaws.sliceText_to (x := ⟨(c :: r).toArray⟩) (j := 1) ⟨by decide, by simp; omega⟩
    have e1 : Txt.slice ⟨(c :: r).toArray⟩ none (some 1) = ⟨#[c]⟩ := by
      show StrLaws.sliceText ⟨(c :: r).toArray⟩ none (some 1) = _
      rw [h]; simp
    rw [e1, starts_minus]
    show decide (V.str ⟨#[c]⟩ = V.str (Str.ofString "-")) = _
    rw [e]
    by_cases hc : c = 45
    · subst hc; decide
    · rw [decide_eq_false (by intro z; injection z with z; injection z with z; injection z with z; injection z with z; exact hc z)]
      simp [hc]
theorem isn_law (z : Str) : isn z = (decide ((1 : Int) ≤ (((figz z).length : Nat) : Int)) && (decide ((((figz z).length : Nat) : Int) ≤ 60) && (!(decide (V.str ⟨#[(figz z).cps.toList.headD 0]⟩ = V.str "0") && !decide (V.str z = V.str "0")) && allIn (figz z) ten))) := by
  unfold isn
  by_cases h : V.str z = V.str (Str.ofString "0")
  · have hz : z = Str.ofString "0" := by injection h
    subst hz
    decide +kernel
  · rw [decide_eq_false h]; simp
/-- what int(..) reads of it -/
theorem read_z {z : Str} (h : isn z = true) (hl : z.length ≤ 600) : PySem.intText? z = some (valz z) := by
  rw [isn_law] at h
  simp only [Bool.and_eq_true, decide_eq_true_eq] at h
  obtain ⟨h1, h2, h3, h4⟩ := h
  have ad := allIn_ten h4
  have ne : (figz z).cps.toList ≠ [] := fun e => by
    have : (figz z).cps.toList.length = (figz z).length := by simp [Str.length]
    rw [e] at this; simp at this; omega
  unfold valz
  by_cases hm : Txt.startswith z "-" = true
  · rw [if_pos hm]
    have ez : z.cps.toList = 45 :: (figz z).cps.toList := by
      have key : ∀ cs : List Nat, Txt.startswith ⟨cs.toArray⟩ "-" = true → cs = 45 :: (figz ⟨cs.toArray⟩).cps.toList := fun cs hc => by
        cases cs with
        | nil => exact absurd hc (by decide +kernel)
        | cons c r =>
          unfold figz
          rw [if_pos hc, slice1]
          rw [starts_minus] at hc
          have : c = 45 := by simpa using hc
          rw [this]
      have := key z.cps.toList (by rw [← z_cs]; exact hm)
      rw [← z_cs] at this
      exact this
    exact intText_neg ez ad ne (by omega)
  · rw [if_neg hm]
    have ef : figz z = z := by unfold figz; rw [if_neg hm]
    rw [ef] at ad ne ⊢
    exact intText_digits ad ne (by omega)
theorem log_small {n : Int} (h : n.natAbs < 10 ^ 60) : n.natAbs.log2 < 1920 := by
  by_cases z : n.natAbs = 0
  · rw [z]; decide
  · have := (Nat.log2_lt (k := 200) z).mpr (Nat.lt_trans h (by decide))
    omega
theorem T60 : ((10 : Int) ^ (60 : Int).toNat) = ((10 ^ 60 : Nat) : Int) := by decide +kernel
theorem key60 (x : Int) : (x % (2 * 10 ^ (60 : Int).toNat - 1) - 10 ^ (60 : Int).toNat + 1).natAbs < 10 ^ 60 := by
  rw [T60]
  have e0 : (0 : Int) < 2 * ((10 ^ 60 : Nat) : Int) - 1 := by decide
  have h0 := Int.emod_nonneg x (Int.ne_of_gt e0)
  have h1 := Int.emod_lt_of_pos x e0
  generalize (10 ^ 60 : Nat) = T at e0 h0 h1 ⊢
  omega
theorem pos60 : (0 : Int) < 2 * 10 ^ (60 : Int).toNat - 1 := by rw [T60]; decide
def tx1 : List Str := [Str.ofString "0", "-0", "", "-", "00", "-01", "7", "-7", "+7", " 7", "7 ", "--1", "1-", Str.ofString "1" ++ Txt.mul (Str.ofString "0") 59]
def tx2 : List Str := [Str.ofString "1" ++ Txt.mul (Str.ofString "0") 60, Str.ofString "-" ++ Txt.mul (Str.ofString "9") 60, "1_0", "7\n", "\n7"]
def nums0 : List Int := [0, 1, -1, 10, -100, 10 ^ (60 : Int).toNat - 1, 1 - 10 ^ (60 : Int).toNat]
theorem dv_lt : ∀ {cs : List Nat}, PySem.NumText.AllDigits cs → PySem.NumText.digitsVal cs < 10 ^ cs.length
  | [], _ => by decide
  | c :: r, h => by
    have h1 := h c (by simp)
    have h2 := dv_lt (cs := r) fun x hx => h x (List.mem_cons_of_mem _ hx)
    rw [dv_cons, List.length_cons, Nat.pow_succ]
    have h3 : (c - 48) * 10 ^ r.length ≤ 9 * 10 ^ r.length := Nat.mul_le_mul_right _ (by omega)
    omega
def W8 : List Str := [Str.ofString "two", Str.ofString "one", Str.ofString "three", Str.ofString "oneone", Str.ofString "o", Str.ofString "zero", Str.ofString "on", Str.ofString "abcdefghijkl"]
theorem isn_parts {z : Str} (h : isn z = true) : Figs (figz z).cps.toList ∧ (figz z).cps.toList.length ≤ 60 ∧ tl z = numCs (valz z) (figz z).cps.toList ∧ PySem.NumText.digitsVal (figz z).cps.toList = (valz z).natAbs := by
  have h0 := h
  rw [isn_law] at h
  simp only [Bool.and_eq_true, decide_eq_true_eq, Bool.not_eq_true', Bool.and_eq_false_iff, Bool.not_eq_false'] at h
  obtain ⟨h1, h2, h3, h4⟩ := h
  have ad := allIn_ten h4
  have hlen : (figz z).cps.toList.length = (figz z).length := by simp [Str.length]
  obtain ⟨c, r, ecr⟩ : ∃ c r, (figz z).cps.toList = c :: r := by
    cases hh : (figz z).cps.toList with
    | nil => rw [hh] at hlen; simp at hlen; omega
    | cons c r => exact ⟨c, r, rfl⟩
  have hc := ad c (by rw [ecr]; simp)
  have hz0 : z ≠ Str.ofString "0" → c ≠ 48 := fun hz e => by
    rcases h3 with h3 | h3
    · have : V.str ⟨#[(figz z).cps.toList.headD 0]⟩ = V.str (Str.ofString "0") := by
        rw [ecr, e]
        rfl
      exact absurd this (of_decide_eq_false h3)
    · have := h3
      exact hz (by injection this)
  have F : Figs (figz z).cps.toList := by
    refine ⟨ad, ?_⟩
    by_cases hz : z = Str.ofString "0"
    · left
      subst hz
      decide +kernel
    · right
      exact ⟨c, r, ecr, by have := hz0 hz; omega⟩
  have hv0 : Txt.startswith z "-" = true → 0 < PySem.NumText.digitsVal (figz z).cps.toList := fun hm => by
    have hz : z ≠ Str.ofString "0" := fun e => by rw [e] at hm; exact absurd hm (by decide +kernel)
    have := hz0 hz
    rw [ecr, dv_cons]
    have h5 : 1 * 10 ^ r.length ≤ (c - 48) * 10 ^ r.length := Nat.mul_le_mul_right _ (by omega)
    have h6 : 0 < 10 ^ r.length := Nat.pow_pos (by decide)
    omega
  refine ⟨F, by omega, ?_, ?_⟩
  · by_cases hm : Txt.startswith z "-" = true
    · have key : ∀ cs : List Nat, Txt.startswith ⟨cs.toArray⟩ "-" = true → cs = 45 :: (figz ⟨cs.toArray⟩).cps.toList := fun cs hc => by
        cases cs with
        | nil => exact absurd hc (by decide +kernel)
        | cons c r =>
          unfold figz
          rw [if_pos hc, slice1]
          rw [starts_minus] at hc
          have : c = 45 := by simpa using hc
          rw [this]
      have ez := key z.cps.toList (by rw [← z_cs]; exact hm)
      rw [← z_cs] at ez
      have hneg : valz z < 0 := by
        unfold valz
        rw [if_pos hm]
        have := hv0 hm
        omega
      unfold numCs
      rw [if_pos hneg]
      exact ez
    · have ef : figz z = z := by unfold figz; rw [if_neg hm]
      have hnn : ¬ valz z < 0 := by
        unfold valz
        rw [if_neg hm]
        omega
      unfold numCs
      rw [if_neg hnn, ef]
      rfl
  · unfold valz
    split <;> omega
theorem isn_text {z : Str} (h : isn z = true) : Str.ofString (toString (valz z)) = z := by
  obtain ⟨F, _, e, d⟩ := isn_parts h
  rw [text_of F d]
  refine tl_inj ?_
  show (numCs (valz z) (figz z).cps.toList).toArray.toList = tl z
  rw [e]
theorem isn_nodot {z : Str} (h : isn z = true) : 46 ∉ tl z := fun m => by
  obtain ⟨F, _, e, _⟩ := isn_parts h
  rw [e] at m
  unfold numCs at m
  have no : ∀ c ∈ (figz z).cps.toList, c ≠ 46 := fun c hc z => by have := F.all c hc; omega
  split at m
  · rcases List.mem_cons.mp m with m | m
    · exact absurd m (by decide)
    · exact no _ m rfl
  · exact no _ m rfl
theorem isn_bnd {z : Str} (h : isn z = true) : bnd (valz z) := by
  obtain ⟨F, l, _, d⟩ := isn_parts h
  unfold bnd
  rw [← d]
  exact Nat.lt_of_lt_of_le (dv_lt F.all) (Nat.pow_le_pow_right (by decide) l)
/-- a text of a domain of numbers is read as its ends are -/
theorem read_ends {e0 e1 : Str} : (isn (Txt.partition (e0 ++ dots ++ e1) dots).1 = true ∧ isn (Txt.partition (e0 ++ dots ++ e1) dots).2.2 = true) ∧ (Txt.partition (e0 ++ dots ++ e1) dots).1 = e0 ∧ (Txt.partition (e0 ++ dots ++ e1) dots).2.2 = e1 ∨ ¬ (isn (Txt.partition (e0 ++ dots ++ e1) dots).1 = true ∧ isn (Txt.partition (e0 ++ dots ++ e1) dots).2.2 = true) ∧ ¬ (isn e0 = true ∧ isn e1 = true) := by
  have e := part_is (t := e0 ++ dots ++ e1) dots_in
  have e' : tl (e0 ++ dots ++ e1) = tl e0 ++ ([46, 46] ++ tl e1) := by rw [tl_app, tl_app, tl_dots, List.append_assoc]
  rw [e'] at e
  by_cases h : isn (Txt.partition (e0 ++ dots ++ e1) dots).1 = true ∧ isn (Txt.partition (e0 ++ dots ++ e1) dots).2.2 = true
  · obtain ⟨a, b⟩ := ends_uniq e.symm (isn_nodot h.1) (isn_nodot h.2)
    exact .inl ⟨h, tl_inj a, tl_inj b⟩
  · refine .inr ⟨h, fun g => h ?_⟩
    obtain ⟨a, b⟩ := ends_uniq e (isn_nodot g.1) (isn_nodot g.2)
    rw [← tl_inj a, ← tl_inj b]
    exact g
theorem isw_ltr {z : Str} (h : isw z = true) : Ltr z ∧ tl z ≠ [] := by
  unfold isw at h
  simp only [Bool.and_eq_true, decide_eq_true_eq] at h
  obtain ⟨h1, _, _, h4⟩ := h
  refine ⟨fun c hc => ?_, fun e => by have := tl_len z; rw [e] at this; simp at this; omega⟩
  have := List.all_eq_true.mp h4 c hc
  unfold sg at this
  rw [PySem.StrLaws.found_one] at this
  have m := of_decide_eq_true this
  have e : lets.cps.toList = (List.range 26).map (97 + ·) := by decide +kernel
  rw [e] at m
  obtain ⟨k, hk, rfl⟩ := List.mem_map.mp m
  have := List.mem_range.mp hk
  omega
theorem in_join (m : Str) : ∀ {P : List Str} {p : Str}, p ∈ P → (tl p).length ≤ (tl (Str.join m P)).length ∧ ∀ c ∈ tl p, c ∈ tl (Str.join m P)
  | [], _, h => by cases h
  | [x], p, h => by
    have : p = x := by simpa using h
    rw [this]
    exact ⟨Nat.le_refl _, fun _ h => h⟩
  | x :: y :: r, p, h => by
    rw [tl_join]
    rcases List.mem_cons.mp h with rfl | h
    · exact ⟨by rw [List.length_append]; omega, fun c hc => List.mem_append_left _ hc⟩
    · obtain ⟨a, b⟩ := in_join m (P := y :: r) h
      exact ⟨by rw [List.length_append, List.length_append]; omega, fun c hc => List.mem_append_right _ (List.mem_append_right _ (b c hc))⟩
theorem of_join (m : Str) : ∀ {P : List Str} {c : Nat}, c ∈ tl (Str.join m P) → (∃ p ∈ P, c ∈ tl p) ∨ c ∈ tl m
  | [], c, h => by cases h
  | [x], c, h => .inl ⟨x, by simp, h⟩
  | x :: y :: r, c, h => by
    rw [tl_join] at h
    rcases List.mem_append.mp h with h | h
    · exact .inl ⟨x, by simp, h⟩
    rcases List.mem_append.mp h with h | h
    · exact .inr h
    rcases of_join m (P := y :: r) h with ⟨p, hp, h⟩ | h
    · exact .inl ⟨p, List.mem_cons_of_mem _ hp, h⟩
    · exact .inr h
theorem len_join (m : Str) (k : Nat) : ∀ {P : List Str}, (∀ p ∈ P, (tl p).length ≤ k) → (tl (Str.join m P)).length ≤ P.length * (k + (tl m).length)
  | [], _ => Nat.zero_le _
  | [x], h => by
    have := h x (by simp)
    show (tl x).length ≤ 1 * _
    omega
  | x :: y :: r, h => by
    have h1 := h x (by simp)
    have h2 := len_join m k (P := y :: r) fun p hp => h p (List.mem_cons_of_mem _ hp)
    rw [tl_join, List.length_append, List.length_append, List.length_cons, Nat.succ_mul]
    omega
theorem Sm.joined {m : Str} {k n : Nat} {P : List Str} (hm : Sm n m) (h : ∀ p ∈ P, Sm k p) : Sm (P.length * (k + n)) (Txt.join m P) := by
  rw [join_is]
  refine ⟨?_, fun c hc => ?_⟩
  · rw [← tl_len]
    have h1 := len_join m k (P := P) fun p hp => by rw [tl_len]; exact (h p hp).len
    have h2 := hm.len
    rw [← tl_len] at h2
    exact Nat.le_trans h1 (Nat.mul_le_mul_left _ (by omega))
  · rcases of_join m hc with ⟨p, hp, h2⟩ | h2
    · exact (h p hp).low c h2
    · exact hm.low c h2
theorem Sm.part {n : Nat} {z p : Str} (h : Sm n z) (hp : p ∈ Txt.split z mk2) : Sm n p := by
  obtain ⟨a, b⟩ := in_join mk2 hp
  rw [StrLaws.join_split] at a b
  exact ⟨by rw [← tl_len]; exact Nat.le_trans a (by rw [tl_len]; exact h.len), fun c hc => h.low c (b c hc)⟩
def inD (z : Str) : Bool := !(Builtin.Str.occurrences z dots 0 z.length 1).isEmpty
theorem part_sm {n : Nat} {z : Str} (h : Sm n z) (hd : inD z = true) : Sm n (Txt.partition z dots).1 ∧ Sm n (Txt.partition z dots).2.2 := by
  have e := part_is hd
  have hl := h.len
  rw [← tl_len, e, List.length_append, List.length_append] at hl
  refine ⟨⟨by rw [← tl_len]; omega, fun c hc => h.low c ?_⟩, ⟨by rw [← tl_len]; omega, fun c hc => h.low c ?_⟩⟩
  · show c ∈ tl z
    rw [e]; exact List.mem_append_left _ hc
  · show c ∈ tl z
    rw [e]; exact List.mem_append_right _ (List.mem_append_right _ hc)
abbrev Dm := Sum (Int × Int) (List Str)
def DmOf (cN cW : Addr) (H : Hp) (a : Addr) : Dm → Prop
  | .inl p => Num cN H a p.1 p.2
  | .inr zs => Wrd cW H a zs
theorem DmOf.same {cN cW : Addr} {H H' : Hp} {a : Addr} {d : Dm} (h : DmOf cN cW H a d) (s : Same H H') : DmOf cN cW H' a d := by
  cases d with
  | inl p => exact Num.same h s
  | inr zs => exact Wrd.same h s
def RdN (z : Str) : Option (Int × Int) → Prop
  | none => ¬ (isn (Txt.partition z dots).1 = true ∧ isn (Txt.partition z dots).2.2 = true ∧ valz (Txt.partition z dots).1 ≤ valz (Txt.partition z dots).2.2)
  | some p => isn (Txt.partition z dots).1 = true ∧ isn (Txt.partition z dots).2.2 = true ∧ p = (valz (Txt.partition z dots).1, valz (Txt.partition z dots).2.2) ∧ p.1 ≤ p.2
def RdIs (z : Str) (o : Option Dm) : Prop := (inD z = true ∧ Sm 600 z ∧ ∃ o', RdN z o' ∧ o = o'.map .inl) ∨ (inD z = false ∧ ((Good (Txt.split z mk2) ∧ o = some (.inr (Txt.split z mk2))) ∨ (¬ Good (Txt.split z mk2) ∧ o = none)))
theorem rEqL_strs {K : PySem.W.Frag} {H : Hp} {Q : VK} {a b : Addr} {xs ys : List Str} {r : Bool} (ha : SqL K H a (xs.map V.str)) (hb : SqL K H b (ys.map V.str)) (hr : r = true ↔ xs = ys) (q : Q (.bl r) H) : rEqL K false (.ref a) (.ref b) H Q := by
  by_cases hl : xs.length = ys.length
  · refine ⟨a, b, _, _, rfl, rfl, ha, hb, .inr ⟨by rw [List.length_map, List.length_map]; exact hl, fun j => decide (xs[j]? = ys[j]?), fun j x y e1 e2 => ?_, ?_⟩⟩
    · obtain ⟨z, rfl, f1⟩ := get_strs e1
      obtain ⟨z2, rfl, f2⟩ := get_strs e2
      have h1 := EqI.flat (K := K) (H := H) (x := V.str z) (y := V.str z2) rfl rfl
      have h2 : eqV (V.str z) (V.str z2) = decide (xs[j]? = ys[j]?) := by
        rw [f1, f2, Bool.eq_iff_iff]
        simp [eqV]
      rw [h2] at h1
      exact h1
    · have e : (List.range (xs.map V.str).length).all (fun j => decide (xs[j]? = ys[j]?)) = r := by
        rw [Bool.eq_iff_iff, hr, List.all_eq_true]
        constructor
        · intro h
          apply List.ext_getElem? 
          intro j
          by_cases hj : j < xs.length
          · exact of_decide_eq_true (h j (List.mem_range.mpr (by rw [List.length_map]; exact hj)))
          · rw [List.getElem?_eq_none (by omega), List.getElem?_eq_none (by omega)]
        · intro h j _
          rw [h]
          exact decide_eq_true rfl
      rw [if_neg Bool.false_ne_true, e]
      exact q
  · have e : r = false := by
      rw [Bool.eq_false_iff]
      intro z
      exact hl (by rw [hr.mp z])
    rw [e] at q
    exact ⟨a, b, _, _, rfl, rfl, ha, hb, .inl ⟨by rw [List.length_map, List.length_map]; exact hl, q⟩⟩
theorem new_same {C : Addr} {H H' : Hp} {x dx : Addr} (hx : H x = none) (hdx : H dx = none) (f1 : ∀ b o, b ≠ x → upd (upd H dx (.own x)) x (.ins C dx []) b = some o → H' b = some o) : Same H H' := fun b o h => f1 b o (ne_of_none h hx) (((same_new hdx (.own x)).upd hx) b o h)
theorem new_at {C : Addr} {H : Hp} {x dx p : Addr} {o : HO} (hx : H x = none) (hdx : H dx = none) (h : H p = some o) : upd (upd H dx (.own x)) x (.ins C dx []) p = some o := ((same_new hdx (.own x)).upd hx : Same H _) _ _ h
theorem new_free {C : Addr} {H H' : Hp} {x dx : Addr} (hx : H x = none) (hdx : H dx = none) (s : Same (upd (upd H dx (.own x)) x (.ins C dx [])) H') : Same H H' := ((same_new hdx (.own x)).upd hx : Same H _).trans s
theorem bnd_min {a b : Int} (ha : bnd a) (hb : bnd b) : bnd (if b < a then b else a) := by split <;> assumption
theorem bnd_max {a b : Int} (ha : bnd a) (hb : bnd b) : bnd (if b > a then b else a) := by split <;> assumption
theorem bnd_small {a : Int} (h : a.natAbs < 1000) : bnd a := Nat.lt_trans h (by decide)
theorem log_bnd {a : Int} (h : bnd a) : a.natAbs.log2 < 1920 := log_small h
def odd9 (e : Str) : List Str := [Str.ofString "", Str.ofString "0" ++ e, Str.ofString " " ++ e, Str.ofString "." ++ e, Str.ofString "a", Str.ofString "1" ++ Txt.mul (Str.ofString "0") 60, e ++ Str.ofString ".", Str.ofString "-0", Str.ofString "1_0"]
def odd2 (e : Str) : List Str := [e ++ Str.ofString "..3", e ++ Str.ofString ".."]
theorem odd_sm {e : Str} (h : Sm 61 e) : ∀ z ∈ odd9 e ++ odd2 e, Sm 200 z := by
  have one : ∀ s : String, (Str.ofString s).length ≤ 3 → Sm 3 (Str.ofString s) := fun s h => Sm.of s h
  have k0 : Sm 200 (Str.ofString "0" ++ e) := ((one "0" (by decide)).app h).le (by decide)
  have k1 : Sm 200 (Str.ofString " " ++ e) := ((one " " (by decide)).app h).le (by decide)
  have k2 : Sm 200 (Str.ofString "." ++ e) := ((one "." (by decide)).app h).le (by decide)
  have k3 : Sm 200 (e ++ Str.ofString ".") := (h.app (one "." (by decide))).le (by decide)
  have k4 : Sm 200 (e ++ Str.ofString "..3") := (h.app (one "..3" (by decide))).le (by decide)
  have k5 : Sm 200 (e ++ Str.ofString "..") := (h.app (one ".." (by decide))).le (by decide)
  have k6 : Sm 200 (Str.ofString "1" ++ Txt.mul (Str.ofString "0") 60) := ⟨by decide +kernel, by decide +kernel⟩
  intro z hz
  simp only [odd9, odd2, List.cons_append, List.nil_append, List.mem_cons, List.not_mem_nil, or_false] at hz
  rcases hz with rfl | rfl | rfl | rfl | rfl | rfl | rfl | rfl | rfl | rfl | rfl
  · exact Sm.of _ (by decide)
  · exact k0
  · exact k1
  · exact k2
  · exact Sm.of _ (by decide)
  · exact k6
  · exact k3
  · exact Sm.of _ (by decide)
  · exact Sm.of _ (by decide)
  · exact k4
  · exact k5
theorem len1 (s : String) (n : Nat) (e : Str) (h : Sm 61 e) (hs : (Str.ofString s).length ≤ 100) : (Str.ofString s).length + e.length ≤ sizeLine := by
  have := h.len
  exact Nat.le_trans (show _ ≤ 1000 by omega) (by decide)
theorem len2 (s : String) (n : Nat) (e : Str) (h : Sm 61 e) (hs : (Str.ofString s).length ≤ 100) : e.length + (Str.ofString s).length ≤ sizeLine := by
  have := h.len
  exact Nat.le_trans (show _ ≤ 1000 by omega) (by decide)
def ab2 : List Str := [Str.ofString "a", Str.ofString "b"]
theorem good_ab : Good ab2 := ⟨by decide, by decide, by decide +kernel, by decide +kernel⟩
theorem sm_ab : ∀ z ∈ ab2, Sm 1000 z := fun z hz => by
  unfold ab2 at hz
  simp only [List.mem_cons, List.not_mem_nil, or_false] at hz
  rcases hz with rfl | rfl <;> exact Sm.of _ (by decide)
theorem due_int {z : Str} (h : isn z = true) : dueV z = .int (valz z) := by unfold dueV; rw [if_pos h]
theorem due_non {z : Str} (h : isn z = false) : dueV z = .non := by unfold dueV; rw [h]; rfl
theorem rd_yes {e0 e1 : Str} (h0 : isn e0 = true) (h1 : isn e1 = true) (h : valz e0 ≤ valz e1) (z : Sm 600 (e0 ++ dots ++ e1)) : RdIs (e0 ++ dots ++ e1) (some (.inl (valz e0, valz e1))) := by
  refine .inl ⟨dots_in, z, some (valz e0, valz e1), ?_, rfl⟩
  rcases read_ends (e0 := e0) (e1 := e1) with ⟨_, a, b⟩ | ⟨_, n⟩
  · show isn _ = true ∧ isn _ = true ∧ _ = (_, _) ∧ _
    rw [a, b]
    exact ⟨h0, h1, rfl, h⟩
  · exact absurd ⟨h0, h1⟩ n
theorem rd_no {e0 e1 : Str} (h : ¬ (isn e0 = true ∧ isn e1 = true ∧ valz e0 ≤ valz e1)) (z : Sm 600 (e0 ++ dots ++ e1)) : RdIs (e0 ++ dots ++ e1) none := by
  refine .inl ⟨dots_in, z, none, ?_, rfl⟩
  rcases read_ends (e0 := e0) (e1 := e1) with ⟨g, a, b⟩ | ⟨n, _⟩
  · show ¬ (isn _ = true ∧ isn _ = true ∧ _)
    rw [a, b]
    exact h
  · exact fun g => n ⟨g.1, g.2.1⟩
theorem Good.of_mem {zs ys : List Str} (h : Good zs) (l1 : 1 ≤ ys.length) (l2 : ys.length ≤ 40) (m : ∀ y ∈ ys, y ∈ zs) (n : ys.Nodup) : Good ys := ⟨l1, l2, fun y hy => h.words y (m y hy), n⟩
theorem Good.turn {zs : List Str} (h : Good zs) : Good (zs.drop 1 ++ zs.take 1) := by
  have p : List.Perm (zs.drop 1 ++ zs.take 1) zs := by
    have := List.perm_append_comm (l₁ := zs.drop 1) (l₂ := zs.take 1)
    rw [List.take_append_drop] at this
    exact this
  exact h.of_mem (by rw [p.length_eq]; exact h.some_) (by rw [p.length_eq]; exact h.few) (fun y hy => p.mem_iff.mp hy) (p.nodup_iff.mpr h.once)
theorem Good.less {zs : List Str} (h : Good zs) (l : 2 ≤ zs.length) : Good (zs.take (zs.length - 1)) := by
  have := h.few
  exact h.of_mem (by rw [List.length_take]; omega) (by rw [List.length_take]; omega) (fun y hy => List.mem_of_mem_take hy) (h.once.sublist (List.take_sublist _ _))
theorem cut_one (zs : List Str) : cutV (zs.map V.str) (some 1) none = (zs.drop 1).map V.str := by
  unfold cutV
  have e0 : HT.sIx (zs.map V.str).length 0 (some 1) = min 1 zs.length := by
    rw [List.length_map]; exact HT.sIx_nat zs.length 0 1
  have e1 : HT.sIx (zs.map V.str).length (zs.map V.str).length none = zs.length := by rw [List.length_map]; rfl
  rw [e0, e1, ← List.map_drop, ← List.map_take]
  congr 1
  by_cases h : zs.length = 0
  · have : zs = [] := List.length_eq_zero_iff.mp h
    rw [this]; rfl
  · rw [show min 1 zs.length = 1 by omega]
    exact List.take_of_length_le (by rw [List.length_drop]; omega)
theorem cut_first (zs : List Str) : cutV (zs.map V.str) none (some 1) = (zs.take 1).map V.str := by
  unfold cutV
  have e0 : HT.sIx (zs.map V.str).length 0 none = 0 := rfl
  have e1 : HT.sIx (zs.map V.str).length (zs.map V.str).length (some 1) = min 1 zs.length := by
    rw [List.length_map]; exact HT.sIx_nat zs.length _ 1
  rw [e0, e1, List.drop_zero, Nat.sub_zero, ← List.map_take]
  congr 1
  by_cases h : zs.length = 0
  · have : zs = [] := List.length_eq_zero_iff.mp h
    rw [this]; rfl
  · rw [show min 1 zs.length = 1 by omega]
theorem cut_less (zs : List Str) (h : 2 ≤ zs.length) : cutV (zs.map V.str) none (some (-1)) = (zs.take (zs.length - 1)).map V.str := by
  unfold cutV
  have e0 : HT.sIx (zs.map V.str).length 0 none = 0 := rfl
  have e1 : HT.sIx (zs.map V.str).length (zs.map V.str).length (some (-1)) = zs.length - 1 := by
    rw [List.length_map]
    show (if (-1 : Int) < 0 then ((-1 : Int) + (zs.length : Int)).toNat else min (-1 : Int).toNat zs.length) = zs.length - 1
    rw [if_pos (by decide)]
    omega
  rw [e0, e1, List.drop_zero, Nat.sub_zero, ← List.map_take]
theorem less_ne {zs : List Str} (h : 2 ≤ zs.length) : zs ≠ zs.take (zs.length - 1) := fun e => by
  have := congrArg List.length e
  rw [List.length_take] at this
  omega
theorem dm_ne (p : Int × Int) (zs : List Str) : (false = true ↔ (Sum.inl p : Dm) = Sum.inr zs) := ⟨(fun h => by cases h), (fun h => by cases h)⟩
theorem dm_ne' (p : Int × Int) (zs : List Str) : (false = true ↔ (Sum.inr zs : Dm) = Sum.inl p) := ⟨(fun h => by cases h), (fun h => by cases h)⟩
theorem dm_eq (d : Dm) : (true = true ↔ d = d) := ⟨fun _ => rfl, fun _ => rfl⟩
/-- the law's words: few, short, no comma in them, one dot at most -/
structure Wds (zs : List Str) : Prop where
  few : zs.length ≤ 42
  sm : ∀ z ∈ zs, Sm 13 z
  nc : ∀ z ∈ zs, 44 ∉ tl z
  dot : (zs.map fun z => (tl z).count 46).sum ≤ 1
theorem Wds.of {zs : List Str} (h : zs.length ≤ 42) (k : ∀ z ∈ zs, Sm 13 z ∧ Ltr z) : Wds zs :=
  ⟨h, fun z hz => (k z hz).1, fun z hz m => by have := (k z hz).2 _ m; omega, by rw [sum_zero fun z hz => (k z hz).2.no (by decide)]; omega⟩
theorem sum_set {c : Nat} {b : Str} : ∀ {ys : List Str} {i : Nat}, (∀ y ∈ ys, (tl y).count c = 0) → ((ys.set i b).map fun z => (tl z).count c).sum ≤ (tl b).count c
  | [], i, _ => by simp
  | y :: ys, 0, h => by
    rw [List.set_cons_zero, List.map_cons, List.sum_cons, sum_zero fun z hz => h z (List.mem_cons_of_mem _ hz)]
    omega
  | y :: ys, i + 1, h => by
    rw [List.set_cons_succ, List.map_cons, List.sum_cons, h y (by simp), Nat.zero_add]
    exact sum_set fun z hz => h z (List.mem_cons_of_mem _ hz)
theorem Wds.set {ys : List Str} {b : Str} {i : Nat} (h : ys.length ≤ 42) (k : ∀ z ∈ ys, Sm 13 z ∧ Ltr z) (hb : Sm 13 b) (hc : 44 ∉ tl b) (hd : (tl b).count 46 ≤ 1) : Wds (ys.set i b) := by
  refine ⟨by rw [List.length_set]; exact h, fun z hz => ?_, fun z hz => ?_, Nat.le_trans (sum_set fun z hz => (k z hz).2.no (by decide)) hd⟩
  · rcases List.mem_or_eq_of_mem_set hz with hz | rfl
    · exact (k z hz).1
    · exact hb
  · rcases List.mem_or_eq_of_mem_set hz with hz | rfl
    · exact fun m => by have := (k z hz).2 _ m; omega
    · exact hc
def bad8 : List Str := [Str.ofString "", Str.ofString "not", Str.ofString "A", Str.ofString "abcdefghijklm", Str.ofString "a b", Str.ofString "a.", Str.ofString "-", Str.ofString "7"]
theorem bad_ok : ∀ z ∈ bad8, z.length ≤ 13 ∧ 44 ∉ tl z ∧ (tl z).count 46 ≤ 1 := by decide +kernel
theorem bad_sm : ∀ z ∈ bad8, Sm 13 z := fun z hz => by
  have h := (bad_ok z hz).1
  simp only [bad8, List.mem_cons, List.not_mem_nil, or_false] at hz
  rcases hz with rfl | rfl | rfl | rfl | rfl | rfl | rfl | rfl <;> exact Sm.of _ h
def marks4 : List Str := [Str.ofString ",", Str.ofString ",  ", Str.ofString " ", Str.ofString " , "]
theorem mark_ok : ∀ m ∈ marks4, m.length ≤ 3 ∧ (tl m).count 44 ≠ (tl m).count 32 ∧ (tl m).count 46 = 0 := by decide +kernel
theorem mark_sm : ∀ m ∈ marks4, Sm 3 m := fun z hz => by
  have h := (mark_ok z hz).1
  simp only [marks4, List.mem_cons, List.not_mem_nil, or_false] at hz
  rcases hz with rfl | rfl | rfl | rfl <;> exact Sm.of _ h
/-- what the text of the words is read as -/
structure Fit (zs : List Str) (t : Str) (b : Bool) : Prop where
  sm : Sm 900 t
  dot : (tl t).count 46 ≤ 1
  yes : b = true → Good zs ∧ t = Txt.join mk2 zs
  no : b = false → ¬ Good (Txt.split t mk2)
theorem isw_ne {z : Str} (h : isw z = true) : tl z ≠ [] := (isw_ltr h).2
theorem fit_main {zs : List Str} {b : Bool} (w : Wds zs) (h : b = true ↔ Good zs) : Fit zs (Txt.join mk2 zs) b := by
  refine ⟨?_, ?_, fun e => ⟨h.mp e, rfl⟩, fun e g => ?_⟩
  · have hj := Sm.joined (m := mk2) (n := 2) (k := 13) (P := zs) (Sm.of ", " (by decide)) w.sm
    have := w.few
    exact hj.le (by omega)
  · rw [join_is, count_join]
    have e : (tl mk2).count 46 = 0 := rfl
    rw [e, Nat.mul_zero, Nat.add_zero]
    exact w.dot
  · by_cases hz : zs = []
    · subst hz
      have hw := g.words
      obtain ⟨p, hp⟩ : ∃ p, p ∈ Txt.split (Txt.join mk2 []) mk2 := by
        cases hs : Txt.split (Txt.join mk2 []) mk2 with
        | nil => exact absurd hs (split_ne _)
        | cons p r => exact ⟨p, by simp⟩
      have hn := isw_ne (hw p hp)
      have h0 := (in_join mk2 hp).1
      rw [StrLaws.join_split] at h0
      have : (tl (Txt.join mk2 [])).length = 0 := rfl
      rw [this] at h0
      exact hn (List.length_eq_zero_iff.mp (by omega))
    · rw [split_join hz w.nc] at g
      rw [h.mpr g] at e
      cases e
theorem join_few {m : Str} {zs : List Str} (h : zs.length < 2) : Txt.join m zs = Txt.join mk2 zs := by
  rw [join_is, join_is]
  match zs, h with
  | [], _ => rfl
  | [x], _ => rfl
theorem fit_mark {zs : List Str} {b : Bool} {m : Str} (hm : m ∈ marks4) (w : Wds zs) (hl : ∀ z ∈ zs, Ltr z) (h : b = true ↔ Good zs ∧ zs.length < 2) : Fit zs (Txt.join m zs) b := by
  by_cases h2 : zs.length < 2
  · rw [join_few h2]
    exact fit_main w ⟨fun e => (h.mp e).1, fun g => h.mpr ⟨g, h2⟩⟩
  · obtain ⟨_, m2, m3⟩ := mark_ok m hm
    refine ⟨?_, ?_, fun e => absurd (h.mp e).2 h2, fun _ g => join_odd hl (by omega) m2 fun p hp => (isw_ltr (g.words p hp)).1⟩
    · have hj := Sm.joined (m := m) (n := 3) (k := 13) (P := zs) (mark_sm m hm) w.sm
      have := w.few
      exact hj.le (by omega)
    · rw [join_is, count_join, m3, Nat.mul_zero, Nat.add_zero]
      exact w.dot
theorem Fit.tail {zs : List Str} {t : Str} {b : Bool} (h : Fit zs t b) : Sm 1000 (t ++ mk2) ∧ (tl (t ++ mk2)).count 46 ≤ 1 ∧ ¬ Good (Txt.split (t ++ mk2) mk2) := by
  refine ⟨(h.sm.app (Sm.of ", " (n := 2) (by decide))).le (by decide), ?_, fun g => join_tail fun p hp => isw_ltr (g.words p hp)⟩
  rw [tl_app, List.count_append]
  have e : (tl mk2).count 46 = 0 := rfl
  rw [e]
  exact h.dot
theorem sum13 {zs : List Str} (h : ∀ z ∈ zs, Sm 13 z) (hl : zs.length ≤ 42) : (zs.map (·.length)).sum + zs.length * 64 ≤ 16777216 := by
  have : ∀ ys : List Str, (∀ z ∈ ys, Sm 13 z) → (ys.map (·.length)).sum ≤ ys.length * 13 := fun ys => by
    induction ys with
    | nil => intro _; exact Nat.le_refl _
    | cons y ys ih =>
      intro hy
      have h1 := ih fun z hz => hy z (List.mem_cons_of_mem _ hz)
      have h2 := (hy y List.mem_cons_self).len
      rw [List.map_cons, List.sum_cons, List.length_cons]
      omega
  have := this zs h
  omega
theorem cut42 (ns : List Int) : ∃ ms : List Int, cutV (ns.map V.int) (some 1) (some 43) = ms.map V.int ∧ ms.length ≤ 42 ∧ ∀ m ∈ ms, m ∈ ns := by
  unfold cutV
  refine ⟨(ns.drop (HT.sIx (ns.map V.int).length 0 (some 1))).take (HT.sIx (ns.map V.int).length (ns.map V.int).length (some 43) - HT.sIx (ns.map V.int).length 0 (some 1)), ?_, ?_, fun m hm => List.mem_of_mem_drop (List.mem_of_mem_take hm)⟩
  · rw [List.map_take, List.map_drop]
  · have e0 : HT.sIx (ns.map V.int).length 0 (some 1) = min 1 (ns.map V.int).length := HT.sIx_nat _ _ 1
    have e1 : HT.sIx (ns.map V.int).length (ns.map V.int).length (some 43) = min 43 (ns.map V.int).length := HT.sIx_nat _ _ 43
    rw [e0, e1, List.length_take, List.length_drop, List.length_map]
    omega
def sp_all_among (K : PySem.W.Frag) (cTableError cBadNumber cBadName cBadDomain cDomain cNumbers cWords : Addr) : Sp := fun vs H Q _ => ∃ (z g : Str), vs = [.str z, .str g] ∧ Q (.bl (allIn z g)) H
def sp_number_text (K : PySem.W.Frag) (cTableError cBadNumber cBadName cBadDomain cDomain cNumbers cWords : Addr) : Sp := fun vs H Q _ => ∃ (i : Int), vs = [.int i] ∧ i.natAbs.log2 < 1920 ∧ Q (.str (Str.ofString (toString i))) H
def sp_alike (K : PySem.W.Frag) (cTableError cBadNumber cBadName cBadDomain cDomain cNumbers cWords : Addr) : Sp := fun vs H Q _ => ∃ (a b : Addr) (d e : Dm) (r : Bool), vs = [.ref a, .ref b] ∧ DmOf cNumbers cWords H a d ∧ DmOf cNumbers cWords H b e ∧ (r = true ↔ d = e) ∧ Q (.bl r) H
def sp_law_cell_at (K : PySem.W.Frag) (cTableError cBadNumber cBadName cBadDomain cDomain cNumbers cWords : Addr) : Sp := fun vs H Q _ => ∃ (a : Addr) (ns : List Int) (k : Int), vs = [.ref a, .int k] ∧ SqL K H a (ns.map V.int) ∧ (∀ m ∈ ns, Builtin.Int.intBits m ≤ 2 ^ 20) ∧ 0 ≤ k ∧ ∀ r : Int, Builtin.Int.intBits r ≤ 2 ^ 20 → Q (.int r) H
def sp_law_number (K : PySem.W.Frag) (cTableError cBadNumber cBadName cBadDomain cDomain cNumbers cWords : Addr) : Sp := fun vs H Q _ => ∃ (z : Str), vs = [.str z] ∧ z.length ≤ 1000 ∧ Q (dueV z) H
def sp_law_ends (K : PySem.W.Frag) (cTableError cBadNumber cBadName cBadDomain cDomain cNumbers cWords : Addr) : Sp := fun vs H Q _ => ∃ c : Int, vs = [.int c] ∧ Builtin.Int.intBits c ≤ 2 ^ 20 ∧ ∀ (l : Addr) (e0 e1 : Str) (H' : Hp), Same H H' → H' l = some (.lst [.str e0, .str e1]) → Sm 200 e0 → Sm 200 e1 → Q (.ref l) H'
def sp_law_whole (K : PySem.W.Frag) (cTableError cBadNumber cBadName cBadDomain cDomain cNumbers cWords : Addr) : Sp := fun vs H Q _ => ∃ v : V, vs = [v] ∧ Pl v ∧ Q (.bl (isI v)) H
def sp_law_word (K : PySem.W.Frag) (cTableError cBadNumber cBadName cBadDomain cDomain cNumbers cWords : Addr) : Sp := fun vs H Q _ => ∃ c : Int, vs = [.int c] ∧ ∀ (z : Str) (H' : Hp), Same H H' → Sm 12 z → Ltr z → Q (.str z) H'
def sp_law_is_word (K : PySem.W.Frag) (cTableError cBadNumber cBadName cBadDomain cDomain cNumbers cWords : Addr) : Sp := fun vs H Q _ => ∃ (z : Str), vs = [.str z] ∧ z.length ≤ 1000 ∧ Q (.bl (isw z)) H
def sp_Words_written_Words (K : PySem.W.Frag) (cTableError cBadNumber cBadName cBadDomain cDomain cNumbers cWords : Addr) : Sp := fun vs H Q _ => ∃ (a : Addr) (zs : List Str), vs = [.ref a] ∧ Wrd cWords H a zs ∧ (zs.map (·.length)).sum + zs.length * 64 ≤ 16777216 ∧ Q (.str (PySem.Txt.join (Str.ofString ", ") zs)) H
def sp_Domain___init___Words (K : PySem.W.Frag) (cTableError cBadNumber cBadName cBadDomain cDomain cNumbers cWords : Addr) : Sp := fun vs H Q _ => ∃ (x dx : Addr) (lo hi : Int), vs = [.ref x, .int lo, .int hi] ∧ H x = some (.ins cWords dx []) ∧ Q .non (mkd cWords H x dx lo hi)
def sp_Domain___init___Numbers (K : PySem.W.Frag) (cTableError cBadNumber cBadName cBadDomain cDomain cNumbers cWords : Addr) : Sp := fun vs H Q _ => ∃ (x dx : Addr) (lo hi : Int), vs = [.ref x, .int lo, .int hi] ∧ H x = some (.ins cNumbers dx []) ∧ Q .non (mkd cNumbers H x dx lo hi)
def sp_is_word (K : PySem.W.Frag) (cTableError cBadNumber cBadName cBadDomain cDomain cNumbers cWords : Addr) : Sp := fun vs H Q _ => ∃ (z : Str), vs = [.str z] ∧ z.length ≤ 1000 ∧ Q (.bl (isw z)) H
def sp_is_number (K : PySem.W.Frag) (cTableError cBadNumber cBadName cBadDomain cDomain cNumbers cWords : Addr) : Sp := fun vs H Q _ => ∃ (z : Str), vs = [.str z] ∧ z.length ≤ 1000 ∧ Q (.bl (isn z)) H
def sp_law_alike (K : PySem.W.Frag) (cTableError cBadNumber cBadName cBadDomain cDomain cNumbers cWords : Addr) : Sp := fun vs H Q _ => ∃ (a b : Addr) (d e : Dm) (r : Bool), vs = [.ref a, .ref b, .bl r] ∧ DmOf cNumbers cWords H a d ∧ DmOf cNumbers cWords H b e ∧ (r = true ↔ d = e) ∧ Q (.bl true) H
def sp_law_good (K : PySem.W.Frag) (cTableError cBadNumber cBadName cBadDomain cDomain cNumbers cWords : Addr) : Sp := fun vs H Q _ => ∃ (p : Addr) (zs : List Str), vs = [.ref p] ∧ H p = some (.lst (zs.map V.str)) ∧ zs.length ≤ 100 ∧ (∀ z ∈ zs, Sm 600 z) ∧ ∀ H' : Hp, Same H H' → (Good zs → Q (.bl true) H') ∧ (¬ Good zs → Q (.bl false) H')
def sp_Numbers___init___Numbers (K : PySem.W.Frag) (cTableError cBadNumber cBadName cBadDomain cDomain cNumbers cWords : Addr) : Sp := fun vs H Q E => ∃ (x dx : Addr) (lo hi : Int), vs = [.ref x, .int lo, .int hi] ∧ H x = some (.ins cNumbers dx []) ∧ (lo ≤ hi → Q .non (mkd cNumbers H x dx lo hi)) ∧ (hi < lo → E (.ref cBadDomain) none H)
def sp_Numbers_written_Numbers (K : PySem.W.Frag) (cTableError cBadNumber cBadName cBadDomain cDomain cNumbers cWords : Addr) : Sp := fun vs H Q _ => ∃ (a : Addr) (lo hi : Int), vs = [.ref a] ∧ Num cNumbers H a lo hi ∧ bnd lo ∧ bnd hi ∧ Q (.str (Str.ofString (toString lo) ++ Str.ofString ".." ++ Str.ofString (toString hi))) H
def sp_number_of (K : PySem.W.Frag) (cTableError cBadNumber cBadName cBadDomain cDomain cNumbers cWords : Addr) : Sp := fun vs H Q E => ∃ (z : Str), vs = [.str z] ∧ Sm 600 z ∧ (isn z = true → Q (.int (valz z)) H) ∧ (isn z = false → E (.ref cBadNumber) none H)
def sp_Words___init___Words (K : PySem.W.Frag) (cTableError cBadNumber cBadName cBadDomain cDomain cNumbers cWords : Addr) : Sp := fun vs H Q E => ∃ (x dx p : Addr) (zs : List Str), vs = [.ref x, .ref p] ∧ H x = some (.ins cWords dx []) ∧ H p = some (.lst (zs.map V.str)) ∧ (∀ z ∈ zs, Sm 1000 z) ∧
  (Good zs → ∀ (H' : Hp) (l : Addr), (∀ b o, b ≠ x → H b = some o → H' b = some o) → H l = none → H' x = some (.ins cWords dx [("low", .int 0), ("high", .int (hiW zs)), ("words", .ref l)]) → H' l = some (.lst (zs.map V.str)) → Q .non H') ∧ (¬ Good zs → ∀ H' : Hp, Same H H' → E (.ref cBadDomain) none H')
def sp_read_numbers (K : PySem.W.Frag) (cTableError cBadNumber cBadName cBadDomain cDomain cNumbers cWords : Addr) : Sp := fun vs H Q E => ∃ (z : Str) (o : Option (Int × Int)), vs = [.str z] ∧ Sm 600 z ∧ inD z = true ∧ RdN z o ∧ (∀ p, o = some p → ∀ (a : Addr) (H' : Hp), Same H H' → Num cNumbers H' a p.1 p.2 → Q (.ref a) H') ∧ (o = none → ∀ H' : Hp, Same H H' → E (.ref cBadDomain) none H')
def sp_read_domain (K : PySem.W.Frag) (cTableError cBadNumber cBadName cBadDomain cDomain cNumbers cWords : Addr) : Sp := fun vs H Q E => ∃ (z : Str) (o : Option Dm), vs = [.str z] ∧ Sm 1000 z ∧ RdIs z o ∧ (∀ d, o = some d → ∀ (a : Addr) (H' : Hp), Same H H' → DmOf cNumbers cWords H' a d → Q (.ref a) H') ∧ (o = none → ∀ H' : Hp, Same H H' → E (.ref cBadDomain) none H')
def sp_law_read (K : PySem.W.Frag) (cTableError cBadNumber cBadName cBadDomain cDomain cNumbers cWords : Addr) : Sp := fun vs H Q _ => ∃ (z : Str) (o : Option Dm), vs = [.str z] ∧ Sm 1000 z ∧ RdIs z o ∧ (∀ d, o = some d → ∀ (t a : Addr) (H' : Hp), Same H H' → H' t = some (.tup [.bl false, .ref a]) → DmOf cNumbers cWords H' a d → Q (.ref t) H') ∧ (o = none → ∀ (t : Addr) (H' : Hp), Same H H' → H' t = some (.tup [.bl true, .non]) → Q (.ref t) H')
def sp_law_numbers_right (K : PySem.W.Frag) (cTableError cBadNumber cBadName cBadDomain cDomain cNumbers cWords : Addr) : Sp := fun vs H Q _ => ∃ c : Int, vs = [.int c] ∧ Builtin.Int.intBits c ≤ 2 ^ 20 ∧ ∀ H' : Hp, Same H H' → Q (.bl true) H'
def sp_law_words_right (K : PySem.W.Frag) (cTableError cBadNumber cBadName cBadDomain cDomain cNumbers cWords : Addr) : Sp := fun vs H Q _ => ∃ (wl : Addr) (ws : List Str) (z : Str) (b : Bool), vs = [.ref wl, .str z, .bl b] ∧ H wl = some (.lst (ws.map V.str)) ∧ ws.length ≤ 63 ∧ (∀ y ∈ ws, Sm 1000 y) ∧ Sm 1000 z ∧ inD z = false ∧ (b = true → Good ws ∧ z = PySem.Txt.join mk2 ws ∧ Txt.split z mk2 = ws) ∧ (b = false → ¬ Good (Txt.split z mk2)) ∧ ∀ H' : Hp, Same H H' → Q (.bl true) H'
def sp_law (K : PySem.W.Frag) : Sp := fun vs H Q _ => ∃ (a : Addr) (ns : List Int), vs = [.ref a] ∧ SqL K H a (ns.map V.int) ∧ ns.length ≤ 63 ∧ (∀ m ∈ ns, Builtin.Int.intBits m ≤ 2 ^ 20) ∧ ∀ H', Q (.bl true) H'
section
variable {P : Program} {w : World} {K : PySem.W.Frag} {mg : Str → Option Value} {base : Heap} {f : Addr} {fd : FuncData} {cTableError cBadNumber cBadName cBadDomain cDomain cNumbers cWords : Addr}
theorem ok_all_among (F : Fun K "all_among" "all_among" s_all_among f fd) (bl : Bl K mg cTableError cBadNumber cBadName cBadDomain cDomain cNumbers cWords)  : FnOk P w K mg base CX0 1 f fd ["text", "signs"] (sp_all_among K cTableError cBadNumber cBadName cBadDomain cDomain cNumbers cWords) := by
  refine F.ok sc_all_among (fun vs H Q E h => ?_) (fun cdv A outer s H vs Q E hr h => ?_)
  · obtain ⟨z, g, rfl, q⟩ := h
    rfl
  obtain ⟨z, g, rfl, q⟩ := h
  refine ⟨_, (pss_cons (ps_for PassesOwn.never rfl (pi_str (pv 0)) (pg_name (i := 2) sc_all_among.nd rfl (Or.inl rfl))
     (pss_one (ps_if (pt_cmpR op_notin_str (pv 2) (pv 1) (by with_unfolding_all rfl))
     (pss_one (ps_ret pe_bl))
     pss_nil)))
     (pss_one (ps_ret pe_bl))), ?_⟩
  refine ⟨_, rfl, z, rfl, for_str (fun i σ H' => (∃ c2 : Option V, σ = [some (.str z), some (.str g), c2]) ∧ H' = H ∧ (z.cps.toList.take i).all (sg g) = true) ⟨⟨_, rfl⟩, rfl, rfl⟩ (fun i c σ H' e h => ?_) (fun σ H' h => ?_)⟩
  · obtain ⟨⟨c2, rfl⟩, e0, ha⟩ := h
    rw [e0]
    refine ⟨_, rfl, _, rfl, _, _, rfl, rfl, _, rfl, ?_⟩
    refine ite2 (fun d => ?_) (fun d => ?_)
    · have z2 : allIn z g = false := all_no e (not_sg d)
      rw [z2] at q; exact q
    · exact ⟨⟨_, rfl⟩, rfl, all_succ e (is_sg d) ha⟩
  · obtain ⟨⟨c2, rfl⟩, e0, ha⟩ := h
    rw [e0]
    rw [all_done ha] at q; exact q
theorem ok_number_text (F : Fun K "number_text" "number_text" s_number_text f fd) (bl : Bl K mg cTableError cBadNumber cBadName cBadDomain cDomain cNumbers cWords)  : FnOk P w K mg base CX0 1 f fd ["number"] (sp_number_text K cTableError cBadNumber cBadName cBadDomain cDomain cNumbers cWords) := by
  refine F.ok sc_number_text (fun vs H Q E h => ?_) (fun cdv A outer s H vs Q E hr h => ?_)
  · obtain ⟨i, rfl, hi, q⟩ := h
    rfl
  obtain ⟨i, rfl, hi, q⟩ := h
  refine ⟨_, (pss_one (ps_ret (pe_callTy call_str_int rfl bl.str_ PyProof.Rows.boot_str (pa_cons (pv 0) pa_nil)))), ?_⟩
  exact ⟨_, rfl, i, rfl, hi, q⟩
theorem ok_alike (F : Fun K "alike" "alike" s_alike f fd) (bl : Bl K mg cTableError cBadNumber cBadName cBadDomain cDomain cNumbers cWords)  : FnOk P w K mg base CX0 1 f fd ["one", "other"] (sp_alike K cTableError cBadNumber cBadName cBadDomain cDomain cNumbers cWords) := by
  refine F.ok sc_alike (fun vs H Q E h => ?_) (fun cdv A outer s H vs Q E hr h => ?_)
  · obtain ⟨a, b, d, e, r, rfl, ha, hb, hi, q⟩ := h
    rfl
  obtain ⟨a, b, d, e, r, rfl, ha, hb, hi, q⟩ := h
  refine ⟨_, (pss_cons (ps_if (PW.pt (pw_and (pt_val (pe_callB call_isiG rfl bl.isinstance_ PyProof.Rows.boot_isinstance (pa_cons (pv 0) (pa_cons (pe_glob (v := .ref cNumbers) rfl bl.Numbers_ rfl) pa_nil)))) (pw_and1 (pt_val (pe_callB call_isiG rfl bl.isinstance_ PyProof.Rows.boot_isinstance (pa_cons (pv 1) (pa_cons (pe_glob (v := .ref cNumbers) rfl bl.Numbers_ rfl) pa_nil)))))))
     (pss_one (ps_ret (pe_and (pe_cmpR op_eq (pe_fld (pv 0) rfl) (pe_fld (pv 1) rfl) (nomark _)) (pe_one (pe_cmpR op_eq (pe_fld (pv 0) rfl) (pe_fld (pv 1) rfl) (nomark _))))))
     pss_nil)
     (pss_cons (ps_if (PW.pt (pw_and (pt_val (pe_callB call_isiG rfl bl.isinstance_ PyProof.Rows.boot_isinstance (pa_cons (pv 0) (pa_cons (pe_glob (v := .ref cWords) rfl bl.Words_ rfl) pa_nil)))) (pw_and1 (pt_val (pe_callB call_isiG rfl bl.isinstance_ PyProof.Rows.boot_isinstance (pa_cons (pv 1) (pa_cons (pe_glob (v := .ref cWords) rfl bl.Words_ rfl) pa_nil)))))))
     (pss_one (ps_ret (pe_cmpR (op_eqL hr) (pe_fld (pv 0) rfl) (pe_fld (pv 1) rfl) (nomark _))))
     pss_nil)
     (pss_one (ps_ret pe_bl)))), ?_⟩
  cases d with
  | inl p =>
    obtain ⟨lo, hg⟩ := p
    obtain ⟨dx, ha⟩ := ha
    cases e with
    | inl p2 =>
      obtain ⟨lo2, hg2⟩ := p2
      obtain ⟨dx2, hb⟩ := hb
      refine ⟨_, rfl, _, _, _, _, true, rfl, .ref _, bl.t_Numbers.ty ha, bl.f_nn, _, rfl, iteT ?_⟩
      refine ⟨_, rfl, _, _, _, _, true, rfl, .ref _, bl.t_Numbers.ty hb, bl.f_nn, _, rfl, iteT ?_⟩
      refine ⟨_, rfl, a, _, _, _, _, rfl, ha, bl.k_Numbers, bl.na_Numbers_low, rfl, _, rfl, b, _, _, _, _, rfl, hb, bl.k_Numbers, bl.na_Numbers_low, rfl, rfl, _, rfl, ?_⟩
      by_cases g : lo = lo2
      · subst g
        refine iteTS rfl ⟨_, rfl, a, _, _, _, _, rfl, ha, bl.k_Numbers, bl.na_Numbers_high, rfl, _, rfl, b, _, _, _, _, rfl, hb, bl.k_Numbers, bl.na_Numbers_high, rfl, rfl, ?_⟩
        have e0 : decide (V.int hg = V.int hg2) = r := by
          rw [Bool.eq_iff_iff, decide_eq_true_iff, hi]
          constructor
          · intro z; injection z with z; rw [z]
          · intro z; injection z with z; injection z with _ z; rw [z]
        have q' : Q (.bl (decide (V.int hg = V.int hg2))) H := by rw [e0]; exact q
        exact q'
      · refine ite2 (fun g2 => absurd (V.int.inj (of_decide_eq_true g2)) g) (fun g2 => ?_)
        have er : r = false := by
          rw [Bool.eq_false_iff]
          intro z
          have t := hi.mp z
          injection t with t
          injection t with t
          exact g t
        rw [er] at q
        exact q
    | inr zs2 =>
      obtain ⟨dx2, l2, hb, hl2⟩ := hb
      have er : r = false := by
        rw [Bool.eq_false_iff]
        intro z
        cases hi.mp z
      rw [er] at q
      refine ⟨_, rfl, _, _, _, _, true, rfl, .ref _, bl.t_Numbers.ty ha, bl.f_nn, _, rfl, iteT ?_⟩
      refine ⟨_, rfl, _, _, _, _, false, rfl, .ref _, bl.t_Words.ty hb, bl.f_wn, _, rfl, iteF ?_⟩
      exact ⟨_, rfl, _, _, _, _, false, rfl, .ref _, bl.t_Numbers.ty ha, bl.f_nw, _, rfl, iteF (iteF q)⟩
  | inr zs =>
    obtain ⟨dx, l, ha, hl⟩ := ha
    refine ⟨_, rfl, _, _, _, _, false, rfl, .ref _, bl.t_Words.ty ha, bl.f_wn, _, rfl, iteF (iteF ?_)⟩
    refine ⟨_, rfl, _, _, _, _, true, rfl, .ref _, bl.t_Words.ty ha, bl.f_ww, _, rfl, iteT ?_⟩
    cases e with
    | inl p2 =>
      obtain ⟨dx2, hb⟩ := hb
      have er : r = false := by
        rw [Bool.eq_false_iff]
        intro z
        cases hi.mp z
      rw [er] at q
      exact ⟨_, rfl, _, _, _, _, false, rfl, .ref _, bl.t_Numbers.ty hb, bl.f_nw, _, rfl, iteF q⟩
    | inr zs2 =>
      obtain ⟨dx2, l2, hb, hl2⟩ := hb
      refine ⟨_, rfl, _, _, _, _, true, rfl, .ref _, bl.t_Words.ty hb, bl.f_ww, _, rfl, iteT ?_⟩
      exact ⟨_, rfl, a, _, _, _, _, rfl, ha, bl.k_Words, bl.na_Words_words, rfl, _, rfl, b, _, _, _, _, rfl, hb, bl.k_Words, bl.na_Words_words, rfl, rEqL_strs (SqL.of hl) (SqL.of hl2) (hi.trans ⟨fun z => Sum.inr.inj z, fun z => congrArg _ z⟩) q⟩
theorem ok_law_cell_at (F : Fun K "_law_cell_at" "_law_cell_at" s_law_cell_at f fd) (bl : Bl K mg cTableError cBadNumber cBadName cBadDomain cDomain cNumbers cWords)  : FnOk P w K mg base CX0 1 f fd ["script", "k"] (sp_law_cell_at K cTableError cBadNumber cBadName cBadDomain cDomain cNumbers cWords) := by
  refine F.ok sc_law_cell_at (fun vs H Q E h => ?_) (fun cdv A outer s H vs Q E hr h => ?_)
  · obtain ⟨a, ns, k, rfl, hS, hB, h0, q⟩ := h
    rfl
  obtain ⟨a, ns, k, rfl, hS, hB, h0, q⟩ := h
  refine ⟨_, (pss_cons (ps_if (pt_cmpR op_lt (pv 1) (pe_callB call_len_seq rfl bl.len_ PySem.boot_len (pa_cons (pv 0) pa_nil)) (nomark _))
     (pss_one (ps_ret (pe_ix ix_list (pv 0) (pv 1) (fun _ _ => rfl))))
     pss_nil)
     (pss_one (ps_ret pe_int))), ?_⟩
  refine ⟨_, rfl, _, rfl, a, _, rfl, .inl hS, _, _, rfl, rfl, _, rfl, ?_⟩
  refine ite2 (fun c => ?_) (fun c => ?_)
  · have c' : k < (((ns.map V.int).length : Nat) : Int) := dec_t c
    rw [List.length_map] at c'
    have hk : k.toNat < ns.length := by omega
    have hv : atI (ns.map V.int) k = some (.int ns[k.toNat]) := by
      have z : atI (ns.map V.int) ((k.toNat : Nat) : Int) = some (.int ns[k.toNat]) := atI_nat (by rw [List.getElem?_map, List.getElem?_eq_getElem hk]; rfl)
      rw [show ((k.toNat : Nat) : Int) = k by omega] at z
      exact z
    exact ⟨_, rfl, _, rfl, a, _, _, _, rfl, rfl, hS, hv, q _ (hB _ (List.getElem_mem hk))⟩
  · exact q 0 (by decide +kernel)
theorem ok_law_number (F : Fun K "_law_number" "_law_number" s_law_number f fd) (bl : Bl K mg cTableError cBadNumber cBadName cBadDomain cDomain cNumbers cWords)  : FnOk P w K mg base CX0 1 f fd ["text"] (sp_law_number K cTableError cBadNumber cBadName cBadDomain cDomain cNumbers cWords) := by
  refine F.ok sc_law_number (fun vs H Q E h => ?_) (fun cdv A outer s H vs Q E hr h => ?_)
  · obtain ⟨z, rfl, hz, q⟩ := h
    rfl
  obtain ⟨z, rfl, hz, q⟩ := h
  refine ⟨_, (pss_cons (ps_set (i := 1) sc_law_number.nd rfl (Or.inl rfl) (pv 0))
     (pss_cut (ps_if (pt_cmpR op_eq (pe_slice sl_str (pv 0) po_none (po_some pe_int)) pe_str (nomark _))
     (pss_one (ps_set (i := 1) sc_law_number.nd rfl (Or.inl rfl) (pe_slice sl_str (pv 0) (po_some pe_int) po_none)))
     pss_nil)
     (pss_cut (ps_if (PW.pt (pw_or (pt_cmpR op_lt (pe_callB call_len_str rfl bl.len_ PySem.boot_len (pa_cons (pv 1) pa_nil)) pe_int (nomark _)) (pw_or (pt_cmpR op_gt (pe_callB call_len_str rfl bl.len_ PySem.boot_len (pa_cons (pv 1) pa_nil)) pe_int (nomark _)) (pw_or1 (PW.pt (pw_and (pt_cmpR op_eq (pe_ix ix_str (pv 1) pe_int (fun _ _ => rfl)) pe_str (nomark _)) (pw_and1 (pt_cmpR op_ne (pv 0) pe_str (nomark _)))))))))
     (pss_one (ps_ret pe_non))
     pss_nil)
     (pss_cons (ps_set (i := 2) sc_law_number.nd rfl (Or.inl rfl) pe_int)
     (pss_cons (ps_for PassesOwn.never rfl (pi_str (pv 1)) (pg_name (i := 3) sc_law_number.nd rfl (Or.inl rfl))
     (pss_cons (ps_if (pt_cmpR op_notin_str (pv 3) pe_str (by with_unfolding_all rfl))
     (pss_one (ps_ret pe_non))
     pss_nil)
     (pss_one (ps_set (i := 2) sc_law_number.nd rfl (Or.inl rfl) (pe_op op_add (pe_op op_mul (pv 2) pe_int) (pe_bm PySem.F.plainAttrs_str PySem.F.slot_str_find PySem.F.type_str_find mt_find pe_str (pa_cons (pv 3) pa_nil)))))))
     (pss_cons (ps_if (pt_cmpR op_eq (pe_slice sl_str (pv 0) po_none (po_some pe_int)) pe_str (nomark _))
     (pss_one (ps_ret (pe_un un_neg (pv 2))))
     pss_nil)
     (pss_one (ps_ret (pv 2))))))))), ?_⟩
  refine ⟨_, rfl, ?_⟩
  refine ⟨fun σ' H2 => σ' = [some (.str z), some (.str (figz z)), none, none] ∧ H2 = H, ?_, ?_⟩
  · refine ⟨_, rfl, _, rfl, _, rfl, big hz, rfl, _, rfl, ?_⟩
    refine ite2 (fun g1 => ?_) (fun g1 => ?_)
    · have e : figz z = Txt.slice z (some 1) none := by unfold figz; rw [if_pos (by rw [← first1]; exact g1)]
      rw [e]
      exact ⟨_, rfl, _, rfl, _, rfl, big hz, rfl, rfl⟩
    · have e : figz z = z := by unfold figz; rw [if_neg (by rw [← first1]; exact g1)]
      rw [e]
      exact ⟨rfl, rfl⟩
  rintro σ2 H2 ⟨rfl, e2⟩
  rw [e2]
  have hf : (figz z).length ≤ 1000 := Nat.le_trans (figz_len z) hz
  have no : isn z = false → Q .non H := fun h => by
    have e : dueV z = .non := by unfold dueV; rw [h]; rfl
    rw [e] at q; exact q
  have yes : isn z = true → Q (.int (valz z)) H := fun h => by
    have e : dueV z = .int (valz z) := by unfold dueV; rw [if_pos h]
    rw [e] at q; exact q
  clear q
  have hl := isn_law z
  have hv : valz z = if Txt.startswith z "-" = true then -((PySem.NumText.digitsVal (figz z).cps.toList : Nat) : Int) else ((PySem.NumText.digitsVal (figz z).cps.toList : Nat) : Int) := rfl
  generalize figz z = f at hf hl hv ⊢
  refine ⟨fun σ' H2 => σ' = [some (.str z), some (.str f), none, none] ∧ H2 = H ∧ isn z = allIn f ten, ?_, ?_⟩
  · refine ⟨_, rfl, _, rfl, big hf, _, _, rfl, rfl, _, rfl, ?_⟩
    refine ite2 (fun g1 => ?_) (fun g1 => ?_)
    · refine iteT (no ?_)
      have g1' : ((f.length : Nat) : Int) < 1 := dec_t g1
      rw [hl, decide_eq_false (show ¬ (1 : Int) ≤ ((f.length : Nat) : Int) by omega), Bool.false_and]
    have g1' : ¬ ((f.length : Nat) : Int) < 1 := dec_f g1
    rw [decide_eq_true (show (1 : Int) ≤ ((f.length : Nat) : Int) by omega), Bool.true_and] at hl
    refine ⟨_, rfl, _, rfl, big hf, _, _, rfl, rfl, _, rfl, ?_⟩
    refine ite2 (fun g2 => ?_) (fun g2 => ?_)
    · refine iteT (no ?_)
      have g2' : (60 : Int) < ((f.length : Nat) : Int) := dec_t g2
      rw [hl, decide_eq_false (show ¬ ((f.length : Nat) : Int) ≤ 60 by omega), Bool.false_and]
    have g2' : ¬ (60 : Int) < ((f.length : Nat) : Int) := dec_f g2
    rw [decide_eq_true (show ((f.length : Nat) : Int) ≤ 60 by omega), Bool.true_and] at hl
    refine ⟨_, rfl, _, _, _, rfl, rfl, big hf, head_at (by omega), rfl, _, rfl, ?_⟩
    refine ite2 (fun g3 => ?_) (fun g3 => ?_)
    · rw [g3, Bool.true_and] at hl
      refine ⟨_, rfl, rfl, _, rfl, ?_⟩
      refine ite2 (fun g4 => ?_) (fun g4 => ?_)
      · rw [g4, Bool.not_true, Bool.false_and] at hl
        exact no hl
      · rw [Bool.eq_false_iff.mpr g4, Bool.not_false, Bool.true_and] at hl
        exact ⟨rfl, rfl, hl⟩
    · rw [Bool.eq_false_iff.mpr g3, Bool.false_and, Bool.not_false, Bool.true_and] at hl
      exact iteF ⟨rfl, rfl, hl⟩
  rintro σ3 H3 ⟨rfl, e3, hi⟩
  rw [e3]
  refine ⟨_, rfl, f, rfl, for_str (fun i σ H' => (∃ c3 : Option V, σ = [some (.str z), some (.str f), some (.int ((PySem.NumText.digitsVal (f.cps.toList.take i) : Nat) : Int)), c3]) ∧ H' = H ∧ (f.cps.toList.take i).all (sg ten) = true) ⟨⟨_, rfl⟩, rfl, rfl⟩ (fun i c σ H' e h => ?_) (fun σ H' h => ?_)⟩
  · obtain ⟨⟨c3, rfl⟩, e0, ha⟩ := h
    rw [e0]
    refine ⟨_, rfl, _, _, rfl, rfl, _, rfl, ?_⟩
    refine ite2 (fun d => ?_) (fun d => ?_)
    · refine no ?_
      rw [hi]
      exact all_no e (not_sg (g := ten) d)
    · have hs : sg ten c = true := is_sg (g := ten) d
      refine ⟨_, rfl, _, _, rfl, rfl, .inr ⟨by decide, by decide⟩, rfl, _, rfl, _, _, rfl, rfl, _, _, rfl, rfl, ?_⟩
      refine ⟨⟨some (.str ⟨#[c]⟩), ?_⟩, rfl, all_succ e hs ha⟩
      have ev : ((PySem.NumText.digitsVal (f.cps.toList.take (i + 1)) : Nat) : Int) = ((PySem.NumText.digitsVal (f.cps.toList.take i) : Nat) : Int) * 10 + Txt.find (Str.ofString "0123456789") ⟨#[c]⟩ := by
        rw [take_snoc e, PySem.NumText.digitsVal_snoc]
        have := find_ten hs
        unfold ten at this
        rw [this]
        omega
      rw [ev]; rfl
  · obtain ⟨⟨c3, rfl⟩, e0, ha⟩ := h
    rw [e0]
    have ht : f.cps.toList.take f.cps.size = f.cps.toList := by rw [← Array.length_toList]; exact List.take_length
    have hall := all_done ha
    rw [ht]
    rw [hall] at hi
    have y := yes hi
    rw [hv] at y
    refine ⟨_, rfl, _, rfl, _, rfl, big hz, rfl, _, rfl, ?_⟩
    refine ite2 (fun g => ?_) (fun g => ?_)
    · rw [if_pos (by rw [← first1]; exact g)] at y
      exact ⟨_, rfl, _, rfl, y⟩
    · rw [if_neg (by rw [← first1]; exact g)] at y
      exact ⟨_, rfl, y⟩
theorem ok_law_ends (F : Fun K "_law_ends" "_law_ends" s_law_ends f fd) (bl : Bl K mg cTableError cBadNumber cBadName cBadDomain cDomain cNumbers cWords)  : FnOk P w K mg base CX0 1 f fd ["cell"] (sp_law_ends K cTableError cBadNumber cBadName cBadDomain cDomain cNumbers cWords) := by
  refine F.ok sc_law_ends (fun vs H Q E h => ?_) (fun cdv A outer s H vs Q E hr h => ?_)
  · obtain ⟨c, rfl, hb, q⟩ := h
    rfl
  obtain ⟨c, rfl, hb, q⟩ := h
  refine' ⟨?tt, ?r0, ?rd⟩
  case' r0 => refine' pss_cut ?st0 ?r1
  case' r1 => refine' pss_cut ?st1 ?r2
  case' r2 => refine' pss_cut ?st2 ?r3
  case' r3 => refine' pss_cut ?st3 ?r4
  case' r4 => refine' pss_cut ?st4 ?r5
  case' r5 => refine' pss_cut ?st5 ?r6
  case' r6 => refine' pss_cut ?st6 ?r7
  case' r7 => refine' pss_cut ?st7 ?r8
  case' r8 => refine' pss_one ?st8
  case' st0 => exact (ps_set (i := 1) sc_law_ends.nd rfl (Or.inl rfl) (pe_op op_add (pe_op op_sub (pe_op op_mod (pe_op op_mulO (pv 0) (pe_op op_pow pe_int pe_int)) (pe_op op_sub (pe_op op_mul pe_int (pe_op op_pow pe_int pe_int)) pe_int)) (pe_op op_pow pe_int pe_int)) pe_int))
  case' st1 => exact (ps_set (i := 2) sc_law_ends.nd rfl (Or.inl rfl) (pe_op op_add (pe_op op_sub (pe_op op_mod (pe_op op_mulO (pv 0) (pe_op op_pow pe_int pe_int)) (pe_op op_sub (pe_op op_mul pe_int (pe_op op_pow pe_int pe_int)) pe_int)) (pe_op op_pow pe_int pe_int)) pe_int))
  case' st2 => exact (ps_set (i := 3) sc_law_ends.nd rfl (Or.inl rfl) (pe_op op_mod (pe_op op_mod (pe_op op_mul (pe_op op_mod (pv 0) pe_int) pe_int) pe_int) pe_int))
  case' st3 => exact (ps_if (pt_cmpR op_eq (pv 3) pe_int (nomark _))
  (pss_one (ps_set (i := 2) sc_law_ends.nd rfl (Or.inl rfl) (pv 1)))
  pss_nil)
  case' st4 => exact (ps_if (pt_cmpR op_eq (pv 3) pe_int (nomark _))
  (pss_cons (ps_set (i := 1) sc_law_ends.nd rfl (Or.inl rfl) (pe_op op_sub (pe_op op_mod (pv 0) pe_int) pe_int))
  (pss_one (ps_set (i := 2) sc_law_ends.nd rfl (Or.inl rfl) (pe_op op_add (pv 1) (pe_op op_mod (pe_op op_mod (pv 0) pe_int) pe_int)))))
  pss_nil)
  case' st5 => exact (ps_set (i := 4) sc_law_ends.nd rfl (Or.inl rfl) (pe_lst (pa_cons (pe_callTy call_str_int rfl bl.str_ PyProof.Rows.boot_str (pa_cons (pe_callB (call_min2 rfl) rfl bl.min_ PyProof.Rows.boot_min (pa_cons (pv 1) (pa_cons (pv 2) pa_nil))) pa_nil)) (pa_cons (pe_callTy call_str_int rfl bl.str_ PyProof.Rows.boot_str (pa_cons (pe_callB (call_max2 rfl) rfl bl.max_ PyProof.Rows.boot_max (pa_cons (pv 1) (pa_cons (pv 2) pa_nil))) pa_nil)) pa_nil))))
  case' st6 => exact (ps_if (pt_cmpR op_eq (pv 3) pe_int (nomark _))
  (pss_one (ps_set (i := 4) sc_law_ends.nd rfl (Or.inl rfl) (pe_lst (pa_cons (pe_callTy call_str_int rfl bl.str_ PyProof.Rows.boot_str (pa_cons (pe_callB (call_max2 rfl) rfl bl.max_ PyProof.Rows.boot_max (pa_cons (pv 1) (pa_cons (pv 2) pa_nil))) pa_nil)) (pa_cons (pe_callTy call_str_int rfl bl.str_ PyProof.Rows.boot_str (pa_cons (pe_callB (call_min2 rfl) rfl bl.min_ PyProof.Rows.boot_min (pa_cons (pv 1) (pa_cons (pv 2) pa_nil))) pa_nil)) pa_nil)))))
  pss_nil)
  case' st7 => exact (ps_if (pt_cmpR op_eq (pv 3) pe_int (nomark _))
  (pss_cons (ps_set (i := 5) sc_law_ends.nd rfl (Or.inl rfl) (pe_op op_mod (pe_op op_mod (pe_op op_mul (pe_op op_mod (pv 0) pe_int) pe_int) pe_int) pe_int))
  (pss_cons (ps_set (i := 6) sc_law_ends.nd rfl (Or.inl rfl) (pe_lst (pa_cons pe_str (pa_cons (pe_op op_add_str pe_str (pe_ix ix_list (pv 4) (pv 5) (fun _ _ => rfl))) (pa_cons (pe_op op_add_str pe_str (pe_ix ix_list (pv 4) (pv 5) (fun _ _ => rfl))) (pa_cons (pe_op op_add_str pe_str (pe_ix ix_list (pv 4) (pv 5) (fun _ _ => rfl))) (pa_cons pe_str (pa_cons (pe_op op_add_str pe_str (pe_op op_rep_str pe_str pe_int)) (pa_cons (pe_op op_add_str (pe_ix ix_list (pv 4) (pv 5) (fun _ _ => rfl)) pe_str) (pa_cons pe_str (pa_cons pe_str pa_nil)))))))))))
  (pss_cons (ps_set (i := 6) sc_law_ends.nd rfl (Or.inl rfl) (pe_op op_cat (pv 6) (pe_lst (pa_cons (pe_op op_add_str (pe_ix ix_list (pv 4) (pv 5) (fun _ _ => rfl)) pe_str) (pa_cons (pe_op op_add_str (pe_ix ix_list (pv 4) (pv 5) (fun _ _ => rfl)) pe_str) pa_nil)))))
  (pss_one (ps_asg (pe_ix ix_list (pv 6) (pe_op op_mod (pe_op op_mod (pe_op op_mul (pe_op op_mod (pv 0) pe_int) pe_int) pe_int) (pe_callB call_len_seq rfl bl.len_ PySem.boot_len (pa_cons (pv 6) pa_nil))) (fun _ _ => rfl)) (pg_sub (pv 4) (pv 5) set_list))))))
  pss_nil)
  case' st8 =>
    refine' ps_ret ?h1
    case' h1 => exact (pv 4)
  case rd =>
    refine ⟨fun σ' H' => H' = H ∧ ∃ u : Int, bnd u ∧ σ' = [some (.int c), some (.int u), none, none, none, none, none], ?_, ?_⟩
    · exact ⟨_, rfl, _, _, rfl, rfl, ⟨by decide, by decide, by decide⟩, _, _, rfl, rfl, PySem.IntMulOk.of_bits hb (by decide +kernel), _, _, rfl, rfl, ⟨by decide, by decide, by decide⟩, _, _, rfl, rfl, .inl ⟨by decide, by decide⟩, _, _, rfl, rfl, _, _, rfl, rfl, pos60, _, _, rfl, rfl, ⟨by decide, by decide, by decide⟩, _, _, rfl, rfl, _, _, rfl, rfl, rfl, _, key60 _, rfl⟩
    rintro σ1 H1 ⟨rfl, u, bu, rfl⟩
    refine ⟨fun σ' H' => H' = H1 ∧ ∃ v : Int, bnd v ∧ σ' = [some (.int c), some (.int u), some (.int v), none, none, none, none], ?_, ?_⟩
    · exact ⟨_, rfl, _, _, rfl, rfl, ⟨by decide, by decide, by decide⟩, _, _, rfl, rfl, PySem.IntMulOk.of_bits hb (by decide +kernel), _, _, rfl, rfl, ⟨by decide, by decide, by decide⟩, _, _, rfl, rfl, .inl ⟨by decide, by decide⟩, _, _, rfl, rfl, _, _, rfl, rfl, pos60, _, _, rfl, rfl, ⟨by decide, by decide, by decide⟩, _, _, rfl, rfl, _, _, rfl, rfl, rfl, _, key60 _, rfl⟩
    rintro σ2 H2 ⟨rfl, v, bv, rfl⟩
    refine ⟨fun σ' H' => H' = H2 ∧ ∃ w : Int, σ' = [some (.int c), some (.int u), some (.int v), some (.int w), none, none, none], ?_, ?_⟩
    · exact ⟨_, rfl, _, _, rfl, rfl, (by show (0 : Int) < 10007; decide), _, _, rfl, rfl, .inr ⟨by decide, by decide⟩, _, _, rfl, rfl, (by show (0 : Int) < 10007; decide), _, _, rfl, rfl, (by show (0 : Int) < 6; decide), rfl, _, rfl⟩
    rintro σ3 H3 ⟨rfl, w, rfl⟩
    refine ⟨fun σ' H' => H' = H3 ∧ ∃ v : Int, bnd v ∧ σ' = [some (.int c), some (.int u), some (.int v), some (.int w), none, none, none], ?_, ?_⟩
    · refine ⟨_, rfl, rfl, _, rfl, ite2 (fun _ => ?_) (fun _ => ⟨rfl, v, bv, rfl⟩)⟩
      exact ⟨_, rfl, rfl, u, bu, rfl⟩
    rintro σ4 H4 ⟨rfl, v2, bv2, rfl⟩
    clear bv
    refine ⟨fun σ' H' => H' = H4 ∧ ∃ u v : Int, bnd u ∧ bnd v ∧ σ' = [some (.int c), some (.int u), some (.int v), some (.int w), none, none, none], ?_, ?_⟩
    · refine ⟨_, rfl, rfl, _, rfl, ite2 (fun _ => ?_) (fun _ => ⟨rfl, u, v2, bu, bv2, rfl⟩)⟩
      have h0 := Int.emod_nonneg c (show (41 : Int) ≠ 0 by decide)
      have h1 := Int.emod_lt_of_pos c (show (0 : Int) < 41 by decide)
      have g0 := Int.emod_nonneg (c % 1009) (show (30 : Int) ≠ 0 by decide)
      have g1 := Int.emod_lt_of_pos (c % 1009) (show (0 : Int) < 30 by decide)
      exact ⟨_, rfl, _, _, rfl, rfl, (by show (0 : Int) < 41; decide), _, _, rfl, rfl, _, rfl, _, rfl, _, _, rfl, rfl, (by show (0 : Int) < 1009; decide), _, _, rfl, rfl, (by show (0 : Int) < 30; decide), _, _, rfl, rfl, rfl, _, _, bnd_small (by omega), bnd_small (by omega), rfl⟩
    rintro σ5 H5 ⟨rfl, u2, v3, bu2, bv3, rfl⟩
    clear bu bv2
    refine ⟨fun σ' H' => Same H5 H' ∧ ∃ (l : Addr) (e0 e1 : Str), H5 l = none ∧ H' l = some (.lst [.str e0, .str e1]) ∧ Sm 61 e0 ∧ Sm 61 e1 ∧ σ' = [some (.int c), some (.int u2), some (.int v3), some (.int w), some (.ref l), none, none], ?_, ?_⟩
    · exact ⟨_, rfl, _, rfl, _, _, rfl, _, rfl, log_bnd (bnd_min bu2 bv3), _, rfl, _, rfl, _, _, rfl, _, rfl, log_bnd (bnd_max bu2 bv3), (by show 2 ≤ sizeLine; decide), fun l hl => ⟨same_new hl _, l, _, _, hl, upd_same, Sm.num (bnd_min bu2 bv3), Sm.num (bnd_max bu2 bv3), rfl⟩⟩
    rintro σ6 H6 ⟨s6, l, e0, e1, hl0, el, z0, z1, rfl⟩
    refine ⟨fun σ' H' => Same H5 H' ∧ ∃ (l : Addr) (e0 e1 : Str), H5 l = none ∧ H' l = some (.lst [.str e0, .str e1]) ∧ Sm 61 e0 ∧ Sm 61 e1 ∧ σ' = [some (.int c), some (.int u2), some (.int v3), some (.int w), some (.ref l), none, none], ?_, ?_⟩
    · refine ⟨_, rfl, rfl, _, rfl, ite2 (fun _ => ?_) (fun _ => ⟨s6, l, e0, e1, hl0, el, z0, z1, rfl⟩)⟩
      exact ⟨_, rfl, _, rfl, _, _, rfl, _, rfl, log_bnd (bnd_max bu2 bv3), _, rfl, _, rfl, _, _, rfl, _, rfl, log_bnd (bnd_min bu2 bv3), (by show 2 ≤ sizeLine; decide), fun l hl => ⟨s6.trans (same_new hl _), l, _, _, s6.free hl, upd_same, Sm.num (bnd_max bu2 bv3), Sm.num (bnd_min bu2 bv3), rfl⟩⟩
    clear s6 hl0 el z0 z1
    rintro σ7 H7 ⟨s7, l, e0, e1, hl0, el, z0, z1, rfl⟩
    refine ⟨fun σ' H' => Same H5 H' ∧ ∃ (e0 e1 : Str) (c5 c6 : Option V), H' l = some (.lst [.str e0, .str e1]) ∧ Sm 200 e0 ∧ Sm 200 e1 ∧ σ' = [some (.int c), some (.int u2), some (.int v3), some (.int w), some (.ref l), c5, c6], ?_, ?_⟩
    · refine ⟨_, rfl, rfl, _, rfl, ite2 (fun _ => ?_) (fun _ => ⟨s7, e0, e1, _, _, el, z0.le (by decide), z1.le (by decide), rfl⟩)⟩
      have i0 := Int.emod_nonneg (c % 10009 * 617 % 10009) (show (2 : Int) ≠ 0 by decide)
      have i1 := Int.emod_lt_of_pos (c % 10009 * 617 % 10009) (show (0 : Int) < 2 by decide)
      refine ⟨_, rfl, _, _, rfl, rfl, (by show (0 : Int) < 10009; decide), _, _, rfl, rfl, .inr ⟨by decide, by decide⟩, _, _, rfl, rfl, (by show (0 : Int) < 10009; decide), _, _, rfl, rfl, (by show (0 : Int) < 2; decide), ?_⟩
      generalize hk : c % 10009 * 617 % 10009 % 2 = k at i0 i1
      obtain ⟨ea, hat, za⟩ : ∃ ea : Str, atI [V.str e0, V.str e1] k = some (.str ea) ∧ Sm 61 ea := by
        have : k = 0 ∨ k = 1 := by omega
        rcases this with rfl | rfl
        · exact ⟨e0, rfl, z0⟩
        · exact ⟨e1, rfl, z1⟩
      rw [← hk] at hat
      have sq7 := SqL.of (K := K) el
      refine ⟨_, rfl, _, rfl, l, _, _, _, rfl, rfl, sq7, hat, _, _, rfl, rfl, len1 "0" 0 ea za (by decide), _, rfl, _, rfl, l, _, _, _, rfl, rfl, sq7, hat, _, _, rfl, rfl, len1 " " 0 ea za (by decide), _, rfl, _, rfl, l, _, _, _, rfl, rfl, sq7, hat, _, _, rfl, rfl, len1 "." 0 ea za (by decide), _, _, rfl, rfl, (by unfold MulOk; decide +kernel), _, _, rfl, rfl, (by decide +kernel), _, rfl, _, rfl, l, _, _, _, rfl, rfl, sq7, hat, _, _, rfl, rfl, len2 "." 0 ea za (by decide), (by show 9 ≤ sizeLine; decide), fun p hp => ?_⟩
      have ep : upd H7 p (.lst ((odd9 ea).map V.str)) p = some (.lst ((odd9 ea).map V.str)) := upd_same
      have s8 := same_new hp (.lst ((odd9 ea).map V.str))
      show (fun H8 : Hp => _) (upd H7 p (.lst ((odd9 ea).map V.str)))
      generalize upd H7 p (.lst ((odd9 ea).map V.str)) = H8 at ep s8 ⊢
      have el8 := s8 _ _ el
      have sq8 := SqL.of (K := K) el8
      refine ⟨_, rfl, _, rfl, _, rfl, l, _, _, _, rfl, rfl, sq8, hat, _, _, rfl, rfl, len2 "..3" 0 ea za (by decide), _, rfl, _, rfl, l, _, _, _, rfl, rfl, sq8, hat, _, _, rfl, rfl, len2 ".." 0 ea za (by decide), (by show 2 ≤ sizeLine; decide), fun p2 hp2 => ?_⟩
      have ep9 := same_new hp2 (.lst ((odd2 ea).map V.str)) _ _ ep
      refine ⟨p, p2, _, _, rfl, rfl, ep9, upd_same, (by show 11 ≤ sizeLine; decide), fun p3 hp3 => ?_⟩
      have e3 : upd (upd H8 p2 (.lst ((odd2 ea).map V.str))) p3 (.lst ((odd9 ea).map V.str ++ (odd2 ea).map V.str)) p3 = some (.lst ((odd9 ea ++ odd2 ea).map V.str)) := by rw [upd_same, List.map_append]
      have s9 : Same H8 (upd (upd H8 p2 (.lst ((odd2 ea).map V.str))) p3 (.lst ((odd9 ea).map V.str ++ (odd2 ea).map V.str))) := (same_new hp2 _).trans (same_new hp3 _)
      show (fun H9 : Hp => _) (upd (upd H8 p2 (.lst ((odd2 ea).map V.str))) p3 (.lst ((odd9 ea).map V.str ++ (odd2 ea).map V.str)))
      generalize upd (upd H8 p2 (.lst ((odd2 ea).map V.str))) p3 (.lst ((odd9 ea).map V.str ++ (odd2 ea).map V.str)) = H9 at e3 s9 ⊢
      have el9 := s9 _ _ el8
      obtain ⟨y, hy, hv⟩ := at_strs (zs := odd9 ea ++ odd2 ea) (k := c % 10037 * 619 % 10037 % 11) (Int.emod_nonneg _ (by decide)) (Int.emod_lt_of_pos _ (by show (0 : Int) < 11; decide))
      have hy2 := odd_sm za y hy
      have hix : ixN [V.str e0, V.str e1].length (c % 10009 * 617 % 10009 % 2) = some k.toNat := by
        rw [hk]
        unfold ixN
        rw [if_pos i0, if_pos (by show k < ((2 : Nat) : Int); omega)]
      refine ⟨_, rfl, _, rfl, _, _, rfl, rfl, (by show (0 : Int) < 10037; decide), _, _, rfl, rfl, .inr ⟨by decide, by decide⟩, _, _, rfl, rfl, (by show (0 : Int) < 10037; decide), _, rfl, p3, _, rfl, .inl (SqL.of e3), _, _, rfl, rfl, (by show (0 : Int) < 11; decide), p3, _, _, _, rfl, rfl, SqL.of e3, hv, _, rfl, _, rfl, l, _, _, _, rfl, rfl, el9, hix, ?_⟩
      have sA := ((s7.trans s8).trans s9).upd (o := .lst ([V.str e0, V.str e1].set k.toNat (.str y))) hl0
      have : k = 0 ∨ k = 1 := by omega
      rcases this with rfl | rfl
      · exact ⟨sA, y, e1, _, _, upd_same, hy2, z1.le (by decide), rfl⟩
      · exact ⟨sA, e0, y, _, _, upd_same, z0.le (by decide), hy2, rfl⟩
    rintro σ8 H8 ⟨s8, e0, e1, c5, c6, el, z0, z1, rfl⟩
    exact ⟨_, rfl, q l e0 e1 H8 s8 el z0 z1⟩
theorem ok_law_whole (F : Fun K "_law_whole" "_law_whole" s_law_whole f fd) (bl : Bl K mg cTableError cBadNumber cBadName cBadDomain cDomain cNumbers cWords)  : FnOk P w K mg base CX0 1 f fd ["found"] (sp_law_whole K cTableError cBadNumber cBadName cBadDomain cDomain cNumbers cWords) := by
  refine F.ok sc_law_whole (fun vs H Q E h => ?_) (fun cdv A outer s H vs Q E hr h => ?_)
  · obtain ⟨v, rfl, hv, q⟩ := h
    rfl
  obtain ⟨v, rfl, hv, q⟩ := h
  refine ⟨_, (pss_one (ps_ret (pe_and (pe_callB call_isiG rfl bl.isinstance_ PyProof.Rows.boot_isinstance (pa_cons (pv 0) (pa_cons (pe_bltn (v := .ty "int") rfl bl.int_ PyProof.Rows.boot_int rfl) pa_nil))) (pe_one (pe_not (pe_callB call_isiG rfl bl.isinstance_ PyProof.Rows.boot_isinstance (pa_cons (pv 0) (pa_cons (pe_bltn (v := .ty "bool") rfl bl.bool_ PyProof.Rows.boot_bool rfl) pa_nil)))))))), ?_⟩
  cases v with
  | non => exact ⟨_, rfl, _, _, _, _, false, rfl, .ty _, .inl (.non), (by first | rfl | with_unfolding_all rfl | decide +kernel), _, rfl, iteF q⟩
  | bl b => exact ⟨_, rfl, _, _, _, _, true, rfl, .ty _, .inl (.bl _), (by first | rfl | with_unfolding_all rfl | decide +kernel), _, rfl, iteT ⟨_, rfl, _, _, _, _, true, rfl, .ty _, .inl (.bl _), (by first | rfl | with_unfolding_all rfl | decide +kernel), _, rfl, q⟩⟩
  | int i => exact ⟨_, rfl, _, _, _, _, true, rfl, .ty _, .inl (.int _), (by first | rfl | with_unfolding_all rfl | decide +kernel), _, rfl, iteT ⟨_, rfl, _, _, _, _, false, rfl, .ty _, .inl (.int _), (by first | rfl | with_unfolding_all rfl | decide +kernel), _, rfl, q⟩⟩
  | str z => exact ⟨_, rfl, _, _, _, _, false, rfl, .ty _, .inl (.str _), (by first | rfl | with_unfolding_all rfl | decide +kernel), _, rfl, iteF q⟩
  | _ => exact hv.elim
theorem ok_law_word (F : Fun K "_law_word" "_law_word" s_law_word f fd) (bl : Bl K mg cTableError cBadNumber cBadName cBadDomain cDomain cNumbers cWords)  : FnOk P w K mg base CX0 1 f fd ["cell"] (sp_law_word K cTableError cBadNumber cBadName cBadDomain cDomain cNumbers cWords) := by
  refine F.ok sc_law_word (fun vs H Q E h => ?_) (fun cdv A outer s H vs Q E hr h => ?_)
  · obtain ⟨c, rfl, q⟩ := h
    rfl
  obtain ⟨c, rfl, q⟩ := h
  refine ⟨_, (pss_cons (ps_set (i := 1) sc_law_word.nd rfl (Or.inr rfl) (pe_op op_mod (pe_op op_mul (pe_op op_mod (pv 0) pe_int) pe_int) pe_int))
     (pss_cons (ps_set (i := 2) sc_law_word.nd rfl (Or.inl rfl) (pe_op op_add pe_int (pe_op op_mod (pe_op op_mod (pe_op op_mul (pe_op op_mod (pv 1) pe_int) pe_int) pe_int) pe_int)))
     (pss_one (ps_ret (pe_bm PySem.F.plainAttrs_str PySem.F.slot_str_join PySem.F.type_str_join mt_join pe_str (pa_cons (pe_comp (pi_range1 rfl bl.range_ (pa_cons (pv 2) pa_nil)) (cmpOk_free (N := ["k", "some"]) (fr := [1]) (cl := [("some", s.heap.objs.size + 1)]) rfl rfl (by decide +kernel) (by decide +kernel) rfl (by decide +kernel) rfl rfl rfl (List.forall_mem_cons.mpr ⟨rfl, List.forall_mem_nil _⟩) rfl) rfl (fun _ _ _ _ => pif_nil) (fun _ _ _ _ => (pe_ix ix_str pe_str (pe_op op_mod (pe_op op_mod (pe_op op_mul (pv 1) (pe_op op_add (pe_op op_add (pe_op op_mul (pv 0) (pv 0)) (pv 0)) pe_int)) pe_int) pe_int) (fun _ _ => rfl)))) pa_nil)))))), ?_⟩
  refine ⟨_, rfl, _, _, rfl, rfl, (by show (0 : Int) < 2147483647; decide), _, _, rfl, rfl, .inr ⟨by decide, by decide⟩, _, _, rfl, rfl, (by show (0 : Int) < 2147483647; decide), ?_⟩
  have hm0 : 0 ≤ c % 2147483647 * 48271 % 2147483647 := Int.emod_nonneg _ (by decide)
  have hm1 : c % 2147483647 * 48271 % 2147483647 < 2147483647 := Int.emod_lt_of_pos _ (by decide)
  refine ⟨_, rfl, _, _, rfl, rfl, (by show (0 : Int) < 10009; decide), _, _, rfl, rfl, .inr ⟨by decide, by decide⟩, _, _, rfl, rfl, (by show (0 : Int) < 10009; decide), _, _, rfl, rfl, (by show (0 : Int) < 12; decide), _, _, rfl, rfl, ?_⟩
  have hs0 : 0 ≤ c % 2147483647 * 48271 % 2147483647 % 10009 * 7919 % 10009 % 12 := Int.emod_nonneg _ (by decide)
  have hs1 : c % 2147483647 * 48271 % 2147483647 % 10009 * 7919 % 10009 % 12 < 12 := Int.emod_lt_of_pos _ (by decide)
  refine ⟨rfl, _, rfl, _, rfl, (by show -(2 ^ 62) ≤ 1 + c % 2147483647 * 48271 % 2147483647 % 10009 * 7919 % 10009 % 12; omega), (by show 1 + c % 2147483647 * 48271 % 2147483647 % 10009 * 7919 % 10009 % 12 < 2 ^ 62; omega), comp_range (fun D i zs H' => Same H H' ∧ H' D = some (.lst zs) ∧ (∃ ys : List Str, zs = ys.map V.str ∧ (∀ y ∈ ys, y.length = 1) ∧ ∀ y ∈ ys, Sm 1 y ∧ Ltr y) ∧ zs.length = i)
    (fun D hD => ⟨same_new hD _, upd_same, ⟨[], rfl, (fun y hy => by cases hy), (fun y hy => by cases hy)⟩, rfl⟩) (fun D i zs H' hD hi h => ?_) (fun D zs H' hD h => ?_)⟩
  · obtain ⟨sm, eD, ⟨ys, rfl, hy, hy2⟩, hl⟩ := h
    have hi' : i < 15 := by omega
    obtain ⟨v, hv, hv2, hv3⟩ : ∃ v : Nat, atI (Str.ofString "abcdefghijklmnopqrstuvwxyz").cps.toList (c % 2147483647 * 48271 % 2147483647 * ((0 + (i : Int)) * (0 + (i : Int)) + (0 + (i : Int)) + 41) % 1000003 % 26) = some v ∧ v < 16 ^ 8 ∧ 97 ≤ v ∧ v ≤ 122 := by
      have h0 := Int.emod_nonneg (c % 2147483647 * 48271 % 2147483647 * ((0 + (i : Int)) * (0 + (i : Int)) + (0 + (i : Int)) + 41) % 1000003) (show (26 : Int) ≠ 0 by decide)
      have h1 := Int.emod_lt_of_pos (c % 2147483647 * 48271 % 2147483647 * ((0 + (i : Int)) * (0 + (i : Int)) + (0 + (i : Int)) + 41) % 1000003) (show (0 : Int) < 26 by decide)
      generalize (c % 2147483647 * 48271 % 2147483647 * ((0 + (i : Int)) * (0 + (i : Int)) + (0 + (i : Int)) + 41) % 1000003 % 26) = k at h0 h1
      have hlen : (Str.ofString "abcdefghijklmnopqrstuvwxyz").cps.toList.length = 26 := by decide +kernel
      have hk : k.toNat < (Str.ofString "abcdefghijklmnopqrstuvwxyz").cps.toList.length := by omega
      have q2 := atI_nat (List.getElem?_eq_getElem hk)
      rw [show ((k.toNat : Nat) : Int) = k by omega] at q2
      have hall : ∀ c ∈ (Str.ofString "abcdefghijklmnopqrstuvwxyz").cps.toList, 97 ≤ c ∧ c ≤ 122 := by decide +kernel
      exact ⟨_, q2, low_of _ _ (List.getElem_mem hk), hall _ (List.getElem_mem hk)⟩
    refine ⟨_, rfl, _, rfl, _, rfl, _, _, rfl, rfl, .inl ⟨(by show -(2 ^ 64) < 0 + (i : Int); omega), (by show 0 + (i : Int) < 2 ^ 64; omega)⟩, _, rfl, _, _, rfl, rfl, _, _, rfl, rfl, _, _, rfl, rfl, .inl ⟨(by show -(2 ^ 64) < c % 2147483647 * 48271 % 2147483647; omega), (by show c % 2147483647 * 48271 % 2147483647 < 2 ^ 64; omega)⟩, _, _, rfl, rfl, (by show (0 : Int) < 1000003; decide), _, _, rfl, rfl, (by show (0 : Int) < 26; decide), _, _, _, rfl, rfl, (by decide), hv, ?_⟩
    refine CYes.mk hi eD (small1000 (by omega)) ⟨sm.upd hD, upd_same, ⟨ys ++ [⟨#[v]⟩], by simp, fun y h => ?_, fun y h => ?_⟩, by rw [List.length_append, List.length_singleton]; omega⟩
    · rcases List.mem_append.mp h with h | h
      · exact hy y h
      · rw [show y = ⟨#[v]⟩ by simpa using h]; rfl
    · rcases List.mem_append.mp h with h | h
      · exact hy2 y h
      · rw [show y = ⟨#[v]⟩ by simpa using h]
        refine ⟨Sm.one hv2, fun c hc => ?_⟩
        have : c = v := by simpa [tl] using hc
        rw [this]; exact hv3
  · obtain ⟨sm, eD, ⟨ys, rfl, hy, hy2⟩, hl⟩ := h
    have hly : ys.length ≤ 12 := by rw [List.length_map] at hl; omega
    obtain ⟨j1, j2⟩ := Sm.join24 hy (fun y h => (hy2 y h).1) hly
    refine ⟨_, D, ys, rfl, rfl, SqL.of eD, by decide, j1, q _ _ sm ?_ ?_⟩
    · have hj := Sm.joined (m := Str.ofString "") (n := 0) (k := 1) (P := ys) (Sm.of _ (by decide)) fun y h => (hy2 y h).1
      exact hj.le (by omega)
    · intro c hc
      rw [join_is] at hc
      rcases of_join _ hc with ⟨p, hp, h2⟩ | h2
      · exact (hy2 p hp).2 c h2
      · have : tl (Str.ofString "") = [] := rfl
        rw [this] at h2
        cases h2
theorem ok_law_is_word (F : Fun K "_law_is_word" "_law_is_word" s_law_is_word f fd) (bl : Bl K mg cTableError cBadNumber cBadName cBadDomain cDomain cNumbers cWords)  : FnOk P w K mg base CX0 1 f fd ["text"] (sp_law_is_word K cTableError cBadNumber cBadName cBadDomain cDomain cNumbers cWords) := by
  refine F.ok sc_law_is_word (fun vs H Q E h => ?_) (fun cdv A outer s H vs Q E hr h => ?_)
  · obtain ⟨z, rfl, hz, q⟩ := h
    rfl
  obtain ⟨z, rfl, hz, q⟩ := h
  refine ⟨_, (pss_cons (ps_if (PW.pt (pw_or (pt_cmpR op_eq (pv 0) pe_str (nomark _)) (pw_or (pt_cmpR op_lt (pe_callB call_len_str rfl bl.len_ PySem.boot_len (pa_cons (pv 0) pa_nil)) pe_int (nomark _)) (pw_or1 (pt_cmpR op_gt (pe_callB call_len_str rfl bl.len_ PySem.boot_len (pa_cons (pv 0) pa_nil)) pe_int (nomark _))))))
     (pss_one (ps_ret pe_bl))
     pss_nil)
     (pss_cons (ps_for PassesOwn.never rfl (pi_str (pv 0)) (pg_name (i := 1) sc_law_is_word.nd rfl (Or.inl rfl))
     (pss_one (ps_if (pt_cmpR op_notin_str (pv 1) pe_str (by with_unfolding_all rfl))
     (pss_one (ps_ret pe_bl))
     pss_nil)))
     (pss_one (ps_ret pe_bl)))), ?_⟩
  refine ⟨_, rfl, rfl, _, rfl, ?_⟩
  refine ite2 (fun g1 => ?_) (fun g1 => ?_)
  · refine iteT ?_
    have e : isw z = false := by unfold isw; rw [g1, Bool.not_true, Bool.false_and, Bool.and_false, Bool.and_false]
    rw [e] at q; exact q
  refine ⟨_, rfl, _, rfl, big hz, _, _, rfl, rfl, _, rfl, ?_⟩
  refine ite2 (fun g2 => ?_) (fun g2 => ?_)
  · refine iteT ?_
    have g2' : ((z.length : Nat) : Int) < 1 := dec_t g2
    have e : isw z = false := by unfold isw; rw [decide_eq_false (show ¬ (1 : Int) ≤ ((z.length : Nat) : Int) by omega), Bool.false_and]
    rw [e] at q; exact q
  refine ⟨_, rfl, _, rfl, big hz, _, _, rfl, rfl, _, rfl, ?_⟩
  refine ite2 (fun g3 => ?_) (fun g3 => ?_)
  · have g3' : (12 : Int) < ((z.length : Nat) : Int) := dec_t g3
    have e : isw z = false := by unfold isw; rw [decide_eq_false (show ¬ ((z.length : Nat) : Int) ≤ 12 by omega), Bool.false_and, Bool.and_false]
    rw [e] at q; exact q
  have g2' : ¬ ((z.length : Nat) : Int) < 1 := dec_f g2
  have g3' : ¬ (12 : Int) < ((z.length : Nat) : Int) := dec_f g3
  have ew : isw z = allIn z lets := by
    unfold isw
    rw [decide_eq_true (show (1 : Int) ≤ ((z.length : Nat) : Int) by omega), decide_eq_true (show ((z.length : Nat) : Int) ≤ 12 by omega), Bool.eq_false_iff.mpr g1]
    rfl
  rw [ew] at q
  refine ⟨_, rfl, z, rfl, for_str (fun i σ H' => (∃ c1 : Option V, σ = [some (.str z), c1]) ∧ H' = H ∧ (z.cps.toList.take i).all (sg lets) = true) ⟨⟨_, rfl⟩, rfl, rfl⟩ (fun i c σ H' e h => ?_) (fun σ H' h => ?_)⟩
  · obtain ⟨⟨c1, rfl⟩, e0, ha⟩ := h
    rw [e0]
    refine ⟨_, rfl, _, _, rfl, rfl, _, rfl, ?_⟩
    refine ite2 (fun d => ?_) (fun d => ?_)
    · have z2 : allIn z lets = false := all_no e (not_sg d)
      rw [z2] at q; exact q
    · exact ⟨⟨_, rfl⟩, rfl, all_succ e (is_sg d) ha⟩
  · obtain ⟨⟨c1, rfl⟩, e0, ha⟩ := h
    rw [e0]
    rw [all_done ha] at q; exact q
theorem ok_Words_written_Words (F : Fun K "written" "Words.written" s_Words_written_Words f fd) (bl : Bl K mg cTableError cBadNumber cBadName cBadDomain cDomain cNumbers cWords)  : FnOk P w K mg base CX0 1 f fd ["self"] (sp_Words_written_Words K cTableError cBadNumber cBadName cBadDomain cDomain cNumbers cWords) := by
  refine F.ok sc_Words_written_Words (fun vs H Q E h => ?_) (fun cdv A outer s H vs Q E hr h => ?_)
  · obtain ⟨a, zs, rfl, ⟨dx, lw, ha, hw⟩, hs, q⟩ := h
    rfl
  obtain ⟨a, zs, rfl, ⟨dx, lw, ha, hw⟩, hs, q⟩ := h
  refine ⟨_, (pss_one (ps_ret (pe_bm PySem.F.plainAttrs_str PySem.F.slot_str_join PySem.F.type_str_join mt_join pe_str (pa_cons (pe_fld (pv 0) rfl) pa_nil)))), ?_⟩
  exact ⟨rfl, _, rfl, a, _, _, _, _, rfl, ha, bl.k_Words, bl.na_Words_words, rfl, _, lw, zs, rfl, rfl, SqL.of hw, by decide, hs, q⟩
theorem ok_Domain___init___Words (F : Fun K "__init__" "Domain.__init__" s_Domain___init___Words f fd) (bl : Bl K mg cTableError cBadNumber cBadName cBadDomain cDomain cNumbers cWords)  : FnOk P w K mg base CX0 1 f fd ["self", "low", "high"] (sp_Domain___init___Words K cTableError cBadNumber cBadName cBadDomain cDomain cNumbers cWords) := by
  refine F.ok sc_Domain___init___Words (fun vs H Q E h => ?_) (fun cdv A outer s H vs Q E hr h => ?_)
  · obtain ⟨x, dx, lo, hi, rfl, hx, q⟩ := h
    rfl
  obtain ⟨x, dx, lo, hi, rfl, hx, q⟩ := h
  refine ⟨_, (pss_cons (ps_fld (pv 0) (pv 1) rfl)
     (pss_one (ps_fld (pv 0) (pv 2) rfl))), ?_⟩
  refine ⟨_, rfl, _, rfl, x, _, dx, _, rfl, hx, bl.k_Words, bl.na_Words_low, (by show 0 < 1000; decide), _, rfl, _, rfl, x, _, dx, _, rfl, upd_same, bl.k_Words, bl.na_Words_high, (by show 1 < 1000; decide), ?_⟩
  show Q .non (upd (upd H x (.ins cWords dx [("low", .int lo)])) x (.ins cWords dx (putF "high" (.int hi) [("low", .int lo)])))
  rw [put2]
  exact q
theorem ok_Domain___init___Numbers (F : Fun K "__init__" "Domain.__init__" s_Domain___init___Numbers f fd) (bl : Bl K mg cTableError cBadNumber cBadName cBadDomain cDomain cNumbers cWords)  : FnOk P w K mg base CX0 1 f fd ["self", "low", "high"] (sp_Domain___init___Numbers K cTableError cBadNumber cBadName cBadDomain cDomain cNumbers cWords) := by
  refine F.ok sc_Domain___init___Numbers (fun vs H Q E h => ?_) (fun cdv A outer s H vs Q E hr h => ?_)
  · obtain ⟨x, dx, lo, hi, rfl, hx, q⟩ := h
    rfl
  obtain ⟨x, dx, lo, hi, rfl, hx, q⟩ := h
  refine ⟨_, (pss_cons (ps_fld (pv 0) (pv 1) rfl)
     (pss_one (ps_fld (pv 0) (pv 2) rfl))), ?_⟩
  refine ⟨_, rfl, _, rfl, x, _, dx, _, rfl, hx, bl.k_Numbers, bl.na_Numbers_low, (by show 0 < 1000; decide), _, rfl, _, rfl, x, _, dx, _, rfl, upd_same, bl.k_Numbers, bl.na_Numbers_high, (by show 1 < 1000; decide), ?_⟩
  show Q .non (upd (upd H x (.ins cNumbers dx [("low", .int lo)])) x (.ins cNumbers dx (putF "high" (.int hi) [("low", .int lo)])))
  rw [put2]
  exact q
theorem ok_is_word (F : Fun K "is_word" "is_word" s_is_word f fd) (bl : Bl K mg cTableError cBadNumber cBadName cBadDomain cDomain cNumbers cWords) (c_all_among : Callee P w K mg base 1 "all_among" ["text", "signs"] (sp_all_among K cTableError cBadNumber cBadName cBadDomain cDomain cNumbers cWords)) : FnOk P w K mg base CX0 2 f fd ["text"] (sp_is_word K cTableError cBadNumber cBadName cBadDomain cDomain cNumbers cWords) := by
  refine F.ok sc_is_word (fun vs H Q E h => ?_) (fun cdv A outer s H vs Q E hr h => ?_)
  · obtain ⟨z, rfl, hz, q⟩ := h
    rfl
  obtain ⟨z, rfl, hz, q⟩ := h
  refine ⟨_, (pss_one (ps_ret (pe_and (pe_chain op_le op_le pe_int (pe_callB call_len_str rfl bl.len_ PySem.boot_len (pa_cons (pv 0) pa_nil)) (pe_gl rfl bl.MOST_SIGNS_)) (pe_and (pe_cmpR op_ne (pv 0) pe_str (nomark _)) (pe_one (pe_fn c_all_among hr rfl (pa_cons (pv 0) (pa_cons (pe_gl rfl bl.SMALL_LETTERS_) pa_nil)))))))), ?_⟩
  refine ⟨_, rfl, _, rfl, big hz, _, _, rfl, rfl, _, rfl, ?_⟩
  refine ite2 (fun g1 => ?_) (fun g1 => ?_)
  · refine ⟨_, _, rfl, rfl, _, rfl, ?_⟩
    refine ite2 (fun g2 => ?_) (fun g2 => ?_)
    · refine ⟨_, rfl, rfl, _, rfl, ?_⟩
      refine ite2 (fun g3 => ?_) (fun g3 => ?_)
      · refine ⟨_, rfl, z, lets, rfl, ?_⟩
        have e : isw z = allIn z lets := by unfold isw; rw [g1, g2, g3]; rfl
        rw [e] at q; exact q
      · have e : isw z = false := by unfold isw; rw [Bool.eq_false_iff.mpr g3, Bool.false_and, Bool.and_false, Bool.and_false]
        rw [e] at q; exact q
    · have e : isw z = false := by unfold isw; rw [Bool.eq_false_iff.mpr g2, Bool.false_and, Bool.and_false]
      rw [e] at q; exact q
  · have e : isw z = false := by unfold isw; rw [Bool.eq_false_iff.mpr g1, Bool.false_and]
    rw [e] at q; exact ⟨_, rfl, iteF q⟩
theorem ok_is_number (F : Fun K "is_number" "is_number" s_is_number f fd) (bl : Bl K mg cTableError cBadNumber cBadName cBadDomain cDomain cNumbers cWords) (c_all_among : Callee P w K mg base 1 "all_among" ["text", "signs"] (sp_all_among K cTableError cBadNumber cBadName cBadDomain cDomain cNumbers cWords)) : FnOk P w K mg base CX0 2 f fd ["text"] (sp_is_number K cTableError cBadNumber cBadName cBadDomain cDomain cNumbers cWords) := by
  refine F.ok sc_is_number (fun vs H Q E h => ?_) (fun cdv A outer s H vs Q E hr h => ?_)
  · obtain ⟨z, rfl, hz, q⟩ := h
    rfl
  obtain ⟨z, rfl, hz, q⟩ := h
  refine ⟨_, (pss_cons (ps_if (pt_cmpR op_eq (pv 0) pe_str (nomark _))
     (pss_one (ps_ret pe_bl))
     pss_nil)
     (pss_cut (ps_set (i := 1) sc_is_number.nd rfl (Or.inl rfl) (pe_ifExp (pt_val (pe_bm PySem.F.plainAttrs_str PySem.F.slot_str_startswith PySem.F.type_str_startswith mt_startswith (pv 0) (pa_cons pe_str pa_nil))) (pe_slice sl_str (pv 0) (po_some pe_int) po_none) (pv 0)))
     (pss_one (ps_ret (pe_and (pe_chain op_le op_le pe_int (pe_callB call_len_str rfl bl.len_ PySem.boot_len (pa_cons (pv 1) pa_nil)) (pe_gl rfl bl.MOST_FIGURES_)) (pe_and (pe_cmpR op_ne (pe_ix ix_str (pv 1) pe_int (fun _ _ => rfl)) pe_str (nomark _)) (pe_one (pe_fn c_all_among hr rfl (pa_cons (pv 1) (pa_cons (pe_gl rfl bl.FIGURES_) pa_nil)))))))))), ?_⟩
  refine ⟨_, rfl, rfl, _, rfl, ?_⟩
  refine ite2 (fun g0 => ?_) (fun g0 => ?_)
  · have e : isn z = true := by unfold isn; rw [g0]; rfl
    rw [e] at q; exact q
  refine ⟨fun σ' H2 => σ' = [some (.str z), some (.str (figz z))] ∧ H2 = H, ?_, ?_⟩
  · refine ⟨_, rfl, rfl, _, _, rfl, rfl, _, rfl, ?_⟩
    refine ite2 (fun g1 => ?_) (fun g1 => ?_)
    · have e : figz z = Txt.slice z (some 1) none := by unfold figz; rw [if_pos g1]
      rw [e]
      exact ⟨_, rfl, _, rfl, _, rfl, big hz, rfl, rfl⟩
    · have e : figz z = z := by unfold figz; rw [if_neg g1]
      rw [e]
      exact ⟨_, rfl, rfl, rfl⟩
  rintro σ2 H2 ⟨rfl, e2⟩
  rw [e2]
  have hf : (figz z).length ≤ 1000 := Nat.le_trans (figz_len z) hz
  have q0 : isn z = (decide ((1 : Int) ≤ (((figz z).length : Nat) : Int)) && (decide ((((figz z).length : Nat) : Int) ≤ 60) && (!decide (V.str ⟨#[(figz z).cps.toList.headD 0]⟩ = V.str "0") && allIn (figz z) ten))) := by
    unfold isn
    rw [Bool.eq_false_iff.mpr g0, Bool.false_or]
  rw [q0] at q
  generalize figz z = f at q hf ⊢
  refine ⟨_, rfl, _, rfl, big hf, _, _, rfl, rfl, _, rfl, ?_⟩
  refine ite2 (fun g1 => ?_) (fun g1 => ?_)
  · have h1 : (1 : Int) ≤ ((f.length : Nat) : Int) := dec_t g1
    rw [g1, Bool.true_and] at q
    refine ⟨_, _, rfl, rfl, _, rfl, ?_⟩
    refine ite2 (fun g2 => ?_) (fun g2 => ?_)
    · rw [g2, Bool.true_and] at q
      refine ⟨_, rfl, _, _, _, rfl, rfl, big hf, head_at (by omega), rfl, _, rfl, ?_⟩
      refine ite2 (fun g3 => ?_) (fun g3 => ?_)
      · rw [g3, Bool.true_and] at q
        exact ⟨_, rfl, f, ten, rfl, q⟩
      · rw [Bool.eq_false_iff.mpr g3, Bool.false_and] at q
        exact q
    · rw [Bool.eq_false_iff.mpr g2, Bool.false_and] at q
      exact q
  · rw [Bool.eq_false_iff.mpr g1, Bool.false_and] at q
    exact ⟨_, rfl, iteF q⟩
theorem ok_law_alike (F : Fun K "_law_alike" "_law_alike" s_law_alike f fd) (bl : Bl K mg cTableError cBadNumber cBadName cBadDomain cDomain cNumbers cWords) (c_alike : Callee P w K mg base 1 "alike" ["one", "other"] (sp_alike K cTableError cBadNumber cBadName cBadDomain cDomain cNumbers cWords)) : FnOk P w K mg base CX0 2 f fd ["one", "other", "due"] (sp_law_alike K cTableError cBadNumber cBadName cBadDomain cDomain cNumbers cWords) := by
  refine F.ok sc_law_alike (fun vs H Q E h => ?_) (fun cdv A outer s H vs Q E hr h => ?_)
  · obtain ⟨a, b, d, e, r, rfl, ha, hb, hi, q⟩ := h
    rfl
  obtain ⟨a, b, d, e, r, rfl, ha, hb, hi, q⟩ := h
  refine ⟨_, (pss_cons (ps_set (i := 3) sc_law_alike.nd rfl (Or.inl rfl) (pe_fn c_alike hr rfl (pa_cons (pv 0) (pa_cons (pv 1) pa_nil))))
     (pss_cons (ps_set (i := 4) sc_law_alike.nd rfl (Or.inl rfl) (pe_fn c_alike hr rfl (pa_cons (pv 1) (pa_cons (pv 0) pa_nil))))
     (pss_one (ps_ret (pe_and (pe_callB call_isiG rfl bl.isinstance_ PyProof.Rows.boot_isinstance (pa_cons (pv 3) (pa_cons (pe_bltn (v := .ty "bool") rfl bl.bool_ PyProof.Rows.boot_bool rfl) pa_nil))) (pe_and (pe_callB call_isiG rfl bl.isinstance_ PyProof.Rows.boot_isinstance (pa_cons (pv 4) (pa_cons (pe_bltn (v := .ty "bool") rfl bl.bool_ PyProof.Rows.boot_bool rfl) pa_nil))) (pe_and (pe_cmpR op_eq (pv 3) (pv 2) (nomark _)) (pe_one (pe_cmpR op_eq (pv 4) (pv 2) (nomark _)))))))))), ?_⟩
  refine ⟨_, rfl, _, rfl, a, b, d, e, r, rfl, ha, hb, hi, ?_⟩
  refine ⟨_, rfl, _, rfl, b, a, e, d, r, rfl, hb, ha, hi.trans ⟨Eq.symm, Eq.symm⟩, ?_⟩
  refine ⟨_, rfl, _, _, _, _, true, rfl, .ty _, .inl (.bl _), (by first | rfl | with_unfolding_all rfl | decide +kernel), _, rfl, iteT ⟨_, rfl, _, _, _, _, true, rfl, .ty _, .inl (.bl _), (by first | rfl | with_unfolding_all rfl | decide +kernel), _, rfl, iteT ⟨_, rfl, _, rfl, rfl, _, rfl, iteTS rfl ⟨_, rfl, _, rfl, rfl, ?_⟩⟩⟩⟩
  rw [decide_eq_true rfl]
  exact q
theorem ok_law_good (F : Fun K "_law_good" "_law_good" s_law_good f fd) (bl : Bl K mg cTableError cBadNumber cBadName cBadDomain cDomain cNumbers cWords) (c__law_is_word : Callee P w K mg base 1 "_law_is_word" ["text"] (sp_law_is_word K cTableError cBadNumber cBadName cBadDomain cDomain cNumbers cWords)) : FnOk P w K mg base CX0 2 f fd ["words"] (sp_law_good K cTableError cBadNumber cBadName cBadDomain cDomain cNumbers cWords) := by
  refine F.ok sc_law_good (fun vs H Q E h => ?_) (fun cdv A outer s H vs Q E hr h => ?_)
  · obtain ⟨p, zs, rfl, hP, hl, hsm, q⟩ := h
    rfl
  obtain ⟨p, zs, rfl, hP, hl, hsm, q⟩ := h
  refine ⟨_, (pss_cons (ps_if (PW.pt (pw_or (pt_cmpR op_lt (pe_callB call_len_seq rfl bl.len_ PySem.boot_len (pa_cons (pv 0) pa_nil)) pe_int (nomark _)) (pw_or1 (pt_cmpR op_gt (pe_callB call_len_seq rfl bl.len_ PySem.boot_len (pa_cons (pv 0) pa_nil)) pe_int (nomark _)))))
     (pss_one (ps_ret pe_bl))
     pss_nil)
     (pss_cons (ps_for PassesOwn.never rfl (pi_range1 rfl bl.range_ (pa_cons (pe_callB call_len_seq rfl bl.len_ PySem.boot_len (pa_cons (pv 0) pa_nil)) pa_nil)) (pg_name (i := 1) sc_law_good.nd rfl (Or.inl rfl))
     (pss_one (ps_if (PW.pt (pw_or (pt_not (pt_val (pe_fn c__law_is_word hr rfl (pa_cons (pe_ix ix_list (pv 0) (pv 1) (fun _ _ => rfl)) pa_nil)))) (pw_or1 (pt_cmpR op_in_seq (pe_ix ix_list (pv 0) (pv 1) (fun _ _ => rfl)) (pe_slice sl_list (pv 0) po_none (po_some (pv 1))) (by with_unfolding_all rfl)))))
     (pss_one (ps_ret pe_bl))
     pss_nil)))
     (pss_one (ps_ret pe_bl)))), ?_⟩
  have hlen : (zs.map V.str).length = zs.length := List.length_map _
  have hS : SqL K H p (zs.map V.str) := SqL.of hP
  refine ⟨_, rfl, p, _, rfl, .inl hS, _, _, rfl, rfl, _, rfl, ?_⟩
  refine ite2 (fun g1 => ?_) (fun g1 => ?_)
  · refine iteT ((q H (Same.refl H)).2 fun g => ?_)
    have := dec_t g1; rw [hlen] at this; have := g.some_; omega
  refine ⟨_, rfl, p, _, rfl, .inl hS, _, _, rfl, rfl, _, rfl, ?_⟩
  refine ite2 (fun g2 => ?_) (fun g2 => ?_)
  · refine (q H (Same.refl H)).2 fun g => ?_
    have := dec_t g2; rw [hlen] at this; have := g.few; omega
  have n1 := dec_f g1
  have n2 := dec_f g2
  rw [hlen] at n1 n2
  refine ⟨_, rfl, p, _, rfl, .inl hS, _, rfl, by omega, by omega, for_range (fun i σ H' => (∃ c1 : Option V, σ = [some (.ref p), c1]) ∧ Same H H' ∧ (∀ z ∈ zs.take i, isw z = true) ∧ (zs.take i).Nodup) ⟨⟨_, rfl⟩, Same.refl H, (fun z hz => by simp at hz), by simp⟩ (fun i σ H' hi h => ?_) (fun σ H' h => ?_)⟩
  · obtain ⟨⟨c1, rfl⟩, sm, hw, hn⟩ := h
    rw [hlen] at hi
    have hi' : i < zs.length := by omega
    have ez : zs[i]? = some zs[i] := List.getElem?_eq_getElem hi'
    have hP' := sm _ _ hP
    have hz := hsm _ (List.getElem_mem hi')
    have hzl := hz.len
    refine ⟨_, rfl, _, rfl, p, _, _, _, rfl, rfl, SqL.of hP', getI (put_strs ez), zs[i], rfl, by omega, _, rfl, ?_⟩
    cases hiw : isw zs[i] with
    | false => exact iteT ((q H' sm).2 fun g => by rw [g.words _ (List.getElem_mem hi')] at hiw; cases hiw)
    | true =>
      refine iteF ?_
      refine ⟨_, rfl, _, rfl, p, _, _, _, rfl, rfl, SqL.of hP', getI (put_strs ez), _, rfl, _, rfl, _, rfl, p, _, rfl, SqL.of hP', fun c1 hc1 => ?_⟩
      have ec : cutV (zs.map V.str) none (some (0 + (i : Int))) = (zs.take i).map V.str := by
        unfold cutV
        have e1 : HT.sIx (zs.map V.str).length (zs.map V.str).length (some (0 + (i : Int))) = i := by
          simp only [HT.sIx, List.length_map]
          split <;> omega
        have e0 : HT.sIx (zs.map V.str).length 0 none = 0 := rfl
        rw [e1, e0, List.drop_zero, Nat.sub_zero, List.map_take]
      rw [ec]
      refine ⟨c1, _, rfl, .inl (SqL.of upd_same), rfl, flat_strs _, _, rfl, ?_⟩
      have ei : (if false = true then !inV (.str zs[i]) ((zs.take i).map V.str) else inV (.str zs[i]) ((zs.take i).map V.str)) = decide (zs[i] ∈ zs.take i) := by rw [if_neg Bool.false_ne_true]; exact inV_W _ _ trivial
      rw [ei]
      have et := take_snoc ez
      refine ite2 (fun g => ?_) (fun g => ?_)
      · refine (q _ (sm.trans (same_new hc1 _))).2 fun gd => ?_
        have nd : (zs.take (i + 1)).Nodup := gd.once.sublist (List.take_sublist _ _)
        rw [et, List.nodup_append] at nd
        exact absurd rfl (nd.2.2 _ (dec_t g) _ (by simp))
      · refine ⟨⟨_, rfl⟩, sm.trans (same_new hc1 _), fun z hz => ?_, ?_⟩
        · rw [et] at hz
          rcases List.mem_append.mp hz with hz | hz
          · exact hw z hz
          · rw [show z = zs[i] by simpa using hz]; exact hiw
        · rw [et, List.nodup_append]
          refine ⟨hn, by simp, fun a ha b hb => ?_⟩
          rw [show b = zs[i] by simpa using hb]
          exact fun z => dec_f g (z ▸ ha)
  · obtain ⟨⟨c1, rfl⟩, sm, hw, hn⟩ := h
    have e : (((zs.map V.str).length : Nat) : Int).toNat = zs.length := by rw [hlen]; omega
    have e2 : zs.take zs.length = zs := List.take_length
    simp only [hlen, Int.toNat_natCast, e2] at hw hn
    exact (q H' sm).1 ⟨by omega, by omega, hw, hn⟩
theorem ok_Numbers___init___Numbers (F : Fun K "__init__" "Numbers.__init__" s_Numbers___init___Numbers f fd) (bl : Bl K mg cTableError cBadNumber cBadName cBadDomain cDomain cNumbers cWords) (b_Domain___init___Numbers : BCallee CX0 P w K mg base 1 "Domain" "__init__" ["self", "low", "high"] (sp_Domain___init___Numbers K cTableError cBadNumber cBadName cBadDomain cDomain cNumbers cWords)) : FnOk P w K mg base (CX1 P w) 2 f fd ["self", "low", "high"] (sp_Numbers___init___Numbers K cTableError cBadNumber cBadName cBadDomain cDomain cNumbers cWords) := by
  refine F.okE sc_Numbers___init___Numbers (fun vs H Q E h => ?_) (fun cdv A outer s H vs Q E hr h => ?_)
  · obtain ⟨x, dx, lo, hi, rfl, hx, q, qE⟩ := h
    rfl
  obtain ⟨x, dx, lo, hi, rfl, hx, q, qE⟩ := h
  refine ⟨_, (pss_cons (ps_if (pt_cmpR op_gt (pv 1) (pv 2) (nomark _))
     (pss_one (ps_raiseE bl.x_BadDomain hr.hd rfl bl.BadDomain_ (pa_cons pe_str pa_nil)))
     pss_nil)
     (pss_one (ps_expr (pe_base b_Domain___init___Numbers pass0 hr rfl (pa_cons (pv 0) (pa_cons (pv 1) (pa_cons (pv 2) pa_nil))))))), ?_⟩
  refine ⟨_, rfl, _, rfl, _, _, rfl, rfl, _, rfl, ?_⟩
  refine ite2 (fun g => ?_) (fun g => ?_)
  · exact ⟨(by show 1 ≤ sizeLine; decide), qE (dec_t g)⟩
  · exact ⟨_, rfl, _, rfl, _, rfl, x, dx, lo, hi, rfl, hx, q (Int.not_lt.mp (dec_f g))⟩
theorem ok_Numbers_written_Numbers (F : Fun K "written" "Numbers.written" s_Numbers_written_Numbers f fd) (bl : Bl K mg cTableError cBadNumber cBadName cBadDomain cDomain cNumbers cWords) (c_number_text : Callee P w K mg base 1 "number_text" ["number"] (sp_number_text K cTableError cBadNumber cBadName cBadDomain cDomain cNumbers cWords)) : FnOk P w K mg base CX0 2 f fd ["self"] (sp_Numbers_written_Numbers K cTableError cBadNumber cBadName cBadDomain cDomain cNumbers cWords) := by
  refine F.ok sc_Numbers_written_Numbers (fun vs H Q E h => ?_) (fun cdv A outer s H vs Q E hr h => ?_)
  · obtain ⟨a, lo, hi, rfl, ⟨dx, ha⟩, h1, h2, q⟩ := h
    rfl
  obtain ⟨a, lo, hi, rfl, ⟨dx, ha⟩, h1, h2, q⟩ := h
  refine ⟨_, (pss_one (ps_ret (pe_op op_add_str (pe_op op_add_str (pe_fn c_number_text hr rfl (pa_cons (pe_fld (pv 0) rfl) pa_nil)) pe_str) (pe_fn c_number_text hr rfl (pa_cons (pe_fld (pv 0) rfl) pa_nil))))), ?_⟩
  have l1 := len_num h1
  have l2 := len_num h2
  have e2 : (Str.ofString "..").length = 2 := by decide
  exact ⟨_, rfl, a, _, _, _, _, rfl, ha, bl.k_Numbers, bl.na_Numbers_low, rfl, lo, rfl, log_sm h1, _, _, rfl, rfl, big (by rw [e2]; omega), _, rfl, a, _, _, _, _, rfl, ha, bl.k_Numbers, bl.na_Numbers_high, rfl, hi, rfl, log_sm h2, _, _, rfl, rfl, big (by rw [len_app, e2]; omega), q⟩
theorem ok_number_of (F : Fun K "number_of" "number_of" s_number_of f fd) (bl : Bl K mg cTableError cBadNumber cBadName cBadDomain cDomain cNumbers cWords) (c_is_number : Callee P w K mg base 2 "is_number" ["text"] (sp_is_number K cTableError cBadNumber cBadName cBadDomain cDomain cNumbers cWords)) : FnOk P w K mg base (CX1 P w) 3 f fd ["text"] (sp_number_of K cTableError cBadNumber cBadName cBadDomain cDomain cNumbers cWords) := by
  refine F.okE sc_number_of (fun vs H Q E h => ?_) (fun cdv A outer s H vs Q E hr h => ?_)
  · obtain ⟨z, rfl, hz, q, qE⟩ := h
    rfl
  obtain ⟨z, rfl, hz, q, qE⟩ := h
  refine ⟨_, (pss_cons (ps_if (pt_not (pt_val (pe_fn c_is_number hr rfl (pa_cons (pv 0) pa_nil))))
     (pss_one (ps_raiseE bl.x_BadNumber hr.hd rfl bl.BadNumber_ (pa_cons (pe_fr (pv 0)) pa_nil)))
     pss_nil)
     (pss_one (ps_ret (pe_callTy call_int_text rfl bl.int_ PyProof.Rows.boot_int (pa_cons (pv 0) pa_nil))))), ?_⟩
  have hz1 := hz.len
  refine ⟨_, rfl, z, rfl, by omega, _, rfl, ?_⟩
  cases hi : isn z with
  | true => exact iteF ⟨_, rfl, z, _, rfl, read_z hi (by omega), by omega, q hi⟩
  | false => exact iteT ⟨_, rfl, z, rfl, by omega, hz.low, (by decide +kernel), fun z2 => ⟨(by show 1 ≤ sizeLine; decide), qE hi⟩⟩
theorem ok_Words___init___Words (F : Fun K "__init__" "Words.__init__" s_Words___init___Words f fd) (bl : Bl K mg cTableError cBadNumber cBadName cBadDomain cDomain cNumbers cWords) (b_Domain___init___Words : BCallee CX0 P w K mg base 2 "Domain" "__init__" ["self", "low", "high"] (sp_Domain___init___Words K cTableError cBadNumber cBadName cBadDomain cDomain cNumbers cWords)) (c_is_word : Callee P w K mg base 2 "is_word" ["text"] (sp_is_word K cTableError cBadNumber cBadName cBadDomain cDomain cNumbers cWords)) : FnOk P w K mg base (CX1 P w) 3 f fd ["self", "words"] (sp_Words___init___Words K cTableError cBadNumber cBadName cBadDomain cDomain cNumbers cWords) := by
  refine F.okE sc_Words___init___Words (fun vs H Q E h => ?_) (fun cdv A outer s H vs Q E hr h => ?_)
  · obtain ⟨x, dx, p, zs, rfl, hx, hP, hsm, q, qE⟩ := h
    rfl
  obtain ⟨x, dx, p, zs, rfl, hx, hP, hsm, q, qE⟩ := h
  refine ⟨_, (pss_cons (ps_if (pt_not (pt_chain op_le op_le pe_int (pe_callB call_len_seq rfl bl.len_ PySem.boot_len (pa_cons (pv 1) pa_nil)) (pe_gl rfl bl.MOST_WORDS_)))
     (pss_one (ps_raiseE bl.x_BadDomain hr.hd rfl bl.BadDomain_ (pa_cons pe_str pa_nil)))
     pss_nil)
     (pss_cut (ps_for (passes_XE rfl rfl rfl) rfl (pi_list (pv 1)) (pg_name (i := 2) sc_Words___init___Words.nd rfl (Or.inl rfl))
     (pss_one (ps_if (pt_not (pt_val (pe_fn c_is_word hr rfl (pa_cons (pv 2) pa_nil))))
     (pss_one (ps_raiseE bl.x_BadDomain hr.hd rfl bl.BadDomain_ (pa_cons (pe_fr (pv 2)) pa_nil)))
     pss_nil)))
     (pss_cons (ps_if (pt_cmpR op_lt (pe_callB call_len_setO rfl bl.len_ PySem.boot_len (pa_cons (pe_callTy (call_set_strs rfl) rfl bl.set_ PyProof.Rows.boot_set (pa_cons (pv 1) pa_nil)) pa_nil)) (pe_callB call_len_seq rfl bl.len_ PySem.boot_len (pa_cons (pv 1) pa_nil)) (nomark _))
     (pss_one (ps_raiseE bl.x_BadDomain hr.hd rfl bl.BadDomain_ (pa_cons pe_str pa_nil)))
     pss_nil)
     (pss_cons (ps_expr (pe_base b_Domain___init___Words pass0 hr rfl (pa_cons (pv 0) (pa_cons pe_int (pa_cons (pe_op op_sub (pe_callB call_len_seq rfl bl.len_ PySem.boot_len (pa_cons (pv 1) pa_nil)) pe_int) pa_nil)))))
     (pss_one (ps_fld (pv 0) (pe_callTy call_list_of rfl bl.list_ PyProof.Rows.boot_list (pa_cons (pv 1) pa_nil)) rfl)))))), ?_⟩
  have hS : SqL K H p (zs.map V.str) := SqL.of hP
  have hpx : p ≠ x := ne_of hP hx (by intro z; cases z)
  have hlen : (zs.map V.str).length = zs.length := List.length_map _
  have rs : ∀ H' : Hp, Same H H' → ¬ Good zs → E (.ref cBadDomain) none H' := fun H' s g => qE g H' s
  refine ⟨_, rfl, p, _, rfl, .inl hS, _, _, rfl, rfl, _, rfl, ?_⟩
  refine ite2 (fun g1 => ?_) (fun g1 => ?_)
  rotate_left
  · have g1' : ¬ (1 : Int) ≤ (((zs.map V.str).length : Nat) : Int) := dec_f g1
    exact ⟨_, rfl, iteT ⟨(by show 1 ≤ sizeLine; decide), rs H (Same.refl H) fun g => by have := g.some_; rw [hlen] at g1'; omega⟩⟩
  have g1' : (1 : Int) ≤ (((zs.map V.str).length : Nat) : Int) := dec_t g1
  rw [hlen] at g1'
  refine ⟨_, _, rfl, rfl, _, rfl, ?_⟩
  cases hg : decide ((((zs.map V.str).length : Nat) : Int) ≤ 40) with
  | false =>
    have hg' := of_decide_eq_false hg
    exact iteT ⟨(by show 1 ≤ sizeLine; decide), rs H (Same.refl H) fun g => by have := g.few; rw [hlen] at hg'; omega⟩
  | true =>
  have hg' := of_decide_eq_true hg
  rw [hlen] at hg'
  refine iteF ?_
  refine ⟨fun σ' H' => H' = H ∧ (∃ c2 : Option V, σ' = [some (.ref x), some (.ref p), c2]) ∧ ∀ z ∈ zs, isw z = true, ?_, ?_⟩
  · refine ⟨_, rfl, p, rfl, ⟨_, hS⟩, for_list (xs := zs.map V.str) (fun i σ H' => (∃ c2 : Option V, σ = [some (.ref x), some (.ref p), c2]) ∧ H' = H ∧ ∀ z ∈ zs.take i, isw z = true) ⟨⟨_, rfl⟩, rfl, (fun z hz => by simp at hz)⟩ (fun i σ H' _ h => by rw [h.2.1]; exact hS) (fun i y σ H' e h => ?_) (fun σ H' h => ?_)⟩
    · obtain ⟨⟨c2, rfl⟩, e0, ha⟩ := h
      rw [e0]
      obtain ⟨z, rfl, ez⟩ := get_strs e
      have hz := hsm z (List.mem_of_getElem? ez)
      have hz1 := hz.len
      refine ⟨_, rfl, z, rfl, by omega, _, rfl, ?_⟩
      cases hw : isw z with
      | true =>
        refine iteF ⟨⟨_, rfl⟩, rfl, fun y hy => ?_⟩
        rw [take_snoc ez] at hy
        rcases List.mem_append.mp hy with hy | hy
        · exact ha y hy
        · rw [show y = z by simpa using hy]; exact hw
      | false => exact iteT ⟨_, rfl, z, rfl, by omega, hz.low, (by decide +kernel), fun z2 => ⟨(by show 1 ≤ sizeLine; decide), rs H (Same.refl H) fun g => by rw [g.words z (List.mem_of_getElem? ez)] at hw; cases hw⟩⟩
    · obtain ⟨⟨c2, rfl⟩, e0, ha⟩ := h
      rw [hlen, List.take_length] at ha
      exact ⟨e0, ⟨_, rfl⟩, ha⟩
  rintro σ2 H2 ⟨e2, ⟨c2, rfl⟩, hall⟩
  rw [e2]
  refine ⟨_, rfl, p, zs, rfl, hS, by omega, fun l hl => ⟨l, zs, rfl, upd_same, by omega, _, rfl, p, _, rfl, .inl ((same_new hl _).seq hS), _, _, rfl, rfl, _, rfl, ?_⟩⟩
  have s1 := same_new hl (SetO P w l zs)
  have cf := cntK_full zs zs.length (Nat.le_refl _)
  rw [List.take_length] at cf
  refine ite2 (fun g => ?_) (fun g => ?_)
  · have g' : ((cntK zs zs.length : Nat) : Int) < (((zs.map V.str).length : Nat) : Int) := dec_t g
    rw [hlen] at g'
    exact ⟨(by show 1 ≤ sizeLine; decide), rs _ s1 fun gd => by have := cf.mpr gd.once; omega⟩
  have g' : ¬ ((cntK zs zs.length : Nat) : Int) < (((zs.map V.str).length : Nat) : Int) := dec_f g
  rw [hlen] at g'
  have gd : Good zs := ⟨by omega, by omega, hall, cf.mp (by have := cntK_le zs zs.length; omega)⟩
  have hx1 := s1 _ _ hx
  have hP1 := s1 _ _ hP
  have low1 : ∀ b o, H b = some o → upd H l (SetO P w l zs) b = some o := s1
  have fr1 : ∀ b, upd H l (SetO P w l zs) b = none → H b = none := fun b h => s1.free h
  refine ⟨_, rfl, _, rfl, p, _, rfl, .inl (SqL.of hP1), _, _, rfl, rfl, x, dx, 0, _, rfl, hx1, ?_⟩
  have e1 : mkd cWords (upd H l (SetO P w l zs)) x dx 0 ((((zs.map V.str).length : Nat) : Int) - 1) x = some (.ins cWords dx [("low", .int 0), ("high", .int ((((zs.map V.str).length : Nat) : Int) - 1))]) := upd_same
  have e2 : mkd cWords (upd H l (SetO P w l zs)) x dx 0 ((((zs.map V.str).length : Nat) : Int) - 1) p = some (.lst (zs.map V.str)) := by unfold mkd; rw [upd_ne hpx, upd_ne hpx]; exact hP1
  have e3 : ∀ b o, b ≠ x → H b = some o → mkd cWords (upd H l (SetO P w l zs)) x dx 0 ((((zs.map V.str).length : Nat) : Int) - 1) b = some o := fun b o hb h => by unfold mkd; rw [upd_ne hb, upd_ne hb]; exact low1 b o h
  have e4 : ∀ b, mkd cWords (upd H l (SetO P w l zs)) x dx 0 ((((zs.map V.str).length : Nat) : Int) - 1) b = none → H b = none := fun b h => by
    have hb : b ≠ x := fun z => by rw [z, e1] at h; cases h
    unfold mkd at h
    rw [upd_ne hb, upd_ne hb] at h
    exact fr1 b h
  have eh : (((zs.map V.str).length : Nat) : Int) - 1 = hiW zs := by rw [hlen]; rfl
  refine ⟨_, rfl, p, _, rfl, .inl (SqL.of e2), fun l2 hl2 => ⟨_, rfl, x, _, dx, _, rfl, ret_r1 e1 hl2, bl.k_Words, bl.na_Words_words, (by show 2 < 1000; decide), ?_⟩⟩
  show Q .non (upd (upd (mkd cWords (upd H l (SetO P w l zs)) x dx 0 ((((zs.map V.str).length : Nat) : Int) - 1)) l2 (.lst (zs.map V.str))) x (.ins cWords dx (putF (Str.ofString "words") (.ref l2) [(Str.ofString "low", .int 0), (Str.ofString "high", .int ((((zs.map V.str).length : Nat) : Int) - 1))])))
  rw [put3]
  have hl3 : mkd cWords (upd H l (SetO P w l zs)) x dx 0 ((((zs.map V.str).length : Nat) : Int) - 1) l2 = none := hl2
  clear hl2
  generalize mkd cWords (upd H l (SetO P w l zs)) x dx 0 ((((zs.map V.str).length : Nat) : Int) - 1) = H2 at e1 e2 e3 e4 hl3 ⊢
  rw [eh]
  have nl : l2 ≠ x := (ne_of_none e1 hl3).symm
  rw [eh] at e1
  exact q gd _ l2 (fun b o hb h => (upd_ne hb).trans (ret_r1 (e3 b o hb h) hl3)) (e4 l2 hl3) upd_same ((upd_ne nl).trans upd_same)
theorem ok_read_numbers (F : Fun K "read_numbers" "read_numbers" s_read_numbers f fd) (bl : Bl K mg cTableError cBadNumber cBadName cBadDomain cDomain cNumbers cWords) (k_Numbers : MkCallee (CX1 P w) P w K mg base 2 "Numbers" cNumbers ["self", "low", "high"] (sp_Numbers___init___Numbers K cTableError cBadNumber cBadName cBadDomain cDomain cNumbers cWords)) (c_number_of : CalleeX P w K mg base 3 "number_of" ["text"] (sp_number_of K cTableError cBadNumber cBadName cBadDomain cDomain cNumbers cWords)) (c_is_number : Callee P w K mg base 3 "is_number" ["text"] (sp_is_number K cTableError cBadNumber cBadName cBadDomain cDomain cNumbers cWords)) : FnOk P w K mg base (CX1 P w) 4 f fd ["text"] (sp_read_numbers K cTableError cBadNumber cBadName cBadDomain cDomain cNumbers cWords) := by
  refine F.okE sc_read_numbers (fun vs H Q E h => ?_) (fun cdv A outer s H vs Q E hr h => ?_)
  · obtain ⟨z, o, rfl, hz, hd, ho, q, qE⟩ := h
    rfl
  obtain ⟨z, o, rfl, hz, hd, ho, q, qE⟩ := h
  refine ⟨_, (pss_cons (ps_set (i := 1) sc_read_numbers.nd rfl (Or.inl rfl) (pe_bm PySem.F.plainAttrs_str PySem.F.slot_str_partition PySem.F.type_str_partition mt_partition (pv 0) (pa_cons pe_str pa_nil)))
     (pss_cons (ps_set (i := 2) sc_read_numbers.nd rfl (Or.inl rfl) (pe_ix ix_tup (pv 1) pe_int (fun _ _ => rfl)))
     (pss_cons (ps_set (i := 3) sc_read_numbers.nd rfl (Or.inl rfl) (pe_ix ix_tup (pv 1) pe_int (fun _ _ => rfl)))
     (pss_cons (ps_if (PW.pt (pw_or (pt_not (pt_val (pe_fn c_is_number hr rfl (pa_cons (pv 2) pa_nil)))) (pw_or1 (pt_not (pt_val (pe_fn c_is_number hr rfl (pa_cons (pv 3) pa_nil)))))))
     (pss_one (ps_raiseE bl.x_BadDomain hr.hd rfl bl.BadDomain_ (pa_cons (pe_fr (pv 0)) pa_nil)))
     pss_nil)
     (pss_one (ps_ret (pe_mkE k_Numbers passE hr rfl (pa_cons (pe_fnE c_number_of passE hr rfl (pa_cons (pv 2) pa_nil)) (pa_cons (pe_fnE c_number_of passE hr rfl (pa_cons (pv 3) pa_nil)) pa_nil))))))))), ?_⟩
  obtain ⟨s1, s2⟩ := part_sm hz hd
  have l0 := hz.len
  have l1 := s1.len
  have l2 := s2.len
  have yes : isn (Txt.partition z dots).1 = true → isn (Txt.partition z dots).2.2 = true → valz (Txt.partition z dots).1 ≤ valz (Txt.partition z dots).2.2 → ∀ (a : Addr) (H' : Hp), Same H H' → Num cNumbers H' a (valz (Txt.partition z dots).1) (valz (Txt.partition z dots).2.2) → Q (.ref a) H' := fun h1 h2 h3 a H' s0 hN => by
    cases o with
    | none => exact absurd ⟨h1, h2, h3⟩ ho
    | some p =>
      obtain ⟨_, _, ep, _⟩ := ho
      exact q p rfl a H' s0 (by rw [ep]; exact hN)
  have no : ¬ (isn (Txt.partition z dots).1 = true ∧ isn (Txt.partition z dots).2.2 = true ∧ valz (Txt.partition z dots).1 ≤ valz (Txt.partition z dots).2.2) → ∀ H' : Hp, Same H H' → E (.ref cBadDomain) none H' := fun hn => by
    cases o with
    | none => exact qE rfl
    | some p =>
      obtain ⟨a1, a2, ep, le⟩ := ho
      rw [ep] at le
      exact absurd ⟨a1, a2, le⟩ hn
  refine ⟨_, rfl, rfl, z, dots, rfl, rfl, (by decide), big (by omega), fun t ht => ?_⟩
  have et : upd H t (.tup [.str (Txt.partition z dots).1, .str (Txt.partition z dots).2.1, .str (Txt.partition z dots).2.2]) t = some (.tup [.str (Txt.partition z dots).1, .str (Txt.partition z dots).2.1, .str (Txt.partition z dots).2.2]) := upd_same
  have sT := same_new ht (.tup [.str (Txt.partition z dots).1, .str (Txt.partition z dots).2.1, .str (Txt.partition z dots).2.2])
  generalize upd H t (.tup [.str (Txt.partition z dots).1, .str (Txt.partition z dots).2.1, .str (Txt.partition z dots).2.2]) = H1 at et sT ⊢
  refine ⟨_, rfl, t, _, _, _, rfl, rfl, SqT.of et, rfl, ?_⟩
  refine ⟨_, rfl, t, _, _, _, rfl, rfl, SqT.of et, rfl, ?_⟩
  refine ⟨_, rfl, _, rfl, by omega, _, rfl, ?_⟩
  cases h1 : isn (Txt.partition z dots).1 with
  | false => exact iteT (iteT ⟨_, rfl, z, rfl, by omega, hz.low, (by decide +kernel), fun z2 => ⟨(by show 1 ≤ sizeLine; decide), no (fun g => by rw [h1] at g; cases g.1) _ sT⟩⟩)
  | true =>
    refine iteF ⟨_, rfl, _, rfl, by omega, _, rfl, ?_⟩
    cases h2 : isn (Txt.partition z dots).2.2 with
    | false => exact iteT ⟨_, rfl, z, rfl, by omega, hz.low, (by decide +kernel), fun z2 => ⟨(by show 1 ≤ sizeLine; decide), no (fun g => by rw [h2] at g; cases g.2.1) _ sT⟩⟩
    | true =>
      refine iteF ?_
      refine ⟨_, rfl, _, rfl, s1, fun _ => ⟨_, rfl, _, rfl, s2, fun _ => fun x dx hx hdx hxd => ⟨x, dx, _, _, rfl, upd_same, fun le => ⟨rfl, ?_⟩, fun gt => ?_⟩, fun c => by rw [h2] at c; cases c⟩, fun c => by rw [h1] at c; cases c⟩
      · exact yes h1 h2 le x _ (sT.trans (mkd_same (C := cNumbers) _ _ hx hdx hxd)) (mkd_num cNumbers _ x dx _ _)
      · exact no (fun g => by have := g.2.2; omega) _ (sT.trans ((same_new hdx _).upd hx))
theorem ok_read_domain (F : Fun K "read_domain" "read_domain" s_read_domain f fd) (bl : Bl K mg cTableError cBadNumber cBadName cBadDomain cDomain cNumbers cWords) (k_Words : MkCallee (CX1 P w) P w K mg base 3 "Words" cWords ["self", "words"] (sp_Words___init___Words K cTableError cBadNumber cBadName cBadDomain cDomain cNumbers cWords)) (c_read_numbers : CalleeX P w K mg base 4 "read_numbers" ["text"] (sp_read_numbers K cTableError cBadNumber cBadName cBadDomain cDomain cNumbers cWords)) : FnOk P w K mg base (CX1 P w) 5 f fd ["text"] (sp_read_domain K cTableError cBadNumber cBadName cBadDomain cDomain cNumbers cWords) := by
  refine F.okE sc_read_domain (fun vs H Q E h => ?_) (fun cdv A outer s H vs Q E hr h => ?_)
  · obtain ⟨z, o, rfl, hz, ho, q, qE⟩ := h
    rfl
  obtain ⟨z, o, rfl, hz, ho, q, qE⟩ := h
  refine ⟨_, (pss_cons (ps_if (pt_cmpR op_in_str pe_str (pv 0) (by with_unfolding_all rfl))
     (pss_one (ps_ret (pe_fnE c_read_numbers passE hr rfl (pa_cons (pv 0) pa_nil))))
     pss_nil)
     (pss_one (ps_ret (pe_mkE k_Words passE hr rfl (pa_cons (pe_bm PySem.F.plainAttrs_str PySem.F.slot_str_split PySem.F.type_str_split mt_split (pv 0) (pa_cons pe_str pa_nil)) pa_nil))))), ?_⟩
  have l0 := hz.len
  rcases ho with ⟨hd, h6, o', hn, rfl⟩ | ⟨hd, ho⟩
  · refine ⟨_, rfl, _, _, rfl, rfl, _, rfl, ite2 (fun _ => ?_) (fun g => absurd hd g)⟩
    exact ⟨_, rfl, z, o', rfl, h6, hd, hn, fun p e a H' s0 hN => q (.inl p) (by rw [e]; rfl) a H' s0 hN, fun e => qE (by rw [e]; rfl)⟩
  · refine ⟨_, rfl, _, _, rfl, rfl, _, rfl, ite2 (fun g => absurd (g.symm.trans hd) (by decide)) (fun _ => ?_)⟩
    refine ⟨_, rfl, rfl, z, mk2, rfl, rfl, (by decide), Nat.le_trans (show z.length + 2 ≤ 1100 by omega) (by decide), fun l hl x dx hx hdx hxd => ?_⟩
    have el : upd H l (.lst ((Txt.split z mk2).map V.str)) l = some (.lst ((Txt.split z mk2).map V.str)) := upd_same
    have sL := same_new hl (.lst ((Txt.split z mk2).map V.str))
    generalize upd H l (.lst ((Txt.split z mk2).map V.str)) = H1 at el sL hx hdx ⊢
    refine ⟨x, dx, l, Txt.split z mk2, rfl, upd_same, new_at hx hdx el, fun p hp => hz.part hp, fun g H2 l2 f1 f2 f3 f4 => ⟨rfl, ?_⟩, fun ng H2 s2 => ?_⟩
    · rcases ho with ⟨_, rfl⟩ | ⟨ng, _⟩
      · exact q _ rfl x H2 (sL.trans (new_same hx hdx f1)) ⟨dx, l2, f3, f4⟩
      · exact absurd g ng
    · rcases ho with ⟨g, _⟩ | ⟨_, rfl⟩
      · exact absurd g ng
      · exact qE rfl H2 (sL.trans (new_free hx hdx s2))
theorem ok_law_read (F : Fun K "_law_read" "_law_read" s_law_read f fd) (bl : Bl K mg cTableError cBadNumber cBadName cBadDomain cDomain cNumbers cWords) (c_read_domain : CalleeX P w K mg base 5 "read_domain" ["text"] (sp_read_domain K cTableError cBadNumber cBadName cBadDomain cDomain cNumbers cWords)) : FnOk P w K mg base CX0 6 f fd ["text"] (sp_law_read K cTableError cBadNumber cBadName cBadDomain cDomain cNumbers cWords) := by
  refine F.ok sc_law_read (fun vs H Q E h => ?_) (fun cdv A outer s H vs Q E hr h => ?_)
  · obtain ⟨z, o, rfl, hz, ho, q, qE⟩ := h
    rfl
  obtain ⟨z, o, rfl, hz, ho, q, qE⟩ := h
  refine ⟨_, (pss_cons (ps_set (i := 1) sc_law_read.nd rfl (Or.inl rfl) pe_non)
     (pss_cons (ps_set (i := 2) sc_law_read.nd rfl (Or.inl rfl) pe_bl)
     (pss_cut (ps_try (G := fun C => ExcLook K C) (i := 3) (psx_set (i := 1) sc_law_read.nd rfl (Or.inl rfl) (pex_fn c_read_domain hr rfl rfl (pa_cons (pv 0) pa_nil))) rfl rfl rfl rfl bl.TableError_ sc_law_read.nd rfl rfl (fun C e oe hG hc => (pss_one (ps_set (i := 2) sc_law_read.nd rfl (Or.inl rfl) (pe_and (pe_callB (call_isiX hc hG) rfl bl.isinstance_ PyProof.Rows.boot_isinstance (pa_cons (pv 3) (pa_cons (pe_glob (v := .ref cBadDomain) rfl bl.BadDomain_ rfl) pa_nil))) (pe_and (pe_callB (call_isiX hc hG) rfl bl.isinstance_ PyProof.Rows.boot_isinstance (pa_cons (pv 3) (pa_cons (pe_bltn (v := .ty "ValueError") rfl bl.ValueError_ PyProof.Rows.Boot.ValueError rfl) pa_nil))) (pe_one (pe_not (pe_callB (call_isiX hc hG) rfl bl.isinstance_ PyProof.Rows.boot_isinstance (pa_cons (pv 3) (pa_cons (pe_tup (pa_cons (pe_glob (v := .ref cBadNumber) rfl bl.BadNumber_ rfl) (pa_cons (pe_glob (v := .ref cBadName) rfl bl.BadName_ rfl) pa_nil))) pa_nil)))))))))))
     (pss_one (ps_ret (pe_tup (pa_cons (pv 2) (pa_cons (pv 1) pa_nil)))))))), ?_⟩
  refine ⟨fun σ' H' => Same H H' ∧ ((∃ (d : Dm) (a : Addr), o = some d ∧ DmOf cNumbers cWords H' a d ∧ σ' = [some (.str z), some (.ref a), some (.bl false), none]) ∨ (o = none ∧ σ' = [some (.str z), some .non, some (.bl true), none])), ?_, ?_⟩
  · refine ⟨_, rfl, z, o, rfl, hz, ho, fun d ed a H' s0 hd => ⟨s0, .inl ⟨d, a, ed, hd, rfl⟩⟩, fun eo H1 s0 => ⟨_, rfl, bl.f_d0, bl.l_BadDomain, fun e => ?_⟩⟩
    refine ⟨_, rfl, _, true, rfl, .inl ⟨_, rfl, bl.f_d1⟩, _, rfl, iteT ?_⟩
    refine ⟨_, rfl, _, true, rfl, .inr (.inl ⟨_, rfl, bl.f_d2⟩), _, rfl, iteT ?_⟩
    refine ⟨_, rfl, (by show 2 ≤ sizeLine; decide), fun tp htp => ?_⟩
    exact ⟨_, false, rfl, .inr (.inr ⟨tp, [cBadNumber, cBadName], rfl, upd_same, bl.f_d3⟩), _, rfl, s0.trans (same_new htp _), .inr ⟨eo, rfl⟩⟩
  rintro σ2 H2 ⟨sm, ⟨d, a, ed, hd, rfl⟩ | ⟨eo, rfl⟩⟩
  · exact ⟨_, rfl, _, rfl, (by show 2 ≤ sizeLine; decide), fun t ht => q d ed t a _ (sm.trans (same_new ht _)) upd_same (hd.same (same_new ht _))⟩
  · exact ⟨_, rfl, _, rfl, (by show 2 ≤ sizeLine; decide), fun t ht => qE eo t _ (sm.trans (same_new ht _)) upd_same⟩
theorem ok_law_numbers_right (F : Fun K "_law_numbers_right" "_law_numbers_right" s_law_numbers_right f fd) (bl : Bl K mg cTableError cBadNumber cBadName cBadDomain cDomain cNumbers cWords) (c__law_ends : Callee P w K mg base 6 "_law_ends" ["cell"] (sp_law_ends K cTableError cBadNumber cBadName cBadDomain cDomain cNumbers cWords)) (c__law_number : Callee P w K mg base 6 "_law_number" ["text"] (sp_law_number K cTableError cBadNumber cBadName cBadDomain cDomain cNumbers cWords)) (c__law_read : Callee P w K mg base 6 "_law_read" ["text"] (sp_law_read K cTableError cBadNumber cBadName cBadDomain cDomain cNumbers cWords)) (c__law_alike : Callee P w K mg base 6 "_law_alike" ["one", "other", "due"] (sp_law_alike K cTableError cBadNumber cBadName cBadDomain cDomain cNumbers cWords)) (c__law_whole : Callee P w K mg base 6 "_law_whole" ["found"] (sp_law_whole K cTableError cBadNumber cBadName cBadDomain cDomain cNumbers cWords)) (m_Numbers_written_Numbers : MCallee CX0 P w K mg base 6 cNumbers "written" ["self"] (sp_Numbers_written_Numbers K cTableError cBadNumber cBadName cBadDomain cDomain cNumbers cWords)) (k_Numbers : MkCallee (CX1 P w) P w K mg base 5 "Numbers" cNumbers ["self", "low", "high"] (sp_Numbers___init___Numbers K cTableError cBadNumber cBadName cBadDomain cDomain cNumbers cWords)) (k_Words : MkCallee (CX1 P w) P w K mg base 5 "Words" cWords ["self", "words"] (sp_Words___init___Words K cTableError cBadNumber cBadName cBadDomain cDomain cNumbers cWords)) : FnOk P w K mg base CX0 7 f fd ["cell"] (sp_law_numbers_right K cTableError cBadNumber cBadName cBadDomain cDomain cNumbers cWords) := by
  refine F.ok sc_law_numbers_right (fun vs H Q E h => ?_) (fun cdv A outer s H vs Q E hr h => ?_)
  · obtain ⟨c, rfl, hb, q⟩ := h
    rfl
  obtain ⟨c, rfl, hb, q⟩ := h
  refine ⟨_, (pss_cons (ps_set (i := 1) sc_law_numbers_right.nd rfl (Or.inl rfl) (pe_fn c__law_ends hr rfl (pa_cons (pv 0) pa_nil)))
     (pss_cons (ps_set (i := 2) sc_law_numbers_right.nd rfl (Or.inl rfl) (pe_fn c__law_number hr rfl (pa_cons (pe_ix ix_list (pv 1) pe_int (fun _ _ => rfl)) pa_nil)))
     (pss_cons (ps_set (i := 3) sc_law_numbers_right.nd rfl (Or.inl rfl) (pe_fn c__law_number hr rfl (pa_cons (pe_ix ix_list (pv 1) pe_int (fun _ _ => rfl)) pa_nil)))
     (pss_cons (ps_set (i := 4) sc_law_numbers_right.nd rfl (Or.inl rfl) (pe_op op_add_str (pe_op op_add_str (pe_ix ix_list (pv 1) pe_int (fun _ _ => rfl)) pe_str) (pe_ix ix_list (pv 1) pe_int (fun _ _ => rfl))))
     (pss_cons (ps_set (i := 5) sc_law_numbers_right.nd rfl (Or.inl rfl) (pe_fn c__law_read hr rfl (pa_cons (pv 4) pa_nil)))
     (pss_cons (ps_if (PW.pt (pw_or (pt_cmpR op_isN (pv 2) pe_non (nomark _)) (pw_or (pt_cmpR op_isN (pv 3) pe_non (nomark _)) (pw_or1 (pt_cmpR op_gt (pv 2) (pv 3) (nomark _))))))
     (pss_one (ps_ret (pe_ix ix_tup (pv 5) pe_int (fun _ _ => rfl))))
     pss_nil)
     (pss_cons (ps_set (i := 6) sc_law_numbers_right.nd rfl (Or.inl rfl) (pe_ix ix_tup (pv 5) pe_int (fun _ _ => rfl)))
     (pss_cons (ps_if (PW.pt (pw_or (pt_val (pe_ix ix_tup (pv 5) pe_int (fun _ _ => rfl))) (pw_or (pt_not (pt_val (pe_callB call_isiG rfl bl.isinstance_ PyProof.Rows.boot_isinstance (pa_cons (pv 6) (pa_cons (pe_glob (v := .ref cNumbers) rfl bl.Numbers_ rfl) pa_nil))))) (pw_or (pt_not (pt_val (pe_fn c__law_whole hr rfl (pa_cons (pe_fld (pv 6) rfl) pa_nil)))) (pw_or1 (pt_not (pt_val (pe_fn c__law_whole hr rfl (pa_cons (pe_fld (pv 6) rfl) pa_nil)))))))))
     (pss_one (ps_ret pe_bl))
     pss_nil)
     (pss_cons (ps_if (PW.pt (pw_or (pt_cmpR op_ne (pe_fld (pv 6) rfl) (pv 2) (nomark _)) (pw_or (pt_cmpR op_ne (pe_fld (pv 6) rfl) (pv 3) (nomark _)) (pw_or (pt_cmpR op_ne (pe_mt0 m_Numbers_written_Numbers pass0 bl.k_Numbers hr (pv 6)) (pv 4) (nomark _)) (pw_or1 (pt_not (pt_val (pe_callB call_isiG rfl bl.isinstance_ PyProof.Rows.boot_isinstance (pa_cons (pv 6) (pa_cons (pe_glob (v := .ref cDomain) rfl bl.Domain_ rfl) pa_nil))))))))))
     (pss_one (ps_ret pe_bl))
     pss_nil)
     (pss_cons (ps_if (PW.pt (pw_or (pt_not (pt_val (pe_fn c__law_alike hr rfl (pa_cons (pv 6) (pa_cons (pe_mk k_Numbers pass1 hr rfl (pa_cons (pv 2) (pa_cons (pv 3) pa_nil))) (pa_cons pe_bl pa_nil)))))) (pw_or1 (pt_not (pt_val (pe_fn c__law_alike hr rfl (pa_cons (pv 6) (pa_cons (pe_mk k_Words pass1 hr rfl (pa_cons (pe_lst (pa_cons pe_str (pa_cons pe_str pa_nil))) pa_nil)) (pa_cons pe_bl pa_nil)))))))))
     (pss_one (ps_ret pe_bl))
     pss_nil)
     (pss_cons (ps_if (pt_cmpR op_eq (pv 2) (pv 3) (nomark _))
     (pss_one (ps_ret pe_bl))
     pss_nil)
     (pss_one (ps_ret (pe_and (pe_fn c__law_alike hr rfl (pa_cons (pv 6) (pa_cons (pe_mk k_Numbers pass1 hr rfl (pa_cons (pe_op op_add (pv 2) pe_int) (pa_cons (pv 3) pa_nil))) (pa_cons pe_bl pa_nil)))) (pe_one (pe_fn c__law_alike hr rfl (pa_cons (pv 6) (pa_cons (pe_mk k_Numbers pass1 hr rfl (pa_cons (pv 2) (pa_cons (pe_op op_sub (pv 3) pe_int) pa_nil))) (pa_cons pe_bl pa_nil))))))))))))))))))), ?_⟩
  refine ⟨_, rfl, c, rfl, hb, fun l e0 e1 H1 s1 el z0 z1 => ?_⟩
  have l0 := z0.len
  have l1 := z1.len
  have hS := SqL.of (K := K) el
  have ld : dots.length = 2 := rfl
  have zt : Sm 600 (e0 ++ dots ++ e1) := ((z0.app (Sm.of ".." (n := 2) (by decide))).app z1).le (by decide)
  refine ⟨_, rfl, l, _, _, _, rfl, rfl, hS, rfl, e0, rfl, by omega, ?_⟩
  refine ⟨_, rfl, l, _, _, _, rfl, rfl, hS, rfl, e1, rfl, by omega, ?_⟩
  refine ⟨_, rfl, l, _, _, _, rfl, rfl, hS, rfl, e0, dots, rfl, rfl, big (by omega), _, rfl, l, _, _, _, rfl, rfl, hS, rfl, e0 ++ dots, e1, rfl, rfl, big (by rw [len_app]; omega), ?_⟩
  by_cases g : isn e0 = true ∧ isn e1 = true ∧ valz e0 ≤ valz e1
  · obtain ⟨h0, h1, hle⟩ := g
    have b0 := isn_bnd h0
    have b1 := isn_bnd h1
    have w0 := isn_text h0
    have w1 := isn_text h1
    refine ⟨_, rfl, e0 ++ dots ++ e1, some (.inl (valz e0, valz e1)), rfl, zt.le (by decide), rd_yes h0 h1 hle zt, fun d ed t a H2 s2 et hd => ?_, fun eo => by cases eo⟩
    cases ed
    rw [due_int h0, due_int h1]
    generalize valz e0 = lo at *
    generalize valz e1 = hg at *
    obtain ⟨dx, ha⟩ := id hd
    have hN : Num cNumbers H2 a lo hg := hd
    refine ⟨_, rfl, rfl, _, rfl, ite2 (fun g => absurd (of_decide_eq_true g) (by intro z; cases z)) (fun _ => ?_)⟩
    refine ⟨_, rfl, rfl, _, rfl, ite2 (fun g => absurd (of_decide_eq_true g) (by intro z; cases z)) (fun _ => ?_)⟩
    refine ⟨_, rfl, _, rfl, _, _, rfl, rfl, _, rfl, ite2 (fun g => absurd (dec_t g) (by omega)) (fun _ => ?_)⟩
    refine ⟨_, rfl, t, _, _, _, rfl, rfl, SqT.of et, rfl, ?_⟩
    refine ⟨_, rfl, t, _, _, _, rfl, rfl, SqT.of et, rfl, _, rfl, iteF ?_⟩
    refine ⟨_, rfl, _, _, _, _, true, rfl, .ref _, bl.t_Numbers.ty ha, bl.f_nn, _, rfl, iteF ?_⟩
    refine ⟨_, rfl, a, _, _, _, _, rfl, ha, bl.k_Numbers, bl.na_Numbers_low, rfl, .int lo, rfl, trivial, _, rfl, iteF ?_⟩
    refine ⟨_, rfl, a, _, _, _, _, rfl, ha, bl.k_Numbers, bl.na_Numbers_high, rfl, .int hg, rfl, trivial, _, rfl, iteF ?_⟩
    refine ⟨_, rfl, a, _, _, _, _, rfl, ha, bl.k_Numbers, bl.na_Numbers_low, rfl, _, rfl, rfl, _, rfl, iteNS rfl ?_⟩
    refine ⟨_, rfl, a, _, _, _, _, rfl, ha, bl.k_Numbers, bl.na_Numbers_high, rfl, _, rfl, rfl, _, rfl, iteNS rfl ?_⟩
    have wt : V.str (Str.ofString (toString lo) ++ Str.ofString ".." ++ Str.ofString (toString hg)) = V.str (e0 ++ dots ++ e1) := by rw [w0, w1]; rfl
    refine ⟨_, rfl, a, _, _, rfl, ha, rfl, a, lo, hg, rfl, hN, b0, b1, _, rfl, rfl, _, rfl, iteNS wt ?_⟩
    refine ⟨_, rfl, _, _, _, _, true, rfl, .ref _, bl.t_Numbers.ty ha, bl.f_nd, _, rfl, iteF ?_⟩
    refine ⟨_, rfl, _, rfl, _, rfl, fun x dx hx hdx hxd => ⟨x, dx, lo, hg, rfl, upd_same, fun _ => ⟨rfl, ?_⟩, fun h => absurd h (by omega)⟩⟩
    have s3 := mkd_same (C := cNumbers) lo hg hx hdx hxd
    have n3 := mkd_num cNumbers (upd (upd H2 dx (.own x)) x (.ins cNumbers dx [])) x dx lo hg
    generalize mkd cNumbers (upd (upd H2 dx (.own x)) x (.ins cNumbers dx [])) x dx lo hg = H3 at s3 n3 ⊢
    have hN3 := hN.same s3
    refine ⟨a, x, .inl (lo, hg), .inl (lo, hg), true, rfl, hN3, n3, dm_eq _, _, rfl, iteF ?_⟩
    refine ⟨_, rfl, (by show 2 ≤ sizeLine; decide), fun p hp x2 dx2 hx2 hdx2 hxd2 => ?_⟩
    have ep : upd H3 p (.lst (ab2.map V.str)) p = some (.lst (ab2.map V.str)) := upd_same
    have s4 := same_new hp (.lst (ab2.map V.str))
    refine ⟨x2, dx2, p, ab2, rfl, upd_same, new_at hx2 hdx2 ep, sm_ab, fun _ H4 l4 f1 f2 f3 f4 => ⟨rfl, ?_⟩, fun ng => absurd good_ab ng⟩
    have s5 := s4.trans (new_same hx2 hdx2 f1)
    have hN4 := hN3.same s5
    have hW4 : Wrd cWords H4 x2 ab2 := ⟨dx2, l4, f3, f4⟩
    refine ⟨a, x2, .inl (lo, hg), .inr ab2, false, rfl, hN4, hW4, dm_ne _ _, _, rfl, iteF ?_⟩
    have sA := ((s1.trans s2).trans s3).trans s5
    refine ⟨_, rfl, _, rfl, rfl, _, rfl, ite2 (fun _ => q _ sA) (fun g => ?_)⟩
    have gne : lo ≠ hg := fun e => g (decide_eq_true (congrArg V.int e))
    refine ⟨_, rfl, _, rfl, _, _, rfl, rfl, _, rfl, fun x3 dx3 hx3 hdx3 hxd3 => ⟨x3, dx3, lo + 1, hg, rfl, upd_same, fun _ => ⟨rfl, ?_⟩, fun h => absurd h (by omega)⟩⟩
    have s6 := mkd_same (C := cNumbers) (lo + 1) hg hx3 hdx3 hxd3
    have n6 := mkd_num cNumbers (upd (upd H4 dx3 (.own x3)) x3 (.ins cNumbers dx3 [])) x3 dx3 (lo + 1) hg
    generalize mkd cNumbers (upd (upd H4 dx3 (.own x3)) x3 (.ins cNumbers dx3 [])) x3 dx3 (lo + 1) hg = H6 at s6 n6 ⊢
    have hN6 := hN4.same s6
    refine ⟨a, x3, .inl (lo, hg), .inl (lo + 1, hg), false, rfl, hN6, n6, ⟨(fun h => by cases h), fun h => by injection h with h; injection h with h; omega⟩, _, rfl, iteT ?_⟩
    refine ⟨_, rfl, _, rfl, _, rfl, _, _, rfl, rfl, fun x4 dx4 hx4 hdx4 hxd4 => ⟨x4, dx4, lo, hg - 1, rfl, upd_same, fun _ => ⟨rfl, ?_⟩, fun h => absurd h (by omega)⟩⟩
    have s7 := mkd_same (C := cNumbers) lo (hg - 1) hx4 hdx4 hxd4
    have n7 := mkd_num cNumbers (upd (upd H6 dx4 (.own x4)) x4 (.ins cNumbers dx4 [])) x4 dx4 lo (hg - 1)
    generalize mkd cNumbers (upd (upd H6 dx4 (.own x4)) x4 (.ins cNumbers dx4 [])) x4 dx4 lo (hg - 1) = H7 at s7 n7 ⊢
    exact ⟨a, x4, .inl (lo, hg), .inl (lo, hg - 1), false, rfl, hN6.same s7, n7, ⟨(fun h => by cases h), fun h => by injection h with h; injection h with _ h; omega⟩, q _ ((sA.trans s6).trans s7)⟩
  · refine ⟨_, rfl, e0 ++ dots ++ e1, none, rfl, zt.le (by decide), rd_no g zt, (fun d ed => by cases ed), fun _ t H2 s2 et => ?_⟩
    have fin := q H2 (s1.trans s2)
    cases h0 : isn e0 with
    | false =>
      rw [due_non h0]
      exact ⟨_, rfl, rfl, _, rfl, iteTS rfl (iteT ⟨_, rfl, t, _, _, _, rfl, rfl, SqT.of et, rfl, fin⟩)⟩
    | true =>
      rw [due_int h0]
      refine ⟨_, rfl, rfl, _, rfl, ite2 (fun g => absurd (of_decide_eq_true g) (by intro z; cases z)) (fun _ => ?_)⟩
      cases h1 : isn e1 with
      | false =>
        rw [due_non h1]
        exact ⟨_, rfl, rfl, _, rfl, iteTS rfl (iteT ⟨_, rfl, t, _, _, _, rfl, rfl, SqT.of et, rfl, fin⟩)⟩
      | true =>
        rw [due_int h1]
        refine ⟨_, rfl, rfl, _, rfl, ite2 (fun g => absurd (of_decide_eq_true g) (by intro z; cases z)) (fun _ => ?_)⟩
        refine ⟨_, rfl, _, rfl, _, _, rfl, rfl, _, rfl, ite2 (fun _ => ⟨_, rfl, t, _, _, _, rfl, rfl, SqT.of et, rfl, fin⟩) (fun g2 => absurd ⟨h0, h1, ?_⟩ g)⟩
        have := dec_f g2
        omega
theorem ok_law_words_right (F : Fun K "_law_words_right" "_law_words_right" s_law_words_right f fd) (bl : Bl K mg cTableError cBadNumber cBadName cBadDomain cDomain cNumbers cWords) (c__law_read : Callee P w K mg base 6 "_law_read" ["text"] (sp_law_read K cTableError cBadNumber cBadName cBadDomain cDomain cNumbers cWords)) (c__law_alike : Callee P w K mg base 6 "_law_alike" ["one", "other", "due"] (sp_law_alike K cTableError cBadNumber cBadName cBadDomain cDomain cNumbers cWords)) (m_Words_written_Words : MCallee CX0 P w K mg base 6 cWords "written" ["self"] (sp_Words_written_Words K cTableError cBadNumber cBadName cBadDomain cDomain cNumbers cWords)) (k_Words : MkCallee (CX1 P w) P w K mg base 5 "Words" cWords ["self", "words"] (sp_Words___init___Words K cTableError cBadNumber cBadName cBadDomain cDomain cNumbers cWords)) (k_Numbers : MkCallee (CX1 P w) P w K mg base 5 "Numbers" cNumbers ["self", "low", "high"] (sp_Numbers___init___Numbers K cTableError cBadNumber cBadName cBadDomain cDomain cNumbers cWords)) : FnOk P w K mg base CX0 7 f fd ["words", "text", "good"] (sp_law_words_right K cTableError cBadNumber cBadName cBadDomain cDomain cNumbers cWords) := by
  refine F.ok sc_law_words_right (fun vs H Q E h => ?_) (fun cdv A outer s H vs Q E hr h => ?_)
  · obtain ⟨wl, ws, z, b, rfl, ew, hl, hsm, hz, hd, hyes, hno, q⟩ := h
    rfl
  obtain ⟨wl, ws, z, b, rfl, ew, hl, hsm, hz, hd, hyes, hno, q⟩ := h
  refine ⟨_, (pss_cons (ps_set (i := 3) sc_law_words_right.nd rfl (Or.inl rfl) (pe_fn c__law_read hr rfl (pa_cons (pv 1) pa_nil)))
     (pss_cons (ps_if (pt_not (pt_val (pv 2)))
     (pss_one (ps_ret (pe_ix ix_tup (pv 3) pe_int (fun _ _ => rfl))))
     pss_nil)
     (pss_cons (ps_set (i := 4) sc_law_words_right.nd rfl (Or.inl rfl) (pe_ix ix_tup (pv 3) pe_int (fun _ _ => rfl)))
     (pss_cons (ps_if (PW.pt (pw_or (pt_val (pe_ix ix_tup (pv 3) pe_int (fun _ _ => rfl))) (pw_or (pt_not (pt_val (pe_callB call_isiG rfl bl.isinstance_ PyProof.Rows.boot_isinstance (pa_cons (pv 4) (pa_cons (pe_glob (v := .ref cWords) rfl bl.Words_ rfl) pa_nil))))) (pw_or1 (pt_not (pt_val (pe_callB call_isiG rfl bl.isinstance_ PyProof.Rows.boot_isinstance (pa_cons (pv 4) (pa_cons (pe_glob (v := .ref cDomain) rfl bl.Domain_ rfl) pa_nil)))))))))
     (pss_one (ps_ret pe_bl))
     pss_nil)
     (pss_cons (ps_if (PW.pt (pw_or (pt_cmpR (op_neL hr) (pe_fld (pv 4) rfl) (pv 0) (nomark _)) (pw_or1 (pt_cmpR op_ne (pe_mt0 m_Words_written_Words pass0 bl.k_Words hr (pv 4)) (pv 1) (nomark _)))))
     (pss_one (ps_ret pe_bl))
     pss_nil)
     (pss_cons (ps_if (pt_not (pt_val (pe_fn c__law_alike hr rfl (pa_cons (pv 4) (pa_cons (pe_mk k_Words pass1 hr rfl (pa_cons (pe_callTy call_list_of rfl bl.list_ PyProof.Rows.boot_list (pa_cons (pv 0) pa_nil)) pa_nil)) (pa_cons pe_bl pa_nil))))))
     (pss_one (ps_ret pe_bl))
     pss_nil)
     (pss_cons (ps_if (pt_not (pt_val (pe_fn c__law_alike hr rfl (pa_cons (pv 4) (pa_cons (pe_mk k_Numbers pass1 hr rfl (pa_cons pe_int (pa_cons (pe_op op_sub (pe_callB call_len_seq rfl bl.len_ PySem.boot_len (pa_cons (pv 0) pa_nil)) pe_int) pa_nil))) (pa_cons pe_bl pa_nil))))))
     (pss_one (ps_ret pe_bl))
     pss_nil)
     (pss_cons (ps_set (i := 5) sc_law_words_right.nd rfl (Or.inl rfl) (pe_op op_cat (pe_slice sl_list (pv 0) (po_some pe_int) po_none) (pe_slice sl_list (pv 0) po_none (po_some pe_int))))
     (pss_cons (ps_if (pt_not (pt_val (pe_fn c__law_alike hr rfl (pa_cons (pv 4) (pa_cons (pe_mk k_Words pass1 hr rfl (pa_cons (pv 5) pa_nil)) (pa_cons (pe_cmpR (op_eqL hr) (pv 5) (pv 0) (nomark _)) pa_nil))))))
     (pss_one (ps_ret pe_bl))
     pss_nil)
     (pss_one (ps_ret (pe_or (pe_cmpR op_lt (pe_callB call_len_seq rfl bl.len_ PySem.boot_len (pa_cons (pv 0) pa_nil)) pe_int (nomark _)) (pe_one (pe_fn c__law_alike hr rfl (pa_cons (pv 4) (pa_cons (pe_mk k_Words pass1 hr rfl (pa_cons (pe_slice sl_list (pv 0) po_none (po_some (pe_un un_neg pe_int))) pa_nil)) (pa_cons pe_bl pa_nil))))))))))))))))), ?_⟩
  cases b with
  | false =>
    refine ⟨_, rfl, z, none, rfl, hz, .inr ⟨hd, .inr ⟨hno rfl, rfl⟩⟩, (fun d ed => by cases ed), fun _ t H1 s1 et => ?_⟩
    exact ⟨_, rfl, _, rfl, iteT ⟨_, rfl, t, _, _, _, rfl, rfl, SqT.of et, rfl, q _ s1⟩⟩
  | true =>
    obtain ⟨gd, ez, es⟩ := hyes rfl
    have g1 := gd.some_
    have g2 := gd.few
    refine ⟨_, rfl, z, some (.inr ws), rfl, hz, .inr ⟨hd, .inl ⟨by rw [es]; exact gd, by rw [es]⟩⟩, fun d ed t a H1 s1 et hdm => ?_, fun eo => by cases eo⟩
    cases ed
    have hW : Wrd cWords H1 a ws := hdm
    obtain ⟨dx, lw, ha, hw⟩ := id hW
    have ew1 := s1 _ _ ew
    refine ⟨_, rfl, _, rfl, iteF ?_⟩
    refine ⟨_, rfl, t, _, _, _, rfl, rfl, SqT.of et, rfl, ?_⟩
    refine ⟨_, rfl, t, _, _, _, rfl, rfl, SqT.of et, rfl, _, rfl, iteF ?_⟩
    refine ⟨_, rfl, _, _, _, _, true, rfl, .ref _, bl.t_Words.ty ha, bl.f_ww, _, rfl, iteF ?_⟩
    refine ⟨_, rfl, _, _, _, _, true, rfl, .ref _, bl.t_Words.ty ha, bl.f_wd, _, rfl, iteF ?_⟩
    refine ⟨_, rfl, a, _, _, _, _, rfl, ha, bl.k_Words, bl.na_Words_words, rfl, _, rfl, rNeL_same (SqL.of hw) (SqL.of ew1) (fun x hx => .inl (List.all_eq_true.mp (flat_strs ws) x hx)) ⟨_, rfl, iteF ?_⟩⟩
    have wt : V.str (PySem.Txt.join (Str.ofString ", ") ws) = V.str z := by rw [ez]; rfl
    refine ⟨_, rfl, a, _, _, rfl, ha, rfl, a, ws, rfl, hW, sum_short gd.words g2, _, rfl, rfl, _, rfl, iteNS wt ?_⟩
    refine ⟨_, rfl, _, rfl, wl, _, rfl, .inl (SqL.of ew1), fun hc hhc x dx hx hdx hxd => ?_⟩
    have ec : upd H1 hc (.lst (ws.map V.str)) hc = some (.lst (ws.map V.str)) := upd_same
    have s2 := same_new hhc (.lst (ws.map V.str))
    refine ⟨x, dx, hc, ws, rfl, upd_same, new_at hx hdx ec, hsm, fun _ H3 l3 f1 f2 f3 f4 => ⟨rfl, ?_⟩, fun ng => absurd gd ng⟩
    have s3 := s2.trans (new_same hx hdx f1)
    have hW3 := hW.same s3
    have V3 : Wrd cWords H3 x ws := ⟨dx, l3, f3, f4⟩
    refine ⟨a, x, .inr ws, .inr ws, true, rfl, hW3, V3, dm_eq _, _, rfl, iteF ?_⟩
    have ew3 := s3 _ _ ew1
    have hlen : (ws.map V.str).length = ws.length := List.length_map _
    refine ⟨_, rfl, _, rfl, wl, _, rfl, .inl (SqL.of ew3), _, _, rfl, rfl, fun x4 dx4 hx4 hdx4 hxd4 => ⟨x4, dx4, 0, _, rfl, upd_same, fun _ => ⟨rfl, ?_⟩, fun h => absurd h (by rw [hlen]; omega)⟩⟩
    have s4 := mkd_same (C := cNumbers) 0 ((((ws.map V.str).length : Nat) : Int) - 1) hx4 hdx4 hxd4
    have n4 := mkd_num cNumbers (upd (upd H3 dx4 (.own x4)) x4 (.ins cNumbers dx4 [])) x4 dx4 0 ((((ws.map V.str).length : Nat) : Int) - 1)
    generalize mkd cNumbers (upd (upd H3 dx4 (.own x4)) x4 (.ins cNumbers dx4 [])) x4 dx4 0 ((((ws.map V.str).length : Nat) : Int) - 1) = H4 at s4 n4 ⊢
    have hW4 := hW3.same s4
    have ew4 := s4 _ _ ew3
    refine ⟨a, x4, .inr ws, .inl (0, _), false, rfl, hW4, n4, dm_ne' _ _, _, rfl, iteF ?_⟩
    refine ⟨_, rfl, _, rfl, wl, _, rfl, SqL.of ew4, fun c1 hc1 => ?_⟩
    rw [cut_one]
    have s5 := same_new hc1 (.lst ((ws.drop 1).map V.str))
    have e5 : upd H4 c1 (.lst ((ws.drop 1).map V.str)) c1 = some (.lst ((ws.drop 1).map V.str)) := upd_same
    generalize upd H4 c1 (.lst ((ws.drop 1).map V.str)) = H5 at s5 e5 ⊢
    refine ⟨_, rfl, _, rfl, wl, _, rfl, SqL.of (s5 _ _ ew4), fun c2 hc2 => ?_⟩
    rw [cut_first]
    have s6 := same_new hc2 (.lst ((ws.take 1).map V.str))
    have e6 : upd H5 c2 (.lst ((ws.take 1).map V.str)) c2 = some (.lst ((ws.take 1).map V.str)) := upd_same
    generalize upd H5 c2 (.lst ((ws.take 1).map V.str)) = H6 at s6 e6 ⊢
    refine ⟨c1, c2, _, _, rfl, rfl, s6 _ _ e5, e6, Nat.le_of_lt (small1000 (by rw [List.length_map, List.length_map, List.length_drop, List.length_take]; omega)), fun p hp => ?_⟩
    rw [← List.map_append]
    have s7 := same_new hp (.lst ((ws.drop 1 ++ ws.take 1).map V.str))
    have e7 : upd H6 p (.lst ((ws.drop 1 ++ ws.take 1).map V.str)) p = some (.lst ((ws.drop 1 ++ ws.take 1).map V.str)) := upd_same
    generalize upd H6 p (.lst ((ws.drop 1 ++ ws.take 1).map V.str)) = H7 at s7 e7 ⊢
    have gt := gd.turn
    have sm2 : ∀ y ∈ ws.drop 1 ++ ws.take 1, Sm 1000 y := fun y hy => by
      rcases List.mem_append.mp hy with hy | hy
      · exact hsm y (List.mem_of_mem_drop hy)
      · exact hsm y (List.mem_of_mem_take hy)
    have sB := (s5.trans s6).trans s7
    have hW7 := hW4.same sB
    have ew7 := sB _ _ ew4
    generalize ws.drop 1 ++ ws.take 1 = os at e7 gt sm2 ⊢
    refine ⟨_, rfl, _, rfl, fun x8 dx8 hx8 hdx8 hxd8 => ?_⟩
    refine ⟨x8, dx8, p, os, rfl, upd_same, new_at hx8 hdx8 e7, sm2, fun _ H8 l8 k1 k2 k3 k4 => ⟨rfl, ?_⟩, fun ng => absurd gt ng⟩
    have s8 := new_same hx8 hdx8 k1
    have hW8 := hW7.same s8
    have V8 : Wrd cWords H8 x8 os := ⟨dx8, l8, k3, k4⟩
    have ew8 := s8 _ _ ew7
    refine ⟨_, rfl, _, rfl, rEqL_strs (r := decide (os = ws)) (SqL.of (s8 _ _ e7)) (SqL.of ew8) (by rw [decide_eq_true_iff]) ?_⟩
    refine ⟨a, x8, .inr ws, .inr os, decide (os = ws), rfl, hW8, V8, ?_, _, rfl, iteF ?_⟩
    · rw [decide_eq_true_iff]
      exact ⟨fun h => by rw [h], fun h => (Sum.inr.inj h).symm⟩
    have sC := (((s1.trans s3).trans s4).trans sB).trans s8
    refine ⟨_, rfl, wl, _, rfl, .inl (SqL.of ew8), _, _, rfl, rfl, _, rfl, ite2 (fun g => ?_) (fun g => ?_)⟩
    · exact q _ sC
    have g3 := dec_f g
    rw [hlen] at g3
    have g4 : 2 ≤ ws.length := by omega
    refine ⟨_, rfl, _, rfl, _, rfl, _, rfl, wl, _, rfl, SqL.of ew8, fun c9 hc9 => ?_⟩
    rw [show cutV (ws.map V.str) none (some (-1)) = _ from cut_less ws g4]
    have s9 := same_new hc9 (.lst ((ws.take (ws.length - 1)).map V.str))
    have e9 : upd H8 c9 (.lst ((ws.take (ws.length - 1)).map V.str)) c9 = some (.lst ((ws.take (ws.length - 1)).map V.str)) := upd_same
    generalize upd H8 c9 (.lst ((ws.take (ws.length - 1)).map V.str)) = H9 at s9 e9 ⊢
    intro x10 dx10 hx10 hdx10 hxd10
    refine ⟨x10, dx10, c9, ws.take (ws.length - 1), rfl, upd_same, new_at hx10 hdx10 e9, (fun y hy => hsm y (List.mem_of_mem_take hy)), fun _ H10 l10 m1 m2 m3 m4 => ⟨rfl, ?_⟩, fun ng => absurd (gd.less g4) ng⟩
    have s10 := s9.trans (new_same hx10 hdx10 m1)
    exact ⟨a, x10, .inr ws, .inr (ws.take (ws.length - 1)), false, rfl, hW8.same s10, ⟨dx10, l10, m3, m4⟩, ⟨(fun h => by cases h), fun h => absurd (Sum.inr.inj h) (less_ne g4)⟩, q _ (sC.trans s10)⟩
theorem ok_law (F : Fun K "law" "law" s_law f fd) (bl : Bl K mg cTableError cBadNumber cBadName cBadDomain cDomain cNumbers cWords) (c__law_cell_at : Callee P w K mg base 7 "_law_cell_at" ["script", "k"] (sp_law_cell_at K cTableError cBadNumber cBadName cBadDomain cDomain cNumbers cWords)) (c__law_good : Callee P w K mg base 7 "_law_good" ["words"] (sp_law_good K cTableError cBadNumber cBadName cBadDomain cDomain cNumbers cWords)) (c__law_words_right : Callee P w K mg base 7 "_law_words_right" ["words", "text", "good"] (sp_law_words_right K cTableError cBadNumber cBadName cBadDomain cDomain cNumbers cWords)) (c__law_word : Callee P w K mg base 7 "_law_word" ["cell"] (sp_law_word K cTableError cBadNumber cBadName cBadDomain cDomain cNumbers cWords)) (c__law_numbers_right : Callee P w K mg base 7 "_law_numbers_right" ["cell"] (sp_law_numbers_right K cTableError cBadNumber cBadName cBadDomain cDomain cNumbers cWords)) : FnOk P w K mg base CX0 8 f fd ["script"] (sp_law K) := by
  refine F.ok sc_law (fun vs H Q E h => ?_) (fun cdv A outer s H vs Q E hr h => ?_)
  · obtain ⟨a, ns, rfl, hS, h63, hB, q⟩ := h
    rfl
  obtain ⟨a, ns, rfl, hS, h63, hB, q⟩ := h
  refine ⟨_, (pss_cut (ps_for PassesOwn.never rfl (pi_list (pv 0)) (pg_name (i := 1) sc_law.nd rfl (Or.inl rfl))
     (pss_one (ps_if (pt_not (pt_val (pe_fn c__law_numbers_right hr rfl (pa_cons (pv 1) pa_nil))))
     (pss_one (ps_ret pe_bl))
     pss_nil)))
     (pss_cut (ps_comp (i := 2) sc_law.nd rfl (Or.inl rfl) (pi_list (pe_slice sl_list (pv 0) (po_some pe_int) (po_some pe_int))) (cmpOk_plain rfl (by decide +kernel) (by decide +kernel) (by decide +kernel) rfl) rfl (fun _ _ _ _ => pif_nil) (fun _ _ _ _ => (pe_fn c__law_word hr rfl (pa_cons (pv 0) pa_nil))))
     (pss_cons (ps_set (i := 3) sc_law.nd rfl (Or.inl rfl) (pe_fn c__law_cell_at hr rfl (pa_cons (pv 0) (pa_cons pe_int pa_nil))))
     (pss_cut (ps_set (i := 4) sc_law.nd rfl (Or.inl rfl) (pe_op op_mod (pe_op op_mod (pe_op op_mul (pe_op op_mod (pv 3) pe_int) pe_int) pe_int) pe_int))
     (pss_cut (ps_if (PW.pt (pw_and (pt_cmpR op_eq (pv 4) pe_int (nomark _)) (pw_and1 (pt_cmpR op_gt (pe_callB call_len_seq rfl bl.len_ PySem.boot_len (pa_cons (pv 2) pa_nil)) pe_int (nomark _)))))
     (pss_cons (ps_set (i := 5) sc_law.nd rfl (Or.inl rfl) (pe_lst (pa_cons pe_str (pa_cons pe_str (pa_cons pe_str (pa_cons pe_str (pa_cons pe_str (pa_cons pe_str (pa_cons pe_str (pa_cons pe_str pa_nil))))))))))
     (pss_cons (ps_set (i := 6) sc_law.nd rfl (Or.inl rfl) (pe_op op_mod (pe_op op_mod (pe_op op_mul (pe_op op_mod (pv 3) pe_int) pe_int) pe_int) (pe_callB call_len_seq rfl bl.len_ PySem.boot_len (pa_cons (pv 2) pa_nil))))
     (pss_one (ps_asg (pe_ix ix_list (pv 5) (pe_op op_mod (pe_op op_mod (pe_op op_mul (pe_op op_mod (pv 3) pe_int) pe_int) pe_int) pe_int) (fun _ _ => rfl)) (pg_sub (pv 2) (pv 6) set_list)))))
     pss_nil)
     (pss_cut (ps_if (PW.pt (pw_and (pt_cmpR op_eq (pv 4) pe_int (nomark _)) (pw_and1 (pt_cmpR op_gt (pe_callB call_len_seq rfl bl.len_ PySem.boot_len (pa_cons (pv 2) pa_nil)) pe_int (nomark _)))))
     (pss_cons (ps_set (i := 6) sc_law.nd rfl (Or.inl rfl) (pe_op op_mod (pe_op op_mod (pe_op op_mul (pe_op op_mod (pv 3) pe_int) pe_int) pe_int) (pe_callB call_len_seq rfl bl.len_ PySem.boot_len (pa_cons (pv 2) pa_nil))))
     (pss_one (ps_asg (pe_ix ix_list (pv 2) (pe_op op_mod (pe_op op_mod (pe_op op_mul (pe_op op_mod (pv 3) pe_int) pe_int) pe_int) (pe_callB call_len_seq rfl bl.len_ PySem.boot_len (pa_cons (pv 2) pa_nil))) (fun _ _ => rfl)) (pg_sub (pv 2) (pv 6) set_list))))
     pss_nil)
     (pss_cut (ps_set (i := 7) sc_law.nd rfl (Or.inl rfl) (pe_fn c__law_good hr rfl (pa_cons (pv 2) pa_nil)))
     (pss_cons (ps_set (i := 8) sc_law.nd rfl (Or.inl rfl) pe_str)
     (pss_cut (ps_if (pt_cmpR op_eq (pv 4) pe_int (nomark _))
     (pss_cons (ps_set (i := 8) sc_law.nd rfl (Or.inl rfl) (pe_ix ix_list (pe_lst (pa_cons pe_str (pa_cons pe_str (pa_cons pe_str (pa_cons pe_str pa_nil))))) (pe_op op_mod (pe_op op_mod (pe_op op_mul (pe_op op_mod (pv 3) pe_int) pe_int) pe_int) pe_int) (fun _ _ => rfl)))
     (pss_one (ps_set (i := 7) sc_law.nd rfl (Or.inl rfl) (pe_and (pv 7) (pe_one (pe_cmpR op_lt (pe_callB call_len_seq rfl bl.len_ PySem.boot_len (pa_cons (pv 2) pa_nil)) pe_int (nomark _)))))))
     pss_nil)
     (pss_cut (ps_set (i := 9) sc_law.nd rfl (Or.inl rfl) (pe_bm PySem.F.plainAttrs_str PySem.F.slot_str_join PySem.F.type_str_join mt_join (pv 8) (pa_cons (pv 2) pa_nil)))
     (pss_cut (ps_if (pt_cmpR op_eq (pv 4) pe_int (nomark _))
     (pss_cons (ps_set (i := 9) sc_law.nd rfl (Or.inl rfl) (pe_op op_add_str (pv 9) pe_str))
     (pss_one (ps_set (i := 7) sc_law.nd rfl (Or.inl rfl) pe_bl)))
     pss_nil)
     (pss_one (ps_ret (pe_fn c__law_words_right hr rfl (pa_cons (pv 2) (pa_cons (pv 9) (pa_cons (pv 7) pa_nil))))))))))))))))), ?_⟩
  refine ⟨fun σ' H' => Same H H' ∧ ∃ c1 : Option V, σ' = [some (.ref a), c1, none, none, none, none, none, none, none, none], ?_, ?_⟩
  · refine ⟨_, rfl, a, rfl, ⟨_, hS⟩, for_list (xs := ns.map V.int) (fun i σ H' => (∃ c1 : Option V, σ = [some (.ref a), c1, none, none, none, none, none, none, none, none]) ∧ Same H H') ⟨⟨_, rfl⟩, Same.refl H⟩ (fun i σ H' _ h => h.2.seq hS) (fun i y σ H' e h => ?_) (fun σ H' h => ?_)⟩
    · obtain ⟨⟨c1, rfl⟩, sm⟩ := h
      obtain ⟨c, rfl, hc⟩ := mem_map_int e
      exact ⟨_, rfl, c, rfl, hB c hc, fun H2 s2 => ⟨_, rfl, iteF ⟨⟨_, rfl⟩, sm.trans s2⟩⟩⟩
    · obtain ⟨⟨c1, rfl⟩, sm⟩ := h
      exact ⟨sm, _, rfl⟩
  rintro σ1 H1 ⟨s1, c1, rfl⟩
  have hS1 := s1.seq hS
  refine ⟨fun σ' H' => Same H1 H' ∧ ∃ (D : Addr) (ys : List Str), H1 D = none ∧ H' D = some (.lst (ys.map V.str)) ∧ ys.length ≤ 42 ∧ (∀ y ∈ ys, Sm 13 y ∧ Ltr y) ∧ σ' = [some (.ref a), c1, some (.ref D), none, none, none, none, none, none, none], ?_, ?_⟩
  · obtain ⟨ms, em, lm, _⟩ := cut42 ns
    refine ⟨_, rfl, _, rfl, _, rfl, a, _, rfl, hS1, fun p1 hp1 => ?_⟩
    rw [em]
    have s2 : Same H1 (upd H1 p1 (.lst (ms.map V.int))) := same_new hp1 _
    have e1 : upd H1 p1 (.lst (ms.map V.int)) p1 = some (.lst (ms.map V.int)) := upd_same
    generalize upd H1 p1 (.lst (ms.map V.int)) = H2 at s2 e1 ⊢
    refine ⟨p1, rfl, ⟨_, SqL.of e1⟩, comp_list (xs := ms.map V.int) (fun D i zs H' => Same H2 H' ∧ H' D = some (.lst zs) ∧ (∃ ys : List Str, zs = ys.map V.str ∧ ∀ y ∈ ys, Sm 13 y ∧ Ltr y) ∧ zs.length = i)
      (fun D hD => ⟨same_new hD _, upd_same, ⟨[], rfl, (fun y hy => by cases hy)⟩, rfl⟩) (fun D i zs H' hD _ h => h.1.seq (SqL.of e1)) (fun D i x zs H' hD e h => ?_) (fun D zs H' hD h => ?_)⟩
    · obtain ⟨sm, eD, ⟨ys, rfl, hy⟩, hl⟩ := h
      obtain ⟨c, rfl, _⟩ := mem_map_int e
      have hi : i < (ms.map V.int).length := (List.getElem?_eq_some_iff.mp e).1
      have hlm : (ms.map V.int).length = ms.length := List.length_map _
      refine ⟨_, rfl, c, rfl, fun z H3 s3 hz hlt => CYes.mk hi (s3 _ _ eD) (small1000 (by omega)) ⟨(sm.trans s3).upd hD, upd_same, ⟨ys ++ [z], by simp, fun y h => ?_⟩, by rw [List.length_append, List.length_singleton]; omega⟩⟩
      rcases List.mem_append.mp h with h | h
      · exact hy y h
      · rw [show y = z by simpa using h]; exact ⟨hz.le (by decide), hlt⟩
    · obtain ⟨sm, eD, ⟨ys, rfl, hy⟩, hl⟩ := h
      rw [List.length_map, List.length_map] at hl
      exact ⟨s2.trans sm, D, ys, s2.free hD, eD, by omega, hy, rfl⟩
  rintro σ2 H2 ⟨s2, D, ys, hD1, eD, ly, hy, rfl⟩
  have hD0 : H D = none := s1.free hD1
  have hS2 := s2.seq hS1
  refine ⟨_, rfl, a, ns, 0, rfl, hS2, hB, Int.le_refl _, fun hd _ => ?_⟩
  refine ⟨fun σ' H' => H' = H2 ∧ ∃ w : Int, σ' = [some (.ref a), c1, some (.ref D), some (.int hd), some (.int w), none, none, none, none, none], ?_, ?_⟩
  · exact ⟨_, rfl, _, _, rfl, rfl, (by show (0 : Int) < 10007; decide), _, _, rfl, rfl, .inr ⟨by decide, by decide⟩, _, _, rfl, rfl, (by show (0 : Int) < 10007; decide), _, _, rfl, rfl, (by show (0 : Int) < 6; decide), rfl, _, rfl⟩
  rintro σ3 H3 ⟨rfl, w, rfl⟩
  refine ⟨fun σ' H' => Same H1 H' ∧ ∃ (zs : List Str) (c5 c6 : Option V), H' D = some (.lst (zs.map V.str)) ∧ Wds zs ∧ (w ≠ 0 → ∀ z ∈ zs, Ltr z) ∧ σ' = [some (.ref a), c1, some (.ref D), some (.int hd), some (.int w), c5, c6, none, none, none], ?_, ?_⟩
  · refine ⟨_, rfl, rfl, _, rfl, ite2 (fun g0 => ?_) (fun _ => iteF ⟨s2, ys, _, _, eD, Wds.of ly hy, fun _ z hz => (hy z hz).2, rfl⟩)⟩
    refine ⟨_, rfl, D, _, rfl, .inl (SqL.of eD), _, _, rfl, rfl, _, rfl, ite2 (fun g => ?_) (fun _ => ⟨s2, ys, _, _, eD, Wds.of ly hy, fun _ z hz => (hy z hz).2, rfl⟩)⟩
    have w0 : w = 0 := V.int.inj (of_decide_eq_true g0)
    have g' : (0 : Int) < (((ys.map V.str).length : Nat) : Int) := dec_t g
    refine ⟨(by show 8 ≤ sizeLine; decide), fun p hp => ?_⟩
    have s3 := same_new hp (.lst (bad8.map V.str))
    have e3 : upd H3 p (.lst (bad8.map V.str)) p = some (.lst (bad8.map V.str)) := upd_same
    show (fun H4 : Hp => _) (upd H3 p (.lst (bad8.map V.str)))
    generalize upd H3 p (.lst (bad8.map V.str)) = H4 at s3 e3 ⊢
    have eD4 := s3 _ _ eD
    refine ⟨_, rfl, _, _, rfl, rfl, (by show (0 : Int) < 10037; decide), _, _, rfl, rfl, .inr ⟨by decide, by decide⟩, _, _, rfl, rfl, (by show (0 : Int) < 10037; decide), _, rfl, D, _, rfl, .inl (SqL.of eD4), _, _, rfl, rfl, g', ?_⟩
    have j0 := Int.emod_nonneg (hd % 10037 * 619 % 10037) (Int.ne_of_gt g')
    have j1 := Int.emod_lt_of_pos (hd % 10037 * 619 % 10037) g'
    obtain ⟨z, hz, ez⟩ := at_strs (zs := bad8) (k := hd % 10039 * 631 % 10039 % 8) (Int.emod_nonneg _ (by decide)) (Int.emod_lt_of_pos _ (by show (0 : Int) < 8; decide))
    obtain ⟨b1, b2, b3⟩ := bad_ok z hz
    have hix : ixN (ys.map V.str).length (hd % 10037 * 619 % 10037 % (((ys.map V.str).length : Nat) : Int)) = some (hd % 10037 * 619 % 10037 % (((ys.map V.str).length : Nat) : Int)).toNat := by
      unfold ixN
      rw [if_pos j0, if_pos (by omega)]
    refine ⟨_, rfl, _, rfl, _, _, rfl, rfl, (by show (0 : Int) < 10039; decide), _, _, rfl, rfl, .inr ⟨by decide, by decide⟩, _, _, rfl, rfl, (by show (0 : Int) < 10039; decide), _, _, rfl, rfl, (by show (0 : Int) < 8; decide), p, _, _, _, rfl, rfl, SqL.of e3, ez, _, rfl, _, rfl, D, _, _, _, rfl, rfl, eD4, hix, ?_⟩
    exact ⟨(s2.trans s3).upd hD1, ys.set (hd % 10037 * 619 % 10037 % (((ys.map V.str).length : Nat) : Int)).toNat z, _, _, by rw [upd_same, List.map_set], Wds.set ly hy (bad_sm z hz) b2 b3, fun h => absurd w0 h, rfl⟩
  rintro σ4 H4 ⟨s4, zs, c5, c6, eD4, hw, hlt, rfl⟩
  clear eD s2 hS2 hy ly
  refine ⟨fun σ' H' => Same H1 H' ∧ ∃ (zs : List Str) (c5 c6 : Option V), H' D = some (.lst (zs.map V.str)) ∧ Wds zs ∧ (w ≠ 0 → ∀ z ∈ zs, Ltr z) ∧ σ' = [some (.ref a), c1, some (.ref D), some (.int hd), some (.int w), c5, c6, none, none, none], ?_, ?_⟩
  · refine ⟨_, rfl, rfl, _, rfl, ite2 (fun g => ?_) (fun _ => iteF ⟨s4, zs, _, _, eD4, hw, hlt, rfl⟩)⟩
    have w1 : w = 1 := V.int.inj (of_decide_eq_true g)
    refine ⟨_, rfl, D, _, rfl, .inl (SqL.of eD4), _, _, rfl, rfl, _, rfl, ite2 (fun g => ?_) (fun _ => ⟨s4, zs, _, _, eD4, hw, hlt, rfl⟩)⟩
    have hl := hlt (by omega)
    have g0 : (1 : Int) < (((zs.map V.str).length : Nat) : Int) := dec_t g
    have g' : (0 : Int) < (((zs.map V.str).length : Nat) : Int) := by omega
    refine ⟨_, rfl, _, _, rfl, rfl, (by show (0 : Int) < 10037; decide), _, _, rfl, rfl, .inr ⟨by decide, by decide⟩, _, _, rfl, rfl, (by show (0 : Int) < 10037; decide), _, rfl, D, _, rfl, .inl (SqL.of eD4), _, _, rfl, rfl, g', ?_⟩
    have j0 := Int.emod_nonneg (hd % 10037 * 619 % 10037) (Int.ne_of_gt g')
    have j1 := Int.emod_lt_of_pos (hd % 10037 * 619 % 10037) g'
    have b0 := Int.emod_nonneg (hd % 10039 * 631 % 10039) (Int.ne_of_gt g')
    have b1 := Int.emod_lt_of_pos (hd % 10039 * 631 % 10039) g'
    obtain ⟨z, hz, ez⟩ := at_strs (zs := zs) b0 (by rw [List.length_map] at b1 ⊢; exact b1)
    have hix : ixN (zs.map V.str).length (hd % 10037 * 619 % 10037 % (((zs.map V.str).length : Nat) : Int)) = some (hd % 10037 * 619 % 10037 % (((zs.map V.str).length : Nat) : Int)).toNat := by
      unfold ixN
      rw [if_pos j0, if_pos (by omega)]
    refine ⟨_, rfl, _, rfl, _, _, rfl, rfl, (by show (0 : Int) < 10039; decide), _, _, rfl, rfl, .inr ⟨by decide, by decide⟩, _, _, rfl, rfl, (by show (0 : Int) < 10039; decide), _, rfl, D, _, rfl, .inl (SqL.of eD4), _, _, rfl, rfl, g', D, _, _, _, rfl, rfl, SqL.of eD4, ez, _, rfl, _, rfl, D, _, _, _, rfl, rfl, eD4, hix, ?_⟩
    have all : ∀ y ∈ zs.set (hd % 10037 * 619 % 10037 % (((zs.map V.str).length : Nat) : Int)).toNat z, Sm 13 y ∧ Ltr y := fun y h => by
      rcases List.mem_or_eq_of_mem_set h with h | h
      · exact ⟨hw.sm y h, hl y h⟩
      · rw [h]; exact ⟨hw.sm z hz, hl z hz⟩
    exact ⟨s4.upd hD1, zs.set (hd % 10037 * 619 % 10037 % (((zs.map V.str).length : Nat) : Int)).toNat z, _, _, by rw [upd_same, List.map_set], Wds.of (by rw [List.length_set]; exact hw.few) all, fun _ y hy => (all y hy).2, rfl⟩
  clear eD4 s4 hw hlt
  rintro σ5 H5 ⟨s5, zs, c5, c6, eD5, hw, hlt, rfl⟩
  refine ⟨fun σ' H' => Same H1 H' ∧ H' D = some (.lst (zs.map V.str)) ∧ ∃ b : Bool, (b = true ↔ Good zs) ∧ σ' = [some (.ref a), c1, some (.ref D), some (.int hd), some (.int w), c5, c6, some (.bl b), none, none], ?_, ?_⟩
  · refine ⟨_, rfl, D, zs, rfl, eD5, Nat.le_trans hw.few (by decide), fun z hz => (hw.sm z hz).le (by decide), fun H6 s6 => ⟨fun g => ?_, fun g => ?_⟩⟩
    · exact ⟨s5.trans s6, s6 _ _ eD5, true, ⟨fun _ => g, fun _ => rfl⟩, rfl⟩
    · exact ⟨s5.trans s6, s6 _ _ eD5, false, ⟨(fun h => by cases h), fun h => absurd h g⟩, rfl⟩
  clear s5 eD5
  rintro σ6 H6 ⟨s6, eD6, b, hb, rfl⟩
  refine ⟨fun σ' H' => Same H1 H' ∧ H' D = some (.lst (zs.map V.str)) ∧ ∃ (b : Bool) (m : Str), m.length ≤ 3 ∧ Fit zs (Txt.join m zs) b ∧ σ' = [some (.ref a), c1, some (.ref D), some (.int hd), some (.int w), c5, c6, some (.bl b), some (.str m), none], ?_, ?_⟩
  · refine ⟨_, rfl, rfl, _, rfl, ite2 (fun g => ?_) (fun _ => ⟨s6, eD6, b, mk2, by decide, fit_main hw hb, rfl⟩)⟩
    have w2 : w = 2 := V.int.inj (of_decide_eq_true g)
    have hl := hlt (by omega)
    obtain ⟨m, hm, ez⟩ := at_strs (zs := marks4) (k := hd % 10039 * 631 % 10039 % 4) (Int.emod_nonneg _ (by decide)) (Int.emod_lt_of_pos _ (by show (0 : Int) < 4; decide))
    refine ⟨(by show 4 ≤ sizeLine; decide), fun p hp => ?_⟩
    have s7 := same_new hp (.lst (marks4.map V.str))
    have e7 : upd H6 p (.lst (marks4.map V.str)) p = some (.lst (marks4.map V.str)) := upd_same
    have eD7 := s7 _ _ eD6
    refine ⟨_, rfl, _, _, rfl, rfl, (by show (0 : Int) < 10039; decide), _, _, rfl, rfl, .inr ⟨by decide, by decide⟩, _, _, rfl, rfl, (by show (0 : Int) < 10039; decide), _, _, rfl, rfl, (by show (0 : Int) < 4; decide), p, _, _, _, rfl, rfl, SqL.of e7, ez, ?_⟩
    have hlen : (zs.map V.str).length = zs.length := List.length_map _
    cases b with
    | false =>
      exact ⟨_, rfl, _, rfl, iteF ⟨s6.trans s7, eD7, false, m, (mark_ok m hm).1, fit_mark hm hw hl ⟨(fun h => by cases h), fun h => hb.mpr h.1⟩, rfl⟩⟩
    | true =>
      refine ⟨_, rfl, _, rfl, iteT ⟨_, rfl, D, _, rfl, .inl (SqL.of eD7), _, _, rfl, rfl, s6.trans s7, eD7, _, m, (mark_ok m hm).1, fit_mark hm hw hl ?_, rfl⟩⟩
      rw [decide_eq_true_iff, hlen]
      exact ⟨fun h => ⟨hb.mp rfl, by omega⟩, fun h => by have := h.2; omega⟩
  clear s6 eD6 hb
  rintro σ7 H7 ⟨s7, eD7, b, m, hm, hf, rfl⟩
  refine ⟨fun σ' H' => H' = H7 ∧ σ' = [some (.ref a), c1, some (.ref D), some (.int hd), some (.int w), c5, c6, some (.bl b), some (.str m), some (.str (Txt.join m zs))], ?_, ?_⟩
  · exact ⟨_, rfl, rfl, _, rfl, m, D, zs, rfl, rfl, SqL.of eD7, Nat.le_trans hm (by decide), sum13 hw.sm hw.few, rfl, rfl⟩
  rintro σ8 H8 ⟨rfl, rfl⟩
  refine ⟨fun σ' H' => H' = H8 ∧ ∃ (b : Bool) (t : Str), Sm 1000 t ∧ (tl t).count 46 ≤ 1 ∧ (b = true → Good zs ∧ t = Txt.join mk2 zs) ∧ (b = false → ¬ Good (Txt.split t mk2)) ∧ σ' = [some (.ref a), c1, some (.ref D), some (.int hd), some (.int w), c5, c6, some (.bl b), some (.str m), some (.str t)], ?_, ?_⟩
  · refine ⟨_, rfl, rfl, _, rfl, ite2 (fun _ => ?_) (fun _ => ⟨rfl, b, _, hf.sm.le (by decide), hf.dot, hf.yes, hf.no, rfl⟩)⟩
    obtain ⟨t1, t2, t3⟩ := hf.tail
    exact ⟨_, rfl, _, mk2, rfl, rfl, big (by have := hf.sm.len; have e : mk2.length = 2 := rfl; omega), rfl, false, _, t1, t2, (fun h => by cases h), fun _ => t3, rfl⟩
  rintro σ9 H9 ⟨rfl, b, t, t1, t2, t3, t4, rfl⟩
  refine ⟨_, rfl, _, rfl, _, rfl, D, zs, t, b, rfl, eD7, Nat.le_trans hw.few (by decide), (fun y hy => (hw.sm y hy).le (by decide)), t1, dots_out t2, fun h => ?_, t4, fun H10 s10 => q H10⟩
  obtain ⟨g, e⟩ := t3 h
  refine ⟨g, e, ?_⟩
  rw [e]
  refine split_join (fun hz => ?_) hw.nc
  have := g.some_
  rw [hz] at this
  cases this
end
theorem all_mk {l : PySem.W.OpenLaw} {w : World} {K : PySem.W.Frag} {h : Heap} {mg : Str → Option Value} {fa f0 f1 f2 f3 f4 f5 f6 f7 f8 f9 f10 f11 f12 f13 f14 f15 f16 f17 f18 f19 f20 f21 f22 f23 f24 f25 : Addr} (X : K.In h) (G : h.Ns mainGlobals mg) (hfa : mg "law" = some (.ref fa))
    {od0 an0 od1 an1 od2 an2 od3 an3 od4 an4 od5 an5 od6 an6 od7 an7 od8 an8 od9 an9 od10 an10 od11 an11 od12 an12 od13 an13 od14 an14 od15 an15 od16 an16 od17 an17 od18 an18 od19 an19 od20 an20 od21 an21 od22 an22 od23 an23 od24 an24 od25 an25 : Option Addr} {sl0 sl1 sl2 sl3 sl4 sl5 sl6 sl7 sl8 sl9 sl10 sl11 sl12 sl13 sl14 sl15 sl16 sl17 sl18 sl19 sl20 sl21 sl22 sl23 sl24 sl25 : Array (Option Value)} {oc0 kV0 dc0 pm0 cd0 ct0 oc1 kV1 dc1 pm1 cd1 ct1 oc2 kV2 dc2 pm2 cd2 ct2 oc3 kV3 dc3 pm3 cd3 ct3 oc4 kV4 dc4 pm4 cd4 ct4 oc5 kV5 dc5 pm5 cd5 ct5 oc6 kV6 dc6 pm6 cd6 ct6 oc7 kV7 dc7 pm7 cd7 ct7 oc8 kV8 dc8 pm8 cd8 ct8 oc9 kV9 dc9 pm9 cd9 ct9 oc10 kV10 dc10 pm10 cd10 ct10 oc11 kV11 dc11 pm11 cd11 ct11 oc12 kV12 dc12 pm12 cd12 ct12 oc13 kV13 dc13 pm13 cd13 ct13 oc14 kV14 dc14 pm14 cd14 ct14 oc15 kV15 dc15 pm15 cd15 ct15 oc16 kV16 dc16 pm16 cd16 ct16 oc17 kV17 dc17 pm17 cd17 ct17 oc18 kV18 dc18 pm18 cd18 ct18 oc19 kV19 dc19 pm19 cd19 ct19 oc20 kV20 dc20 pm20 cd20 ct20 oc21 kV21 dc21 pm21 cd21 ct21 oc22 kV22 dc22 pm22 cd22 ct22 oc23 kV23 dc23 pm23 cd23 ct23 oc24 kV24 dc24 pm24 cd24 ct24 oc25 kV25 dc25 pm25 cd25 ct25 : Value}
    {cTableError cBadNumber cBadName cBadDomain cDomain cNumbers cWords : Addr}
    (n_TableError : PySem.W.nsIn K mainGlobals "TableError" = some (some (.ref cTableError)))
    (n_BadNumber : PySem.W.nsIn K mainGlobals "BadNumber" = some (some (.ref cBadNumber)))
    (n_BadName : PySem.W.nsIn K mainGlobals "BadName" = some (some (.ref cBadName)))
    (n_BadDomain : PySem.W.nsIn K mainGlobals "BadDomain" = some (some (.ref cBadDomain)))
    (n_Domain : PySem.W.nsIn K mainGlobals "Domain" = some (some (.ref cDomain)))
    (n_Numbers : PySem.W.nsIn K mainGlobals "Numbers" = some (some (.ref cNumbers)))
    (n_Words : PySem.W.nsIn K mainGlobals "Words" = some (some (.ref cWords)))
    (a0 : PySem.W.nsIn K mainGlobals "all_among" = some (some (.ref f0))) (l0 : K.lookup f0 = some ⟨oc0, od0, .func (PySem.W.fnOf "all_among" "all_among" (defArgs s_all_among) (defBody s_all_among) (defScope s_all_among) .none kV0 dc0 pm0 an0 cd0 ct0), sl0⟩) (c0 : PySem.W.codeIn K cd0 "all_among" = true) (k0 : PySem.W.keepIn K (.ref f0) = true)
    (a1 : PySem.W.nsIn K mainGlobals "is_word" = some (some (.ref f1))) (l1 : K.lookup f1 = some ⟨oc1, od1, .func (PySem.W.fnOf "is_word" "is_word" (defArgs s_is_word) (defBody s_is_word) (defScope s_is_word) .none kV1 dc1 pm1 an1 cd1 ct1), sl1⟩) (c1 : PySem.W.codeIn K cd1 "is_word" = true) (k1 : PySem.W.keepIn K (.ref f1) = true)
    (a2 : PySem.W.nsIn K mainGlobals "is_number" = some (some (.ref f2))) (l2 : K.lookup f2 = some ⟨oc2, od2, .func (PySem.W.fnOf "is_number" "is_number" (defArgs s_is_number) (defBody s_is_number) (defScope s_is_number) .none kV2 dc2 pm2 an2 cd2 ct2), sl2⟩) (c2 : PySem.W.codeIn K cd2 "is_number" = true) (k2 : PySem.W.keepIn K (.ref f2) = true)
    (a3 : PySem.W.nsIn K mainGlobals "number_of" = some (some (.ref f3))) (l3 : K.lookup f3 = some ⟨oc3, od3, .func (PySem.W.fnOf "number_of" "number_of" (defArgs s_number_of) (defBody s_number_of) (defScope s_number_of) .none kV3 dc3 pm3 an3 cd3 ct3), sl3⟩) (c3 : PySem.W.codeIn K cd3 "number_of" = true) (k3 : PySem.W.keepIn K (.ref f3) = true)
    (a4 : PySem.W.nsIn K mainGlobals "number_text" = some (some (.ref f4))) (l4 : K.lookup f4 = some ⟨oc4, od4, .func (PySem.W.fnOf "number_text" "number_text" (defArgs s_number_text) (defBody s_number_text) (defScope s_number_text) .none kV4 dc4 pm4 an4 cd4 ct4), sl4⟩) (c4 : PySem.W.codeIn K cd4 "number_text" = true) (k4 : PySem.W.keepIn K (.ref f4) = true)
    (a5 : PySem.W.nsIn K mainGlobals "alike" = some (some (.ref f5))) (l5 : K.lookup f5 = some ⟨oc5, od5, .func (PySem.W.fnOf "alike" "alike" (defArgs s_alike) (defBody s_alike) (defScope s_alike) .none kV5 dc5 pm5 an5 cd5 ct5), sl5⟩) (c5 : PySem.W.codeIn K cd5 "alike" = true) (k5 : PySem.W.keepIn K (.ref f5) = true)
    (a6 : PySem.W.nsIn K mainGlobals "read_domain" = some (some (.ref f6))) (l6 : K.lookup f6 = some ⟨oc6, od6, .func (PySem.W.fnOf "read_domain" "read_domain" (defArgs s_read_domain) (defBody s_read_domain) (defScope s_read_domain) .none kV6 dc6 pm6 an6 cd6 ct6), sl6⟩) (c6 : PySem.W.codeIn K cd6 "read_domain" = true) (k6 : PySem.W.keepIn K (.ref f6) = true)
    (a7 : PySem.W.nsIn K mainGlobals "read_numbers" = some (some (.ref f7))) (l7 : K.lookup f7 = some ⟨oc7, od7, .func (PySem.W.fnOf "read_numbers" "read_numbers" (defArgs s_read_numbers) (defBody s_read_numbers) (defScope s_read_numbers) .none kV7 dc7 pm7 an7 cd7 ct7), sl7⟩) (c7 : PySem.W.codeIn K cd7 "read_numbers" = true) (k7 : PySem.W.keepIn K (.ref f7) = true)
    (a8 : PySem.W.nsIn K mainGlobals "_law_cell_at" = some (some (.ref f8))) (l8 : K.lookup f8 = some ⟨oc8, od8, .func (PySem.W.fnOf "_law_cell_at" "_law_cell_at" (defArgs s_law_cell_at) (defBody s_law_cell_at) (defScope s_law_cell_at) .none kV8 dc8 pm8 an8 cd8 ct8), sl8⟩) (c8 : PySem.W.codeIn K cd8 "_law_cell_at" = true) (k8 : PySem.W.keepIn K (.ref f8) = true)
    (a9 : PySem.W.nsIn K mainGlobals "_law_number" = some (some (.ref f9))) (l9 : K.lookup f9 = some ⟨oc9, od9, .func (PySem.W.fnOf "_law_number" "_law_number" (defArgs s_law_number) (defBody s_law_number) (defScope s_law_number) .none kV9 dc9 pm9 an9 cd9 ct9), sl9⟩) (c9 : PySem.W.codeIn K cd9 "_law_number" = true) (k9 : PySem.W.keepIn K (.ref f9) = true)
    (a10 : PySem.W.nsIn K mainGlobals "_law_ends" = some (some (.ref f10))) (l10 : K.lookup f10 = some ⟨oc10, od10, .func (PySem.W.fnOf "_law_ends" "_law_ends" (defArgs s_law_ends) (defBody s_law_ends) (defScope s_law_ends) .none kV10 dc10 pm10 an10 cd10 ct10), sl10⟩) (c10 : PySem.W.codeIn K cd10 "_law_ends" = true) (k10 : PySem.W.keepIn K (.ref f10) = true)
    (a11 : PySem.W.nsIn K mainGlobals "_law_read" = some (some (.ref f11))) (l11 : K.lookup f11 = some ⟨oc11, od11, .func (PySem.W.fnOf "_law_read" "_law_read" (defArgs s_law_read) (defBody s_law_read) (defScope s_law_read) .none kV11 dc11 pm11 an11 cd11 ct11), sl11⟩) (c11 : PySem.W.codeIn K cd11 "_law_read" = true) (k11 : PySem.W.keepIn K (.ref f11) = true)
    (a12 : PySem.W.nsIn K mainGlobals "_law_whole" = some (some (.ref f12))) (l12 : K.lookup f12 = some ⟨oc12, od12, .func (PySem.W.fnOf "_law_whole" "_law_whole" (defArgs s_law_whole) (defBody s_law_whole) (defScope s_law_whole) .none kV12 dc12 pm12 an12 cd12 ct12), sl12⟩) (c12 : PySem.W.codeIn K cd12 "_law_whole" = true) (k12 : PySem.W.keepIn K (.ref f12) = true)
    (a13 : PySem.W.nsIn K mainGlobals "_law_alike" = some (some (.ref f13))) (l13 : K.lookup f13 = some ⟨oc13, od13, .func (PySem.W.fnOf "_law_alike" "_law_alike" (defArgs s_law_alike) (defBody s_law_alike) (defScope s_law_alike) .none kV13 dc13 pm13 an13 cd13 ct13), sl13⟩) (c13 : PySem.W.codeIn K cd13 "_law_alike" = true) (k13 : PySem.W.keepIn K (.ref f13) = true)
    (a14 : PySem.W.nsIn K mainGlobals "_law_numbers_right" = some (some (.ref f14))) (l14 : K.lookup f14 = some ⟨oc14, od14, .func (PySem.W.fnOf "_law_numbers_right" "_law_numbers_right" (defArgs s_law_numbers_right) (defBody s_law_numbers_right) (defScope s_law_numbers_right) .none kV14 dc14 pm14 an14 cd14 ct14), sl14⟩) (c14 : PySem.W.codeIn K cd14 "_law_numbers_right" = true) (k14 : PySem.W.keepIn K (.ref f14) = true)
    (a15 : PySem.W.nsIn K mainGlobals "_law_word" = some (some (.ref f15))) (l15 : K.lookup f15 = some ⟨oc15, od15, .func (PySem.W.fnOf "_law_word" "_law_word" (defArgs s_law_word) (defBody s_law_word) (defScope s_law_word) .none kV15 dc15 pm15 an15 cd15 ct15), sl15⟩) (c15 : PySem.W.codeIn K cd15 "_law_word" = true) (k15 : PySem.W.keepIn K (.ref f15) = true)
    (a16 : PySem.W.nsIn K mainGlobals "_law_is_word" = some (some (.ref f16))) (l16 : K.lookup f16 = some ⟨oc16, od16, .func (PySem.W.fnOf "_law_is_word" "_law_is_word" (defArgs s_law_is_word) (defBody s_law_is_word) (defScope s_law_is_word) .none kV16 dc16 pm16 an16 cd16 ct16), sl16⟩) (c16 : PySem.W.codeIn K cd16 "_law_is_word" = true) (k16 : PySem.W.keepIn K (.ref f16) = true)
    (a17 : PySem.W.nsIn K mainGlobals "_law_good" = some (some (.ref f17))) (l17 : K.lookup f17 = some ⟨oc17, od17, .func (PySem.W.fnOf "_law_good" "_law_good" (defArgs s_law_good) (defBody s_law_good) (defScope s_law_good) .none kV17 dc17 pm17 an17 cd17 ct17), sl17⟩) (c17 : PySem.W.codeIn K cd17 "_law_good" = true) (k17 : PySem.W.keepIn K (.ref f17) = true)
    (a18 : PySem.W.nsIn K mainGlobals "_law_words_right" = some (some (.ref f18))) (l18 : K.lookup f18 = some ⟨oc18, od18, .func (PySem.W.fnOf "_law_words_right" "_law_words_right" (defArgs s_law_words_right) (defBody s_law_words_right) (defScope s_law_words_right) .none kV18 dc18 pm18 an18 cd18 ct18), sl18⟩) (c18 : PySem.W.codeIn K cd18 "_law_words_right" = true) (k18 : PySem.W.keepIn K (.ref f18) = true)
    (m19 : PySem.W.findIn K (.ref cWords) "written" = some (some (.ref f19))) (mf19 : PySem.W.isFn K (.ref f19) = true) (l19 : K.lookup f19 = some ⟨oc19, od19, .func (PySem.W.fnOf "written" "Words.written" (defArgs s_Words_written_Words) (defBody s_Words_written_Words) (defScope s_Words_written_Words) .none kV19 dc19 pm19 an19 cd19 ct19), sl19⟩) (c19 : PySem.W.codeIn K cd19 "Words.written" = true) (k19 : PySem.W.keepIn K (.ref f19) = true)
    (i20 : PySem.W.findIn K (.ref cWords) "__init__" = some (some (.ref f20))) (if20 : PySem.W.isFn K (.ref f20) = true) (im20 : PySem.W.makesIn K cWords = true) (ik20 : PySem.W.keepIn K (.ref cWords) = true) (l20 : K.lookup f20 = some ⟨oc20, od20, .func (PySem.W.fnOf "__init__" "Words.__init__" (defArgs s_Words___init___Words) (defBody s_Words___init___Words) (defScope s_Words___init___Words) .none kV20 dc20 pm20 an20 cd20 ct20), sl20⟩) (c20 : PySem.W.codeIn K cd20 "Words.__init__" = true) (k20 : PySem.W.keepIn K (.ref f20) = true)
    (b_s21 : PySem.W.specialIn K (.ref cDomain) "__getattribute__" = some (some (.builtin "type.__getattribute__"))) (b_r21 : PySem.W.readsIn K cDomain (.type "type") = true) (b_a21 : PySem.W.findCls K (.ref cDomain) (.type "type") "__init__" = some (.val (.ref f21))) (l21 : K.lookup f21 = some ⟨oc21, od21, .func (PySem.W.fnOf "__init__" "Domain.__init__" (defArgs s_Domain___init___Words) (defBody s_Domain___init___Words) (defScope s_Domain___init___Words) .none kV21 dc21 pm21 an21 cd21 ct21), sl21⟩) (c21 : PySem.W.codeIn K cd21 "Domain.__init__" = true) (k21 : PySem.W.keepIn K (.ref f21) = true)
    (i22 : PySem.W.findIn K (.ref cNumbers) "__init__" = some (some (.ref f22))) (if22 : PySem.W.isFn K (.ref f22) = true) (im22 : PySem.W.makesIn K cNumbers = true) (ik22 : PySem.W.keepIn K (.ref cNumbers) = true) (l22 : K.lookup f22 = some ⟨oc22, od22, .func (PySem.W.fnOf "__init__" "Numbers.__init__" (defArgs s_Numbers___init___Numbers) (defBody s_Numbers___init___Numbers) (defScope s_Numbers___init___Numbers) .none kV22 dc22 pm22 an22 cd22 ct22), sl22⟩) (c22 : PySem.W.codeIn K cd22 "Numbers.__init__" = true) (k22 : PySem.W.keepIn K (.ref f22) = true)
    (b_s23 : PySem.W.specialIn K (.ref cDomain) "__getattribute__" = some (some (.builtin "type.__getattribute__"))) (b_r23 : PySem.W.readsIn K cDomain (.type "type") = true) (b_a23 : PySem.W.findCls K (.ref cDomain) (.type "type") "__init__" = some (.val (.ref f23))) (l23 : K.lookup f23 = some ⟨oc23, od23, .func (PySem.W.fnOf "__init__" "Domain.__init__" (defArgs s_Domain___init___Numbers) (defBody s_Domain___init___Numbers) (defScope s_Domain___init___Numbers) .none kV23 dc23 pm23 an23 cd23 ct23), sl23⟩) (c23 : PySem.W.codeIn K cd23 "Domain.__init__" = true) (k23 : PySem.W.keepIn K (.ref f23) = true)
    (m24 : PySem.W.findIn K (.ref cNumbers) "written" = some (some (.ref f24))) (mf24 : PySem.W.isFn K (.ref f24) = true) (l24 : K.lookup f24 = some ⟨oc24, od24, .func (PySem.W.fnOf "written" "Numbers.written" (defArgs s_Numbers_written_Numbers) (defBody s_Numbers_written_Numbers) (defScope s_Numbers_written_Numbers) .none kV24 dc24 pm24 an24 cd24 ct24), sl24⟩) (c24 : PySem.W.codeIn K cd24 "Numbers.written" = true) (k24 : PySem.W.keepIn K (.ref f24) = true)
    (a25 : PySem.W.nsIn K mainGlobals "law" = some (some (.ref f25))) (l25 : K.lookup f25 = some ⟨oc25, od25, .func (PySem.W.fnOf "law" "law" (defArgs s_law) (defBody s_law) (defScope s_law) .none kV25 dc25 pm25 an25 cd25 ct25), sl25⟩) (c25 : PySem.W.codeIn K cd25 "law" = true) (k25 : PySem.W.keepIn K (.ref f25) = true)
    (z0 : PySem.W.nsIn K mainGlobals "len" = some none)
    (z1 : PySem.W.nsIn K mainGlobals "int" = some none)
    (z2 : PySem.W.nsIn K mainGlobals "str" = some none)
    (z3 : PySem.W.nsIn K mainGlobals "isinstance" = some none)
    (z4 : PySem.W.nsIn K mainGlobals "min" = some none)
    (z5 : PySem.W.nsIn K mainGlobals "max" = some none)
    (z6 : PySem.W.nsIn K mainGlobals "ValueError" = some none)
    (z7 : PySem.W.nsIn K mainGlobals "bool" = some none)
    (z8 : PySem.W.nsIn K mainGlobals "range" = some none)
    (z9 : PySem.W.nsIn K mainGlobals "list" = some none)
    (z10 : PySem.W.nsIn K mainGlobals "set" = some none)
    {w0 : Value} (y0 : PySem.W.nsIn K mainGlobals "MOST_SIGNS" = some (some w0)) (x0 : RelV (V.int 12) w0)
    {w1 : Value} (y1 : PySem.W.nsIn K mainGlobals "SMALL_LETTERS" = some (some w1)) (x1 : RelV (V.str "abcdefghijklmnopqrstuvwxyz") w1)
    {w2 : Value} (y2 : PySem.W.nsIn K mainGlobals "MOST_FIGURES" = some (some w2)) (x2 : RelV (V.int 60) w2)
    {w3 : Value} (y3 : PySem.W.nsIn K mainGlobals "FIGURES" = some (some w3)) (x3 : RelV (V.str "0123456789") w3)
    {w4 : Value} (y4 : PySem.W.nsIn K mainGlobals "MOST_WORDS" = some (some w4)) (x4 : RelV (V.int 40) w4)
    (x_BadNumber : PySem.W.excIn K cBadNumber [.type "ValueError", .type "Exception", .type "BaseException", .type "object"] "ValueError.__new__" = true)
    (l0_BadNumber : PySem.W.findIn K (.ref cBadNumber) "__getattribute__" = some (some (.builtin "BaseException.__getattribute__")))
    (l1_BadNumber : PySem.W.findIn K (.ref cBadNumber) "__getattr__" = some none)
    (l2_BadNumber : PySem.W.findIn K (.ref cBadNumber) "__class__" = some (some (.builtin "object.__class__")))
    (l3_BadNumber : PySem.W.specialIn K (.builtin "object.__class__") "__get__" = some (some (.builtin "getset_descriptor.__get__")))
    (l4_BadNumber : PySem.W.takesIn K (.builtin "object.__class__") = some true)
    (l5_BadNumber : PySem.W.mroIn K cBadNumber (.type "object") = some true)
    (l6_BadNumber : PySem.W.mroIn K cBadNumber (.type "BaseException") = some true)
    (l7_BadNumber : PySem.W.kitCls K (.ref cBadNumber) (.ref cBadNumber) = some true)
    (x_BadDomain : PySem.W.excIn K cBadDomain [.type "ValueError", .type "Exception", .type "BaseException", .type "object"] "ValueError.__new__" = true)
    (l0_BadDomain : PySem.W.findIn K (.ref cBadDomain) "__getattribute__" = some (some (.builtin "BaseException.__getattribute__")))
    (l1_BadDomain : PySem.W.findIn K (.ref cBadDomain) "__getattr__" = some none)
    (l2_BadDomain : PySem.W.findIn K (.ref cBadDomain) "__class__" = some (some (.builtin "object.__class__")))
    (l3_BadDomain : PySem.W.specialIn K (.builtin "object.__class__") "__get__" = some (some (.builtin "getset_descriptor.__get__")))
    (l4_BadDomain : PySem.W.takesIn K (.builtin "object.__class__") = some true)
    (l5_BadDomain : PySem.W.mroIn K cBadDomain (.type "object") = some true)
    (l6_BadDomain : PySem.W.mroIn K cBadDomain (.type "BaseException") = some true)
    (l7_BadDomain : PySem.W.kitCls K (.ref cBadDomain) (.ref cBadDomain) = some true)
    (pg_Numbers : PySem.W.plainGet K cNumbers Str.empty = true) (hd_Numbers : PySem.W.hasDictIn K cNumbers = true) (po_Numbers : PySem.W.plainOver K cNumbers = true) (sa_Numbers : PySem.W.findIn K (.ref cNumbers) "__setattr__" = some (some (.builtin "object.__setattr__")))
    (pg_Words : PySem.W.plainGet K cWords Str.empty = true) (hd_Words : PySem.W.hasDictIn K cWords = true) (po_Words : PySem.W.plainOver K cWords = true) (sa_Words : PySem.W.findIn K (.ref cWords) "__setattr__" = some (some (.builtin "object.__setattr__")))
    (ta_Numbers : PySem.W.findIn K (.ref cNumbers) "__class__" = some (some (.builtin "object.__class__"))) (tn_Numbers : PySem.W.specialIn K (.builtin "object.__class__") "__get__" = some (some (.builtin "getset_descriptor.__get__"))) (tt_Numbers : PySem.W.takesIn K (.builtin "object.__class__") = some true) (tm_Numbers : PySem.W.mroIn K cNumbers (.type "object") = some true)
    (ta_Words : PySem.W.findIn K (.ref cWords) "__class__" = some (some (.builtin "object.__class__"))) (tn_Words : PySem.W.specialIn K (.builtin "object.__class__") "__get__" = some (some (.builtin "getset_descriptor.__get__"))) (tt_Words : PySem.W.takesIn K (.builtin "object.__class__") = some true) (tm_Words : PySem.W.mroIn K cWords (.type "object") = some true)
    (na_Numbers_low : PySem.W.findIn K (.ref cNumbers) "low" = some none)
    (na_Numbers_high : PySem.W.findIn K (.ref cNumbers) "high" = some none)
    (na_Words_low : PySem.W.findIn K (.ref cWords) "low" = some none)
    (na_Words_high : PySem.W.findIn K (.ref cWords) "high" = some none)
    (na_Words_words : PySem.W.findIn K (.ref cWords) "words" = some none)
    (f_nn : PySem.W.kitOne K (.ref cNumbers) (.ref cNumbers) = some true)
    (f_wn : PySem.W.kitOne K (.ref cWords) (.ref cNumbers) = some false)
    (f_nw : PySem.W.kitOne K (.ref cNumbers) (.ref cWords) = some false)
    (f_ww : PySem.W.kitOne K (.ref cWords) (.ref cWords) = some true)
    (f_nd : PySem.W.kitOne K (.ref cNumbers) (.ref cDomain) = some true)
    (f_wd : PySem.W.kitOne K (.ref cWords) (.ref cDomain) = some true)
    (f_d0 : PySem.W.exmOne K (.ref cBadDomain) (.ref cTableError) = some true)
    (f_d1 : PySem.W.kitOne K (.ref cBadDomain) (.ref cBadDomain) = some true)
    (f_d2 : PySem.W.kitOne K (.ref cBadDomain) (.type "ValueError") = some true)
    (f_d3 : PySem.W.kitAny K (.ref cBadDomain) [.ref cBadNumber, .ref cBadName] = some false)
    : ∃ fd : FuncData, (∀ (s : Shared) (v : Value), BindsTo s fd ⟨[v], []⟩ [("script", v)]) ∧ ∀ base : Heap, K.In base → base.Ns mainGlobals mg → FnOk l.prog w K mg base CX0 8 fa fd ["script"] (sp_law K) := by
  have e := hfa.symm.trans (PySem.W.mg_of X G a25)
  cases e
  have F0 := fun_mk (st := s_all_among) l0 c0 k0
  have b0 := F0.binds (ps := ["text", "signs"]) fun _ _ _ _ _ _ us hl => match us, hl with | [_, _], _ => rfl
  have F1 := fun_mk (st := s_is_word) l1 c1 k1
  have b1 := F1.binds (ps := ["text"]) fun _ _ _ _ _ _ us hl => match us, hl with | [_], _ => rfl
  have F2 := fun_mk (st := s_is_number) l2 c2 k2
  have b2 := F2.binds (ps := ["text"]) fun _ _ _ _ _ _ us hl => match us, hl with | [_], _ => rfl
  have F3 := fun_mk (st := s_number_of) l3 c3 k3
  have b3 := F3.binds (ps := ["text"]) fun _ _ _ _ _ _ us hl => match us, hl with | [_], _ => rfl
  have F4 := fun_mk (st := s_number_text) l4 c4 k4
  have b4 := F4.binds (ps := ["number"]) fun _ _ _ _ _ _ us hl => match us, hl with | [_], _ => rfl
  have F5 := fun_mk (st := s_alike) l5 c5 k5
  have b5 := F5.binds (ps := ["one", "other"]) fun _ _ _ _ _ _ us hl => match us, hl with | [_, _], _ => rfl
  have F6 := fun_mk (st := s_read_domain) l6 c6 k6
  have b6 := F6.binds (ps := ["text"]) fun _ _ _ _ _ _ us hl => match us, hl with | [_], _ => rfl
  have F7 := fun_mk (st := s_read_numbers) l7 c7 k7
  have b7 := F7.binds (ps := ["text"]) fun _ _ _ _ _ _ us hl => match us, hl with | [_], _ => rfl
  have F8 := fun_mk (st := s_law_cell_at) l8 c8 k8
  have b8 := F8.binds (ps := ["script", "k"]) fun _ _ _ _ _ _ us hl => match us, hl with | [_, _], _ => rfl
  have F9 := fun_mk (st := s_law_number) l9 c9 k9
  have b9 := F9.binds (ps := ["text"]) fun _ _ _ _ _ _ us hl => match us, hl with | [_], _ => rfl
  have F10 := fun_mk (st := s_law_ends) l10 c10 k10
  have b10 := F10.binds (ps := ["cell"]) fun _ _ _ _ _ _ us hl => match us, hl with | [_], _ => rfl
  have F11 := fun_mk (st := s_law_read) l11 c11 k11
  have b11 := F11.binds (ps := ["text"]) fun _ _ _ _ _ _ us hl => match us, hl with | [_], _ => rfl
  have F12 := fun_mk (st := s_law_whole) l12 c12 k12
  have b12 := F12.binds (ps := ["found"]) fun _ _ _ _ _ _ us hl => match us, hl with | [_], _ => rfl
  have F13 := fun_mk (st := s_law_alike) l13 c13 k13
  have b13 := F13.binds (ps := ["one", "other", "due"]) fun _ _ _ _ _ _ us hl => match us, hl with | [_, _, _], _ => rfl
  have F14 := fun_mk (st := s_law_numbers_right) l14 c14 k14
  have b14 := F14.binds (ps := ["cell"]) fun _ _ _ _ _ _ us hl => match us, hl with | [_], _ => rfl
  have F15 := fun_mk (st := s_law_word) l15 c15 k15
  have b15 := F15.binds (ps := ["cell"]) fun _ _ _ _ _ _ us hl => match us, hl with | [_], _ => rfl
  have F16 := fun_mk (st := s_law_is_word) l16 c16 k16
  have b16 := F16.binds (ps := ["text"]) fun _ _ _ _ _ _ us hl => match us, hl with | [_], _ => rfl
  have F17 := fun_mk (st := s_law_good) l17 c17 k17
  have b17 := F17.binds (ps := ["words"]) fun _ _ _ _ _ _ us hl => match us, hl with | [_], _ => rfl
  have F18 := fun_mk (st := s_law_words_right) l18 c18 k18
  have b18 := F18.binds (ps := ["words", "text", "good"]) fun _ _ _ _ _ _ us hl => match us, hl with | [_, _, _], _ => rfl
  have F19 := fun_mk (st := s_Words_written_Words) l19 c19 k19
  have b19 := F19.binds (ps := ["self"]) fun _ _ _ _ _ _ us hl => match us, hl with | [_], _ => rfl
  have F20 := fun_mk (st := s_Words___init___Words) l20 c20 k20
  have b20 := F20.binds (ps := ["self", "words"]) fun _ _ _ _ _ _ us hl => match us, hl with | [_, _], _ => rfl
  have F21 := fun_mk (st := s_Domain___init___Words) l21 c21 k21
  have b21 := F21.binds (ps := ["self", "low", "high"]) fun _ _ _ _ _ _ us hl => match us, hl with | [_, _, _], _ => rfl
  have F22 := fun_mk (st := s_Numbers___init___Numbers) l22 c22 k22
  have b22 := F22.binds (ps := ["self", "low", "high"]) fun _ _ _ _ _ _ us hl => match us, hl with | [_, _, _], _ => rfl
  have F23 := fun_mk (st := s_Domain___init___Numbers) l23 c23 k23
  have b23 := F23.binds (ps := ["self", "low", "high"]) fun _ _ _ _ _ _ us hl => match us, hl with | [_, _, _], _ => rfl
  have F24 := fun_mk (st := s_Numbers_written_Numbers) l24 c24 k24
  have b24 := F24.binds (ps := ["self"]) fun _ _ _ _ _ _ us hl => match us, hl with | [_], _ => rfl
  have F25 := fun_mk (st := s_law) l25 c25 k25
  have b25 := F25.binds (ps := ["script"]) fun _ _ _ _ _ _ us hl => match us, hl with | [_], _ => rfl
  have bl : Bl K mg cTableError cBadNumber cBadName cBadDomain cDomain cNumbers cWords := ⟨PySem.W.mg_of X G n_TableError, n_TableError, PySem.W.mg_of X G n_BadNumber, n_BadNumber, PySem.W.mg_of X G n_BadName, n_BadName, PySem.W.mg_of X G n_BadDomain, n_BadDomain, PySem.W.mg_of X G n_Domain, n_Domain, PySem.W.mg_of X G n_Numbers, n_Numbers, PySem.W.mg_of X G n_Words, n_Words, ExcCls.value x_BadNumber, ⟨l0_BadNumber, l1_BadNumber, l2_BadNumber, l3_BadNumber, l4_BadNumber, l5_BadNumber, l6_BadNumber, l7_BadNumber⟩, ExcCls.value x_BadDomain, ⟨l0_BadDomain, l1_BadDomain, l2_BadDomain, l3_BadDomain, l4_BadDomain, l5_BadDomain, l6_BadDomain, l7_BadDomain⟩, ⟨pg_Numbers, hd_Numbers, po_Numbers, sa_Numbers⟩, ⟨pg_Words, hd_Words, po_Words, sa_Words⟩, ⟨⟨pg_Numbers, hd_Numbers, po_Numbers, sa_Numbers⟩, ta_Numbers, tn_Numbers, tt_Numbers, tm_Numbers⟩, ⟨⟨pg_Words, hd_Words, po_Words, sa_Words⟩, ta_Words, tn_Words, tt_Words, tm_Words⟩, na_Numbers_low, na_Numbers_high, na_Words_low, na_Words_high, na_Words_words, f_nn, f_wn, f_nw, f_ww, f_nd, f_wd, f_d0, f_d1, f_d2, f_d3, PySem.W.mg_none_of X G z0, PySem.W.mg_none_of X G z1, PySem.W.mg_none_of X G z2, PySem.W.mg_none_of X G z3, PySem.W.mg_none_of X G z4, PySem.W.mg_none_of X G z5, PySem.W.mg_none_of X G z6, PySem.W.mg_none_of X G z7, PySem.W.mg_none_of X G z8, PySem.W.mg_none_of X G z9, PySem.W.mg_none_of X G z10, ⟨_, PySem.W.mg_of X G y0, x0⟩, ⟨_, PySem.W.mg_of X G y1, x1⟩, ⟨_, PySem.W.mg_of X G y2, x2⟩, ⟨_, PySem.W.mg_of X G y3, x3⟩, ⟨_, PySem.W.mg_of X G y4, x4⟩⟩
  refine ⟨PySem.W.fnOf "law" "law" (defArgs s_law) (defBody s_law) (defScope s_law) .none kV25 dc25 pm25 an25 cd25 ct25, fun s v => .of_eq rfl, fun base _ _ => ?_⟩
  have O0 := ok_all_among (P := l.prog) (w := w) (base := base) F0 bl 
  have C_all_among : Callee l.prog w K mg base 1 "all_among" ["text", "signs"] (sp_all_among K cTableError cBadNumber cBadName cBadDomain cDomain cNumbers cWords) := ⟨_, _, O0, b0, k0, PySem.W.mg_of X G a0⟩
  have O4 := ok_number_text (P := l.prog) (w := w) (base := base) F4 bl 
  have C_number_text : Callee l.prog w K mg base 1 "number_text" ["number"] (sp_number_text K cTableError cBadNumber cBadName cBadDomain cDomain cNumbers cWords) := ⟨_, _, O4, b4, k4, PySem.W.mg_of X G a4⟩
  have O5 := ok_alike (P := l.prog) (w := w) (base := base) F5 bl 
  have C_alike : Callee l.prog w K mg base 1 "alike" ["one", "other"] (sp_alike K cTableError cBadNumber cBadName cBadDomain cDomain cNumbers cWords) := ⟨_, _, O5, b5, k5, PySem.W.mg_of X G a5⟩
  have O8 := ok_law_cell_at (P := l.prog) (w := w) (base := base) F8 bl 
  have C_law_cell_at : Callee l.prog w K mg base 1 "_law_cell_at" ["script", "k"] (sp_law_cell_at K cTableError cBadNumber cBadName cBadDomain cDomain cNumbers cWords) := ⟨_, _, O8, b8, k8, PySem.W.mg_of X G a8⟩
  have O9 := ok_law_number (P := l.prog) (w := w) (base := base) F9 bl 
  have C_law_number : Callee l.prog w K mg base 1 "_law_number" ["text"] (sp_law_number K cTableError cBadNumber cBadName cBadDomain cDomain cNumbers cWords) := ⟨_, _, O9, b9, k9, PySem.W.mg_of X G a9⟩
  have O10 := ok_law_ends (P := l.prog) (w := w) (base := base) F10 bl 
  have C_law_ends : Callee l.prog w K mg base 1 "_law_ends" ["cell"] (sp_law_ends K cTableError cBadNumber cBadName cBadDomain cDomain cNumbers cWords) := ⟨_, _, O10, b10, k10, PySem.W.mg_of X G a10⟩
  have O12 := ok_law_whole (P := l.prog) (w := w) (base := base) F12 bl 
  have C_law_whole : Callee l.prog w K mg base 1 "_law_whole" ["found"] (sp_law_whole K cTableError cBadNumber cBadName cBadDomain cDomain cNumbers cWords) := ⟨_, _, O12, b12, k12, PySem.W.mg_of X G a12⟩
  have O15 := ok_law_word (P := l.prog) (w := w) (base := base) F15 bl 
  have C_law_word : Callee l.prog w K mg base 1 "_law_word" ["cell"] (sp_law_word K cTableError cBadNumber cBadName cBadDomain cDomain cNumbers cWords) := ⟨_, _, O15, b15, k15, PySem.W.mg_of X G a15⟩
  have O16 := ok_law_is_word (P := l.prog) (w := w) (base := base) F16 bl 
  have C_law_is_word : Callee l.prog w K mg base 1 "_law_is_word" ["text"] (sp_law_is_word K cTableError cBadNumber cBadName cBadDomain cDomain cNumbers cWords) := ⟨_, _, O16, b16, k16, PySem.W.mg_of X G a16⟩
  have O19 := ok_Words_written_Words (P := l.prog) (w := w) (base := base) F19 bl 
  have M_Words_written_Words : MCallee CX0 l.prog w K mg base 1 cWords "written" ["self"] (sp_Words_written_Words K cTableError cBadNumber cBadName cBadDomain cDomain cNumbers cWords) := ⟨_, _, ⟨m19, mf19, k19⟩, O19, b19⟩
  have O21 := ok_Domain___init___Words (P := l.prog) (w := w) (base := base) F21 bl 
  have B_Domain___init___Words : BCallee CX0 l.prog w K mg base 1 "Domain" "__init__" ["self", "low", "high"] (sp_Domain___init___Words K cTableError cBadNumber cBadName cBadDomain cDomain cNumbers cWords) := ⟨_, _, _, ⟨b_s21, b_r21, b_a21, k21⟩, O21, b21, PySem.W.mg_of X G n_Domain⟩
  have O23 := ok_Domain___init___Numbers (P := l.prog) (w := w) (base := base) F23 bl 
  have B_Domain___init___Numbers : BCallee CX0 l.prog w K mg base 1 "Domain" "__init__" ["self", "low", "high"] (sp_Domain___init___Numbers K cTableError cBadNumber cBadName cBadDomain cDomain cNumbers cWords) := ⟨_, _, _, ⟨b_s23, b_r23, b_a23, k23⟩, O23, b23, PySem.W.mg_of X G n_Domain⟩
  have O1 := ok_is_word (P := l.prog) (w := w) (base := base) F1 bl (C_all_among.mono (by decide))
  have C_is_word : Callee l.prog w K mg base 2 "is_word" ["text"] (sp_is_word K cTableError cBadNumber cBadName cBadDomain cDomain cNumbers cWords) := ⟨_, _, O1, b1, k1, PySem.W.mg_of X G a1⟩
  have O2 := ok_is_number (P := l.prog) (w := w) (base := base) F2 bl (C_all_among.mono (by decide))
  have C_is_number : Callee l.prog w K mg base 2 "is_number" ["text"] (sp_is_number K cTableError cBadNumber cBadName cBadDomain cDomain cNumbers cWords) := ⟨_, _, O2, b2, k2, PySem.W.mg_of X G a2⟩
  have O13 := ok_law_alike (P := l.prog) (w := w) (base := base) F13 bl (C_alike.mono (by decide))
  have C_law_alike : Callee l.prog w K mg base 2 "_law_alike" ["one", "other", "due"] (sp_law_alike K cTableError cBadNumber cBadName cBadDomain cDomain cNumbers cWords) := ⟨_, _, O13, b13, k13, PySem.W.mg_of X G a13⟩
  have O17 := ok_law_good (P := l.prog) (w := w) (base := base) F17 bl (C_law_is_word.mono (by decide))
  have C_law_good : Callee l.prog w K mg base 2 "_law_good" ["words"] (sp_law_good K cTableError cBadNumber cBadName cBadDomain cDomain cNumbers cWords) := ⟨_, _, O17, b17, k17, PySem.W.mg_of X G a17⟩
  have O22 := ok_Numbers___init___Numbers (P := l.prog) (w := w) (base := base) F22 bl (B_Domain___init___Numbers.mono (by decide))
  have K_Numbers___init___Numbers : MkCallee (CX1 l.prog w) l.prog w K mg base 2 "Numbers" cNumbers ["self", "low", "high"] (sp_Numbers___init___Numbers K cTableError cBadNumber cBadName cBadDomain cDomain cNumbers cWords) := ⟨_, _, ⟨im22, i22, if22, ik22⟩, O22, b22, PySem.W.mg_of X G n_Numbers⟩
  have O24 := ok_Numbers_written_Numbers (P := l.prog) (w := w) (base := base) F24 bl (C_number_text.mono (by decide))
  have M_Numbers_written_Numbers : MCallee CX0 l.prog w K mg base 2 cNumbers "written" ["self"] (sp_Numbers_written_Numbers K cTableError cBadNumber cBadName cBadDomain cDomain cNumbers cWords) := ⟨_, _, ⟨m24, mf24, k24⟩, O24, b24⟩
  have O3 := ok_number_of (P := l.prog) (w := w) (base := base) F3 bl (C_is_number.mono (by decide))
  have C_number_of : CalleeX l.prog w K mg base 3 "number_of" ["text"] (sp_number_of K cTableError cBadNumber cBadName cBadDomain cDomain cNumbers cWords) := ⟨_, _, O3, b3, k3, PySem.W.mg_of X G a3⟩
  have O20 := ok_Words___init___Words (P := l.prog) (w := w) (base := base) F20 bl (B_Domain___init___Words.mono (by decide)) (C_is_word.mono (by decide))
  have K_Words___init___Words : MkCallee (CX1 l.prog w) l.prog w K mg base 3 "Words" cWords ["self", "words"] (sp_Words___init___Words K cTableError cBadNumber cBadName cBadDomain cDomain cNumbers cWords) := ⟨_, _, ⟨im20, i20, if20, ik20⟩, O20, b20, PySem.W.mg_of X G n_Words⟩
  have O7 := ok_read_numbers (P := l.prog) (w := w) (base := base) F7 bl (K_Numbers___init___Numbers.mono (by decide)) (C_number_of.mono (by decide)) (C_is_number.mono (by decide))
  have C_read_numbers : CalleeX l.prog w K mg base 4 "read_numbers" ["text"] (sp_read_numbers K cTableError cBadNumber cBadName cBadDomain cDomain cNumbers cWords) := ⟨_, _, O7, b7, k7, PySem.W.mg_of X G a7⟩
  have O6 := ok_read_domain (P := l.prog) (w := w) (base := base) F6 bl (K_Words___init___Words.mono (by decide)) (C_read_numbers.mono (by decide))
  have C_read_domain : CalleeX l.prog w K mg base 5 "read_domain" ["text"] (sp_read_domain K cTableError cBadNumber cBadName cBadDomain cDomain cNumbers cWords) := ⟨_, _, O6, b6, k6, PySem.W.mg_of X G a6⟩
  have O11 := ok_law_read (P := l.prog) (w := w) (base := base) F11 bl (C_read_domain.mono (by decide))
  have C_law_read : Callee l.prog w K mg base 6 "_law_read" ["text"] (sp_law_read K cTableError cBadNumber cBadName cBadDomain cDomain cNumbers cWords) := ⟨_, _, O11, b11, k11, PySem.W.mg_of X G a11⟩
  have O14 := ok_law_numbers_right (P := l.prog) (w := w) (base := base) F14 bl (C_law_ends.mono (by decide)) (C_law_number.mono (by decide)) (C_law_read.mono (by decide)) (C_law_alike.mono (by decide)) (C_law_whole.mono (by decide)) (M_Numbers_written_Numbers.mono (by decide)) (K_Numbers___init___Numbers.mono (by decide)) (K_Words___init___Words.mono (by decide))
  have C_law_numbers_right : Callee l.prog w K mg base 7 "_law_numbers_right" ["cell"] (sp_law_numbers_right K cTableError cBadNumber cBadName cBadDomain cDomain cNumbers cWords) := ⟨_, _, O14, b14, k14, PySem.W.mg_of X G a14⟩
  have O18 := ok_law_words_right (P := l.prog) (w := w) (base := base) F18 bl (C_law_read.mono (by decide)) (C_law_alike.mono (by decide)) (M_Words_written_Words.mono (by decide)) (K_Words___init___Words.mono (by decide)) (K_Numbers___init___Numbers.mono (by decide))
  have C_law_words_right : Callee l.prog w K mg base 7 "_law_words_right" ["words", "text", "good"] (sp_law_words_right K cTableError cBadNumber cBadName cBadDomain cDomain cNumbers cWords) := ⟨_, _, O18, b18, k18, PySem.W.mg_of X G a18⟩
  exact ok_law F25 bl (C_law_cell_at.mono (by decide)) (C_law_good.mono (by decide)) (C_law_words_right.mono (by decide)) (C_law_word.mono (by decide)) (C_law_numbers_right.mono (by decide))
theorem walk {l : PySem.W.OpenLaw} {q : Program} {loose : List Str} {XP : (Str → Option Value) → Heap → Prop} {YP : World → Heap → Prop} {d : DefRec} {K : Params → PySem.W.Frag} (hn : l.most = some 63) (hdf : d.params.defaults = [])
    (hY : ∀ (w : World) (h : Heap), YP w h → (K w.params).In h)
    (F : ∀ (w : World) (mg : Str → Option Value) (fa : Addr) (h : Heap), (K w.params).In h → h.Ns mainGlobals mg → mg d.name = some (.ref fa) →
      ∃ fd : FuncData, (∀ (s : Shared) (u : Value), BindsTo s fd ⟨[u], []⟩ [("script", u)]) ∧ ∀ base : Heap, (K w.params).In base → base.Ns mainGlobals mg → FnOk l.prog w (K w.params) mg base CX0 8 fa fd ["script"] (sp_law (K w.params))) :
    PySem.W.WalkO q loose XP YP l.row.toRowW d [] (fun f vs => PySem.call f vs) :=
  L2.walk_ofB (n := 63) (k := 8) (x := "script") (CX := fun _ => CX0) (sp := fun w => sp_law (K w.params)) hn (by decide) hdf ⟨rfl, by decide, by decide⟩ hY F (fun _ _ a ns hl hb _ hS => ⟨a, ns, rfl, hS, hl, hb, fun _ => rfl⟩) fun _ _ _ _ _ z => z
end My
def PySem.W.Fast.tw12612605992035357706 : Unit := ()
def PySem.W.Fast.tw5565776580737918016 : Unit := ()
def PySem.W.Fast.tw8789695977033354838 : Unit := ()
def PySem.W.Fast.tw7825811961150371154 : Unit := ()
def PySem.W.Fast.tw8436637051552938237 : Unit := ()
def PySem.W.Fast.tw2273676950876587985 : Unit := ()
def PySem.W.Fast.tw756973319283555259 : Unit := ()
def PySem.W.Fast.tw7118778847648015415 : Unit := ()
def PySem.W.Fast.tw10252205844239374368 : Unit := ()
def PySem.W.Fast.tw5523755282701831043 : Unit := ()
def PySem.W.Fast.tw14167016111983497055 : Unit := ()
def PySem.W.Fast.tw3999991443050728403 : Unit := ()
def PySem.W.Fast.tw11925218844356228101 : Unit := ()
def PySem.W.Fast.tw5332566194218262362 : Unit := ()
def PySem.W.Fast.tw3148373385377499597 : Unit := ()
def PySem.W.Fast.tw3681167700087011613 : Unit := ()
def PySem.W.Fast.tw8123482573783478531 : Unit := ()
def PySem.W.Fast.tw15352599205246793177 : Unit := ()
def PySem.W.Fast.tw15552563726995088602 : Unit := ()
def PySem.W.Fast.tw10962975417031158804 : Unit := ()
def PySem.W.Fast.tw1463996197801369684 : Unit := ()
def PySem.W.Fast.tw3981941815242149256 : Unit := ()
def PySem.W.Fast.tw18004555565782130626 : Unit := ()
def PySem.W.Fast.tw8026642404215378726 : Unit := ()
def PySem.W.Fast.tw10747473518381755339 : Unit := ()
def PySem.W.Fast.tw17998212094757772604 : Unit := ()
def PySem.W.Fast.tw2664028233194396211 : Unit := ()
def PySem.W.Fast.tw3479099004768600943 : Unit := ()
def PySem.W.Fast.tw14730877931607910985 : Unit := ()
def PySem.W.Fast.tw9934884128118026624 : Unit := ()
def PySem.W.Fast.tw5826456727234306822 : Unit := ()
def PySem.W.Fast.tw11901908922881415836 : Unit := ()
def PySem.W.Fast.tw8062124108335989085 : Unit := ()
def PySem.W.Fast.tw370838706798598288 : Unit := ()
def PySem.W.Fast.tw18264850721852443269 : Unit := ()
def PySem.W.Fast.tw15452837223204265754 : Unit := ()
def PySem.W.Fast.tw891146485231357547 : Unit := ()
def PySem.W.Fast.tw12193924190396023241 : Unit := ()
def PySem.W.Fast.tw13356552914043574324 : Unit := ()
def PySem.W.Fast.tw7966177098376235173 : Unit := ()
def PySem.W.Fast.tw13310806272924204705 : Unit := ()
def PySem.W.Fast.tw14890892928778968090 : Unit := ()
def PySem.W.Fast.tw895195025464343446 : Unit := ()
def PySem.W.Fast.tw709214469403238323 : Unit := ()
def PySem.W.Fast.tw1164155200483180972 : Unit := ()
def PySem.W.Fast.tw1039063318216342752 : Unit := ()
def PySem.W.Fast.tw9190807073062427989 : Unit := ()
def PySem.W.Fast.tw3047662257411746139 : Unit := ()
def PySem.W.Fast.tw1486357448620753574 : Unit := ()
def PySem.W.Fast.tw2321858718472954359 : Unit := ()
def PySem.W.Fast.tw8547464179265500370 : Unit := ()
def PySem.W.Fast.tw17642398283268044172 : Unit := ()
def PySem.W.Fast.tw4863621920779882224 : Unit := ()
def PySem.W.Fast.tw13176244996287428948 : Unit := ()
def PySem.W.Fast.tw8952366490093028238 : Unit := ()
def PySem.W.Fast.tw13581587481396150841 : Unit := ()
def PySem.W.Fast.tw17154061161349548107 : Unit := ()
def PySem.W.Fast.tw15351975594798123984 : Unit := ()
def PySem.W.Fast.tw4428763280478658013 : Unit := ()
def PySem.W.Fast.tw594504282041795808 : Unit := ()
def PySem.W.Fast.tw130159847711506454 : Unit := ()
def PySem.W.Fast.tw12557371729116668545 : Unit := ()
def PySem.W.Fast.tw7221066678956079989 : Unit := ()
def PySem.W.Fast.tw16847339117616642871 : Unit := ()
def PySem.W.Fast.tw11741003488000546878 : Unit := ()
def PySem.W.Fast.tw15547838496461539157 : Unit := ()
def PySem.W.Fast.tw18065984571937471644 : Unit := ()
def PySem.W.Fast.tw7418916442338622494 : Unit := ()
def PySem.W.Fast.tw9470639275572858335 : Unit := ()
def PySem.W.Fast.tw5033964610183159989 : Unit := ()
def PySem.W.Fast.tw13484411994966854545 : Unit := ()
def PySem.W.Fast.tw11471575136055847092 : Unit := ()
def PySem.W.Fast.tw12544189722336991292 : Unit := ()
def PySem.W.Fast.tw1586801017849655871 : Unit := ()
def PySem.W.Fast.tw13211462082314044374 : Unit := ()
def PySem.W.Fast.tw7372475626169988404 : Unit := ()
def PySem.W.Fast.tw159077270553196697 : Unit := ()
def PySem.W.Fast.tw3698010279345604395 : Unit := ()
def PySem.W.Fast.tw8623427859697690655 : Unit := ()
def PySem.W.Fast.tw17785161138118409041 : Unit := ()
def PySem.W.Fast.tw5970683763295831390 : Unit := ()
def PySem.W.Fast.tw8745231979161095075 : Unit := ()
def PySem.W.Fast.tw7919639004514720688 : Unit := ()
def PySem.W.Fast.tw10252446301254640135 : Unit := ()
def PySem.W.Fast.tw13947432395321990361 : Unit := ()
def PySem.W.Fast.tw10080939576718207349 : Unit := ()
def PySem.W.Fast.tw15645796010269163276 : Unit := ()
def PySem.W.Fast.tw7577356173107649839 : Unit := ()
def PySem.W.Fast.tw6692261092212410400 : Unit := ()
def PySem.W.Fast.tw715510641581794248 : Unit := ()
def PySem.W.Fast.tw16358082750734345154 : Unit := ()
def PySem.W.Fast.tw2229025473173068726 : Unit := ()
def PySem.W.Fast.tw8106074199162095466 : Unit := ()
def PySem.W.Fast.tw1414503971433537794 : Unit := ()
def PySem.W.Fast.tw947508409221332223 : Unit := ()
def PySem.W.Fast.tw7935084478093251318 : Unit := ()
def PySem.W.Fast.tw18205885831338473206 : Unit := ()
def PySem.W.Fast.tw3045178100570152123 : Unit := ()
def PySem.W.Fast.tw9309054650910060260 : Unit := ()
def PySem.W.Fast.tw3193350817160823502 : Unit := ()
def PySem.W.Fast.tw13632854014972016533 : Unit := ()
def PySem.W.Fast.tw1369388658589680355 : Unit := ()
def PySem.W.Fast.tw3622481144856518645 : Unit := ()
def PySem.W.Fast.tw5851622225970996462 : Unit := ()
def PySem.W.Fast.tw3341355423296336057 : Unit := ()
def PySem.W.Fast.tw17237045691927865481 : Unit := ()
def PySem.W.Fast.tw11408097679379570307 : Unit := ()
def PySem.W.Fast.tw5069440840043855028 : Unit := ()
def PySem.W.Fast.tw10458164575800105492 : Unit := ()
def PySem.W.Fast.tw8164187961642663778 : Unit := ()
def PySem.W.Fast.tw9856558543686638983 : Unit := ()
def PySem.W.Fast.tw17219322390980873485 : Unit := ()
def PySem.W.Fast.tw3827117837491470400 : Unit := ()
def PySem.W.Fast.tw7897373081349696455 : Unit := ()
def PySem.W.Fast.tw3052194223472659318 : Unit := ()
def PySem.W.Fast.tw590945381104647450 : Unit := ()
def PySem.W.Fast.tw7759976231605393496 : Unit := ()
def PySem.W.Fast.tw16797909118916658412 : Unit := ()
def PySem.W.Fast.tw13821910235810746143 : Unit := ()
def PySem.W.Fast.tw12728858258307319886 : Unit := ()
def PySem.W.Fast.tw1649723371275558747 : Unit := ()
def PySem.W.Fast.tw8449225119902878280 : Unit := ()
def PySem.W.Fast.tw12775586800776891188 : Unit := ()
def PySem.W.Fast.tw12856806047121402829 : Unit := ()
def PySem.W.Fast.tw4292300245127208363 : Unit := ()
def PySem.W.Fast.tw14522122691735524547 : Unit := ()
def PySem.W.Fast.tw9715792627529044634 : Unit := ()
def PySem.W.Fast.tw2585751891616178757 : Unit := ()
def PySem.W.Fast.tw16951187695168596725 : Unit := ()
def PySem.W.Fast.tw14791767383485857812 : Unit := ()
def PySem.W.Fast.tw8520781481644626933 : Unit := ()
def PySem.W.Fast.tw4784192446131002738 : Unit := ()
def PySem.W.Fast.tw16184784785689599986 : Unit := ()
def PySem.W.Fast.tw2768545651887505429 : Unit := ()
def PySem.W.Fast.tw8202986508357390786 : Unit := ()
def PySem.W.Fast.tw17547259391665959328 : Unit := ()
def PySem.W.Fast.tw14788398864086136504 : Unit := ()
def PySem.W.Fast.tw2088487615419704583 : Unit := ()
def PySem.W.Fast.tw3452785565251038113 : Unit := ()
def PySem.W.Fast.tw14084771326622913981 : Unit := ()
def PySem.W.Fast.tw17968122462865471994 : Unit := ()
def PySem.W.Fast.tw5276206689668446301 : Unit := ()
def PySem.W.Fast.tw10948334559608151816 : Unit := ()
def PySem.W.Fast.tw10683123870999290776 : Unit := ()
def PySem.W.Fast.tw1486414810153316611 : Unit := ()
def PySem.W.Fast.tw8543995154393226573 : Unit := ()
def PySem.W.Fast.tw14697839632370453317 : Unit := ()
def PySem.W.Fast.tw12211115093645699633 : Unit := ()
def PySem.W.Fast.tw1405344747668607988 : Unit := ()
def PySem.W.Fast.tw1263552899451371377 : Unit := ()
def PySem.W.Fast.tw6885744084620253780 : Unit := ()
def PySem.W.Fast.tw17634175443957381168 : Unit := ()
def PySem.W.Fast.tw17099946842264154370 : Unit := ()
def PySem.W.Fast.tw2509125775803720799 : Unit := ()
def PySem.W.Fast.tw14496402126656597670 : Unit := ()
def PySem.W.Fast.tw16775376894898797933 : Unit := ()
def PySem.W.Fast.tw10636284293956564866 : Unit := ()
def PySem.W.Fast.tw15832235782674679439 : Unit := ()
def PySem.W.Fast.tw13660269199238600969 : Unit := ()
def PySem.W.Fast.tw2641764203003946373 : Unit := ()
def PySem.W.Fast.tw15247665551875822706 : Unit := ()
def PySem.W.Fast.tw11311977430938343243 : Unit := ()
def PySem.W.Fast.tw6627561469326461314 : Unit := ()
def PySem.W.Fast.tw2848225194117013730 : Unit := ()
def PySem.W.Fast.tw14373595813390792061 : Unit := ()
def PySem.W.Fast.tw8339914793935315690 : Unit := ()
def PySem.W.Fast.tw7588220427715902592 : Unit := ()
def PySem.W.Fast.tw12771576939948574275 : Unit := ()
def PySem.W.Fast.tw14493197729906838911 : Unit := ()
def PySem.W.Fast.tw16274118174022976238 : Unit := ()
def PySem.W.Fast.tw1512209331404482246 : Unit := ()
def PySem.W.Fast.tw5300506992678211671 : Unit := ()
def PySem.W.Fast.tw16045364914168670503 : Unit := ()
def PySem.W.Fast.tw6715373206296765773 : Unit := ()
def PySem.W.Fast.tw4816208440205452067 : Unit := ()
def PySem.W.Fast.tw17700408894647009733 : Unit := ()
def PySem.W.Fast.tw6446238982109942851 : Unit := ()
def PySem.W.Fast.tw8333185258810073105 : Unit := ()
def PySem.W.Fast.tw5963771201562849789 : Unit := ()
def PySem.W.Fast.tw6118251069772506069 : Unit := ()
def PySem.W.Fast.tw1086926323458894214 : Unit := ()
def PySem.W.Fast.tw5124172195244654173 : Unit := ()
def PySem.W.Fast.tw927424904238774566 : Unit := ()
def PySem.W.Fast.tw9854023331774584334 : Unit := ()
def PySem.W.Fast.tw13663290084526033952 : Unit := ()
def PySem.W.Fast.tw16255743203862295331 : Unit := ()
def PySem.W.Fast.tw424171684200919224 : Unit := ()
def PySem.W.Fast.tw9086825076475447617 : Unit := ()
def PySem.W.Fast.tw11235389427631208124 : Unit := ()
def PySem.W.Fast.tw7859337287305874591 : Unit := ()
def PySem.W.Fast.tw10034814761021881933 : Unit := ()
def PySem.W.Fast.tw8784786331531341272 : Unit := ()
def PySem.W.Fast.tw11061906525048317835 : Unit := ()
def PySem.W.Fast.tw18366608864665121517 : Unit := ()
def PySem.W.Fast.tw5065605516342559008 : Unit := ()
def PySem.W.Fast.tw8137862439923160365 : Unit := ()
def PySem.W.Fast.tw4476391954204811062 : Unit := ()
def PySem.W.Fast.tw9437141227707450015 : Unit := ()
def PySem.W.Fast.tw11112884972449397691 : Unit := ()
def PySem.W.Fast.tw80660073862293084 : Unit := ()
def PySem.W.Fast.tw1965849265402929011 : Unit := ()
def PySem.W.Fast.tw3216431198497213388 : Unit := ()
def PySem.W.Fast.tw7820469304843455103 : Unit := ()
def PySem.W.Fast.tw11616750091928822748 : Unit := ()
def PySem.W.Fast.tw4628771591630210740 : Unit := ()
def PySem.W.Fast.tw2628604671747910960 : Unit := ()
def PySem.W.Fast.tw13679769404776854037 : Unit := ()
def PySem.W.Fast.tw13934888188944350410 : Unit := ()
def PySem.W.Fast.tw2573615019605797346 : Unit := ()
def PySem.W.Fast.tw3035980622820737114 : Unit := ()
def PySem.W.Fast.tw10131863017491026698 : Unit := ()
def PySem.W.Fast.tw16280383814625498051 : Unit := ()
def PySem.W.Fast.tw9309258794598146765 : Unit := ()
def PySem.W.Fast.tw15149458367502319039 : Unit := ()
def PySem.W.Fast.tw15399530062702054874 : Unit := ()
def PySem.W.Fast.tw17508903422308459308 : Unit := ()
def PySem.W.Fast.tw4877894972901915828 : Unit := ()
def PySem.W.Fast.tw14164336460299188862 : Unit := ()
def PySem.W.Fast.tw2717653608168498569 : Unit := ()
def PySem.W.Fast.tw11591102258012799307 : Unit := ()
def PySem.W.Fast.tw16507188102211802546 : Unit := ()
def PySem.W.Fast.tw13660124228892381001 : Unit := ()
def PySem.W.Fast.tw15061336952245863308 : Unit := ()
def PySem.W.Fast.tw11330325144981033478 : Unit := ()
def PySem.W.Fast.tw8717039762830727209 : Unit := ()
def PySem.W.Fast.tw13647630127865307844 : Unit := ()
def PySem.W.Fast.tw980636316965941333 : Unit := ()
def PySem.W.Fast.tw14765833501407524841 : Unit := ()
def PySem.W.Fast.tw5556371235845589964 : Unit := ()
def PySem.W.Fast.tw17587664336843564387 : Unit := ()
def PySem.W.Fast.tw8501644115075000057 : Unit := ()
def PySem.W.Fast.tw4013223535665355369 : Unit := ()
def PySem.W.Fast.tw5150085053993213164 : Unit := ()
def PySem.W.Fast.tw12021679385014244768 : Unit := ()
def PySem.W.Fast.tw4841105471477681668 : Unit := ()
def PySem.W.Fast.tw2264804266874779354 : Unit := ()
def PySem.W.Fast.tw2158663009910535431 : Unit := ()
def PySem.W.Fast.tw10034135448385704941 : Unit := ()
def PySem.W.Fast.tw9217593677828761159 : Unit := ()
def PySem.W.Fast.tw9345024281121898317 : Unit := ()
def PySem.W.Fast.tw15001872516358154289 : Unit := ()
def PySem.W.Fast.tw8183808130681483953 : Unit := ()
def PySem.W.Fast.tw13629574805340447124 : Unit := ()
def PySem.W.Fast.tw13902275747261052556 : Unit := ()
def PySem.W.Fast.tw16265733836890744785 : Unit := ()
def PySem.W.Fast.tw76060108685294564 : Unit := ()
def PySem.W.Fast.tw7720923047837112070 : Unit := ()
def PySem.W.Fast.tw685392676025759279 : Unit := ()
def PySem.W.Fast.tw14015463633371489578 : Unit := ()
def PySem.W.Fast.tw13036395969818864607 : Unit := ()
def PySem.W.Fast.tw11953008395219819365 : Unit := ()
def PySem.W.Fast.tw10146961286355712604 : Unit := ()
def PySem.W.Fast.tw4925276945874849406 : Unit := ()
def PySem.W.Fast.tw5765177301514722839 : Unit := ()
def PySem.W.Fast.tw2391572288851566259 : Unit := ()
def PySem.W.Fast.tw254103471873954728 : Unit := ()
def PySem.W.Fast.tw13780656526443072380 : Unit := ()
def PySem.W.Fast.tw3303934110878247701 : Unit := ()
def PySem.W.Fast.tw16404834100155908500 : Unit := ()
def PySem.W.Fast.tw18190370125382205412 : Unit := ()
def PySem.W.Fast.tw3741363742694282116 : Unit := ()
def PySem.W.Fast.tw18206816612547273496 : Unit := ()
def PySem.W.Fast.tw14525759350457504793 : Unit := ()
def PySem.W.Fast.tw3040616579729663308 : Unit := ()
def PySem.W.Fast.tw13447125805994598612 : Unit := ()
def PySem.W.Fast.tw13923579194669879930 : Unit := ()
def PySem.W.Fast.tw17197825214787490348 : Unit := ()
def PySem.W.Fast.tw10163986964361802193 : Unit := ()
def PySem.W.Fast.tw12236699805562732324 : Unit := ()
def PySem.W.Fast.tw8583399612717265495 : Unit := ()
def PySem.W.Fast.tw10794489272068625922 : Unit := ()
def PySem.W.Fast.tw9304301678943663169 : Unit := ()
def PySem.W.Fast.tw9930167555545260128 : Unit := ()
def PySem.W.Fast.tw13479177256862080790 : Unit := ()
def PySem.W.Fast.tw12305157668947507338 : Unit := ()
def PySem.W.Fast.tw10646948138424180009 : Unit := ()
def PySem.W.Fast.tw3535183287486880413 : Unit := ()
def PySem.W.Fast.tw206563152913013816 : Unit := ()
def PySem.W.Fast.tw13824212972367983823 : Unit := ()
def PySem.W.Fast.tw15732730740167629711 : Unit := ()
def PySem.W.Fast.tw6752467735878183526 : Unit := ()
def PySem.W.Fast.tw17510332172546688673 : Unit := ()
def PySem.W.Fast.tw4102776937994658208 : Unit := ()
def PySem.W.Fast.tw6309079217686177045 : Unit := ()
def PySem.W.Fast.tw3397440010211644876 : Unit := ()
def PySem.W.Fast.tw17358308428965130012 : Unit := ()
def PySem.W.Fast.tw7150672370071854673 : Unit := ()
def PySem.W.Fast.tw815859158951431005 : Unit := ()
def PySem.W.Fast.tw1928094129708851534 : Unit := ()
def PySem.W.Fast.tw9832198609609917154 : Unit := ()
def PySem.W.Fast.tw13157070667173903195 : Unit := ()
def PySem.W.Fast.tw16960167616607125899 : Unit := ()
def PySem.W.Fast.tw8232028822224791141 : Unit := ()
def PySem.W.Fast.tw12675182041648963647 : Unit := ()
def PySem.W.Fast.tw5896532829543697460 : Unit := ()
def PySem.W.Fast.tw3337614452699930072 : Unit := ()
def PySem.W.Fast.tw12827438317163261884 : Unit := ()
def PySem.W.Fast.tw10522104275284979351 : Unit := ()
def PySem.W.Fast.tw3581347797116440725 : Unit := ()
def PySem.W.Fast.tw8060835125038977403 : Unit := ()
def PySem.W.Fast.tw17571173331024897845 : Unit := ()
def PySem.W.Fast.tw10222592016644167836 : Unit := ()
def PySem.W.Fast.tw13693129108861273238 : Unit := ()
def PySem.W.Fast.tw9027446574136441546 : Unit := ()
def PySem.W.Fast.tw4830939262543757428 : Unit := ()
def PySem.W.Fast.tw12973085243970510496 : Unit := ()
def PySem.W.Fast.tw1047085114980395882 : Unit := ()
def PySem.W.Fast.tw1976961307588551902 : Unit := ()
def PySem.W.Fast.tw1036276011689357673 : Unit := ()
def PySem.W.Fast.tw9514680665481024541 : Unit := ()
def PySem.W.Fast.tw4988066727434114325 : Unit := ()
def PySem.W.Fast.tw9803902086504768252 : Unit := ()
def PySem.W.Fast.tw17083112841174709225 : Unit := ()
def PySem.W.Fast.tw3574668868363397149 : Unit := ()
def PySem.W.Fast.tw12579450474083715072 : Unit := ()
def PySem.W.Fast.tw13184841109177930158 : Unit := ()
def PySem.W.Fast.tw10688568246957315188 : Unit := ()
def PySem.W.Fast.tw11200214438356670548 : Unit := ()
def PySem.W.Fast.tw15611831879093054252 : Unit := ()
def PySem.W.Fast.tw2689519559367811511 : Unit := ()
def PySem.W.Fast.tw18420955279954960455 : Unit := ()
def PySem.W.Fast.tw13948361094553517402 : Unit := ()
def PySem.W.Fast.tw1755889004504263578 : Unit := ()
def PySem.W.Fast.tw17172128210407910589 : Unit := ()
def PySem.W.Fast.tw13289605359108599574 : Unit := ()
def PySem.W.Fast.tw14032320526735411324 : Unit := ()
def PySem.W.Fast.tw4201729329105943012 : Unit := ()
def PySem.W.Fast.tw9015679748431684027 : Unit := ()
def PySem.W.Fast.tw11833519005168292614 : Unit := ()
def PySem.W.Fast.tw4812269532339027588 : Unit := ()
def PySem.W.Fast.tw16204872442863043497 : Unit := ()
def PySem.W.Fast.tw14029838852922955656 : Unit := ()
def PySem.W.Fast.tw15553108774925198667 : Unit := ()
def PySem.W.Fast.tw15708705332923010279 : Unit := ()
def PySem.W.Fast.tw1355440924917066386 : Unit := ()
def PySem.W.Fast.tw14838479873937443117 : Unit := ()
def PySem.W.Fast.tw8055081652080101897 : Unit := ()
def PySem.W.Fast.tw3584124514902072118 : Unit := ()
def PySem.W.Fast.tw14375007267350186811 : Unit := ()
def PySem.W.Fast.tw7486516214422630321 : Unit := ()
def PySem.W.Fast.tw1686693411270030452 : Unit := ()
def PySem.W.Fast.tw10070354185546263981 : Unit := ()
def PySem.W.Fast.tw11779181493469666763 : Unit := ()
def PySem.W.Fast.tw921947235657582376 : Unit := ()
def PySem.W.Fast.tw13844038275623581442 : Unit := ()
def PySem.W.Fast.tw6388157206594325833 : Unit := ()
def PySem.W.Fast.tw4450664963923168024 : Unit := ()
def PySem.W.Fast.tw9852912557150809007 : Unit := ()
def PySem.W.Fast.tw18310288961626085622 : Unit := ()
def PySem.W.Fast.tw7922352816700880223 : Unit := ()
def PySem.W.Fast.tw5872385895707444878 : Unit := ()
def PySem.W.Fast.tw18445827283250709325 : Unit := ()
def PySem.W.Fast.tw17746550886779608428 : Unit := ()
def PySem.W.Fast.tw14184318991034293622 : Unit := ()
def PySem.W.Fast.tw15903390117652645060 : Unit := ()
def PySem.W.Fast.tw9186118262957896999 : Unit := ()
def PySem.W.Fast.tw11579466593554101651 : Unit := ()
def PySem.W.Fast.tw15908300568896790580 : Unit := ()
def PySem.W.Fast.tw9846659805718460507 : Unit := ()
def PySem.W.Fast.tw1716247449478792193 : Unit := ()
def PySem.W.Fast.tw2199267899297257888 : Unit := ()
def PySem.W.Fast.tw14862532386779492602 : Unit := ()
def PySem.W.Fast.tw5763843155019372540 : Unit := ()
def PySem.W.Fast.tw11780032457076450003 : Unit := ()
def PySem.W.Fast.tw9104249614390571828 : Unit := ()
def PySem.W.Fast.tw12454251426563269663 : Unit := ()
def PySem.W.Fast.tw12025640285090436712 : Unit := ()
def PySem.W.Fast.tw15854547126682359611 : Unit := ()
def PySem.W.Fast.tw17033669896956506361 : Unit := ()
def PySem.W.Fast.tw12914197349704943962 : Unit := ()
def PySem.W.Fast.tw1603187627891432163 : Unit := ()
def PySem.W.Fast.tw558034216279520201 : Unit := ()
def PySem.W.Fast.tw1330427818189095322 : Unit := ()
def PySem.W.Fast.tw5908878513017830266 : Unit := ()
def PySem.W.Fast.tw10523884848741990885 : Unit := ()
def PySem.W.Fast.tw1167865226864321503 : Unit := ()
def PySem.W.Fast.tw15536446490166037551 : Unit := ()
def PySem.W.Fast.tw12925426487959905072 : Unit := ()
def PySem.W.Fast.tw16401985188025968709 : Unit := ()
def PySem.W.Fast.tw667015932109594931 : Unit := ()
def PySem.W.Fast.tw1112073100216173162 : Unit := ()
def PySem.W.Fast.tw961962639058770496 : Unit := ()
def PySem.W.Fast.tw6321405097964587692 : Unit := ()
def PySem.W.Fast.tw1423425414697587453 : Unit := ()
def PySem.W.Fast.tw9896460521224294053 : Unit := ()
def PySem.W.Fast.tw2312716883747826433 : Unit := ()
def PySem.W.Fast.tw14051634711174645425 : Unit := ()
def PySem.W.Fast.tw5689820435263427555 : Unit := ()
def PySem.W.Fast.tw14302238104315110582 : Unit := ()
def PySem.W.Fast.tw9418963049752404770 : Unit := ()
def PySem.W.Fast.tw14622925976180507758 : Unit := ()
def PySem.W.Fast.tw11679096462344492869 : Unit := ()
def PySem.W.Fast.tw15621451650555062785 : Unit := ()
def PySem.W.Fast.tw14426994645011131674 : Unit := ()
def PySem.W.Fast.tw4197315313193772242 : Unit := ()
def PySem.W.Fast.tw7587971338482502905 : Unit := ()
def PySem.W.Fast.tw4371517923323686548 : Unit := ()
def PySem.W.Fast.tw5418161758248886426 : Unit := ()
def PySem.W.Fast.tw15980609243608340553 : Unit := ()
def PySem.W.Fast.tw3395101888874340173 : Unit := ()
def PySem.W.Fast.tw11155753951819960898 : Unit := ()
def PySem.W.Fast.tw7594775612640137117 : Unit := ()
def PySem.W.Fast.tw10071464343505932837 : Unit := ()
def PySem.W.Fast.tw2782442424776430464 : Unit := ()
def PySem.W.Fast.tw3596920928557292634 : Unit := ()
def PySem.W.Fast.tw10732076979750108029 : Unit := ()
def PySem.W.Fast.tw15042958196203042030 : Unit := ()
def PySem.W.Fast.tw4681803301916435500 : Unit := ()
def PySem.W.Fast.tw7599320682697866635 : Unit := ()
def PySem.W.Fast.tw3438578034526317360 : Unit := ()
def PySem.W.Fast.tw8120880652420744586 : Unit := ()
def PySem.W.Fast.tw10909454348281242528 : Unit := ()
def PySem.W.Fast.tw17390040441156509799 : Unit := ()
def PySem.W.Fast.tw12377046576761282807 : Unit := ()
def PySem.W.Fast.tw7059671420837028761 : Unit := ()
def PySem.W.Fast.tw9569197118725804586 : Unit := ()
def PySem.W.Fast.tw5639766538760402004 : Unit := ()
def PySem.W.Fast.tw7035321103686385188 : Unit := ()
def PySem.W.Fast.tw15609787824901751743 : Unit := ()
def PySem.W.Fast.tw16908428943260123001 : Unit := ()
def PySem.W.Fast.tw1698167515098991064 : Unit := ()
def PySem.W.Fast.tw10124436975755190044 : Unit := ()
def PySem.W.Fast.tw3728023393826840825 : Unit := ()
def PySem.W.Fast.tw8365707495089624545 : Unit := ()
def PySem.W.Fast.tw8205461874502677563 : Unit := ()
open PySem PySem.W PyProof.Rows
set_option maxRecDepth 100000 in
set_option maxHeartbeats 0 in
theorem PySem.Challenge.cw_rowjudge_k16_domains_read_holds : PySem.Challenge.rw_rowjudge_k16_domains_read.Holds := by
  w_on; o_law; k_head; (case hw => w_witness2)
  k_fill
  refine My.walk (l := PySem.Challenge.rw_rowjudge_k16_domains_read) rfl rfl (fun w h Y => PySem.W.kIn_of Y) ?F
  case F =>
    intro w mg fa h KX G hmg
    refine' My.all_mk KX G hmg ?n_TableError ?n_BadNumber ?n_BadName ?n_BadDomain ?n_Domain ?n_Numbers ?n_Words ?a0 ?l0 ?c0 ?k0 ?a1 ?l1 ?c1 ?k1 ?a2 ?l2 ?c2 ?k2 ?a3 ?l3 ?c3 ?k3 ?a4 ?l4 ?c4 ?k4 ?a5 ?l5 ?c5 ?k5 ?a6 ?l6 ?c6 ?k6 ?a7 ?l7 ?c7 ?k7 ?a8 ?l8 ?c8 ?k8 ?a9 ?l9 ?c9 ?k9 ?a10 ?l10 ?c10 ?k10 ?a11 ?l11 ?c11 ?k11 ?a12 ?l12 ?c12 ?k12 ?a13 ?l13 ?c13 ?k13 ?a14 ?l14 ?c14 ?k14 ?a15 ?l15 ?c15 ?k15 ?a16 ?l16 ?c16 ?k16 ?a17 ?l17 ?c17 ?k17 ?a18 ?l18 ?c18 ?k18 ?m19 ?mf19 ?l19 ?c19 ?k19 ?i20 ?if20 ?im20 ?ik20 ?l20 ?c20 ?k20 ?b_s21 ?b_r21 ?b_a21 ?l21 ?c21 ?k21 ?i22 ?if22 ?im22 ?ik22 ?l22 ?c22 ?k22 ?b_s23 ?b_r23 ?b_a23 ?l23 ?c23 ?k23 ?m24 ?mf24 ?l24 ?c24 ?k24 ?a25 ?l25 ?c25 ?k25 ?z0 ?z1 ?z2 ?z3 ?z4 ?z5 ?z6 ?z7 ?z8 ?z9 ?z10 ?y0 ?x0 ?y1 ?x1 ?y2 ?x2 ?y3 ?x3 ?y4 ?x4 ?x_BadNumber ?l0_BadNumber ?l1_BadNumber ?l2_BadNumber ?l3_BadNumber ?l4_BadNumber ?l5_BadNumber ?l6_BadNumber ?l7_BadNumber ?x_BadDomain ?l0_BadDomain ?l1_BadDomain ?l2_BadDomain ?l3_BadDomain ?l4_BadDomain ?l5_BadDomain ?l6_BadDomain ?l7_BadDomain ?pg_Numbers ?hd_Numbers ?po_Numbers ?sa_Numbers ?pg_Words ?hd_Words ?po_Words ?sa_Words ?ta_Numbers ?tn_Numbers ?tt_Numbers ?tm_Numbers ?ta_Words ?tn_Words ?tt_Words ?tm_Words ?na_Numbers_low ?na_Numbers_high ?na_Words_low ?na_Words_high ?na_Words_words ?f_nn ?f_wn ?f_nw ?f_ww ?f_nd ?f_wd ?f_d0 ?f_d1 ?f_d2 ?f_d3
    (case n_TableError => k_is)
    (case n_BadNumber => k_is)
    (case n_BadName => k_is)
    (case n_BadDomain => k_is)
    (case n_Domain => k_is)
    (case n_Numbers => k_is)
    (case n_Words => k_is)
    (case a0 => k_is); (case l0 => k_is); (case c0 => k_is); (case k0 => k_is)
    (case a1 => k_is); (case l1 => k_is); (case c1 => k_is); (case k1 => k_is)
    (case a2 => k_is); (case l2 => k_is); (case c2 => k_is); (case k2 => k_is)
    (case a3 => k_is); (case l3 => k_is); (case c3 => k_is); (case k3 => k_is)
    (case a4 => k_is); (case l4 => k_is); (case c4 => k_is); (case k4 => k_is)
    (case a5 => k_is); (case l5 => k_is); (case c5 => k_is); (case k5 => k_is)
    (case a6 => k_is); (case l6 => k_is); (case c6 => k_is); (case k6 => k_is)
    (case a7 => k_is); (case l7 => k_is); (case c7 => k_is); (case k7 => k_is)
    (case a8 => k_is); (case l8 => k_is); (case c8 => k_is); (case k8 => k_is)
    (case a9 => k_is); (case l9 => k_is); (case c9 => k_is); (case k9 => k_is)
    (case a10 => k_is); (case l10 => k_is); (case c10 => k_is); (case k10 => k_is)
    (case a11 => k_is); (case l11 => k_is); (case c11 => k_is); (case k11 => k_is)
    (case a12 => k_is); (case l12 => k_is); (case c12 => k_is); (case k12 => k_is)
    (case a13 => k_is); (case l13 => k_is); (case c13 => k_is); (case k13 => k_is)
    (case a14 => k_is); (case l14 => k_is); (case c14 => k_is); (case k14 => k_is)
    (case a15 => k_is); (case l15 => k_is); (case c15 => k_is); (case k15 => k_is)
    (case a16 => k_is); (case l16 => k_is); (case c16 => k_is); (case k16 => k_is)
    (case a17 => k_is); (case l17 => k_is); (case c17 => k_is); (case k17 => k_is)
    (case a18 => k_is); (case l18 => k_is); (case c18 => k_is); (case k18 => k_is)
    (case m19 => k_is); (case mf19 => k_is); (case l19 => k_is); (case c19 => k_is); (case k19 => k_is)
    (case i20 => k_is); (case if20 => k_is); (case im20 => k_is); (case ik20 => k_is); (case l20 => k_is); (case c20 => k_is); (case k20 => k_is)
    (case b_s21 => k_is); (case b_r21 => k_is); (case b_a21 => k_is); (case l21 => k_is); (case c21 => k_is); (case k21 => k_is)
    (case i22 => k_is); (case if22 => k_is); (case im22 => k_is); (case ik22 => k_is); (case l22 => k_is); (case c22 => k_is); (case k22 => k_is)
    (case b_s23 => k_is); (case b_r23 => k_is); (case b_a23 => k_is); (case l23 => k_is); (case c23 => k_is); (case k23 => k_is)
    (case m24 => k_is); (case mf24 => k_is); (case l24 => k_is); (case c24 => k_is); (case k24 => k_is)
    (case a25 => k_is); (case l25 => k_is); (case c25 => k_is); (case k25 => k_is)
    (case z0 => k_is)
    (case z1 => k_is)
    (case z2 => k_is)
    (case z3 => k_is)
    (case z4 => k_is)
    (case z5 => k_is)
    (case z6 => k_is)
    (case z7 => k_is)
    (case z8 => k_is)
    (case z9 => k_is)
    (case z10 => k_is)
    (case y0 => k_is)
    (case x0 => exact ⟨_, rfl⟩)
    (case y1 => k_is)
    (case x1 => exact ⟨_, rfl⟩)
    (case y2 => k_is)
    (case x2 => exact ⟨_, rfl⟩)
    (case y3 => k_is)
    (case x3 => exact ⟨_, rfl⟩)
    (case y4 => k_is)
    (case x4 => exact ⟨_, rfl⟩)
    (case pg_Numbers => first | k_is | rfl | with_unfolding_all rfl)
    (case hd_Numbers => first | k_is | rfl | with_unfolding_all rfl)
    (case po_Numbers => first | k_is | rfl | with_unfolding_all rfl)
    (case sa_Numbers => first | k_is | rfl | with_unfolding_all rfl)
    (case pg_Words => first | k_is | rfl | with_unfolding_all rfl)
    (case hd_Words => first | k_is | rfl | with_unfolding_all rfl)
    (case po_Words => first | k_is | rfl | with_unfolding_all rfl)
    (case sa_Words => first | k_is | rfl | with_unfolding_all rfl)
    (case ta_Numbers => first | k_is | rfl | with_unfolding_all rfl)
    (case tn_Numbers => first | k_is | rfl | with_unfolding_all rfl)
    (case tt_Numbers => first | k_is | rfl | with_unfolding_all rfl)
    (case tm_Numbers => first | k_is | rfl | with_unfolding_all rfl)
    (case ta_Words => first | k_is | rfl | with_unfolding_all rfl)
    (case tn_Words => first | k_is | rfl | with_unfolding_all rfl)
    (case tt_Words => first | k_is | rfl | with_unfolding_all rfl)
    (case tm_Words => first | k_is | rfl | with_unfolding_all rfl)
    (case na_Numbers_low => first | k_is | rfl | with_unfolding_all rfl)
    (case na_Numbers_high => first | k_is | rfl | with_unfolding_all rfl)
    (case na_Words_low => first | k_is | rfl | with_unfolding_all rfl)
    (case na_Words_high => first | k_is | rfl | with_unfolding_all rfl)
    (case na_Words_words => first | k_is | rfl | with_unfolding_all rfl)
    (case x_BadNumber => first | rfl | with_unfolding_all rfl)
    (case l0_BadNumber => first | k_is | rfl | with_unfolding_all rfl)
    (case l1_BadNumber => first | k_is | rfl | with_unfolding_all rfl)
    (case l2_BadNumber => first | k_is | rfl | with_unfolding_all rfl)
    (case l3_BadNumber => first | k_is | rfl | with_unfolding_all rfl)
    (case l4_BadNumber => first | k_is | rfl | with_unfolding_all rfl)
    (case l5_BadNumber => first | k_is | rfl | with_unfolding_all rfl)
    (case l6_BadNumber => first | k_is | rfl | with_unfolding_all rfl)
    (case l7_BadNumber => first | k_is | rfl | with_unfolding_all rfl)
    (case x_BadDomain => first | rfl | with_unfolding_all rfl)
    (case l0_BadDomain => first | k_is | rfl | with_unfolding_all rfl)
    (case l1_BadDomain => first | k_is | rfl | with_unfolding_all rfl)
    (case l2_BadDomain => first | k_is | rfl | with_unfolding_all rfl)
    (case l3_BadDomain => first | k_is | rfl | with_unfolding_all rfl)
    (case l4_BadDomain => first | k_is | rfl | with_unfolding_all rfl)
    (case l5_BadDomain => first | k_is | rfl | with_unfolding_all rfl)
    (case l6_BadDomain => first | k_is | rfl | with_unfolding_all rfl)
    (case l7_BadDomain => first | k_is | rfl | with_unfolding_all rfl)
    (case f_nn => first | k_is | rfl | with_unfolding_all rfl)
    (case f_wn => first | k_is | rfl | with_unfolding_all rfl)
    (case f_nw => first | k_is | rfl | with_unfolding_all rfl)
    (case f_ww => first | k_is | rfl | with_unfolding_all rfl)
    (case f_nd => first | k_is | rfl | with_unfolding_all rfl)
    (case f_wd => first | k_is | rfl | with_unfolding_all rfl)
    (case f_d0 => first | k_is | rfl | with_unfolding_all rfl)
    (case f_d1 => first | k_is | rfl | with_unfolding_all rfl)
    (case f_d2 => first | k_is | rfl | with_unfolding_all rfl)
    (case f_d3 => first | k_is | rfl | with_unfolding_all rfl)


