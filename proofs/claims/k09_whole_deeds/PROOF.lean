import PyProof.Rows.All
import Wide.All
import OpenK.AllK
import Wide.FinOn
import Lean
import PyProof.EqAt
import PyProof.EqKinds
import PyProof.TupleCall
import KE.KIntText
import KE.KTryMore
import KE.KIsAll
import PySem.Challenge.RW_rowjudge_k09_whole_deeds
set_option Elab.async false
set_option linter.all false
set_option maxRecDepth 100000
/-! THE HAND LAYER, for ints, bools, texts, own classes, LISTS and tuples (index, slices, in, append, pop ..), calls, loops. Paste it whole ahead of your own text; what your proof does not reach may be deleted. -/
namespace L2
open PySem PySem.Spec PyProof.Rows

/-- a key: an int or a str -/
abbrev Key := Sum Int Str
def keyIs : Key → Value → Bool
  | .inl k, v => Value.isInt k v
  | .inr x, v => Value.isStrOf x v
def keyH (w : World) : Key → Int
  | .inl k => hashInt k
  | .inr x => hashStr w x
theorem keyIs_shape : ∀ {k : Key} {v : Value}, keyIs k v = true → (∃ i t, k = Sum.inl i ∧ v = Value.int i t) ∨ (∃ x t, k = Sum.inr x ∧ v = Value.str x t)
  | .inl i, v, h => by
    obtain ⟨t, e⟩ := Value.isInt_shape (k := i) (v := v) h
    exact .inl ⟨i, t, rfl, e⟩
  | .inr x, v, h => by
    obtain ⟨t, e⟩ := Value.isStrOf_shape (x := x) (v := v) h
    exact .inr ⟨x, t, rfl, e⟩
theorem key_ll (a b : Int) : decide ((Sum.inl a : Key) = Sum.inl b) = (a == b) := by
  by_cases e : a = b
  · subst e; simp
  · have h : ¬ (Sum.inl a : Key) = Sum.inl b := fun q => e (Sum.inl.inj q)
    rw [decide_eq_false h]
    exact (beq_eq_false_iff_ne.mpr e).symm
theorem key_rr (a b : Str) : decide ((Sum.inr a : Key) = Sum.inr b) = decide (a = b) := by
  by_cases e : a = b
  · subst e; simp
  · have h : ¬ (Sum.inr a : Key) = Sum.inr b := fun q => e (Sum.inr.inj q)
    rw [decide_eq_false h, decide_eq_false e]
theorem key_lr (a : Int) (b : Str) : decide ((Sum.inl a : Key) = Sum.inr b) = false := decide_eq_false (fun q => nomatch q)
theorem key_rl (a : Str) (b : Int) : decide ((Sum.inr a : Key) = Sum.inl b) = false := decide_eq_false (fun q => nomatch q)

def mixKind (prog : Program) (w : World) : PySem.KeyKind prog w Key where
  is := keyIs
  hash := keyH w
  inj := fun v a b ha hb => by
    rcases keyIs_shape ha with ⟨i, t, rfl, rfl⟩ | ⟨x, t, rfl, rfl⟩
    · rcases keyIs_shape hb with ⟨j, u, rfl, e⟩ | ⟨y, u, rfl, e⟩
      · injection e with e1 _; rw [e1]
      · exact nomatch e
    · rcases keyIs_shape hb with ⟨j, u, rfl, e⟩ | ⟨y, u, rfl, e⟩
      · exact nomatch e
      · injection e with e1 _; rw [e1]
  byValue := fun k v h => by
    rcases keyIs_shape h with ⟨i, t, rfl, rfl⟩ | ⟨x, t, rfl, rfl⟩ <;> rfl
  pyHash := fun hv h => by
    rcases keyIs_shape hv with ⟨i, t, rfl, rfl⟩ | ⟨x, t, rfl, rfl⟩
    · exact wpAny_pyHash_int h
    · exact wpAny_pyHash_str h
  eqBool := fun hu hv h => by
    rcases keyIs_shape hu with ⟨i, t, rfl, rfl⟩ | ⟨x, t, rfl, rfl⟩
    · rcases keyIs_shape hv with ⟨j, u, rfl, rfl⟩ | ⟨y, u, rfl, rfl⟩
      · rw [key_ll] at h; exact wpAny_eqBool_int h
      · rw [key_lr] at h; exact SeqAt.EqAt.int_str i t y u _ _ _ _ h
    · rcases keyIs_shape hv with ⟨j, u, rfl, rfl⟩ | ⟨y, u, rfl, rfl⟩
      · rw [key_rl] at h; exact SeqAt.EqAt.str_int x t j u _ _ _ _ h
      · rw [key_rr] at h; exact wpAny_eqBool_str h
  «strs» := fun k x t v h => by
    rcases keyIs_shape h with ⟨i, u, rfl, e⟩ | ⟨y, u, rfl, e⟩
    · exact nomatch e
    · injection e with e1 _
      subst e1
      cases v <;> rfl

end L2

namespace L2
open PySem PySem.Spec PyProof.Rows

/-- a value, without the heap -/
inductive V where
  | non | bl (b : Bool) | int (i : Int) | str (x : Str) | byt (b : Array UInt8) | flt (b : UInt64) | ref (a : Addr) | ty (n : String)
  deriving DecidableEq

def RelV : V → Value → Prop
  | .non, u => u = Value.none
  | .bl b, u => u = Value.bool b
  | .int i, u => ∃ t, u = Value.int i t
  | .str x, u => ∃ t, u = Value.str x t
  | .byt b, u => ∃ t, u = Value.bytes b t
  | .flt b, u => ∃ t, u = Value.float b t
  | .ref a, u => u = Value.ref a
  | .ty n, u => u = Value.type n

abbrev Vals : List V → List Value → Prop := Paired RelV
theorem Vals.length {xs : List V} {us : List Value} (r : Vals xs us) : xs.length = us.length := Paired.length r
theorem Vals.get : ∀ {xs : List V} {us : List Value} {i : Nat} {x : V}, Vals xs us → xs[i]? = some x → ∃ u, us[i]? = some u ∧ RelV x u
  | _, _, _, _, .nil, e => by simp at e
  | _, _, 0, _, .cons r _, e => by simp at e; subst e; exact ⟨_, rfl, r⟩
  | _, _, i + 1, x, .cons _ t, e => by
    obtain ⟨u, h1, h2⟩ := Vals.get (i := i) (x := x) t (by simpa using e)
    exact ⟨u, by simpa using h1, h2⟩
theorem Vals.set {x : V} {u : Value} (r : RelV x u) : ∀ {xs : List V} {us : List Value} (i : Nat), Vals xs us → Vals (xs.set i x) (us.set i u)
  | _, _, _, .nil => .nil
  | _, _, 0, .cons _ t => .cons r t
  | _, _, i + 1, .cons q t => .cons q (Vals.set r i t)
theorem Vals.append : ∀ {xs ys : List V} {us ws : List Value}, Vals xs us → Vals ys ws → Vals (xs ++ ys) (us ++ ws)
  | _, _, _, _, .nil, s => s
  | _, _, _, _, .cons r t, s => .cons r (Vals.append t s)
theorem Vals.take : ∀ {xs : List V} {us : List Value} (n : Nat), Vals xs us → Vals (xs.take n) (us.take n)
  | _, _, 0, _ => .nil
  | _, _, _ + 1, .nil => .nil
  | _, _, n + 1, .cons r t => .cons r (Vals.take n t)
theorem Vals.drop : ∀ {xs : List V} {us : List Value} (n : Nat), Vals xs us → Vals (xs.drop n) (us.drop n)
  | _, _, 0, r => r
  | _, _, _ + 1, .nil => .nil
  | _, _, n + 1, .cons _ t => Vals.drop n t
def RelO : Option V → Option Value → Prop
  | some v, some u => RelV v u
  | none, none => True
  | _, _ => False
def KV {κ : Type} : List (κ × V) → List (κ × Value) → Prop := Paired fun (p : κ × V) (q : κ × Value) => p.1 = q.1 ∧ RelV p.2 q.2

/-- a key of a dict (00_mix): an int or a text -/
def kV : Key → V
  | .inl i => .int i
  | .inr x => .str x

/-- what stands at a tracked address -/
inductive HO where
  /-- a list -/
  | lst (xs : List V)
  /-- a tuple (never changes) -/
  | tup (xs : List V)
  /-- a dict whose keys are ints and texts; one whose keys are tuples of ints and texts (the empty one is both) -/
  | dK (kvs : List (Key × V)) | dT (kvs : List (List Key × V))
  /-- a set of ints: its members, its size -/
  | set (S : Int → Bool) (n : Nat)
  /-- an instance of the class at C, its dict at dx, its attributes -/
  | ins (C dx : Addr) (fs : List (Str × V))
  /-- the dict of the instance at x -/
  | own (x : Addr)
  /-- the dict of an exception -/
  | xd (fs : List (Str × V))
  /-- a bound method, f of x -/
  | met (f x : Addr)
  /-- a range object lo, lo + 1, .. below hi -/
  | rng (lo hi : Int)
  /-- a thing that is known to the object (the script; a dict while a loop walks it): read, never written while it is so -/
  | frz (o : Obj) (u : HO)
  /-- a code object's table -/
  | tbl (ps : Array Value)
  /-- any other thing, by what is true of its one object (a def of one's own: SetO a S n := HO.ext fun h => ..) -/
  | ext (φ : Heap → Prop)

abbrev Hp := Addr → Option HO
def upd (H : Hp) (a : Addr) (o : HO) : Hp := fun b => if b = a then some o else H b
theorem upd_same {H : Hp} {a : Addr} {o : HO} : upd H a o a = some o := by unfold upd; rw [if_pos rfl]
theorem upd_ne {H : Hp} {a b : Addr} {o : HO} (h : b ≠ a) : upd H a o b = H b := by unfold upd; rw [if_neg h]
/-- two objects of different content stand apart -/
theorem ne_of {H : Hp} {a b : Addr} {o u : HO} (h : H a = some o) (h' : H b = some u) (d : o ≠ u) : a ≠ b := by
  intro e; subst e; rw [h] at h'; exact d (Option.some.inj h')
theorem ne_of_none {H : Hp} {a b : Addr} {o : HO} (h : H a = some o) (h' : H b = none) : a ≠ b := by
  intro e; subst e; rw [h] at h'; cases h'

section
variable (P : Program) (w : World)
def ObjOk (H : Hp) (h : Heap) (a : Addr) : HO → Prop
  | .lst xs => xs.length ≤ sizeLine ∧ ∃ (its : List Value) (n : Nat), Vals xs its ∧ h.get? a = some { cls := .type "list", data := .seq its.toArray n }
  | .tup xs => xs.length ≤ sizeLine ∧ ∃ its : List Value, Vals xs its ∧ IsTup h a its.toArray
  | .dK kvs => kvs.length ≤ sizeLine ∧ (a == sysModules) = false ∧ ∃ vs, KV kvs vs ∧ h.DictOf (mixKind P w) a vs
  | .dT kvs => kvs.length ≤ sizeLine ∧ (a == sysModules) = false ∧ ∃ xs : List (List Key × Addr × Value),
      Paired (fun (p : List Key × V) (q : List Key × Addr × Value) => p.1 = q.1 ∧ H q.2.1 = some (.tup (p.1.map kV)) ∧ RelV p.2 q.2.2) kvs xs ∧
      ∃ o es ep, h.get? a = some o ∧ o.ExactDict ∧ o.data = .dict es ep ∧ es.toList = xs.map (entryOfKey (tupleKind (mixKind P w))) ∧ (xs.map (·.1)).Nodup
  | .set S n => h.SetOf (intKind P w) a S n
  | .ins C dx fs => H dx = some (.own a) ∧ fs.length ≤ 1000 ∧ dx ≠ a ∧ h.get? a = some (PySem.W.instObj C dx) ∧
      ∃ mA, h.Ns1 dx mA ∧ (∀ f, RelO (fs.lookup f) (mA f)) ∧ PySem.Within mA (fs.map (·.1))
  | .own _ => ∃ o, h.get? a = some o
  | .xd fs => ∃ mA, h.Ns1 a mA ∧ ∀ f, RelO (fs.lookup f) (mA f)
  | .rng lo hi => ∃ t u v, h.get? a = some { cls := .type "range", data := .fields #[.int lo t, .int hi u, .int 1 v] }
  | .frz o u => h.get? a = some o ∧ ObjOk H h a u
  | .tbl ps => h.get? a = some { cls := .none, data := .fields ps }
  | .met f x => h.get? a = some (PySem.W.methodObj (.ref f) (.ref x))
  | .ext φ => φ h ∧ (∃ o, h.get? a = some o) ∧ ∀ h1 h2 : Heap, φ h1 → (∀ o, h1.get? a = some o → h2.get? a = some o) → φ h2
/-- the abstract heap is held -/
def HOk (H : Hp) (h : Heap) : Prop := ∀ a o, H a = some o → ObjOk P w H h a o
end

section
variable {P : Program} {w : World} {H H' : Hp} {h h' : Heap} {a : Addr} {o : HO}
theorem ObjOk.lt (x : ObjOk P w H h a o) : a < h.objs.size := by
  cases o with
  | lst xs => obtain ⟨_, _, _, _, e⟩ := x; exact Heap.lt_size e
  | tup xs => obtain ⟨_, _, _, p⟩ := x; exact p.lt
  | dK kvs => obtain ⟨_, _, _, _, o, _, _, e, _⟩ := x; exact Heap.lt_size e
  | dT kvs => obtain ⟨_, _, _, _, o, _, _, e, _⟩ := x; exact Heap.lt_size e
  | set S n => obtain ⟨o, _, _, _, e, _⟩ := x; exact Heap.lt_size e
  | ins C dx fs => obtain ⟨_, _, _, e, _⟩ := x; exact Heap.lt_size e
  | own y => obtain ⟨_, e⟩ := x; exact Heap.lt_size e
  | xd fs => obtain ⟨_, ⟨_, _, _, e, _⟩, _⟩ := x; exact Heap.lt_size e
  | rng lo hi => obtain ⟨_, _, _, e⟩ := x; exact Heap.lt_size e
  | frz ob u => obtain ⟨e, _⟩ := x; exact Heap.lt_size e
  | tbl ps => exact Heap.lt_size (show h.get? a = some _ from x)
  | met f y => exact Heap.lt_size (show h.get? a = some _ from x)
  | ext φ => obtain ⟨_, ⟨_, e⟩, _⟩ := x; exact Heap.lt_size e
theorem Paired.mapP {α β : Type} {F G : α → β → Prop} : ∀ {l₁ : List α} {l₂ : List β}, Paired F l₁ l₂ → (∀ a b, F a b → G a b) → Paired G l₁ l₂
  | _, _, .nil, _ => .nil
  | _, _, .cons r t, f => .cons (f _ _ r) (Paired.mapP t f)
/-- what an object's description leans on: its own object, its own dict, the tuples -/
theorem ObjOk.stay (x : ObjOk P w H h a o) (k : ∀ b u, (b = a ∨ H b = some (.own a)) → h.get? b = some u → h'.get? b = some u)
    (ho : ∀ b, H b = some (.own a) → H' b = some (.own a)) (ht : ∀ b xs, H b = some (.tup xs) → H' b = some (.tup xs)) : ObjOk P w H' h' a o := by
  induction o with
  | lst xs => obtain ⟨z, its, n, r, e⟩ := x; exact ⟨z, its, n, r, k _ _ (.inl rfl) e⟩
  | tup xs => obtain ⟨z, its, r, ob, e, c⟩ := x; exact ⟨z, its, r, ob, k _ _ (.inl rfl) e, c⟩
  | dK kvs => obtain ⟨z, y, vs, r, ob, es, ep, e, c⟩ := x; exact ⟨z, y, vs, r, ob, es, ep, k _ _ (.inl rfl) e, c⟩
  | dT kvs =>
    obtain ⟨z, y, xs, r, ob, es, ep, e, c⟩ := x
    exact ⟨z, y, xs, Paired.mapP r fun p q z => ⟨z.1, ht _ _ z.2.1, z.2.2⟩, ob, es, ep, k _ _ (.inl rfl) e, c⟩
  | set S n => obtain ⟨ob, es, ep, t, e, c⟩ := x; exact ⟨ob, es, ep, t, k _ _ (.inl rfl) e, c⟩
  | ins C dx fs =>
    obtain ⟨d, z, ne, e, mA, ⟨od, es, ep, e2, c⟩, r⟩ := x
    exact ⟨ho _ d, z, ne, k _ _ (.inl rfl) e, mA, ⟨od, es, ep, k _ _ (.inr d) e2, c⟩, r⟩
  | own y => obtain ⟨ob, e⟩ := x; exact ⟨ob, k _ _ (.inl rfl) e⟩
  | xd fs => obtain ⟨mA, ⟨od, es, ep, e, c⟩, r⟩ := x; exact ⟨mA, ⟨od, es, ep, k _ _ (.inl rfl) e, c⟩, r⟩
  | rng lo hi => obtain ⟨t, u, v, e⟩ := x; exact ⟨t, u, v, k _ _ (.inl rfl) e⟩
  | frz ob u ih => obtain ⟨e, q⟩ := x; exact ⟨k _ _ (.inl rfl) e, ih q⟩
  | tbl ps =>
    have e : h.get? a = some { cls := .none, data := .fields ps } := x
    show h'.get? a = some { cls := .none, data := .fields ps }
    exact k a _ (.inl rfl) e
  | met f y =>
    have e : h.get? a = some (PySem.W.methodObj (.ref f) (.ref y)) := x
    show h'.get? a = some (PySem.W.methodObj (.ref f) (.ref y))
    exact k a _ (.inl rfl) e
  | ext φ => obtain ⟨p, ⟨o, e⟩, st⟩ := x; exact ⟨st _ _ p fun o q => k _ _ (.inl rfl) q, ⟨o, k _ _ (.inl rfl) e⟩, st⟩
theorem HOk.lt (x : HOk P w H h) (e : H a = some o) : a < h.objs.size := (x a o e).lt
theorem HOk.fresh (x : HOk P w H h) (e : h.objs.size ≤ a) : H a = none := by
  cases q : H a with
  | none => rfl
  | some u => exact absurd (Nat.lt_of_lt_of_le (x.lt q) e) (Nat.lt_irrefl _)
/-- every object of the heap is kept -/
theorem HOk.kept (x : HOk P w H h) (k : ∀ b u, h.get? b = some u → h'.get? b = some u) : HOk P w H h' := fun a o e =>
  (x a o e).stay (fun b u _ q => k b u q) (fun _ q => q) fun _ _ q => q
/-- a new object is laid and tracked -/
theorem HOk.laid (x : HOk P w H h) (k : ∀ b u, h.get? b = some u → h'.get? b = some u) (hp : h.objs.size ≤ a) (new : ObjOk P w (upd H a o) h' a o) : HOk P w (upd H a o) h' := fun b u e => by
  have hn := x.fresh hp
  by_cases hb : b = a
  · subst hb; rw [upd_same] at e; cases e; exact new
  · rw [upd_ne hb] at e
    exact (x b u e).stay (fun c v _ q => k c v q) (fun c q => by rw [upd_ne (ne_of_none q hn)]; exact q) fun c xs q => by rw [upd_ne (ne_of_none q hn)]; exact q
end

/-- what may be read as u: it is u, or a known u -/
def Rd (H : Hp) (a : Addr) (u : HO) : Prop := H a = some u ∨ ∃ o, H a = some (.frz o u)
theorem Rd.ok {P : Program} {w : World} {H : Hp} {h : Heap} {a : Addr} {u : HO} (r : Rd H a u) (x : HOk P w H h) : ObjOk P w H h a u := by
  rcases r with r | ⟨o, r⟩
  · exact x a u r
  · obtain ⟨_, q⟩ := x a _ r
    exact q
/-- what may be written -/
def Mut : Option HO → Prop
  | some (.lst _) => True
  | some (.dK _) => True
  | some (.dT _) => True
  | some (.set _ _) => True
  | some (.ins _ _ _) => True
  | some (.ext _) => True
  | _ => False
section
variable {P : Program} {w : World} {H : Hp} {h h' : Heap} {x e : Addr} {o' : HO}
/-- the object at e is changed: x itself, or the dict of the instance x -/
theorem HOk.write (ok : HOk P w H h) (mu : Mut (H x)) (he : e = x ∨ H e = some (.own x)) (k : ∀ b u, b ≠ e → h.get? b = some u → h'.get? b = some u) (heo : ∃ u, h'.get? e = some u)
    (new : ObjOk P w (upd H x o') h' x o') : HOk P w (upd H x o') h' := fun b u q => by
  have nown : ∀ c y, H c = some (.own y) → c ≠ x := fun c y r z => by subst z; rw [r] at mu; exact mu
  have ntup : ∀ c xs, H c = some (.tup xs) → c ≠ x := fun c xs r z => by subst z; rw [r] at mu; exact mu
  by_cases hb : b = x
  · subst hb; rw [upd_same] at q; cases q; exact new
  · rw [upd_ne hb] at q
    by_cases hbe : b = e
    · have q' : H b = some (.own x) := by
        rcases he with z | z
        · exact absurd (hbe.trans z) hb
        · rw [hbe]; exact z
      rw [q] at q'; cases q'
      obtain ⟨v, hv⟩ := heo
      exact ⟨v, by rw [hbe]; exact hv⟩
    · refine (ok b u q).stay (fun c v hc r => k c v ?_ r) (fun c r => by rw [upd_ne (nown c b r)]; exact r) fun c xs r => by rw [upd_ne (ntup c xs r)]; exact r
      rcases hc with rfl | hc
      · exact hbe
      · rintro rfl
        rcases he with z | z
        · exact nown c b hc z
        · rw [hc] at z; cases z; exact hb rfl
end

/-! ### kept unless tracked; of the frames at fs (the callers') the slots may change (an exception that passes writes there); of the records at ex (iterators) nothing is said -/
structure Un (fs ex : List Addr) (H H' : Hp) (h h' : Heap) : Prop where
  keep : ∀ b o, h.get? b = some o → H b = none → b ∉ fs → b ∉ ex → h'.get? b = some o
  slot : ∀ b o, h.get? b = some o → H b = none → b ∈ fs → b ∉ ex → ∃ sl, h'.get? b = some { o with slots := sl }
  free : ∀ b o, h.get? b = some o → H b = none → b ∉ ex → H' b = none
  there : ∀ b o, h.get? b = some o → b ∉ ex → ∃ o', h'.get? b = some o'
  tups : ∀ b xs, H b = some (.tup xs) → H' b = some (.tup xs)
  frzs : ∀ b o u, H b = some (.frz o u) → H' b = some (.frz o u)
  tbls : ∀ b ps, H b = some (.tbl ps) → ∃ more, H' b = some (.tbl (ps ++ more))
section
variable {fs fs' ex ex' : List Addr} {H H1 H2 : Hp} {h h1 h2 h' : Heap} {a x e : Addr} {o : HO}
theorem Un.any (u : Un fs ex H H1 h h1) {b : Addr} {ob : Obj} (q : h.get? b = some ob) (n : H b = none) (hx : b ∉ ex) : ∃ sl, h1.get? b = some { ob with slots := sl } := by
  by_cases hb : b ∈ fs
  · exact u.slot b ob q n hb hx
  · exact ⟨ob.slots, u.keep b ob q n hb hx⟩
theorem Un.kept (k : ∀ b u, h.get? b = some u → h'.get? b = some u) : Un fs ex H H h h' :=
  ⟨fun b ob q _ _ _ => k b ob q, fun b ob q _ _ _ => ⟨ob.slots, k b ob q⟩, fun _ _ _ n _ => n, fun b ob q _ => ⟨ob, k b ob q⟩, fun _ _ q => q, fun _ _ _ q => q, fun _ ps q => ⟨#[], by rw [q]; simp⟩⟩
theorem Un.refl : Un fs ex H H h h := Un.kept fun _ _ q => q
theorem Un.laid (k : ∀ b u, h.get? b = some u → h'.get? b = some u) (hp : h.objs.size ≤ a) (hn : H a = none) : Un fs ex H (upd H a o) h h' where
  keep := fun b u q _ _ _ => k b u q
  slot := fun b u q _ _ _ => ⟨u.slots, k b u q⟩
  free := fun b u q n _ => by rw [upd_ne (Nat.ne_of_lt (Nat.lt_of_lt_of_le (Heap.lt_size q) hp))]; exact n
  there := fun b u q _ => ⟨u, k b u q⟩
  tups := fun b xs q => by rw [upd_ne (ne_of_none q hn)]; exact q
  frzs := fun b u xs q => by rw [upd_ne (ne_of_none q hn)]; exact q
  tbls := fun b ps q => ⟨#[], by rw [upd_ne (ne_of_none q hn), q]; simp⟩
theorem Un.write (mu : Mut (H x)) (he : e = x ∨ H e = some (.own x)) (k : ∀ b u, b ≠ e → h.get? b = some u → h'.get? b = some u) (heo : ∃ u, h'.get? e = some u) : Un fs ex H (upd H x o) h h' := by
  have hx : ∀ b, H b = none → b ≠ x := fun b n z => by subst z; rw [n] at mu; exact mu
  have hb : ∀ b, H b = none → b ≠ e := fun b n z => by
    subst z
    rcases he with r | r
    · exact hx b n r
    · rw [n] at r; cases r
  have hm : ∀ b u, H b = some u → ¬ Mut (some u) → b ≠ x := fun b u q nm z => by subst z; rw [q] at mu; exact nm mu
  refine ⟨fun b u q n _ _ => k b u (hb b n) q, fun b u q n _ _ => ⟨u.slots, k b u (hb b n) q⟩, fun b u q n _ => by rw [upd_ne (hx b n)]; exact n, fun b u q _ => ?_,
    fun b xs q => by rw [upd_ne (hm b _ q fun z => z)]; exact q, fun b u xs q => by rw [upd_ne (hm b _ q fun z => z)]; exact q, fun b ps q => ⟨#[], by rw [upd_ne (hm b _ q fun z => z), q]; simp⟩⟩
  by_cases hbe : b = e
  · subst hbe; exact heo
  · exact ⟨u, k b u hbe q⟩
end

/-! ### the heap without what is tracked -/
def trk (h : Heap) (H : Hp) : List Addr := (List.range h.objs.size).filter fun a => (H a).isSome
def hidT (h : Heap) (H : Hp) : Heap := PySem.W.hideAll h (trk h H)
theorem hidT_size (h : Heap) (H : Hp) : (hidT h H).objs.size = h.objs.size := PySem.W.hideAll_size _ _
theorem hidT_get {h : Heap} {H : Hp} {b : Addr} {o : Obj} (e : h.get? b = some o) (n : H b = none) : (hidT h H).get? b = some o :=
  PySem.W.hideAll_get _ e fun hm => by
    have q : (H b).isSome = true := (List.mem_filter.mp hm).2
    rw [n] at q; simp at q
theorem of_hidT {h : Heap} {H : Hp} {b : Addr} {o : Obj} (e : (hidT h H).get? b = some o) : h.get? b = some o ∧ H b = none := by
  have e' : h.get? b = some o := PySem.W.of_hideAll (trk h H) e
  refine ⟨e', ?_⟩
  cases q : H b with
  | none => rfl
  | some x =>
    have hm : b ∈ trk h H := List.mem_filter.mpr ⟨List.mem_range.mpr (Heap.lt_size e'), by simp [q]⟩
    have z : (hidT h H).get? b = none := PySem.W.hideAll_none (trk h H) hm
    rw [z] at e; cases e

/-! ### OpenK's ledger, filled with every new object but one -/
def allNews (g h : Heap) (L : Addr) : List (Addr × Obj) := (List.range h.objs.size).filterMap fun a => if a = L ∨ (g.get? a).isSome = true then none else (h.get? a).map fun o => (a, o)
def rest (g h : Heap) (L d : Addr) : List (Addr × Obj) := (allNews g h L).filter fun p => decide (p.1 ≠ d)
end L2

namespace L2
open PySem PySem.Spec PyProof.Rows

/-- the module's facts, over the base: the heap at the law's entry without what is tracked there -/
structure Mod (K : PySem.W.Frag) (mg : Str → Option Value) (base : Heap) : Prop where
  kin : K.In base
  glob : base.Ns mainGlobals mg
  blt : ∃ mb, base.Ns builtinsNs mb ∧ ∀ x : Str, x ≠ "__name__" → mb x = bootBuiltins x
  nolimit : base.NoLimit

/-- the context: a def's body (or a comprehension's block) running. base: fixed through the whole law; s₀, H₀: the entry; outer: the frames whose slots others may change (a def's callers); stack: all frames that run;
   ex: iterators that were made ahead of the entry and are walked here (a comprehension's); fn: the names whose cells were made at the entry (a def: all; a comprehension's block: its own); calm: not within an except suite; pn: pins that every state bears; xe: what is wanted of an exception that leaves the code -/
structure Cx where
  prog : Program
  w : World
  K : PySem.W.Frag
  mg : Str → Option Value
  base : Heap
  A : Around
  N : List Str
  s₀ : Shared
  H₀ : Hp
  env : Env
  outer : List Env
  stack : List Env
  ex : List Addr
  fn : Str → Bool
  calm : Bool
  pn : List (Addr × Obj)
  xe : Value → Shared → Prop
/-- the callers' frames -/
def frs (l : List Env) : List Addr := l.filterMap (·.frame)
abbrev Cx.fs (X : Cx) : List Addr := frs X.outer

def Vis (sc : Scope) (x : Str) : Prop := sc.names.lookup x = some .local ∨ sc.names.lookup x = some .cell ∨ sc.names.lookup x = some .free
def Loc (sc : Scope) (x : Str) : Prop := sc.names.lookup x = some .local ∨ sc.names.lookup x = some .cell
def Look (env : Env) (h : Heap) (m : Str → Option Value) (x : Str) (u : Value) : Prop :=
  (env.kindOf x = some .local ∧ m x = some u) ∨ ((env.kindOf x = some .cell ∨ env.kindOf x = some .free) ∧ ∃ c, env.cells.lookup x = some c ∧ h.IsCell c (some u))

structure Cx.Ok (X : Cx) : Prop where
  mod : Mod X.K X.mg X.base
  kind : X.env.scope.kind = .function
  glob : X.env.globals = mainGlobals
  blt : X.env.builtins = builtinsNs
  above : X.s₀.heap.objs.size ≤ X.env.locals
  inj : ∀ x y c, X.env.cells.lookup x = some c → X.env.cells.lookup y = some c → x = y
  has : ∀ x, (X.env.kindOf x = some .cell ∨ X.env.kindOf x = some .free) → ∃ c, X.env.cells.lookup x = some c
  cab : ∀ x c, X.fn x = true → X.env.cells.lookup x = some c → X.s₀.heap.objs.size ≤ c
  hd : X.calm = true → X.A.handled = none
  frames : X.A.frames = some X.stack
  stk : X.stack = X.outer ∨ (X.stack = X.env :: X.outer ∧ X.env.frame = some X.env.locals)
  exf : ∀ b ∈ X.ex, b ≠ X.env.locals ∧ ∀ x c, X.env.cells.lookup x = some c → c ≠ b
  bs : ∀ b o, X.base.get? b = some o → X.s₀.heap.get? b = some o ∧ X.H₀ b = none
  bsz : X.base.objs.size ≤ X.s₀.heap.objs.size
  noex : ∀ b o, X.base.get? b = some o → b ∉ X.ex
  exfs : ∀ b ∈ X.ex, b ∉ X.fs
  funs : X.s₀.heap.FunFrames X.base X.outer
  frf : ∀ b ∈ X.fs, X.H₀ b = none

structure Inv (X : Cx) (pins : List (Addr × Obj)) (σ : List (Option V)) (H : Hp) (s : Shared) : Prop where
  ok : X.Ok
  os : s.os = X.s₀.os
  bare : AllBare s.gens
  base : Un X.fs X.ex X.H₀ H X.s₀.heap s.heap
  loc : ∃ m, s.heap.Ns X.env.locals m ∧ ∀ (i : Nat) (x : Str) (v : V), X.N[i]? = some x → σ[i]? = some (some v) → Vis X.env.scope x → ∃ u, RelV v u ∧ Look X.env s.heap m x u
  cell : ∀ x c, X.env.cells.lookup x = some c → ∃ v, s.heap.IsCell c v
  free : H X.env.locals = none
  freeC : ∀ x c, X.env.cells.lookup x = some c → H c = none
  pin : ∀ p ∈ X.pn ++ pins, s.heap.get? p.1 = some p.2 ∧ H p.1 = none ∧ p.1 ≠ X.env.locals ∧ p.1 ∉ X.fs ∧ ∀ v, p.2.data ≠ .cell v
  hok : HOk X.prog X.w H s.heap
  len : σ.length = X.N.length

section
variable {X : Cx} {pins : List (Addr × Obj)} {σ : List (Option V)} {H H' : Hp} {s : Shared} {h' : Heap}

theorem Cx.Ok.nofr (ok : X.Ok) {b : Addr} {o : Obj} (e : X.base.get? b = some o) : b ∉ X.fs := fun hb => by
  have := (ok.funs.mem hb).1
  rw [e] at this; cases this
theorem Inv.bs (I : Inv X pins σ H s) : ∀ b o, X.base.get? b = some o → s.heap.get? b = some o ∧ H b = none := fun b o e =>
  ⟨I.base.keep b o (I.ok.bs b o e).1 (I.ok.bs b o e).2 (I.ok.nofr e) (I.ok.noex b o e), I.base.free b o (I.ok.bs b o e).1 (I.ok.bs b o e).2 (I.ok.noex b o e)⟩
theorem Inv.bk (I : Inv X pins σ H s) : ∀ b o, X.base.get? b = some o → s.heap.get? b = some o := fun b o e => (I.bs b o e).1
theorem Inv.mod (I : Inv X pins σ H s) : Mod X.K X.mg X.base := I.ok.mod
theorem Inv.kIn (I : Inv X pins σ H s) : X.K.In s.heap := I.ok.mod.kin.keeps I.bk
theorem Inv.lt (I : Inv X pins σ H s) : X.env.locals < s.heap.objs.size := by obtain ⟨_, hn, _⟩ := I.loc; exact hn.lt
theorem Inv.sz (I : Inv X pins σ H s) : X.s₀.heap.objs.size ≤ s.heap.objs.size := Nat.le_trans I.ok.above (Nat.le_of_lt I.lt)
theorem Inv.nofs (I : Inv X pins σ H s) {a : Addr} (h : s.heap.objs.size ≤ a) : a ∉ X.fs := fun hb => by
  obtain ⟨_, o, ho, _⟩ := I.ok.funs.mem hb
  exact absurd (Nat.lt_of_lt_of_le (Heap.lt_size ho) (Nat.le_trans I.sz h)) (Nat.lt_irrefl _)
theorem Inv.cne (I : Inv X pins σ H s) : ∀ x c, X.env.cells.lookup x = some c → c ≠ X.env.locals := fun x c e z => by
  obtain ⟨v, o, ho, hd⟩ := I.cell x c e
  obtain ⟨m, ⟨o', es, ep, ho', hd', _⟩, _⟩ := I.loc
  rw [z, ho'] at ho; cases ho; rw [hd'] at hd; cases hd
theorem Inv.funs (I : Inv X pins σ H s) : s.heap.FunFrames X.base X.outer := by
  have all : ∀ (l : List Env), (∀ b ∈ frs l, b ∈ X.fs) → X.s₀.heap.FunFrames X.base l → s.heap.FunFrames X.base l := by
    intro l
    induction l with
    | nil => intro _ _; trivial
    | cons env r ih =>
      intro hs hl
      obtain ⟨hk, ⟨L, o, hf, hn, ho, hd⟩, hr⟩ := hl
      have hL : L ∈ X.fs := hs L (by unfold frs; rw [List.filterMap_cons, hf]; exact List.mem_cons_self)
      obtain ⟨sl, e⟩ := I.base.slot L o ho (I.ok.frf L hL) hL fun z => I.ok.exfs L z hL
      exact ⟨hk, ⟨L, _, hf, hn, e, hd⟩, ih (fun b hb => hs b (by unfold frs; rw [List.filterMap_cons, hf]; exact List.mem_cons_of_mem _ hb)) hr⟩
  exact all X.outer (fun _ hb => hb) I.ok.funs

/-- the frames that run, for a call -/
theorem Inv.stack (I : Inv X pins σ H s) : s.heap.FunFrames X.base X.stack := by
  rcases I.ok.stk with e | ⟨e, hf⟩
  · rw [e]; exact I.funs
  · rw [e]
    obtain ⟨m, hn, _⟩ := I.loc
    refine .cons (by rw [I.ok.kind]; decide) hf hn ?_ I.funs
    exact Heap.get?_none_of_le (Nat.le_trans I.ok.bsz I.ok.above)
theorem Inv.stkSub (I : Inv X pins σ H s) : ∀ b ∈ frs X.stack, b ∈ X.env.locals :: X.fs := fun b hb => by
  rcases I.ok.stk with e | ⟨e, hf⟩
  · rw [e] at hb; exact List.mem_cons_of_mem _ hb
  · rw [e] at hb
    unfold frs at hb
    rw [List.filterMap_cons, hf] at hb
    exact hb
theorem Inv.stkFree (I : Inv X pins σ H s) : ∀ b ∈ frs X.stack, H b = none := fun b hb => by
  rcases List.mem_cons.mp (I.stkSub b hb) with e | hb
  · rw [e]; exact I.free
  · obtain ⟨_, o, ho, _⟩ := I.ok.funs.mem hb
    exact I.base.free b o ho (I.ok.frf b hb) fun z => I.ok.exfs b z hb

/-- THE STEP: the untracked objects but the frame and the records at ch are kept (the callers' frames up to slots), the frame's map is kept, the new abstract heap is held -/
theorem Inv.step {g' : Array GenState} {t' : Nat} {d' : Drawn} {ch : List Addr} (I : Inv X pins σ H s)
    (hch : ∀ b ∈ ch, (b ∈ X.ex ∨ X.s₀.heap.objs.size ≤ b) ∧ b ≠ X.env.locals ∧ (∀ x c, X.env.cells.lookup x = some c → c ≠ b) ∧ ∀ p ∈ X.pn ++ pins, p.1 ≠ b)
    (keep : ∀ b o, b ≠ X.env.locals → b ∉ X.fs → b ∉ ch → s.heap.get? b = some o → H b = none → h'.get? b = some o)
    (slot : ∀ b o, b ≠ X.env.locals → b ∈ X.fs → b ∉ ch → s.heap.get? b = some o → H b = none → ∃ sl, h'.get? b = some { o with slots := sl }) (free : ∀ b o, b ∉ ch → s.heap.get? b = some o → H b = none → H' b = none)
    (there : ∀ b o, b ∉ ch → s.heap.get? b = some o → ∃ o', h'.get? b = some o')
    (tups : ∀ b xs, H b = some (.tup xs) → H' b = some (.tup xs)) (frzs : ∀ b o u, H b = some (.frz o u) → H' b = some (.frz o u)) (tbls : ∀ b ps, H b = some (.tbl ps) → ∃ more, H' b = some (.tbl (ps ++ more)))
    (ns : ∀ m, s.heap.Ns X.env.locals m → h'.Ns X.env.locals m) (hok : HOk X.prog X.w H' h') (hg : AllBare g') :
    Inv X pins σ H' { s with heap := h', gens := g', drawn := d', toks := t' } := by
  have neL : ∀ b o, X.s₀.heap.get? b = some o → b ≠ X.env.locals := fun b o e => Nat.ne_of_lt (Nat.lt_of_lt_of_le (Heap.lt_size e) I.ok.above)
  have neC : ∀ b o, X.s₀.heap.get? b = some o → b ∉ X.ex → b ∉ ch := fun b o e hx hb => by
    rcases (hch b hb).1 with z | z
    · exact hx z
    · exact absurd (Nat.lt_of_lt_of_le (Heap.lt_size e) z) (Nat.lt_irrefl _)
  have cellK : ∀ x c, X.env.cells.lookup x = some c → ∀ v, s.heap.IsCell c v → h'.IsCell c v := fun x c e v ⟨o, ho, hd⟩ => by
    have nch : c ∉ ch := fun z => (hch c z).2.2.1 x c e rfl
    by_cases hc : c ∈ X.fs
    · obtain ⟨sl, q⟩ := slot c o (I.cne x c e) hc nch ho (I.freeC x c e)
      exact ⟨_, q, hd⟩
    · exact ⟨o, keep c o (I.cne x c e) hc nch ho (I.freeC x c e), hd⟩
  refine ⟨I.ok, I.os, hg, ⟨fun b o e n hb hx => ?_, fun b o e n hb hx => ?_, fun b o e n hx => ?_, fun b o e hx => ?_, fun b xs e => tups b xs (I.base.tups b xs e), fun b o xs e => frzs b o xs (I.base.frzs b o xs e), fun b ps e => ?_⟩, ?_, fun x c e => ?_, ?_, fun x c e => ?_, fun p hp => ?_, hok, I.len⟩
  · exact keep b o (neL b o e) hb (neC b o e hx) (I.base.keep b o e n hb hx) (I.base.free b o e n hx)
  · obtain ⟨sl, e1⟩ := I.base.slot b o e n hb hx
    obtain ⟨sl', e2⟩ := slot b _ (neL b o e) hb (neC b o e hx) e1 (I.base.free b o e n hx)
    exact ⟨sl', e2⟩
  · obtain ⟨o', e1⟩ := I.base.there b o e hx
    exact free b o' (neC b o e hx) e1 (I.base.free b o e n hx)
  · obtain ⟨o', e1⟩ := I.base.there b o e hx
    exact there b o' (neC b o e hx) e1
  · obtain ⟨m1, e1⟩ := I.base.tbls b ps e
    obtain ⟨m2, e2⟩ := tbls b _ e1
    exact ⟨m1 ++ m2, by rw [e2, Array.append_assoc]⟩
  · obtain ⟨m, hn, hl⟩ := I.loc
    refine ⟨m, ns m hn, fun i x v e1 e2 e3 => ?_⟩
    obtain ⟨u, r, l⟩ := hl i x v e1 e2 e3
    refine ⟨u, r, ?_⟩
    rcases l with l | ⟨k, c, e, z⟩
    · exact .inl l
    · exact .inr ⟨k, c, e, cellK x c e _ z⟩
  · obtain ⟨v, z⟩ := I.cell x c e
    exact ⟨v, cellK x c e v z⟩
  · obtain ⟨m, ⟨o, _, _, ho, _⟩, _⟩ := I.loc
    exact free _ o (fun z => (hch _ z).2.1 rfl) ho I.free
  · obtain ⟨v, o, ho, hd⟩ := I.cell x c e
    exact free c o (fun z => (hch c z).2.2.1 x c e rfl) ho (I.freeC x c e)
  · obtain ⟨e, n, ne, nf, d⟩ := I.pin p hp
    have nch : p.1 ∉ ch := fun z => (hch p.1 z).2.2.2 p hp rfl
    exact ⟨keep p.1 p.2 ne nf nch e n, free p.1 p.2 nch e n, ne, nf, d⟩
/-- .. where the frame's own object is kept too -/
theorem Inv.un {t' : Nat} (I : Inv X pins σ H s) (u : Un X.fs [] H H' s.heap h') (hok : HOk X.prog X.w H' h') : Inv X pins σ H' { s with heap := h', toks := t' } := by
  obtain ⟨m, ⟨o, es, ep, ho, r⟩, _⟩ := id I.loc
  obtain ⟨sl, hL⟩ := u.any ho I.free (by simp)
  exact I.step (g' := s.gens) (d' := s.drawn) (ch := []) (fun _ z => nomatch z) (fun b o _ hb _ e n => u.keep b o e n hb (by simp)) (fun b o _ hb _ e n => u.slot b o e n hb (by simp)) (fun b o _ e n => u.free b o e n (by simp)) (fun b o _ e => u.there b o e (by simp)) u.tups u.frzs u.tbls (fun m' hm => by
    obtain ⟨o', es', ep', ho', r'⟩ := hm
    rw [ho] at ho'; cases ho'
    exact ⟨_, es', ep', hL, r'⟩) hok I.bare
/-- behind a call (or a comprehension's block): the slots of this frame may have changed too, the records at ch may have turned -/
theorem Inv.call {g' : Array GenState} {t' : Nat} {d' : Drawn} {ch : List Addr} (I : Inv X pins σ H s) (u : Un (frs X.stack) ch H H' s.heap h') (hok : HOk X.prog X.w H' h') (hg : AllBare g')
    (hch : ∀ b ∈ ch, (b ∈ X.ex ∨ X.s₀.heap.objs.size ≤ b) ∧ b ≠ X.env.locals ∧ (∀ x c, X.env.cells.lookup x = some c → c ≠ b) ∧ ∀ p ∈ X.pn ++ pins, p.1 ≠ b) :
    Inv X pins σ H' { s with heap := h', gens := g', drawn := d', toks := t' } := by
  obtain ⟨m, ⟨o, es, ep, ho, r⟩, _⟩ := id I.loc
  obtain ⟨sl, hL⟩ := u.any ho I.free fun z => (hch _ z).2.1 rfl
  exact I.step (ch := ch) hch (fun b o hL hb hc e n => u.keep b o e n (fun z => (List.mem_cons.mp (I.stkSub b z)).elim hL hb) hc) (fun b o _ _ hc e n => u.any e n hc) (fun b o hc e n => u.free b o e n hc) (fun b o hc e => u.there b o e hc) u.tups u.frzs u.tbls (fun m' hm => by
    obtain ⟨o', es', ep', ho', r'⟩ := hm
    rw [ho] at ho'; cases ho'
    exact ⟨_, es', ep', hL, r'⟩) hok hg
/-- an untracked record of ours (an iterator) has turned -/
theorem Inv.turned {t' : Nat} {it : Addr} (I : Inv X pins σ H s) (k : ∀ b o, b ≠ it → s.heap.get? b = some o → h'.get? b = some o) (hn : H it = none) (hL : it ≠ X.env.locals)
    (h1 : it ∈ X.ex ∨ X.s₀.heap.objs.size ≤ it) (h2 : ∀ x c, X.env.cells.lookup x = some c → c ≠ it) (h3 : ∀ p ∈ X.pn ++ pins, p.1 ≠ it) : Inv X pins σ H { s with heap := h', toks := t' } := by
  have nit : ∀ b u, H b = some u → b ≠ it := fun b u e z => by rw [z, hn] at e; cases e
  refine I.step (g' := s.gens) (d' := s.drawn) (ch := [it]) (fun b hb => ?_) (fun b o _ _ hc e _ => k b o (fun z => hc (by simp [z])) e) (fun b o _ _ hc e _ => ⟨o.slots, k b o (fun z => hc (by simp [z])) e⟩) (fun _ _ _ _ n => n)
    (fun b o hc e => ⟨o, k b o (fun z => hc (by simp [z])) e⟩) (fun _ _ e => e) (fun _ _ _ e => e) (fun b ps e => ⟨#[], by rw [e]; simp⟩) (fun m hm => ?_) (fun b u e => ?_) I.bare
  · have e : b = it := by simpa using hb
    subst e
    exact ⟨h1, hL, h2, h3⟩
  · obtain ⟨o, es, ep, ho, r⟩ := hm
    exact ⟨o, es, ep, k _ o (Ne.symm hL) ho, r⟩
  · refine (I.hok b u e).stay (fun c v hc q => k c v ?_ q) (fun _ q => q) fun _ _ q => q
    rcases hc with z | z
    · rw [z]; exact nit b u e
    · exact nit c _ z
theorem Inv.tok (I : Inv X pins σ H s) (t : Nat) : Inv X pins σ H { s with toks := t } := I.un (h' := s.heap) (t' := t) Un.refl I.hok
/-- all objects kept -/
theorem Inv.kept {t' : Nat} (I : Inv X pins σ H s) (k : ∀ b u, s.heap.get? b = some u → h'.get? b = some u) : Inv X pins σ H { s with heap := h', toks := t' } := I.un (Un.kept k) (I.hok.kept k)
/-- a new object laid and tracked -/
theorem Inv.laid {a : Addr} {o : HO} {t' : Nat} (I : Inv X pins σ H s) (k : ∀ b u, s.heap.get? b = some u → h'.get? b = some u) (hp : s.heap.objs.size ≤ a) (new : ObjOk X.prog X.w (upd H a o) h' a o) :
    Inv X pins σ (upd H a o) { s with heap := h', toks := t' } := I.un (Un.laid k hp (I.hok.fresh hp)) (I.hok.laid k hp new)
/-- an object written -/
theorem Inv.write {x e : Addr} {o : HO} {t' : Nat} (I : Inv X pins σ H s) (mu : Mut (H x)) (he : e = x ∨ H e = some (.own x)) (k : ∀ b u, b ≠ e → s.heap.get? b = some u → h'.get? b = some u) (heo : ∃ u, h'.get? e = some u)
    (new : ObjOk X.prog X.w (upd H x o) h' x o) : Inv X pins σ (upd H x o) { s with heap := h', toks := t' } := I.un (Un.write mu he k heo) (I.hok.write mu he k heo new)
theorem Inv.pins_of {pins' : List (Addr × Obj)} (I : Inv X pins σ H s) (h : ∀ p ∈ pins', s.heap.get? p.1 = some p.2 ∧ H p.1 = none ∧ p.1 ≠ X.env.locals ∧ p.1 ∉ X.fs ∧ ∀ v, p.2.data ≠ .cell v) : Inv X pins' σ H s :=
  ⟨I.ok, I.os, I.bare, I.base, I.loc, I.cell, I.free, I.freeC, fun p hp => (List.mem_append.mp hp).elim (fun z => I.pin p (List.mem_append_left _ z)) (h p), I.hok, I.len⟩

theorem nodup_ix {N : List Str} (hN : N.Nodup) {i j : Nat} {x : Str} (a : N[i]? = some x) (b : N[j]? = some x) : i = j := by
  obtain ⟨h1, e1⟩ := List.getElem?_eq_some_iff.mp a
  obtain ⟨h2, e2⟩ := List.getElem?_eq_some_iff.mp b
  exact (List.getElem_inj hN).mp (e1.trans e2.symm)

/-- a name is stored; what changed -/
theorem store_ok2 {M : Model} {A : Around} {E : Value → Shared → Prop} {i : Nat} {x : Str} {v : V} {u : Value} {Q : Unit → Shared → Prop} (I : Inv X pins σ H s) (hN : X.N.Nodup) (hi : X.N[i]? = some x) (hx : Loc X.env.scope x) (r : RelV v u)
    (h : ∀ s', Inv X pins (σ.set i (some v)) H s' → (∃ a, Heap.SameBut a s.heap s'.heap ∧ (a = X.env.locals ∨ X.env.cells.lookup x = some a)) → Q () s') (hf : X.fn x = true ∨ X.env.scope.names.lookup x = some .local := by first | exact .inl rfl | exact .inr rfl | assumption) : wpAny M A (storeName X.env x u) Q E s := by
  obtain ⟨m, hn, hl⟩ := id I.loc
  have hcls : (X.env.scope.kind == .class || (X.env.scope.kind == .module && X.env.locals != X.env.globals)) = false := by rw [I.ok.kind]; rfl
  have hiσ : i < σ.length := by rw [I.len]; exact (List.getElem?_eq_some_iff.mp hi).1
  have cne := I.cne
  have tracked : ∀ {a : Addr} {h' : Heap}, (∃ o, s.heap.get? a = some o ∧ H a = none) → Heap.SameBut a s.heap h' → HOk X.prog X.w H h' := fun {a h'} ha hs b ob e => by
    obtain ⟨_, _, hfree⟩ := ha
    refine (I.hok b ob e).stay (fun c w' hc q => (hs.2 c ?_).trans q) (fun _ q => q) fun _ _ q => q
    rintro rfl
    rcases hc with rfl | hc
    · rw [hfree] at e; cases e
    · rw [hfree] at hc; cases hc
  rcases hx with hk | hk
  · refine wpAny_storeName_local hk hn (fun h' hn' hs => ?_) hcls
    obtain ⟨oL, _, _, hoL, _⟩ := id hn
    refine h _ ⟨I.ok, I.os, I.bare, ⟨fun b o e n hb hx => ?_, fun b o e n hb hx => ?_, I.base.free, fun b o e hx => ?_, I.base.tups, I.base.frzs, I.base.tbls⟩, ⟨_, hn', fun j y v' e1 e2 e3 => ?_⟩, fun y c e => ?_, I.free, I.freeC, fun p hp => ?_, tracked ⟨oL, hoL, I.free⟩ hs, by simpa using I.len⟩ ⟨_, hs, .inl rfl⟩
    · exact (hs.2 b (Nat.ne_of_lt (Nat.lt_of_lt_of_le (Heap.lt_size e) I.ok.above))).trans (I.base.keep b o e n hb hx)
    · obtain ⟨sl, e1⟩ := I.base.slot b o e n hb hx
      exact ⟨sl, (hs.2 b (Nat.ne_of_lt (Nat.lt_of_lt_of_le (Heap.lt_size e) I.ok.above))).trans e1⟩
    · obtain ⟨o', e1⟩ := I.base.there b o e hx
      exact ⟨o', (hs.2 b (Nat.ne_of_lt (Nat.lt_of_lt_of_le (Heap.lt_size e) I.ok.above))).trans e1⟩
    · by_cases hj : j = i
      · subst hj
        rw [hi] at e1; cases e1
        rw [List.getElem?_set_self hiσ] at e2
        cases e2
        exact ⟨u, r, .inl ⟨hk, by simp⟩⟩
      · rw [List.getElem?_set_ne (Ne.symm hj)] at e2
        obtain ⟨u', r', q⟩ := hl j y v' e1 e2 e3
        refine ⟨u', r', ?_⟩
        rcases q with ⟨k, e⟩ | ⟨k, c, e, z⟩
        · refine .inl ⟨k, ?_⟩
          have : y ≠ x := fun e => hj (nodup_ix hN e1 (e ▸ hi))
          simp [this, e]
        · exact .inr ⟨k, c, e, z.sameBut hs (cne y c e)⟩
    · obtain ⟨w', z⟩ := I.cell y c e
      exact ⟨w', z.sameBut hs (cne y c e)⟩
    · obtain ⟨e, n, ne, nf, d⟩ := I.pin p hp
      exact ⟨(hs.2 p.1 ne).trans e, n, ne, nf, d⟩
  · have hfn : X.fn x = true := by
      rcases hf with z | z
      · exact z
      · rw [z] at hk; cases hk
    obtain ⟨c, hc⟩ := I.ok.has x (.inl hk)
    obtain ⟨w', z⟩ := I.cell x c hc
    refine wpAny_storeName_cell I.ok.kind hk hc z (fun h' hc' hs => ?_)
    obtain ⟨oc, hoc, hocd⟩ := id z
    refine h { s with heap := h' } ⟨I.ok, I.os, I.bare, ⟨fun b o e n hb hx => ?_, fun b o e n hb hx => ?_, I.base.free, fun b o e hx => ?_, I.base.tups, I.base.frzs, I.base.tbls⟩, ⟨m, hn.sameBut hs (Ne.symm (cne x c hc)), fun j y v' e1 e2 e3 => ?_⟩, fun y c' e => ?_, I.free, I.freeC, fun p hp => ?_, tracked ⟨oc, hoc, I.freeC x c hc⟩ hs, by simpa using I.len⟩ ⟨c, hs, .inr hc⟩
    · exact (hs.2 b (Nat.ne_of_lt (Nat.lt_of_lt_of_le (Heap.lt_size e) (I.ok.cab x c hfn hc)))).trans (I.base.keep b o e n hb hx)
    · obtain ⟨sl, e1⟩ := I.base.slot b o e n hb hx
      exact ⟨sl, (hs.2 b (Nat.ne_of_lt (Nat.lt_of_lt_of_le (Heap.lt_size e) (I.ok.cab x c hfn hc)))).trans e1⟩
    · obtain ⟨o', e1⟩ := I.base.there b o e hx
      exact ⟨o', (hs.2 b (Nat.ne_of_lt (Nat.lt_of_lt_of_le (Heap.lt_size e) (I.ok.cab x c hfn hc)))).trans e1⟩
    · by_cases hj : j = i
      · subst hj
        rw [hi] at e1; cases e1
        rw [List.getElem?_set_self hiσ] at e2
        cases e2
        exact ⟨u, r, .inr ⟨.inl hk, c, hc, hc'⟩⟩
      · rw [List.getElem?_set_ne (Ne.symm hj)] at e2
        obtain ⟨u', r', q⟩ := hl j y v' e1 e2 e3
        refine ⟨u', r', ?_⟩
        rcases q with q | ⟨k, c', e, z'⟩
        · exact .inl q
        · refine .inr ⟨k, c', e, z'.sameBut hs ?_⟩
          rintro rfl
          exact hj (nodup_ix hN e1 (I.ok.inj _ _ _ e hc ▸ hi))
    · by_cases hcc : c' = c
      · subst hcc; exact ⟨_, hc'⟩
      · obtain ⟨w2, z2⟩ := I.cell y c' e
        exact ⟨w2, z2.sameBut hs hcc⟩
    · obtain ⟨e, n, ne, nf, d⟩ := I.pin p hp
      refine ⟨(hs.2 p.1 ?_).trans e, n, ne, nf, d⟩
      intro q
      rw [q, hoc] at e
      have q' : oc = p.2 := Option.some.inj e
      exact d w' (by rw [← q']; exact hocd)
theorem store_ok {M : Model} {A : Around} {E : Value → Shared → Prop} {i : Nat} {x : Str} {v : V} {u : Value} {Q : Unit → Shared → Prop} (I : Inv X pins σ H s) (hN : X.N.Nodup) (hi : X.N[i]? = some x) (hx : Loc X.env.scope x) (r : RelV v u)
    (h : ∀ s', Inv X pins (σ.set i (some v)) H s' → Q () s') (hf : X.fn x = true ∨ X.env.scope.names.lookup x = some .local := by first | exact .inl rfl | exact .inr rfl | assumption) : wpAny M A (storeName X.env x u) Q E s :=
  store_ok2 I hN hi hx r (fun s' I' _ => h s' I') hf
/-- behind a call or a block, the state as it is -/
theorem Inv.call' {s' : Shared} {ch : List Addr} (I : Inv X pins σ H s) (ho : s'.os = s.os) (u : Un (frs X.stack) ch H H' s.heap s'.heap) (hok : HOk X.prog X.w H' s'.heap) (hg : AllBare s'.gens)
    (hch : ∀ b ∈ ch, (b ∈ X.ex ∨ X.s₀.heap.objs.size ≤ b) ∧ b ≠ X.env.locals ∧ (∀ x c, X.env.cells.lookup x = some c → c ≠ b) ∧ ∀ p ∈ X.pn ++ pins, p.1 ≠ b) : Inv X pins σ H' s' := by
  obtain ⟨h', g', d', t', o'⟩ := s'
  have e : o' = s.os := ho
  subst e
  exact I.call (g' := g') (t' := t') (d' := d') u hok hg hch
end

/-! ### the judgements -/
/-- an exception: its class, its own dict's address (where it has one), the abstract heap behind it -/
abbrev XK := Value → Option Addr → Hp → Prop
abbrev St := List (Option V)
abbrev VK := V → Hp → Prop
/-- an expression's reading; a test's; an argument list's -/
abbrev TE := St → Hp → VK → Prop
abbrev TT := St → Hp → (Bool → Hp → Prop) → Prop
abbrev TA := St → Hp → (List V → Hp → Prop) → Prop
/-- what is wanted behind a statement -/
structure Ends where
  nx : St → Hp → Prop
  rt : VK
  bk : St → Hp → Prop := fun _ _ => False
  ct : St → Hp → Prop := fun _ _ => False
abbrev TS := Ends → St → Hp → Prop

def EP (X : Cx) (pins : List (Addr × Obj)) (σ : St) (Q : VK) (u : Value) (s' : Shared) : Prop := ∃ v H', Inv X pins σ H' s' ∧ RelV v u ∧ Q v H'
def TP (X : Cx) (pins : List (Addr × Obj)) (σ : St) (Q : Bool → Hp → Prop) (b : Bool) (s' : Shared) : Prop := ∃ H', Inv X pins σ H' s' ∧ Q b H'
def AP (X : Cx) (pins : List (Addr × Obj)) (σ : St) (Q : List V → Hp → Prop) (us : List Value) (s' : Shared) : Prop := ∃ vs H', Inv X pins σ H' s' ∧ Vals vs us ∧ Q vs H'
def SP (X : Cx) (pins : List (Addr × Obj)) (D : Ends) (f : Flow) (s' : Shared) : Prop :=
  match f with
  | .next => ∃ σ' H', Inv X pins σ' H' s' ∧ D.nx σ' H'
  | .brk => ∃ σ' H', Inv X pins σ' H' s' ∧ D.bk σ' H'
  | .cont => ∃ σ' H', Inv X pins σ' H' s' ∧ D.ct σ' H'
  | .ret u => ∃ v σ' H', Inv X pins σ' H' s' ∧ RelV v u ∧ D.rt v H'

def PE (X : Cx) (e : Expr) (t : TE) : Prop :=
  ∀ (pins : List (Addr × Obj)) (s : Shared) (σ : St) (H : Hp) (Q : VK), Inv X pins σ H s → t σ H Q → wpAny (model X.prog X.w) X.A (eval e X.env) (EP X pins σ Q) X.xe s
def PT (X : Cx) (e : Expr) (t : TT) : Prop :=
  ∀ (pins : List (Addr × Obj)) (s : Shared) (σ : St) (H : Hp) (Q : Bool → Hp → Prop), Inv X pins σ H s → t σ H Q → wpAny (model X.prog X.w) X.A (isTrue e X.env (eval e X.env)) (TP X pins σ Q) X.xe s
/-- a test whatever its 'whole' is (and, or) -/
def PW (X : Cx) (e : Expr) (t : TT) : Prop :=
  ∀ (whole : Sem Value) (pins : List (Addr × Obj)) (s : Shared) (σ : St) (H : Hp) (Q : Bool → Hp → Prop), Inv X pins σ H s → t σ H Q → wpAny (model X.prog X.w) X.A (isTrue e X.env whole) (TP X pins σ Q) X.xe s
theorem PW.pt {X : Cx} {e : Expr} {t : TT} (h : PW X e t) : PT X e t := h _
/-- an argument list (no star), from the left -/
def PA (X : Cx) (es : List Expr) (t : TA) : Prop :=
  ∀ (pos : Pos) (pins : List (Addr × Obj)) (s : Shared) (σ : St) (H : Hp) (Q : List V → Hp → Prop), Inv X pins σ H s → t σ H Q → wpAny (model X.prog X.w) X.A (spliced (backTo pos (starEach es X.env))) (AP X pins σ Q) X.xe s
def PS (X : Cx) (st : Stmt) (t : TS) : Prop :=
  ∀ (pins : List (Addr × Obj)) (s : Shared) (σ : St) (H : Hp) (D : Ends), Inv X pins σ H s → t D σ H → wpAny (model X.prog X.w) X.A (exec st X.env) (SP X pins D) X.xe s
def PSs (X : Cx) (st : List Stmt) (t : TS) : Prop :=
  ∀ (pins : List (Addr × Obj)) (s : Shared) (σ : St) (H : Hp) (D : Ends), Inv X pins σ H s → t D σ H → wpAny (model X.prog X.w) X.A (execs st X.env) (SP X pins D) X.xe s
/-- weaken the end -/
theorem thn {α : Type} {t : Sem α} {Q Q' : α → Shared → Prop} {M : Model} {A : Around} {E : Value → Shared → Prop} {s : Shared} (h : wpAny M A t Q E s) (hQ : ∀ a s, Q a s → Q' a s) : wpAny M A t Q' E s := wpAny_mono h hQ fun _ _ x => x
end L2

namespace L2
open PySem PySem.Spec PyProof.Rows
section
variable {X : Cx}

/-! ### names and constants -/
def tVar (i : Nat) : TE := fun σ H Q => ∃ v, σ[i]? = some (some v) ∧ Q v H
def tC (v : V) : TE := fun _ H Q => Q v H
theorem pe_var {i : Nat} {x : Str} {pos : Pos} (hN : X.N[i]? = some x) (hv : Vis X.env.scope x) (hd : (x == ("__debug__" : Str)) = false := by decide) (hcd : (x == ("__classdict__" : Str)) = false := by decide) : PE X (.Name x pos) (tVar i) := by
  intro pins s σ H Q I h
  obtain ⟨v, e, h⟩ := h
  obtain ⟨m, hn, hl⟩ := I.loc
  obtain ⟨u, r, l⟩ := hl i x v hN e hv
  have fin : EP X pins σ Q u s := ⟨v, H, I, r, h⟩
  rcases l with ⟨hk, hm⟩ | ⟨hk, c, hc, hcell⟩
  · exact wpAny_Name (wpAny_loadName_local I.ok.kind hk hn hm fin) hd
  · rcases hk with hk | hk
    · exact wpAny_Name (wpAny_loadName_cell I.ok.kind hk hc hcell fin) hd
    · exact wpAny_Name (wpAny_loadName_free I.ok.kind hk hc hcell fin hcd) hd
theorem pe_int {i j pos} : PE X (.Constant (.int i) j pos) (tC (.int i)) := fun _ _ _ H _ I h => wpAny_Constant_int ⟨.int i, H, I.tok _, ⟨_, rfl⟩, h⟩
theorem pe_bl {b j pos} : PE X (.Constant (.bool b) j pos) (tC (.bl b)) := fun _ _ _ H _ I h => Constant_bool ⟨.bl b, H, I, rfl, h⟩
/-- a global name of the def -/
def Gl (X : Cx) (x : Str) : Prop := X.env.kindOf x = some .globalImplicit
theorem ld_glob {E : Value → Shared → Prop} {pins : List (Addr × Obj)} {s : Shared} {σ : St} {H : Hp} {x : Str} {u : Value} {pos : Pos} {Q : Value → Shared → Prop} (I : Inv X pins σ H s) (hg : Gl X x) (hm : X.mg x = some u) (h : Q u s)
    (hd : (x == ("__debug__" : Str)) = false := by decide) : wpAny (model X.prog X.w) X.A (eval (.Name x pos) X.env) Q E s :=
  Calls.Name_function_global I.ok.kind hg (Calls.loadGlobal_global (by rw [I.ok.glob]; exact I.mod.glob.keeps I.bk) hm h) hd
theorem ld_blt {E : Value → Shared → Prop} {pins : List (Addr × Obj)} {s : Shared} {σ : St} {H : Hp} {x : Str} {u : Value} {pos : Pos} {Q : Value → Shared → Prop} (I : Inv X pins σ H s) (hg : Gl X x) (hm : X.mg x = none) (hv : bootBuiltins x = some u) (h : Q u s)
    (hn : x ≠ "__name__" := by decide) (hd : (x == ("__debug__" : Str)) = false := by decide) : wpAny (model X.prog X.w) X.A (eval (.Name x pos) X.env) Q E s := by
  obtain ⟨mb, h1, h2⟩ := I.mod.blt
  exact Calls.Name_function_global I.ok.kind hg (Calls.loadGlobal_builtin (by rw [I.ok.glob]; exact I.mod.glob.keeps I.bk) hm (by rw [I.ok.blt]; exact h1.keeps I.bk) ((h2 x hn).trans hv) h) hd
theorem pe_bltn {x : Str} {v : V} {u : Value} {pos : Pos} (hg : Gl X x) (hm : X.mg x = none) (hv : bootBuiltins x = some u) (r : RelV v u) (hn : x ≠ "__name__" := by decide) (hd : (x == ("__debug__" : Str)) = false := by decide) : PE X (.Name x pos) (tC v) :=
  fun _ _ _ H _ I h => ld_blt I hg hm hv ⟨v, H, I, r, h⟩ hn hd

/-! ### arithmetic -/
/-- two ints -/
def t2I (ta tb : TE) (k : Int → Int → Hp → Prop) : St → Hp → Prop := fun σ H => ta σ H fun x H1 => tb σ H1 fun y H2 => ∃ i j, x = .int i ∧ y = .int j ∧ k i j H2
def tAdd (ta tb : TE) : TE := fun σ H Q => t2I ta tb (fun i j H2 => Q (.int (i + j)) H2) σ H
def tSub (ta tb : TE) : TE := fun σ H Q => t2I ta tb (fun i j H2 => Q (.int (i - j)) H2) σ H
/-- the left factor below 2^64 -/
def tMul (ta tb : TE) : TE := fun σ H Q => t2I ta tb (fun i j H2 => (-(2 ^ 64) < i ∧ i < 2 ^ 64) ∧ Q (.int (i * j)) H2) σ H
variable {a b : Expr} {ta tb : TE} {pos : Pos}
/-! ### comparisons -/
def PC (X : Cx) (op : CmpOp) (a b : Expr) (t : TE) : Prop :=
  ∀ (pins : List (Addr × Obj)) (s : Shared) (σ : St) (H : Hp) (Q : VK), Inv X pins σ H s → t σ H Q →
    wpAny (model X.prog X.w) X.A (eval a X.env) (fun v s₁ => wpAny (model X.prog X.w) X.A (eval b X.env) (fun u s₂ => wpAny (model X.prog X.w) X.A (compareOp op v u) (EP X pins σ Q) X.xe s₂) X.xe s₁) X.xe s
def tCmp (p : Int → Int → Bool) (ta tb : TE) : TE := fun σ H Q => t2I ta tb (fun i j H2 => Q (.bl (p i j)) H2) σ H
abbrev tLt : TE → TE → TE := tCmp fun i j => decide (i < j)
abbrev tLe : TE → TE → TE := tCmp fun i j => decide (i ≤ j)
abbrev tGt : TE → TE → TE := tCmp fun i j => decide (j < i)
abbrev tGe : TE → TE → TE := tCmp fun i j => decide (j ≤ i)
abbrev tEqI : TE → TE → TE := tCmp fun i j => decide (i = j)
abbrev tNeI : TE → TE → TE := tCmp fun i j => !decide (i = j)
/-- is None -/
def tIsN (ta : TE) : TE := fun σ H Q => ta σ H fun x H1 => Q (.bl (decide (x = .non))) H1
def tNotN (ta : TE) : TE := fun σ H Q => ta σ H fun x H1 => Q (.bl (!decide (x = .non))) H1
/-- a comparison as a value, as a test -/
def tB (t : TE) : TT := fun σ H Q => t σ H fun x H1 => ∃ c, x = .bl c ∧ Q c H1
/-- an expression whose value is a bool, as a test -/
theorem pt_val {e : Expr} {t : TE} (h : PE X e t) (he : ∀ whole, isTrue e X.env whole = (do let v ← whole; standAt e.pos; holding [v] (truthy v)) := by intro _; rfl) : PT X e (tB t) := by
  intro pins s σ H Q I hw
  refine isTrue_plain (thn (h pins s σ H _ I hw) fun v s1 ⟨x, H1, I1, r1, q1⟩ => ?_) (he _)
  obtain ⟨d, rfl, q⟩ := q1
  cases r1
  exact wpAny_truthy_bool ⟨H1, I1, q⟩

/-! ### and, or, not -/
variable {tA tB' : TT} {rest : List Expr}
def tAnd (t u : TT) : TT := fun σ H Q => t σ H fun c H1 => if c = true then u σ H1 Q else Q false H1
def tOr (t u : TT) : TT := fun σ H Q => t σ H fun c H1 => if c = true then Q true H1 else u σ H1 Q
def tNot (t : TT) : TT := fun σ H Q => t σ H fun c H1 => Q (!c) H1
theorem pw_and1 (ha : PT X a tA) : PW X (.BoolOp .And [a] pos) tA := by
  intro wh pins s σ H Q I h
  refine isTrue_and (thn (ha pins s σ H Q I h) fun c s1 e => ?_)
  cases c with
  | true => exact isTrue_and_nil e
  | false => exact e
theorem pw_or1 (ha : PT X a tA) : PW X (.BoolOp .Or [a] pos) tA := by
  intro wh pins s σ H Q I h
  refine isTrue_or (thn (ha pins s σ H Q I h) fun c s1 e => ?_)
  cases c with
  | false => exact isTrue_or_nil e
  | true => exact e
theorem pw_and (ha : PT X a tA) (hb : PW X (.BoolOp .And (b :: rest) pos) tB') : PW X (.BoolOp .And (a :: b :: rest) pos) (tAnd tA tB') := by
  intro wh pins s σ H Q I h
  refine isTrue_and (thn (ha pins s σ H _ I h) fun c s1 ⟨H1, I1, q1⟩ => ?_)
  cases c with
  | true => exact hb wh pins s1 σ H1 Q I1 q1
  | false => exact ⟨H1, I1, q1⟩
theorem pw_or (ha : PT X a tA) (hb : PW X (.BoolOp .Or (b :: rest) pos) tB') : PW X (.BoolOp .Or (a :: b :: rest) pos) (tOr tA tB') := by
  intro wh pins s σ H Q I h
  refine isTrue_or (thn (ha pins s σ H _ I h) fun c s1 ⟨H1, I1, q1⟩ => ?_)
  cases c with
  | true => exact ⟨H1, I1, q1⟩
  | false => exact hb wh pins s1 σ H1 Q I1 q1
theorem pt_not (ha : PT X a tA) : PT X (.UnaryOp .Not a pos) (tNot tA) := by
  intro pins s σ H Q I h
  exact isTrue_not (ha pins s σ H (fun c H1 => Q (!c) H1) I h)
/-- .. as values (bools) -/
def tAndV (ta tb : TE) : TE := fun σ H Q => ta σ H fun x H1 => ∃ c, x = .bl c ∧ if c = true then tb σ H1 Q else Q (.bl false) H1
def tOrV (ta tb : TE) : TE := fun σ H Q => ta σ H fun x H1 => ∃ c, x = .bl c ∧ if c = true then Q (.bl true) H1 else tb σ H1 Q
def tNotV (ta : TE) : TE := fun σ H Q => ta σ H fun x H1 => ∃ c, x = .bl c ∧ Q (.bl (!c)) H1
theorem pe_one {op} {t : TE} (h : PE X a t) : PE X (.BoolOp op [a] pos) t := fun pins s σ H Q I hw => BoolOp_one (h pins s σ H Q I hw)
theorem pe_and (ha : PE X a ta) (hb : PE X (.BoolOp .And (b :: rest) pos) tb) : PE X (.BoolOp .And (a :: b :: rest) pos) (tAndV ta tb) := by
  intro pins s σ H Q I h
  refine BoolOp_and (thn (ha pins s σ H _ I h) fun v s1 ⟨x, H1, I1, r1, q1⟩ => ?_)
  obtain ⟨c, rfl, q1⟩ := q1
  cases r1
  refine wpAny_truthy_bool ?_
  cases c with
  | true => exact hb pins s1 σ H1 Q I1 q1
  | false => exact ⟨.bl false, H1, I1, rfl, q1⟩
theorem pe_or (ha : PE X a ta) (hb : PE X (.BoolOp .Or (b :: rest) pos) tb) : PE X (.BoolOp .Or (a :: b :: rest) pos) (tOrV ta tb) := by
  intro pins s σ H Q I h
  refine BoolOp_or (thn (ha pins s σ H _ I h) fun v s1 ⟨x, H1, I1, r1, q1⟩ => ?_)
  obtain ⟨c, rfl, q1⟩ := q1
  cases r1
  refine wpAny_truthy_bool ?_
  cases c with
  | false => exact hb pins s1 σ H1 Q I1 q1
  | true => exact ⟨.bl true, H1, I1, rfl, q1⟩
theorem pe_not (ha : PE X a ta) : PE X (.UnaryOp .Not a pos) (tNotV ta) := by
  intro pins s σ H Q I h
  refine UnaryOp_ (thn (ha pins s σ H _ I h) fun v s1 ⟨x, H1, I1, r1, q1⟩ => ?_)
  obtain ⟨c, rfl, q1⟩ := q1
  cases r1
  exact not_of (wpAny_truthy_bool ⟨.bl (!c), H1, I1, rfl, q1⟩)
/-- a if t else b -/
def tIf (t : TT) (ta tb : TE) : TE := fun σ H Q => t σ H fun c H1 => if c = true then ta σ H1 Q else tb σ H1 Q
end
end L2

namespace L2
open PySem PySem.Spec PyProof.Rows

/-! ### a list, a tuple that is read: tracked, frozen, or an object of the module -/
def SqL (K : PySem.W.Frag) (H : Hp) (a : Addr) (xs : List V) : Prop :=
  Rd H a (.lst xs) ∨
    ∃ (o : Obj) (its : Array Value) (n : Nat), K.lookup a = some o ∧ o.cls = .type "list" ∧ o.dict = none ∧ o.data = .seq its n ∧ its.size ≤ sizeLine ∧ Vals xs its.toList
def SqT (K : PySem.W.Frag) (H : Hp) (a : Addr) (xs : List V) : Prop :=
  Rd H a (.tup xs) ∨
    ∃ (o : Obj) (its : Array Value) (n : Nat), K.lookup a = some o ∧ o.cls = .type "tuple" ∧ o.data = .seq its n ∧ its.size ≤ sizeLine ∧ Vals xs its.toList
def absV : Value → Option V
  | .none => some .non
  | .bool b => some (.bl b)
  | .int i _ => some (.int i)
  | .str x _ => some (.str x)
  | .bytes b _ => some (.byt b)
  | .float b _ => some (.flt b)
  | .ref a => some (.ref a)
  | .type n => some (.ty n)
  | _ => none
theorem RelV.abs {x : V} {u : Value} (r : RelV x u) : absV u = some x := by
  cases x with
  | non => cases r; rfl
  | bl _ => cases r; rfl
  | int _ => obtain ⟨t, rfl⟩ := r; rfl
  | str _ => obtain ⟨t, rfl⟩ := r; rfl
  | byt _ => obtain ⟨t, rfl⟩ := r; rfl
  | flt _ => obtain ⟨t, rfl⟩ := r; rfl
  | ref _ => cases r; rfl
  | ty _ => cases r; rfl
theorem RelV.inj {x y : V} {u : Value} (r : RelV x u) (q : RelV y u) : x = y := Option.some.inj (r.abs.symm.trans q.abs)
theorem Vals.inj : ∀ {xs ys : List V} {us : List Value}, Vals xs us → Vals ys us → xs = ys
  | _, _, _, .nil, .nil => rfl
  | _, _, _, .cons r t, .cons r' t' => by rw [r.inj r', Vals.inj t t']
section
variable {X : Cx} {pins : List (Addr × Obj)} {σ : St} {H : Hp} {s : Shared} {a : Addr} {xs ys : List V}
theorem SqL.of {K : PySem.W.Frag} (h : H a = some (.lst xs)) : SqL K H a xs := .inl (.inl h)
theorem SqT.of {K : PySem.W.Frag} (h : H a = some (.tup xs)) : SqT K H a xs := .inl (.inl h)
theorem Inv.list (I : Inv X pins σ H s) (h : SqL X.K H a xs) : ∃ its : List Value, Vals xs its ∧ PlainL s.heap a its.toArray ∧ xs.length ≤ sizeLine := by
  rcases h with h | ⟨o, its, n, hk, hc, hd, hs, hz, r⟩
  · obtain ⟨z, its, n, r, e⟩ := h.ok I.hok
    exact ⟨its, r, ⟨_, n, e, rfl, rfl, rfl⟩, z⟩
  · refine ⟨its.toList, r, ⟨o, n, I.kIn a o hk, hc, hd, by simpa using hs⟩, ?_⟩
    have e := r.length
    simp only [Array.length_toList] at e
    omega
theorem Inv.tuple (I : Inv X pins σ H s) (h : SqT X.K H a xs) : ∃ its : List Value, Vals xs its ∧ IsTup s.heap a its.toArray ∧ xs.length ≤ sizeLine := by
  rcases h with h | ⟨o, its, n, hk, hc, hs, hz, r⟩
  · obtain ⟨z, its, r, p⟩ := h.ok I.hok
    exact ⟨its, r, p, z⟩
  · refine ⟨its.toList, r, ⟨o, I.kIn a o hk, hc, n, by simpa using hs⟩, ?_⟩
    have e := r.length
    simp only [Array.length_toList] at e
    omega
theorem Inv.list_inj (I : Inv X pins σ H s) (h : SqL X.K H a xs) (h' : SqL X.K H a ys) : xs = ys := by
  obtain ⟨its, r, ⟨o, n, e, _, _, d⟩, _⟩ := I.list h
  obtain ⟨its', r', ⟨o', n', e', _, _, d'⟩, _⟩ := I.list h'
  rw [e] at e'; cases e'
  rw [d] at d'
  injection d' with d1 _
  have : its = its' := by simpa using congrArg Array.toList d1
  subst this
  exact r.inj r'
end

/-! ### another wish about exceptions -/
abbrev Cx.wish (X : Cx) (E : Value → Shared → Prop) : Cx := { X with xe := E }
/-- no exception leaves -/
abbrev Cx.nox (X : Cx) : Cx := X.wish fun _ _ => False
theorem Cx.Ok.wish {X : Cx} (ok : X.Ok) (E : Value → Shared → Prop) : (X.wish E).Ok :=
  ⟨ok.mod, ok.kind, ok.glob, ok.blt, ok.above, ok.inj, ok.has, ok.cab, ok.hd, ok.frames, ok.stk, ok.exf, ok.bs, ok.bsz, ok.noex, ok.exfs, ok.funs, ok.frf⟩
theorem Cx.Ok.unwish {X : Cx} {E : Value → Shared → Prop} (ok : (X.wish E).Ok) : X.Ok :=
  ⟨ok.mod, ok.kind, ok.glob, ok.blt, ok.above, ok.inj, ok.has, ok.cab, ok.hd, ok.frames, ok.stk, ok.exf, ok.bs, ok.bsz, ok.noex, ok.exfs, ok.funs, ok.frf⟩
section
variable {X : Cx} {pins : List (Addr × Obj)} {σ : St} {H : Hp} {s : Shared} {E : Value → Shared → Prop}
theorem Inv.wish (I : Inv X pins σ H s) (E : Value → Shared → Prop) : Inv (X.wish E) pins σ H s := ⟨I.ok.wish E, I.os, I.bare, I.base, I.loc, I.cell, I.free, I.freeC, I.pin, I.hok, I.len⟩
theorem Inv.unwish (I : Inv (X.wish E) pins σ H s) : Inv X pins σ H s := ⟨I.ok.unwish, I.os, I.bare, I.base, I.loc, I.cell, I.free, I.freeC, I.pin, I.hok, I.len⟩
theorem SP.unwish {D : Ends} {f : Flow} {s' : Shared} (h : SP (X.wish E) pins D f s') : SP X pins D f s' := by
  cases f with
  | next => obtain ⟨σ', H', I, q⟩ := h; exact ⟨σ', H', I.unwish, q⟩
  | brk => obtain ⟨σ', H', I, q⟩ := h; exact ⟨σ', H', I.unwish, q⟩
  | cont => obtain ⟨σ', H', I, q⟩ := h; exact ⟨σ', H', I.unwish, q⟩
  | ret u => obtain ⟨v, σ', H', I, r, q⟩ := h; exact ⟨v, σ', H', I.unwish, r, q⟩
theorem PSs.nox {st : List Stmt} {t : TS} (h : PSs X.nox st t) : PSs X st t := fun pins s σ H D I hw =>
  wpAny_mono (h pins s σ H D (I.wish _) hw) (fun _ _ q => q.unwish) fun _ _ z => False.elim z
end

/-! ### blocks and small statements -/
section
variable {X : Cx} {st : Stmt} {rest : List Stmt} {t u : TS} {e : Expr} {te : TE} {pos : Pos}
def tNext : TS := fun D σ H => D.nx σ H
def tSeq (t u : TS) : TS := fun D σ H => t { D with nx := u D } σ H
theorem pss_nil : PSs X [] tNext := fun _ _ σ H _ I h => wpAny_execs_nil ⟨σ, H, I, h⟩
theorem pss_cons (h1 : PS X st t) (h2 : PSs X rest u) : PSs X (st :: rest) (tSeq t u) := by
  intro pins s σ H D I h
  refine wpAny_execs_cons (thn (h1 pins s σ H { D with nx := u D } I h) fun f s1 q => ?_)
  cases f with
  | next =>
    obtain ⟨σ', H', I', q⟩ := q
    exact h2 pins s1 σ' H' D I' q
  | ret v => exact q
  | brk => exact q
  | cont => exact q
theorem pss_one (h1 : PS X st t) : PSs X [st] t := by
  intro pins s σ H D I h
  refine wpAny_execs_cons (thn (h1 pins s σ H D I h) fun f s1 q => ?_)
  cases f with
  | next => exact wpAny_execs_nil q
  | ret v => exact q
  | brk => exact q
  | cont => exact q
def tBreak : TS := fun D σ H => D.bk σ H
def tCont : TS := fun D σ H => D.ct σ H
theorem ps_continue : PS X (.Continue pos) tCont := fun _ _ σ H _ I h => wpAny_Continue ⟨σ, H, I, h⟩
/-- in a def's body nothing is shown -/
theorem Inv.quiet {pins : List (Addr × Obj)} {σ : St} {H : Hp} {s : Shared} (I : Inv X pins σ H s) : interactive X.env = false := by simp [interactive, I.ok.kind]
/-- an expression whose value is dropped -/
def tDrop (te : TE) : TS := fun D σ H => te σ H fun _ H1 => D.nx σ H1
theorem ps_expr (he : PE X e te) (hs : swapsWith e none pos.line X.env = pure false := by rfl) : PS X (.Expr e pos) (tDrop te) := by
  intro pins s σ H D I h
  exact wpAny_Expr_any (thn (he pins s σ H _ I h) fun v s1 ⟨x, H1, I1, r1, q1⟩ => ⟨σ, H1, I1, q1⟩) I.quiet hs
def tRet (te : TE) : TS := fun D σ H => te σ H D.rt
theorem ps_ret (he : PE X e te) : PS X (.Return (some e) pos) (tRet te) := by
  intro pins s σ H D I h
  exact wpAny_Return_some (thn (he pins s σ H _ I h) fun v s1 ⟨x, H1, I1, r1, q1⟩ => ⟨x, σ, H1, I1, r1, q1⟩)
def tRetN : TS := fun D _ H => D.rt .non H
def tIfS (c : TT) (t u : TS) : TS := fun D σ H => c σ H fun b H1 => if b = true then t D σ H1 else u D σ H1
theorem ps_if {c : Expr} {a b : List Stmt} {tc : TT} (hc : PT X c tc) (ha : PSs X a t) (hb : PSs X b u) : PS X (.If c a b pos) (tIfS tc t u) := by
  intro pins s σ H D I h
  refine wpAny_If (thn (hc pins s σ H _ I h) fun d s1 ⟨H1, I1, q1⟩ => ?_)
  cases d with
  | true => exact ha pins s1 σ H1 D I1 q1
  | false => exact hb pins s1 σ H1 D I1 q1
/-- code that the proof never comes to -/
def tNever : TS := fun _ _ _ => False
end

/-! ### targets -/
abbrev TG := V → St → Hp → (St → Hp → Prop) → Prop
abbrev TGs := List V → St → Hp → (St → Hp → Prop) → Prop
def PG (X : Cx) (target : Expr) (t : TG) : Prop :=
  ∀ (pins : List (Addr × Obj)) (s : Shared) (σ : St) (H : Hp) (v : V) (u : Value) (Q : St → Hp → Prop), Inv X pins σ H s → RelV v u → t v σ H Q →
    wpAny (model X.prog X.w) X.A (assign target X.env u) (fun _ s' => ∃ σ' H', Inv X pins σ' H' s' ∧ Q σ' H') X.xe s
/-- several targets, one after another -/
def PGs (X : Cx) (ts : List Expr) (t : TGs) : Prop :=
  ∀ (pins : List (Addr × Obj)) (s : Shared) (σ : St) (H : Hp) (vs : List V) (us : List Value) (Q : St → Hp → Prop), Inv X pins σ H s → Vals vs us → t vs σ H Q →
    wpAny (model X.prog X.w) X.A (assignInOrder ((assignEach ts X.env).map (·.2)) us) (fun _ s' => ∃ σ' H', Inv X pins σ' H' s' ∧ Q σ' H') X.xe s
/-- o[i] = v, by values -/
abbrev TSet := V → V → V → Hp → (Hp → Prop) → Prop
def PSet (X : Cx) (t : TSet) : Prop :=
  ∀ (pins : List (Addr × Obj)) (s : Shared) (σ : St) (H : Hp) (o i v : V) (ov iv u : Value) (Q : Hp → Prop), Inv X pins σ H s → RelV o ov → RelV i iv → RelV v u → t o i v H Q →
    wpAny (model X.prog X.w) X.A (setItem ov iv u) (fun _ s' => ∃ H', Inv X pins σ H' s' ∧ Q H') X.xe s
/-- a op= b, by values -/
abbrev TIp := V → V → Hp → VK → Prop
def PIp (X : Cx) (op : Operator) (t : TIp) : Prop :=
  ∀ (pins : List (Addr × Obj)) (s : Shared) (σ : St) (H : Hp) (x y : V) (v u : Value) (Q : VK), Inv X pins σ H s → RelV x v → RelV y u → t x y H Q →
    wpAny (model X.prog X.w) X.A (inplaceOp op v u) (EP X pins σ Q) X.xe s
section
variable {X : Cx} {pos : Pos}
def gName (i : Nat) : TG := fun v σ H Q => Q (σ.set i (some v)) H
theorem pg_name {i : Nat} {x : Str} (hN : X.N.Nodup) (hi : X.N[i]? = some x) (hx : Loc X.env.scope x) (hf : X.fn x = true ∨ X.env.scope.names.lookup x = some .local := by first | exact .inl rfl | exact .inr rfl | assumption) : PG X (.Name x pos) (gName i) := by
  intro pins s σ H v u Q I r h
  exact wpAny_assign_Name (store_ok I hN hi hx r (fun s' I' => ⟨_, H, I', h⟩) hf)
def gNil : TGs := fun vs σ H Q => vs = [] ∧ Q σ H
def gCons (t : TG) (u : TGs) : TGs := fun vs σ H Q => ∃ v r, vs = v :: r ∧ t v σ H fun σ' H' => u r σ' H' Q
theorem pgs_nil : PGs X [] gNil := by
  intro pins s σ H vs us Q I r h
  obtain ⟨e, h⟩ := h
  subst e
  cases r
  exact assignInOrder_nil ⟨σ, H, I, h⟩
theorem pgs_cons {e : Expr} {es : List Expr} {t : TG} {u : TGs} (h1 : PG X e t) (h2 : PGs X es u)
    (hs : (assignEach (e :: es) X.env).map (·.2) = assign e X.env :: (assignEach es X.env).map (·.2) := by rfl) : PGs X (e :: es) (gCons t u) := by
  intro pins s σ H vs us Q I r h
  obtain ⟨v, vr, e1, h⟩ := h
  subst e1
  cases r with
  | cons r rr =>
    rw [hs]
    refine assignInOrder_cons (thn (h1 pins s σ H _ _ _ I r h) fun _ s1 ⟨σ1, H1, I1, q1⟩ => ?_)
    exact h2 pins s1 σ1 H1 _ _ Q I1 rr q1
/-- (a, b, ..) = a tuple of that length -/
def gTup (K : PySem.W.Frag) (n : Nat) (t : TGs) : TG := fun v σ H Q => ∃ a xs, v = .ref a ∧ SqT K H a xs ∧ xs.length = n ∧ t xs σ H Q
theorem pg_tup {es : List Expr} {k : Nat} {t : TGs} {n : Nat} (hc : X.calm = true) (h : PGs X es t)
    (hn : (assignEach es X.env).length = n := by rfl) (hst : (assignEach es X.env).findIdx? (·.1) = none := by rfl) : PG X (.Tuple es k pos) (gTup X.K n t) := by
  intro pins s σ H v u Q I r hw
  obtain ⟨a, xs, e1, hq, hl, hw⟩ := hw
  subst e1
  cases r
  obtain ⟨its, rv, ht, hz⟩ := I.tuple hq
  refine assign_Tuple_tuple (I.ok.hd hc) ht (by simp [hn, ← hl, rv.length]) hst fun h' hx => ?_
  have I1 : Inv X pins σ H { s with heap := h' } := I.kept (t' := s.toks) fun b o e => hx b o (Nat.ne_of_lt (Heap.lt_size e)) e
  exact h pins _ σ H xs _ Q I1 (by simpa using rv) hw
/-- o[i] = .. -/
def gSub (to ti : TE) (t : TSet) : TG := fun v σ H Q => to σ H fun o H1 => ti σ H1 fun i H2 => t o i v H2 fun H3 => Q σ H3
theorem pg_sub {o i : Expr} {to ti : TE} {t : TSet} (ho : PE X o to) (hi : PE X i ti) (hs : PSet X t)
    (ha : ∀ v, assign (.Subscript o i pos) X.env v = (do
      let ov ← holding [v] (eval o X.env)
      let iv ← holding [v, ov] (eval i X.env)
      standAt pos
      holding [v, ov, iv] (setItem ov iv v)
      release [v, ov, iv] []) := by intro _; rfl) : PG X (.Subscript o i pos) (gSub to ti t) := by
  intro pins s σ H v u Q I r h
  rw [ha]
  refine wpAny_bind (wpAny_holding (thn (ho pins s σ H _ I h) fun ov s1 ⟨x, H1, I1, r1, q1⟩ => ?_))
  refine wpAny_bind (wpAny_holding (thn (hi pins s1 σ H1 _ I1 q1) fun iv s2 ⟨y, H2, I2, r2, q2⟩ => ?_))
  refine wpAny_bind (wpAny_standAt (wpAny_bind (wpAny_holding (thn (hs pins s2 σ H2 x y v ov iv u _ I2 r1 r2 r q2) fun _ s3 ⟨H3, I3, q3⟩ => ?_))))
  exact wpAny_release ⟨σ, H3, I3, q3⟩
/-- target = value -/
def tAsg (te : TE) (g : TG) : TS := fun D σ H => te σ H fun x H1 => g x σ H1 D.nx
theorem ps_asg {tg e : Expr} {te : TE} {g : TG} (he : PE X e te) (hg : PG X tg g) (hs : swapsWithSole [tg] e pos.line X.env = pure false := by rfl) (hw : swappedStores [tg] e X.env = pure none := by rfl)
    (h1 : (assignEach [tg] X.env).map (·.2) = [assign tg X.env] := by rfl) : PS X (.Assign [tg] e pos) (tAsg te g) := by
  intro pins s σ H D I h
  refine wpAny_Assign_stores (thn (he pins s σ H _ I h) fun v s1 ⟨x, H1, I1, r1, q1⟩ => ?_) hs hw
  rw [h1]
  exact thn (hg pins s1 σ H1 x v _ I1 r1 q1) fun _ s2 q => q
/-- name = value -/
theorem ps_set {i : Nat} {x : Str} {e : Expr} {te : TE} {pos' : Pos} (hN : X.N.Nodup) (hi : X.N[i]? = some x) (hx : Loc X.env.scope x) (he : PE X e te) (hs : swapsWith e (some (.Name x pos')) pos.line X.env = pure false := by rfl) (hf : X.fn x = true ∨ X.env.scope.names.lookup x = some .local := by first | exact .inl rfl | exact .inr rfl | assumption) :
    PS X (.Assign [.Name x pos'] e pos) (tAsg te (gName i)) := by
  intro pins s σ H D I h
  refine wpAny_Assign_Name (thn (he pins s σ H _ I h) fun v s1 ⟨y, H1, I1, r1, q1⟩ => ?_) hs
  exact store_ok I1 hN hi hx r1 (fun s2 I2 => ⟨_, H1, I2, q1⟩) hf
/-- a, b = x, y with plain local names: stored from the right; the pair itself is not tracked (the opening rows as in PyProof/Rows/TupAssign.lean:23) -/
def tPar (i j : Nat) (ta : TA) : TS := fun D σ H => ta σ H fun vs H1 => ∃ v w, vs = [v, w] ∧ D.nx ((σ.set i (some v)).set j (some w)) H1
/-- name op= e -/
def tAug (i : Nat) (te : TE) (ti : TIp) : TS := fun D σ H => ∃ x, σ[i]? = some (some x) ∧ te σ H fun y H1 => ti x y H1 fun z H2 => D.nx (σ.set i (some z)) H2
theorem ps_aug {i : Nat} {x : Str} {e : Expr} {te : TE} {op : Operator} {ti : TIp} {pos' : Pos} (hN : X.N.Nodup) (hi : X.N[i]? = some x) (hx : Loc X.env.scope x) (he : PE X e te) (ho : PIp X op ti) (hf : X.fn x = true ∨ X.env.scope.names.lookup x = some .local := by first | exact .inl rfl | exact .inr rfl | assumption) :
    PS X (.AugAssign (.Name x pos') op e pos) (tAug i te ti) := by
  intro pins s σ H D I h
  obtain ⟨v, e1, h⟩ := h
  obtain ⟨m, hn, hl⟩ := I.loc
  have vis : Vis X.env.scope x := by rcases hx with k | k; exact .inl k; exact .inr (.inl k)
  obtain ⟨u, r, l⟩ := hl i x v hi e1 vis
  refine wpAny_AugAssign_Name ?_
  have go : wpAny (model X.prog X.w) X.A (eval e X.env) (fun w s₂ => wpAny (model X.prog X.w) X.A (inplaceOp op u w) (fun r s₃ => wpAny (model X.prog X.w) X.A (storeName X.env x r) (fun _ => SP X pins D .next) X.xe s₃) X.xe s₂) X.xe s := by
    refine thn (he pins s σ H _ I h) fun w s1 ⟨y, H1, I1, r1, q1⟩ => ?_
    refine thn (ho pins s1 σ H1 v y u w _ I1 r r1 q1) fun z s2 ⟨zv, H2, I2, r2, q2⟩ => ?_
    exact store_ok I2 hN hi hx r2 (fun s3 I3 => ⟨_, H2, I3, q2⟩) hf
  rcases l with ⟨hk, hm⟩ | ⟨hk, c, hc, hcell⟩
  · exact wpAny_loadName_local I.ok.kind hk hn hm go
  · rcases hk with hk | hk
    · exact wpAny_loadName_cell I.ok.kind hk hc hcell go
    · rcases hx with k | k
      · have : X.env.scope.names.lookup x = some .free := hk
        rw [k] at this; cases this
      · have : X.env.scope.names.lookup x = some .free := hk
        rw [k] at this; cases this
/-- o[i] op= e -/
def tAugS (to ti te : TE) (tget : V → V → Hp → VK → Prop) (tip : TIp) (tset : TSet) : TS := fun D σ H => to σ H fun o H1 => ti σ H1 fun i H2 => tget o i H2 fun x H3 => te σ H3 fun y H4 => tip x y H4 fun z H5 => tset o i z H5 fun H6 => D.nx σ H6
/-- o[i], by values -/
def PGet (X : Cx) (t : V → V → Hp → VK → Prop) : Prop :=
  ∀ (pins : List (Addr × Obj)) (s : Shared) (σ : St) (H : Hp) (o i : V) (ov iv : Value) (Q : VK), Inv X pins σ H s → RelV o ov → RelV i iv → t o i H Q →
    wpAny (model X.prog X.w) X.A (getItem ov iv) (EP X pins σ Q) X.xe s
/-- ints -/
def ipI (f : Int → Int → Int) : TIp := fun x y H Q => ∃ i j, x = .int i ∧ y = .int j ∧ Q (.int (f i j)) H
theorem ip_add : PIp X .Add (ipI fun i j => i + j) := by
  intro pins s σ H x y v u Q I r1 r2 h
  obtain ⟨i, j, e1, e2, q⟩ := h
  subst e1; subst e2
  obtain ⟨t, rfl⟩ := r1
  obtain ⟨t', rfl⟩ := r2
  exact iadd_int ⟨.int _, H, I.tok _, ⟨_, rfl⟩, q⟩
end

/-! ### while -/
section
variable {X : Cx} {pos : Pos}
/-- the invariant W with its measure -/
def tWhile (c : TT) (tb : TS) : TS := fun D σ H => ∃ W : Nat → St → Hp → Prop, (∃ m, W m σ H) ∧ ∀ m σ H, W m σ H →
  c σ H fun b H1 => if b = true then ∃ N : St → Hp → Prop, (∀ σ' H', N σ' H' → ∃ m', m' < m ∧ W m' σ' H') ∧ tb { D with nx := N, ct := N, bk := D.nx } σ H1 else D.nx σ H1
theorem ps_while {c : Expr} {body : List Stmt} {tc : TT} {tb : TS} (hp : PassesOwn (model X.prog X.w) X.A X.env X.xe) (hc : PT X c tc) (hb : PSs X body tb) : PS X (.While c body [] pos) (tWhile tc tb) := by
  intro pins s σ H D I h
  obtain ⟨W, ⟨m0, w0⟩, turn⟩ := h
  refine wpAny_While (codeAny_whileLoop (fun n s' => ∃ σ' H', Inv X pins σ' H' s' ∧ W n σ' H') ?_ m0 ⟨σ, H, I, w0⟩)
  rintro n s1 ⟨σ1, H1, I1, w1⟩
  refine wpAny_passesOwn hp (thn (hc pins s1 σ1 H1 _ I1 (turn n σ1 H1 w1)) fun b s2 ⟨H2, I2, q2⟩ => ?_)
  cases b with
  | true =>
    obtain ⟨N, hN, q2⟩ := q2
    rw [if_pos rfl]
    refine wpAny_passesOwn hp (thn (hb pins s2 σ1 H2 _ I2 q2) fun f s3 q3 => ?_)
    cases f with
    | next =>
      obtain ⟨σ3, H3, I3, n3⟩ := q3
      obtain ⟨m', hm, w3⟩ := hN σ3 H3 n3
      exact ⟨m', hm, σ3, H3, I3, w3⟩
    | cont =>
      obtain ⟨σ3, H3, I3, n3⟩ := q3
      obtain ⟨m', hm, w3⟩ := hN σ3 H3 n3
      exact ⟨m', hm, σ3, H3, I3, w3⟩
    | brk => exact q3
    | ret v => exact q3
  | false =>
    rw [if_neg Bool.false_ne_true]
    exact wpAny_execs_nil ⟨σ1, H2, I2, q2⟩
end

/-! ### what a loop or a comprehension walks -/
/-- at turn i: it yields x (the heap may grow), or it stops -/
structure It where
  go : Nat → Hp → Prop
  yld : Nat → Hp → V → Hp → Prop
  stop : Nat → Hp → Prop
/-- the iterator's own objects may turn: they are not the frame's, not pinned, younger than the entry (or a comprehension's own) -/
def FpOk (X : Cx) (pins : List (Addr × Obj)) (H : Hp) (b : Addr) : Prop :=
  H b = none ∧ b ≠ X.env.locals ∧ b ∉ X.fs ∧ (b ∈ X.ex ∨ X.s₀.heap.objs.size ≤ b) ∧ (∀ x c, X.env.cells.lookup x = some c → c ≠ b) ∧ ∀ p ∈ X.pn ++ pins, p.1 ≠ b
theorem Inv.fpOk {X : Cx} {pins : List (Addr × Obj)} {σ : St} {H H' : Hp} {s : Shared} {b : Addr} (I : Inv X pins σ H s) (hb : s.heap.objs.size ≤ b) (hn : H' b = none) : FpOk X pins H' b := by
  refine ⟨hn, Nat.ne_of_gt (Nat.lt_of_lt_of_le I.lt hb), I.nofs hb, .inr (Nat.le_trans I.sz hb), fun x c e z => ?_, fun p hp z => ?_⟩
  · obtain ⟨v, q⟩ := I.cell x c e
    exact absurd (Nat.lt_of_lt_of_le q.lt (by rw [z]; exact hb)) (Nat.lt_irrefl _)
  · exact absurd (Nat.lt_of_lt_of_le (Heap.lt_size (I.pin p hp).1) (by rw [z]; exact hb)) (Nat.lt_irrefl _)
structure Turn (P : Program) (w : World) (K : PySem.W.Frag) (tg : Expr) (J : It) (fp : List Addr) (it : Addr) (tn : Nat → Heap → Prop) : Prop where
  mem : it ∈ fp
  obj : ∀ i h, tn i h → ∀ b ∈ fp, ∃ o, h.get? b = some o ∧ ∀ v, o.data ≠ .cell v
  keep : ∀ i h h', tn i h → (∀ b ∈ fp, ∀ o, h.get? b = some o → h'.get? b = some o) → tn i h'
  item : ∀ (X : Cx), X.prog = P → X.w = w → X.K = K → X.calm = true → ∀ (i : Nat) (pins : List (Addr × Obj)) (s : Shared) (σ : St) (H : Hp) (E : Value → Shared → Prop), Inv X pins σ H s → (∀ b ∈ fp, FpOk X pins H b) → tn i s.heap → J.go i H →
    wpAny (model P w) X.A (pyNext (.ref it)) (fun r s1 => ∃ u, r = some u ∧
      wpAny (model P w) X.A (letOwnedTupleGo tg (.ref it) u) (fun _ s2 => ∃ x H', Inv X pins σ H' s2 ∧ RelV x u ∧ J.yld i H x H' ∧ tn (i + 1) s2.heap ∧ ∀ b ∈ fp, H' b = none) E s1) E s
  done : ∀ (X : Cx), X.prog = P → X.w = w → X.K = K → X.calm = true → ∀ (i : Nat) (pins : List (Addr × Obj)) (s : Shared) (σ : St) (H : Hp) (E : Value → Shared → Prop), Inv X pins σ H s → (∀ b ∈ fp, FpOk X pins H b) → tn i s.heap → J.stop i H →
    wpAny (model P w) X.A (pyNext (.ref it)) (fun r s1 => r = none ∧ Inv X pins σ H s1) E s
  self : ∀ (A : Around) (i : Nat) (s : Shared) (Q : Value → Shared → Prop) (E : Value → Shared → Prop), tn i s.heap → Q (.ref it) s → wpAny (model P w) A (pyIter (.ref it)) Q E s
abbrev TI := St → Hp → (It → Hp → Prop) → Prop
/-- an iterator has come -/
def PIE (X : Cx) (pins : List (Addr × Obj)) (σ : St) (tg : Expr) (R : It → Hp → Prop) (itv : Value) (s2 : Shared) : Prop :=
  ∃ (it : Addr) (fp : List Addr) (tn : Nat → Heap → Prop) (J : It) (H' : Hp), itv = .ref it ∧ Inv X pins σ H' s2 ∧ Turn X.prog X.w X.K tg J fp it tn ∧ tn 0 s2.heap ∧ (∀ b ∈ fp, FpOk X pins H' b) ∧ R J H'
def PI (X : Cx) (tg iter : Expr) (wi : TI) : Prop :=
  ∀ (pins : List (Addr × Obj)) (s : Shared) (σ : St) (H : Hp) (R : It → Hp → Prop), Inv X pins σ H s → wi σ H R →
    wpAny (model X.prog X.w) X.A (eval iter X.env) (fun v s1 => wpAny (model X.prog X.w) X.A (pyIter v) (PIE X pins σ tg R) X.xe s1) X.xe s

/-- the step ahead of the store is nothing for an iterator that keeps no tuple -/
theorem go_of {M : Model} {A : Around} {E : Value → Shared → Prop} {s : Shared} {tg : Expr} {it : Addr} {u : Value} {o : Obj} {n : String} {vs : Array Value} {Q : Unit → Shared → Prop} (ho : s.heap.get? it = some o) (hc : o.cls = .type n) (hd : o.data = .fields vs)
    (hn : ["enumerate", "zip", "dict_itemiterator", "dict_reverseitemiterator", "odict_iterator", "itertools.zip_longest", "itertools.pairwise"].contains n = false) (hQ : Q () s) : wpAny M A (letOwnedTupleGo tg (.ref it) u) Q E s := by
  unfold letOwnedTupleGo
  cases tg <;> first
    | exact wpAny_pure hQ
    | (cases u <;> first
        | exact wpAny_pure hQ
        | (refine wpAny_bind (wpAny_load ho ?_)
           rw [hc, hd]
           show wpAny M A (if (["enumerate", "zip", "dict_itemiterator", "dict_reverseitemiterator", "odict_iterator", "itertools.zip_longest", "itertools.pairwise"].contains n && vs[0]? == some (rawInt _)) = true then _ else _) Q E s
           rw [if_neg (by intro h; rw [hn, Bool.false_and] at h; cases h)]
           exact wpAny_pure hQ))

/-- the list at a, as it stands at each turn (a loop may append to it) -/
def Itl (K : PySem.W.Frag) (a : Addr) : It :=
  ⟨fun i H => ∃ xs x, SqL K H a xs ∧ xs[i]? = some x, fun i H x H' => H' = H ∧ ∀ xs, SqL K H a xs → xs[i]? = some x, fun i H => ∃ xs, SqL K H a xs ∧ xs.length ≤ i⟩
def Itt (K : PySem.W.Frag) (a : Addr) : It :=
  ⟨fun i H => ∃ xs x, SqT K H a xs ∧ xs[i]? = some x, fun i H x H' => H' = H ∧ ∀ xs, SqT K H a xs → xs[i]? = some x, fun i H => ∃ xs, SqT K H a xs ∧ xs.length ≤ i⟩
/-- lo, lo + 1, .. (n of them) -/
def Itr (lo : Int) (n : Nat) : It := ⟨fun i _ => i < n, fun i H x H' => H' = H ∧ x = .int (lo + i), fun i _ => n ≤ i⟩
theorem turn_list {P : Program} {w : World} {K : PySem.W.Frag} {tg : Expr} (a it : Addr) : Turn P w K tg (Itl K a) [it] it (fun i h => h.IsListIter it a i) where
  mem := by simp
  obj := fun i h st b hb => by
    have e : b = it := by simpa using hb
    subst e
    obtain ⟨o, e, c, d⟩ := st
    exact ⟨o, e, fun v z => by rw [d] at z; cases z⟩
  keep := fun i h h' st k => st.at fun o e => k it (by simp) o e
  item := by
    intro X hP hw hK hc i pins s σ H E I hf st hg
    subst hP hw hK
    obtain ⟨xs, x, hq, hx⟩ := hg
    obtain ⟨its, rv, p, hz⟩ := I.list hq
    obtain ⟨u, hu, ru⟩ := rv.get hx
    obtain ⟨f0, f1, f2, f3, f4, f5⟩ := hf it (by simp)
    refine wpAny_pyNext_list_item st p.isList (x := u) (by simpa using hu) fun h' st' sb => ?_
    have I1 : Inv X pins σ H { s with heap := h' } := I.turned (t' := s.toks) (fun b o hb e => (sb.2 b hb).trans e) f0 f1 f3 f4 f5
    obtain ⟨o, e, c, d⟩ := id st'
    exact ⟨u, rfl, go_of (s := { s with heap := h' }) e c d (by decide) ⟨x, H, I1, ru, ⟨rfl, fun ys hy => by rw [I.list_inj hy hq]; exact hx⟩, st', fun b hb => (hf b hb).1⟩⟩
  done := by
    intro X hP hw hK hc i pins s σ H E I hf st hg
    subst hP hw hK
    obtain ⟨xs, hq, hx⟩ := hg
    obtain ⟨its, rv, p, hz⟩ := I.list hq
    obtain ⟨f0, f1, f2, f3, f4, f5⟩ := hf it (by simp)
    have hl := rv.length
    exact wpAny_pyNext_list_end (I.ok.hd hc) st p.isList (by simp; omega) fun h' eb => ⟨rfl, I.turned (t' := s.toks) (fun b o hb e => eb b o hb e) f0 f1 f3 f4 f5⟩
  self := fun _ _ _ _ _ st h => wpAny_pyIter_listiter st h
theorem turn_range {P : Program} {w : World} {K : PySem.W.Frag} {tg : Expr} (it : Addr) (lo : Int) (n : Nat) : Turn P w K tg (Itr lo n) [it] it (fun i h => IsRangeIter h it (lo + (i : Nat) * 1) ((n : Int) - (i : Nat)) 1) where
  mem := by simp
  obj := fun i h st b hb => by
    have e : b = it := by simpa using hb
    subst e
    exact ⟨_, st, fun v z => by
      have z' : Data.fields _ = Data.cell v := z
      cases z'⟩
  keep := fun i h h' st k => k it (by simp) _ st
  item := by
    intro X hP hw hK hc i pins s σ H E I hf st hg
    subst hP hw hK
    obtain ⟨f0, f1, f2, f3, f4, f5⟩ := hf it (by simp)
    have W := Walks.range (prog := X.prog) (w := X.w) (I.ok.hd hc) it lo 1 n
    refine W.item i s _ _ hg st fun v h' tk hv st' kk => ?_
    obtain ⟨t, rfl⟩ := hv
    have I1 : Inv X pins σ H { s with heap := h', toks := tk } := I.turned (fun b o hb e => kk b o (by simpa using hb) e) f0 f1 f3 f4 f5
    refine ⟨_, rfl, go_of (s := { s with heap := h', toks := tk }) (n := "range_iterator") st' rfl rfl (by decide) ⟨.int (lo + i), H, I1, ⟨t, ?_⟩, ⟨rfl, rfl⟩, st', fun b hb => (hf b hb).1⟩⟩
    rw [Int.mul_one]
  done := by
    intro X hP hw hK hc i pins s σ H E I hf st hg
    subst hP hw hK
    obtain ⟨f0, f1, f2, f3, f4, f5⟩ := hf it (by simp)
    exact wpAny_pyNext_range_end (I.ok.hd hc) st (by have : n ≤ i := hg; omega) fun h' eb => ⟨rfl, I.turned (t' := s.toks) (fun b o hb e => eb b o hb e) f0 f1 f3 f4 f5⟩
  self := fun _ _ _ _ _ st h => wpAny_pyIter_rangeiter st h
end L2

namespace L2
open PySem PySem.Spec PyProof.Rows
section
variable {X : Cx} {tg : Expr}
def iList (K : PySem.W.Frag) (tl : TE) : TI := fun σ H R => tl σ H fun x H1 => ∃ a, x = .ref a ∧ (∃ xs, SqL K H1 a xs) ∧ R (Itl K a) H1
def iTup (K : PySem.W.Frag) (tl : TE) : TI := fun σ H R => tl σ H fun x H1 => ∃ a, x = .ref a ∧ (∃ xs, SqT K H1 a xs) ∧ R (Itt K a) H1
theorem pi_list {l : Expr} {tl : TE} (hl : PE X l tl) : PI X tg l (iList X.K tl) := by
  intro pins s σ H R I h
  refine thn (hl pins s σ H _ I h) fun v s1 ⟨x, H1, I1, r1, q1⟩ => ?_
  obtain ⟨a, e, ⟨xs, hq⟩, q⟩ := q1
  subst e
  cases r1
  obtain ⟨its, rv, p, hz⟩ := I1.list hq
  refine wpAny_pyIter_list p.isList ?_
  refine ⟨s1.heap.objs.size, [s1.heap.objs.size], _, _, H1, rfl, I1.kept (t' := s1.toks) fun b o e => Heap.get?_push_of_some _ e, turn_list a _, ⟨_, Heap.get?_push_size _ rfl, rfl, rfl⟩, fun b hb => ?_, q⟩
  have e : b = s1.heap.objs.size := by simpa using hb
  subst e
  exact I1.fpOk (Nat.le_refl _) (I1.hok.fresh (Nat.le_refl _))
/-- a range object just made, walked -/
theorem range_it {pins : List (Addr × Obj)} {σ : St} {H : Hp} {s : Shared} {R : It → Hp → Prop} {E : Value → Shared → Prop} {lo hi : Int} {t u v : Tok} {tk : Nat} (I : Inv X pins σ H s) (h1 : -(2 ^ 62) ≤ lo) (h2 : lo < 2 ^ 62) (h3 : -(2 ^ 62) ≤ hi) (h4 : hi < 2 ^ 62)
    (q : R (Itr lo (hi - lo).toNat) H) : wpAny (model X.prog X.w) X.A (pyIter (.ref s.heap.objs.size)) (PIE X pins σ tg R) E { s with heap := s.heap.push { cls := .type "range", data := .fields #[.int lo t, .int hi u, .int 1 v] }, toks := tk } := by
  refine wpAny_pyIter_range (IsRange.new ..) (small_one h1 h2 h3 h4) ?_
  have I1 : Inv X pins σ H { s with heap := s.heap.push { cls := .type "range", data := .fields #[.int lo t, .int hi u, .int 1 v] }, toks := tk } := I.kept fun b o e => Heap.get?_push_of_some _ e
  refine ⟨(s.heap.push { cls := .type "range", data := .fields #[.int lo t, .int hi u, .int 1 v] }).objs.size, [(s.heap.push { cls := .type "range", data := .fields #[.int lo t, .int hi u, .int 1 v] }).objs.size], _, _, H, rfl,
    I1.kept (t' := tk) fun b o e => Heap.get?_push_of_some _ e, turn_range _ lo (hi - lo).toNat, ?_, fun b hb => ?_, q⟩
  · have e1 : lo + ((0 : Nat) : Int) * 1 = lo := by simp
    have e2 : (((hi - lo).toNat : Nat) : Int) - ((0 : Nat) : Int) = Builtin.Range.rangeSize lo hi 1 := by rw [rangeSize_one]; split <;> omega
    show IsRangeIter _ _ (lo + ((0 : Nat) : Int) * 1) ((((hi - lo).toNat : Nat) : Int) - ((0 : Nat) : Int)) 1
    rw [e1, e2]
    exact Heap.get?_push_size _ rfl
  · have e : b = (s.heap.push { cls := .type "range", data := .fields #[.int lo t, .int hi u, .int 1 v] }).objs.size := by simpa using hb
    subst e
    exact I1.fpOk (Nat.le_refl _) (I1.hok.fresh (Nat.le_refl _))
def iRng1 (ta : TA) : TI := fun σ H R => ta σ H fun vs H1 => ∃ j : Int, vs = [.int j] ∧ -(2 ^ 62) ≤ j ∧ j < 2 ^ 62 ∧ R (Itr 0 j.toNat) H1
def iRng2 (ta : TA) : TI := fun σ H R => ta σ H fun vs H1 => ∃ i j : Int, vs = [.int i, .int j] ∧ (-(2 ^ 62) ≤ i ∧ i < 2 ^ 62 ∧ -(2 ^ 62) ≤ j ∧ j < 2 ^ 62) ∧ R (Itr i (j - i).toNat) H1
theorem pi_range1 {a : Expr} {ta : TA} {p pos : Pos} (hg : Gl X "range") (hm : X.mg "range" = none) (ha : PA X [a] ta) (hs : starEach [a] X.env = [(false, eval a X.env)] := by rfl) : PI X tg (.Call (.Name "range" p) [a] [] pos) (iRng1 ta) := by
  intro pins s σ H R I h
  refine Call_ (ld_blt I hg hm boot_range (PyProof.Rows.callWith_type1 (thn (ha pos pins s σ H _ I h) fun us s1 ⟨vs, H1, I1, r1, q1⟩ => ?_) hs rfl))
  obtain ⟨j, e, q1, q2, q⟩ := q1
  subst e
  cases r1 with
  | cons r rr =>
    cases rr
    obtain ⟨t, rfl⟩ := r
    exact call_range_1 (range_it I1 (by omega) (by omega) q1 q2 (by simpa using q))
/-! ### for -/
/-- W: the invariant by the turn and a measure; N: what the body is to reach -/
def tFor (wi : TI) (g : TG) (tb : TS) : TS := fun D σ H => wi σ H fun J H1 => ∃ W : Nat → Nat → St → Hp → Prop, (∃ m, W 0 m σ H1) ∧ ∀ i m σ H, W i m σ H →
  (J.stop i H ∧ D.nx σ H) ∨ (J.go i H ∧ ∃ N : St → Hp → Prop, (∀ σ' H', N σ' H' → ∃ m', m' < m ∧ W (i + 1) m' σ' H') ∧ ∀ x H', J.yld i H x H' → g x σ H' fun σ2 H2 => tb { D with nx := N, ct := N, bk := D.nx } σ2 H2)
/-- the records at fp as they stand -/
def pinsAt (fp : List Addr) (h : Heap) : List (Addr × Obj) := fp.filterMap fun b => (h.get? b).map fun o => (b, o)
theorem mem_pinsAt {fp : List Addr} {h : Heap} {b : Addr} {o : Obj} (hb : b ∈ fp) (e : h.get? b = some o) : (b, o) ∈ pinsAt fp h := List.mem_filterMap.mpr ⟨b, hb, by rw [e]; rfl⟩
theorem of_pinsAt {fp : List Addr} {h : Heap} {p : Addr × Obj} (hp : p ∈ pinsAt fp h) : p.1 ∈ fp ∧ h.get? p.1 = some p.2 := by
  obtain ⟨b, hb, e⟩ := List.mem_filterMap.mp hp
  cases q : h.get? b with
  | none => rw [q] at e; cases e
  | some o =>
    rw [q] at e
    have e' : (b, o) = p := Option.some.inj e
    subst e'
    exact ⟨hb, q⟩
theorem Inv.pinned {pins : List (Addr × Obj)} {σ : St} {H : Hp} {s : Shared} {fp : List Addr} (I : Inv X pins σ H s) (hf : ∀ b ∈ fp, FpOk X pins H b) (ho : ∀ b ∈ fp, ∃ o, s.heap.get? b = some o ∧ ∀ v, o.data ≠ .cell v) : Inv X (pins ++ pinsAt fp s.heap) σ H s :=
  I.pins_of fun p hp => (List.mem_append.mp hp).elim (fun z => I.pin p (List.mem_append_right _ z)) fun z => by
    obtain ⟨hb, e⟩ := of_pinsAt z
    obtain ⟨f0, f1, f2, _⟩ := hf p.1 hb
    obtain ⟨o, e', d⟩ := ho p.1 hb
    rw [e] at e'; cases e'
    exact ⟨e, f0, f1, f2, d⟩
theorem Inv.unpinned {pins pl : List (Addr × Obj)} {σ : St} {H : Hp} {s : Shared} (I : Inv X (pins ++ pl) σ H s) : Inv X pins σ H s := I.pins_of fun p hp => I.pin p (List.mem_append_right _ (List.mem_append_left _ hp))
theorem ps_for {iter : Expr} {body : List Stmt} {wi : TI} {g : TG} {tb : TS} {pos : Pos} (hp : PassesOwn (model X.prog X.w) X.A X.env X.xe) (hc : X.calm = true) (hi : PI X tg iter wi) (hg : PG X tg g) (hb : PSs X body tb)
    (hs : ∀ x, foldedSetIterable iter X.env x = pure x := by intro _; rfl) : PS X (.For tg iter body [] pos) (tFor wi g tb) := by
  intro pins s σ H D I h
  refine wpAny_For (thn (hi pins s σ H _ I h) fun v s1 h1 => thn h1 fun itv s2 h2 => ?_) hs
  obtain ⟨it, fp, tn, J, H2, e, I2, T, st2, f2, W, ⟨m0, w0⟩, turn⟩ := h2
  subst e
  -- what stays true of the iterator's objects through the loop
  have stat : ∀ {H' : Hp}, (∀ b ∈ fp, H' b = none) → ∀ b ∈ fp, FpOk X pins H' b := fun hn b hb => ⟨hn b hb, (f2 b hb).2⟩
  refine codeAny_forLoop_any (fun n s' => ∃ i σ' H', Inv X pins σ' H' s' ∧ tn i s'.heap ∧ (∀ b ∈ fp, H' b = none) ∧ W i n σ' H') ?_ m0 ⟨0, σ, H2, I2, st2, fun b hb => (f2 b hb).1, w0⟩
  rintro n s3 ⟨i, σ3, H3, I3, st3, fr3, w3⟩
  rcases turn i n σ3 H3 w3 with ⟨stop, qn⟩ | ⟨go, N, hN, step⟩
  · refine wpAny_passesOwn hp (thn (T.done X rfl rfl rfl hc i pins s3 σ3 H3 X.xe I3 (stat fr3) st3 stop) fun r s4 ⟨hr, I4⟩ => ?_)
    subst hr
    exact wpAny_execs_nil ⟨σ3, H3, I4, qn⟩
  · refine wpAny_passesOwn hp (thn (T.item X rfl rfl rfl hc i pins s3 σ3 H3 X.xe I3 (stat fr3) st3 go) fun r s4 ⟨u, hr, h4⟩ => ?_)
    subst hr
    refine wpAny_passesOwn hp (thn h4 fun _ s5 ⟨x, H5, I5, r5, y5, st5, fr5⟩ => ?_)
    have I5' := I5.pinned (stat fr5) (T.obj _ _ st5)
    refine wpAny_passesOwn hp (thn (hg _ s5 σ3 H5 x u _ I5' r5 (step x H5 y5)) fun _ s6 ⟨σ6, H6, I6, q6⟩ => ?_)
    refine wpAny_passesOwn hp (thn (hb _ s6 σ6 H6 _ I6 q6) fun f s7 q7 => ?_)
    have again : ∀ {σ7 : St} {H7 : Hp}, Inv X (pins ++ pinsAt fp s5.heap) σ7 H7 s7 → N σ7 H7 → ∃ m, m < n ∧ ∃ i σ' H', Inv X pins σ' H' s7 ∧ tn i s7.heap ∧ (∀ b ∈ fp, H' b = none) ∧ W i m σ' H' := fun {σ7 H7} I7 n7 => by
      obtain ⟨m', hm, w7⟩ := hN σ7 H7 n7
      refine ⟨m', hm, i + 1, σ7, H7, I7.unpinned, T.keep _ _ _ st5 fun b hb o e => (I7.pin (b, o) (List.mem_append_right _ (List.mem_append_right _ (mem_pinsAt hb e)))).1, fun b hb => ?_, w7⟩
      obtain ⟨o, e, d⟩ := T.obj _ _ st5 b hb
      exact (I7.pin (b, o) (List.mem_append_right _ (List.mem_append_right _ (mem_pinsAt hb e)))).2.1
    cases f with
    | next => obtain ⟨σ7, H7, I7, n7⟩ := q7; exact again I7 n7
    | cont => obtain ⟨σ7, H7, I7, n7⟩ := q7; exact again I7 n7
    | brk => obtain ⟨σ7, H7, I7, q7⟩ := q7; exact ⟨σ7, H7, I7.unpinned, q7⟩
    | ret v => obtain ⟨x7, σ7, H7, I7, r7, q7⟩ := q7; exact ⟨x7, σ7, H7, I7.unpinned, r7, q7⟩
end

/-! ### the forms one uses -/
/-- over a list that the body leaves as it is -/
theorem for_list {K : PySem.W.Frag} {a : Addr} {xs : List V} {g : TG} {tb : TS} {D : Ends} {σ : St} {H : Hp} (Pv : Nat → St → Hp → Prop) (h0 : Pv 0 σ H) (hl : ∀ i σ H, i ≤ xs.length → Pv i σ H → SqL K H a xs)
    (hs : ∀ i x σ H, xs[i]? = some x → Pv i σ H → g x σ H fun σ2 H2 => tb { D with nx := Pv (i + 1), ct := Pv (i + 1), bk := D.nx } σ2 H2) (hd : ∀ σ H, Pv xs.length σ H → D.nx σ H) :
    ∃ W : Nat → Nat → St → Hp → Prop, (∃ m, W 0 m σ H) ∧ ∀ i m σ H, W i m σ H →
      ((Itl K a).stop i H ∧ D.nx σ H) ∨ ((Itl K a).go i H ∧ ∃ N : St → Hp → Prop, (∀ σ' H', N σ' H' → ∃ m', m' < m ∧ W (i + 1) m' σ' H') ∧ ∀ x H', (Itl K a).yld i H x H' → g x σ H' fun σ2 H2 => tb { D with nx := N, ct := N, bk := D.nx } σ2 H2) := by
  refine ⟨fun i m σ H => m = xs.length - i ∧ i ≤ xs.length ∧ Pv i σ H, ⟨xs.length, by simp, Nat.zero_le _, h0⟩, ?_⟩
  rintro i m σ H ⟨rfl, hi, p⟩
  have q := hl i σ H hi p
  by_cases hlt : i < xs.length
  · refine .inr ⟨⟨xs, xs[i], q, by simp [hlt]⟩, Pv (i + 1), fun σ' H' p' => ⟨xs.length - (i + 1), by omega, rfl, hlt, p'⟩, fun x H' y => ?_⟩
    obtain ⟨e, y⟩ := y
    subst e
    exact hs i x σ _ (y xs q) p
  · have e : i = xs.length := by omega
    subst e
    exact .inl ⟨⟨xs, q, Nat.le_refl _⟩, hd σ H p⟩
theorem for_range {lo : Int} {n : Nat} {g : TG} {tb : TS} {D : Ends} {σ : St} {H : Hp} (Pv : Nat → St → Hp → Prop) (h0 : Pv 0 σ H)
    (hs : ∀ i σ H, i < n → Pv i σ H → g (.int (lo + i)) σ H fun σ2 H2 => tb { D with nx := Pv (i + 1), ct := Pv (i + 1), bk := D.nx } σ2 H2) (hd : ∀ σ H, Pv n σ H → D.nx σ H) :
    ∃ W : Nat → Nat → St → Hp → Prop, (∃ m, W 0 m σ H) ∧ ∀ i m σ H, W i m σ H →
      ((Itr lo n).stop i H ∧ D.nx σ H) ∨ ((Itr lo n).go i H ∧ ∃ N : St → Hp → Prop, (∀ σ' H', N σ' H' → ∃ m', m' < m ∧ W (i + 1) m' σ' H') ∧ ∀ x H', (Itr lo n).yld i H x H' → g x σ H' fun σ2 H2 => tb { D with nx := N, ct := N, bk := D.nx } σ2 H2) := by
  refine ⟨fun i m σ H => m = n - i ∧ i ≤ n ∧ Pv i σ H, ⟨n, by simp, Nat.zero_le _, h0⟩, ?_⟩
  rintro i m σ H ⟨rfl, hi, p⟩
  by_cases hlt : i < n
  · refine .inr ⟨hlt, Pv (i + 1), fun σ' H' p' => ⟨n - (i + 1), by omega, rfl, hlt, p'⟩, fun x H' y => ?_⟩
    obtain ⟨e, y⟩ := y
    subst e y
    exact hs i σ _ hlt p
  · have e : i = n := by omega
    subst e
    exact .inl ⟨Nat.le_refl _, hd σ H p⟩
end L2

namespace L2
open PySem PySem.Spec PyProof.Rows

abbrev R2 := V → V → Hp → VK → Prop
/-- a two-place operation on values: f is binaryOp op, inplaceOp op or compareOp op -/
def OpR (X : Cx) (f : Value → Value → Sem Value) (r : R2) : Prop :=
  ∀ (pins : List (Addr × Obj)) (s : Shared) (σ : St) (H : Hp) (x y : V) (v u : Value) (Q : VK), Inv X pins σ H s → RelV x v → RelV y u → r x y H Q →
    wpAny (model X.prog X.w) X.A (f v u) (EP X pins σ Q) X.xe s
/-- a one-place operation -/
def UnR (X : Cx) (f : Value → Sem Value) (r : V → Hp → VK → Prop) : Prop :=
  ∀ (pins : List (Addr × Obj)) (s : Shared) (σ : St) (H : Hp) (x : V) (v : Value) (Q : VK), Inv X pins σ H s → RelV x v → r x H Q →
    wpAny (model X.prog X.w) X.A (f v) (EP X pins σ Q) X.xe s
/-- a call of a value that is known (a builtin, a type) with values -/
def CallR (X : Cx) (f : Value) (r : List V → Hp → VK → Prop) : Prop :=
  ∀ (pins : List (Addr × Obj)) (s : Shared) (σ : St) (H : Hp) (xs : List V) (us : List Value) (Q : VK), Inv X pins σ H s → Vals xs us → r xs H Q →
    wpAny (model X.prog X.w) X.A (call f us) (EP X pins σ Q) X.xe s
/-- a value's truth -/
def TruR (X : Cx) (r : V → Hp → (Bool → Hp → Prop) → Prop) : Prop :=
  ∀ (pins : List (Addr × Obj)) (s : Shared) (σ : St) (H : Hp) (x : V) (v : Value) (Q : Bool → Hp → Prop), Inv X pins σ H s → RelV x v → r x H Q →
    wpAny (model X.prog X.w) X.A (truthy v) (TP X pins σ Q) X.xe s

def tOp (r : R2) (ta tb : TE) : TE := fun σ H Q => ta σ H fun x H1 => tb σ H1 fun y H2 => r x y H2 Q
def tUn (r : V → Hp → VK → Prop) (ta : TE) : TE := fun σ H Q => ta σ H fun x H1 => r x H1 Q
/-- ints in, under C, and a value out -/
def rI (C : Int → Int → Prop) (g : Int → Int → V) : R2 := fun x y H Q => ∃ i j, x = .int i ∧ y = .int j ∧ C i j ∧ Q (g i j) H
def rI0 (g : Int → Int → V) : R2 := fun x y H Q => ∃ i j, x = .int i ∧ y = .int j ∧ Q (g i j) H
def rU (g : Int → V) : V → Hp → VK → Prop := fun x H Q => ∃ i, x = .int i ∧ Q (g i) H

section
variable {X : Cx} {a b c : Expr} {ta tb tc : TE} {pos : Pos}

theorem binT (ha : PE X a ta) (hb : PE X b tb) {pins : List (Addr × Obj)} {s : Shared} {σ : St} {H : Hp} {R : V → V → Hp → Prop} (I : Inv X pins σ H s)
    (h : ta σ H fun x H1 => tb σ H1 fun y H2 => R x y H2) {Q : Value → Shared → Prop} {f : Value → Value → Sem Value}
    (hf : ∀ v u s2 x y H2, Inv X pins σ H2 s2 → RelV x v → RelV y u → R x y H2 → wpAny (model X.prog X.w) X.A (f v u) Q X.xe s2) :
    wpAny (model X.prog X.w) X.A (eval a X.env) (fun v s₁ => wpAny (model X.prog X.w) X.A (eval b X.env) (fun u s₂ => wpAny (model X.prog X.w) X.A (f v u) Q X.xe s₂) X.xe s₁) X.xe s := by
  refine thn (ha pins s σ H _ I h) fun v s1 ⟨x, H1, I1, r1, q1⟩ => ?_
  refine thn (hb pins s1 σ H1 _ I1 q1) fun u s2 ⟨y, H2, I2, r2, q2⟩ => ?_
  exact hf v u s2 x y H2 I2 r1 r2 q2

theorem pe_op {op : Operator} {r : R2} (ho : OpR X (binaryOp op) r) (ha : PE X a ta) (hb : PE X b tb) : PE X (.BinOp a op b pos) (tOp r ta tb) := by
  intro pins s σ H Q I h
  exact wpAny_BinOp (binT ha hb I h fun v u s2 x y H2 I2 rx ry q => ho pins s2 σ H2 x y v u Q I2 rx ry q)
theorem pe_un {op : UnaryOp} {r : V → Hp → VK → Prop} (ho : UnR X (unaryOp op) r) (ha : PE X a ta) : PE X (.UnaryOp op a pos) (tUn r ta) := by
  intro pins s σ H Q I h
  exact UnaryOp_ (thn (ha pins s σ H _ I h) fun v s1 ⟨x, H1, I1, r1, q1⟩ => ho pins s1 σ H1 x v Q I1 r1 q1)
/-! ### ints -/
theorem opI {f : Value → Value → Sem Value} {C : Int → Int → Prop} {g : Int → Int → Int}
    (rule : ∀ (i j : Int) (t u : Tok) (s : Shared) (Q : Value → Shared → Prop) (E : Value → Shared → Prop), C i j → Q (.int (g i j) s.toks) { s with toks := s.toks + 1 } → wpAny (model X.prog X.w) X.A (f (.int i t) (.int j u)) Q E s) :
    OpR X f (rI C fun i j => .int (g i j)) := by
  intro pins s σ H x y v u Q I rx ry h
  obtain ⟨i, j, rfl, rfl, hc, q⟩ := h
  obtain ⟨t, rfl⟩ := rx
  obtain ⟨t', rfl⟩ := ry
  exact rule i j t t' s _ _ hc ⟨.int (g i j), H, I.tok _, ⟨_, rfl⟩, q⟩
theorem opI0 {f : Value → Value → Sem Value} {g : Int → Int → Int}
    (rule : ∀ (i j : Int) (t u : Tok) (s : Shared) (Q : Value → Shared → Prop) (E : Value → Shared → Prop), Q (.int (g i j) s.toks) { s with toks := s.toks + 1 } → wpAny (model X.prog X.w) X.A (f (.int i t) (.int j u)) Q E s) :
    OpR X f (rI0 fun i j => .int (g i j)) := by
  intro pins s σ H x y v u Q I rx ry h
  obtain ⟨i, j, rfl, rfl, q⟩ := h
  obtain ⟨t, rfl⟩ := rx
  obtain ⟨t', rfl⟩ := ry
  exact rule i j t t' s _ _ ⟨.int (g i j), H, I.tok _, ⟨_, rfl⟩, q⟩
theorem opB0 {f : Value → Value → Sem Value} {g : Int → Int → Bool}
    (rule : ∀ (i j : Int) (t u : Tok) (s : Shared) (Q : Value → Shared → Prop) (E : Value → Shared → Prop), Q (.bool (g i j)) s → wpAny (model X.prog X.w) X.A (f (.int i t) (.int j u)) Q E s) :
    OpR X f (rI0 fun i j => .bl (g i j)) := by
  intro pins s σ H x y v u Q I rx ry h
  obtain ⟨i, j, rfl, rfl, q⟩ := h
  obtain ⟨t, rfl⟩ := rx
  obtain ⟨t', rfl⟩ := ry
  exact rule i j t t' s _ _ ⟨.bl (g i j), H, I, rfl, q⟩

def CDiv (i j : Int) : Prop := 0 < j ∧ j < 1073741824
def CDivN (i j : Int) : Prop := j ≠ 0 ∧ j.natAbs < 1073741824
def CPow (i j : Int) : Prop := 0 ≤ j ∧ j ≤ 1000000 ∧ i.natAbs < 2 ^ 64
def CMul (i j : Int) : Prop := (-(2 ^ 64) < i ∧ i < 2 ^ 64) ∨ (-(2 ^ 64) < j ∧ j < 2 ^ 64)
theorem CMul.ok {i j : Int} (h : CMul i j) : IntMulOk i j := by
  rcases h with ⟨h1, h2⟩ | ⟨h1, h2⟩
  · exact .of_left (intBits_le_64 h1 h2)
  · exact .of_right (intBits_le_64 h1 h2)
theorem op_add : OpR X (binaryOp .Add) (rI0 fun i j => .int (i + j)) := opI0 fun _ _ _ _ _ _ _ q => add_int q
theorem op_sub : OpR X (binaryOp .Sub) (rI0 fun i j => .int (i - j)) := opI0 fun _ _ _ _ _ _ _ q => sub_int q
theorem op_mul : OpR X (binaryOp .Mult) (rI CMul fun i j => .int (i * j)) := opI fun _ _ _ _ _ _ _ hc q => mul_int q hc.ok
/-- // by a positive divisor -/
theorem op_fdiv : OpR X (binaryOp .FloorDiv) (rI CDiv fun i j => .int (i / j)) := opI fun i j _ _ _ _ _ hc q => by
  have h1 : (0 : Int) < j := hc.1
  have h2 : j < 1073741824 := hc.2
  exact floordiv_int (by omega) (by rw [Int.fdiv_eq_ediv_of_nonneg i (by omega)]; exact q) (.inl (PyProof.noPylong_small (by omega)))
/-- % by a positive divisor of any size -/
theorem op_mod : OpR X (binaryOp .Mod) (rI (fun _ j => 0 < j) fun i j => .int (i % j)) := opI fun i j _ _ _ _ _ hc q => by
  have h1 : (0 : Int) < j := hc
  exact mod_int' (by omega) (by rw [Int.fmod_eq_emod_of_nonneg i (by omega)]; exact q)
theorem op_pow : OpR X (binaryOp .Pow) (rI CPow fun i j => .int (i ^ j.toNat)) := opI fun _ _ _ _ _ _ _ hc q => pow_int_small hc.1 hc.2.1 hc.2.2 q
theorem unI {f : Value → Sem Value} {g : Int → Int}
    (rule : ∀ (i : Int) (t : Tok) (s : Shared) (Q : Value → Shared → Prop) (E : Value → Shared → Prop), Q (.int (g i) s.toks) { s with toks := s.toks + 1 } → wpAny (model X.prog X.w) X.A (f (.int i t)) Q E s) :
    UnR X f (rU fun i => .int (g i)) := by
  intro pins s σ H x v Q I rx h
  obtain ⟨i, rfl, q⟩ := h
  obtain ⟨t, rfl⟩ := rx
  exact rule i t s _ _ ⟨.int (g i), H, I.tok _, ⟨_, rfl⟩, q⟩
theorem un_neg : UnR X (unaryOp .USub) (rU fun i => .int (-i)) := unI fun _ _ _ _ _ q => neg_int q
/-! ### bools among ints: n += (a < b) -/
end

/-! ### comparisons -/
/-- the scalars that == tells apart as data does -/
def scal : V → V → Bool
  | .non, .non => true | .non, .int _ => true | .int _, .non => true | .non, .bl _ => true | .bl _, .non => true | .non, .str _ => true | .str _, .non => true
  | .int _, .int _ => true | .bl _, .bl _ => true | .str _, .str _ => true | .byt _, .byt _ => true
  | .int _, .str _ => true | .str _, .int _ => true | .bl _, .str _ => true | .str _, .bl _ => true
  | _, _ => false
def rEq : R2 := fun x y H Q => scal x y = true ∧ Q (.bl (decide (x = y))) H
def rNe : R2 := fun x y H Q => scal x y = true ∧ Q (.bl (!decide (x = y))) H

theorem dec_int {i j : Int} : decide (V.int i = V.int j) = (i == j) := by
  rw [Bool.eq_iff_iff]
  simp
theorem dec_bl {i j : Bool} : decide (V.bl i = V.bl j) = (i == j) := by
  rw [Bool.eq_iff_iff]
  simp
theorem dec_str {i j : Str} : decide (V.str i = V.str j) = (i == j) := by
  rw [Bool.eq_iff_iff]
  simp
theorem dec_byt {i j : Array UInt8} : decide (V.byt i = V.byt j) = (i.toList == j.toList) := by
  rw [Bool.eq_iff_iff]
  cases i
  cases j
  simp

section
variable {X : Cx} {a b c : Expr} {ta tb tc : TE} {pos : Pos}
theorem fin_bl {pins : List (Addr × Obj)} {σ : St} {H : Hp} {s : Shared} {Q : VK} {k k' : Bool} (I : Inv X pins σ H s) (q : Q (.bl k) H) (e : k = k') : EP X pins σ Q (.bool k') s := by
  subst e
  exact ⟨.bl k, H, I, rfl, q⟩
theorem op_eq : OpR X (compareOp .Eq) rEq := by
  intro pins s σ H x y v u Q I rx ry h
  obtain ⟨hs, q⟩ := h
  cases x with
  | non =>
    cases rx
    cases y with
    | non => cases ry; exact PySem.EqNone.eq_none_none (fin_bl I q (by simp))
    | bl j => cases ry; exact PySem.EqNone.eq_none_bool (fin_bl I q (by simp))
    | int j => obtain ⟨t', rfl⟩ := ry; exact PySem.EqNone.eq_none_int (fin_bl I q (by simp))
    | str j => obtain ⟨t', rfl⟩ := ry; exact PySem.EqNone.eq_none_str (fin_bl I q (by simp))
    | _ => exact absurd (show false = true from hs) Bool.false_ne_true
  | bl i =>
    cases rx
    cases y with
    | non => cases ry; exact PySem.EqNone.eq_bool_none (fin_bl I q (by simp))
    | bl j => cases ry; exact eq_bool (fin_bl I q dec_bl)
    | str j => obtain ⟨t', rfl⟩ := ry; exact PySem.EqMixed.eq_bool_str (fin_bl I q (by simp))
    | _ => exact absurd (show false = true from hs) Bool.false_ne_true
  | int i =>
    obtain ⟨t, rfl⟩ := rx
    cases y with
    | non => cases ry; exact PySem.EqNone.eq_int_none (fin_bl I q (by simp))
    | int j => obtain ⟨t', rfl⟩ := ry; exact eq_int (fin_bl I q dec_int)
    | str j => obtain ⟨t', rfl⟩ := ry; exact PySem.EqMixed.eq_int_str (fin_bl I q (by simp))
    | _ => exact absurd (show false = true from hs) Bool.false_ne_true
  | str i =>
    obtain ⟨t, rfl⟩ := rx
    cases y with
    | non => cases ry; exact PySem.EqNone.eq_str_none (fin_bl I q (by simp))
    | bl j => cases ry; exact PySem.EqMixed.eq_str_bool (fin_bl I q (by simp))
    | int j => obtain ⟨t', rfl⟩ := ry; exact PySem.EqMixed.eq_str_int (fin_bl I q (by simp))
    | str j => obtain ⟨t', rfl⟩ := ry; exact eq_str (fin_bl I q dec_str)
    | _ => exact absurd (show false = true from hs) Bool.false_ne_true
  | byt i =>
    obtain ⟨t, rfl⟩ := rx
    cases y with
    | byt j => obtain ⟨t', rfl⟩ := ry; exact PySem.W.eq_bytes (fin_bl I q dec_byt)
    | _ => exact absurd (show false = true from hs) Bool.false_ne_true
  | _ => cases y <;> exact absurd (show false = true from hs) Bool.false_ne_true
theorem op_ne : OpR X (compareOp .NotEq) rNe := by
  intro pins s σ H x y v u Q I rx ry h
  obtain ⟨hs, q⟩ := h
  cases x with
  | non =>
    cases rx
    cases y with
    | non => cases ry; exact PySem.EqNone.ne_none_none (fin_bl I q (by simp))
    | bl j => cases ry; exact PySem.EqNone.ne_none_bool (fin_bl I q (by simp))
    | int j => obtain ⟨t', rfl⟩ := ry; exact PySem.EqNone.ne_none_int (fin_bl I q (by simp))
    | str j => obtain ⟨t', rfl⟩ := ry; exact PySem.EqNone.ne_none_str (fin_bl I q (by simp))
    | _ => exact absurd (show false = true from hs) Bool.false_ne_true
  | bl i =>
    cases rx
    cases y with
    | non => cases ry; exact PySem.EqNone.ne_bool_none (fin_bl I q (by simp))
    | bl j => cases ry; exact ne_bool (fin_bl I q (congrArg not dec_bl))
    | str j => obtain ⟨t', rfl⟩ := ry; exact PySem.EqMixed.ne_bool_str (fin_bl I q (by simp))
    | _ => exact absurd (show false = true from hs) Bool.false_ne_true
  | int i =>
    obtain ⟨t, rfl⟩ := rx
    cases y with
    | non => cases ry; exact PySem.EqNone.ne_int_none (fin_bl I q (by simp))
    | int j => obtain ⟨t', rfl⟩ := ry; exact ne_int (fin_bl I q (congrArg not dec_int))
    | str j => obtain ⟨t', rfl⟩ := ry; exact PySem.EqMixed.ne_int_str (fin_bl I q (by simp))
    | _ => exact absurd (show false = true from hs) Bool.false_ne_true
  | str i =>
    obtain ⟨t, rfl⟩ := rx
    cases y with
    | non => cases ry; exact PySem.EqNone.ne_str_none (fin_bl I q (by simp))
    | bl j => cases ry; exact PySem.EqMixed.ne_str_bool (fin_bl I q (by simp))
    | int j => obtain ⟨t', rfl⟩ := ry; exact PySem.EqMixed.ne_str_int (fin_bl I q (by simp))
    | str j => obtain ⟨t', rfl⟩ := ry; exact ne_str (fin_bl I q (congrArg not dec_str))
    | _ => exact absurd (show false = true from hs) Bool.false_ne_true
  | byt i =>
    obtain ⟨t, rfl⟩ := rx
    cases y with
    | byt j => obtain ⟨t', rfl⟩ := ry; exact PySem.W.ne_bytes (fin_bl I q (congrArg not dec_byt))
    | _ => exact absurd (show false = true from hs) Bool.false_ne_true
  | _ => cases y <;> exact absurd (show false = true from hs) Bool.false_ne_true

theorem op_lt : OpR X (compareOp .Lt) (rI0 fun i j => .bl (decide (i < j))) := opB0 fun _ _ _ _ _ _ _ q => lt_int q
theorem op_le : OpR X (compareOp .LtE) (rI0 fun i j => .bl (decide (i ≤ j))) := opB0 fun _ _ _ _ _ _ _ q => le_int q
theorem op_gt : OpR X (compareOp .Gt) (rI0 fun i j => .bl (decide (j < i))) := opB0 fun _ _ _ _ _ _ _ q => gt_int q
/-- is, is not of two objects that are tracked lists or instances -/
def isObj : HO → Bool
  | .lst _ => true
  | .ins _ _ _ => true
  | _ => false
theorem nomark (b : Expr) {op : CmpOp} (h : op ≠ .In := by decide) (h2 : op ≠ .NotIn := by decide) : behindInMarks op b = false := by
  have e1 : (op == CmpOp.In) = false := by cases op <;> first | rfl | exact absurd rfl h
  have e2 : (op == CmpOp.NotIn) = false := by cases op <;> first | rfl | exact absurd rfl h2
  cases b <;> simp [behindInMarks, e1, e2]
/-- a comparison as a value; hm: nomark b, or (for in, not in) by with_unfolding_all rfl -/
theorem pe_cmpR {op : CmpOp} {r : R2} (ho : OpR X (compareOp op) r) (ha : PE X a ta) (hb : PE X b tb) (hm : behindInMarks op b = false) : PE X (.Compare a [op] [b] pos) (tOp r ta tb) := by
  intro pins s σ H Q I h
  exact wpAny_Compare1 (binT ha hb I h fun v u s2 x y H2 I2 rx ry q => ho pins s2 σ H2 x y v u Q I2 rx ry q) hm
/-- a reading of a value as a test -/
def tTest (t : TE) : TT := fun σ H Q => t σ H fun x H' => ∃ k, x = .bl k ∧ Q k H'
theorem pt_cmpR {op : CmpOp} {r : R2} (ho : OpR X (compareOp op) r) (ha : PE X a ta) (hb : PE X b tb) (hm : behindInMarks op b = false) : PT X (.Compare a [op] [b] pos) (tTest (tOp r ta tb)) := by
  intro pins s σ H Q I h
  refine wpAny_isTrue_Compare1 (thn (ha pins s σ H _ I h) fun v s1 ⟨x, H1, I1, r1, q1⟩ => thn (hb pins s1 σ H1 _ I1 q1) fun u s2 ⟨y, H2, I2, r2, q2⟩ =>
    thn (ho pins s2 σ H2 x y v u _ I2 r1 r2 q2) fun c s3 ⟨z, H3, I3, r3, k, e, q3⟩ => ?_) hm
  subst e
  cases r3
  exact wpAny_truthy_bool ⟨H3, I3, q3⟩
/-- a op1 b op2 c -/
def tChain (r r' : R2) (ta tb tc : TE) : TE := fun σ H Q => ta σ H fun x H1 => tb σ H1 fun y H2 => r x y H2 fun z H3 => ∃ k, z = .bl k ∧
  (if k = true then tc σ H3 fun w' H4 => r' y w' H4 Q else Q (.bl false) H3)
theorem pt_chain {op op' : CmpOp} {r r' : R2} (ho : OpR X (compareOp op) r) (ho' : OpR X (compareOp op') r') (ha : PE X a ta) (hb : PE X b tb) (hc : PE X c tc)
    (hm : lastMarks [op, op'] [b, c] = false := by with_unfolding_all rfl) : PT X (.Compare a [op, op'] [b, c] pos) (tTest (tChain r r' ta tb tc)) := by
  intro pins s σ H Q I h
  refine isTrue_chain (thn (ha pins s σ H _ I h) fun v s1 ⟨x, H1, I1, r1, q1⟩ => test_link (thn (hb pins s1 σ H1 _ I1 q1) fun u s2 ⟨y, H2, I2, r2, q2⟩ =>
    thn (ho pins s2 σ H2 x y v u _ I2 r1 r2 q2) fun d s3 ⟨z, H3, I3, r3, k, e, q3⟩ => ?_)) hm
  subst e
  cases r3
  refine wpAny_truthy_bool ?_
  cases k with
  | false =>
    obtain ⟨k', e', q'⟩ := q3
    cases e'
    exact ite_ff ⟨H3, I3, q'⟩
  | true =>
    refine ite_tt (test_last (thn (hc pins s3 σ H3 _ I3 q3) fun w' s4 ⟨z', H4, I4, r4, q4⟩ => thn (ho' pins s4 σ H4 y z' u w' _ I4 r2 r4 q4) fun d' s5 ⟨z2, H5, I5, r5, k2, e2, q5⟩ => ?_))
    subst e2
    cases r5
    exact wpAny_truthy_bool ⟨H5, I5, q5⟩

/-! ### truth -/
/-- a value's truth by the abstract heap -/
def TruV (K : PySem.W.Frag) (x : V) (H : Hp) (k : Bool) : Prop :=
  match x with
  | .non => k = false
  | .bl b => k = b
  | .int i => k = (i != 0)
  | .str y => y.length ≤ sizeLine ∧ k = ((y.length : Int) != 0)
  | .byt y => y.size ≤ sizeLine ∧ k = ((y.size : Int) != 0)
  | .ref p => (∃ xs, SqL K H p xs ∧ k = !xs.isEmpty) ∨ (∃ xs, SqT K H p xs ∧ k = !xs.isEmpty) ∨ ∃ kvs, H p = some (.dK kvs) ∧ k = !kvs.isEmpty
  | _ => False
theorem isEmpty_kv {κ : Type} {kvs : List (κ × V)} {vs : List (κ × Value)} (r : KV kvs vs) : (!vs.isEmpty) = !kvs.isEmpty := by
  cases r <;> rfl
theorem isEmpty_of {xs : List V} {its : List Value} (r : Vals xs its) : (!its.toArray.isEmpty) = !xs.isEmpty := by
  cases r <;> simp
theorem line63 : (sizeLine : Nat) < 2 ^ 63 := by rw [sizeLine_eq]; decide
theorem tru_ok : TruR X (fun x H Q => ∃ k, TruV X.K x H k ∧ Q k H) := by
  intro pins s σ H x v Q I rx h
  obtain ⟨k, e, q⟩ := h
  have hl := line63
  have hs : sizeLine = 16777216 := sizeLine_eq
  cases x with
  | non =>
    cases rx
    have e' : k = false := e
    subst e'
    exact truthy_none ⟨H, I, q⟩
  | bl b =>
    cases rx
    have e' : k = b := e
    subst e'
    exact wpAny_truthy_bool ⟨H, I, q⟩
  | int i =>
    obtain ⟨t, rfl⟩ := rx
    have e' : k = (i != 0) := e
    subst e'
    exact PySem.P.truthy_int ⟨H, I, q⟩
  | str y =>
    obtain ⟨t, rfl⟩ := rx
    obtain ⟨hy, e'⟩ : y.length ≤ sizeLine ∧ k = ((y.length : Int) != 0) := e
    subst e'
    exact PySem.P.truthy_str (by omega) ⟨H, I.tok _, q⟩
  | byt y =>
    obtain ⟨t, rfl⟩ := rx
    obtain ⟨hy, e'⟩ : y.size ≤ sizeLine ∧ k = ((y.size : Int) != 0) := e
    subst e'
    exact PySem.W.truthy_bytes (by omega) ⟨H, I.tok _, q⟩
  | ref p =>
    cases rx
    have e' : (∃ xs, SqL X.K H p xs ∧ k = !xs.isEmpty) ∨ (∃ xs, SqT X.K H p xs ∧ k = !xs.isEmpty) ∨ ∃ kvs, H p = some (.dK kvs) ∧ k = !kvs.isEmpty := e
    rcases e' with ⟨xs, hx, e'⟩ | ⟨xs, hx, e'⟩ | ⟨kvs, hx, e'⟩
    · subst e'
      obtain ⟨its, r, pl, hz⟩ := I.list hx
      have hlen := r.length
      exact wpAny_truthy_list pl.isList (by simp only [List.size_toArray]; omega) ⟨H, I.tok _, by rw [isEmpty_of r]; exact q⟩
    · subst e'
      obtain ⟨its, r, pl, hz⟩ := I.tuple hx
      have hlen := r.length
      exact truthy_tuple pl (by simp only [List.size_toArray]; omega) ⟨H, I.tok _, by rw [isEmpty_of r]; exact q⟩
    · subst e'
      obtain ⟨hz, hS, vs, r, m⟩ : kvs.length ≤ sizeLine ∧ (p == sysModules) = false ∧ ∃ vs, KV kvs vs ∧ s.heap.DictOf (mixKind X.prog X.w) p vs := I.hok p _ hx
      have hlen : kvs.length = vs.length := Paired.length r
      exact wpAny_truthy_dict hS m (by omega) ⟨H, I.tok _, by rw [isEmpty_kv r]; exact q⟩
  | _ => exact (show False from e).elim
/-- any expression whose test is its value's truth (a name, a call, a subscript, a field ..: he by fun _ => rfl) -/
theorem pt_truth (ha : PE X a ta) (he : ∀ whole, isTrue a X.env whole = (do let v ← whole; standAt a.pos; holding [v] (truthy v))) :
    PT X a (fun σ H Q => ta σ H fun x H' => ∃ k, TruV X.K x H' k ∧ Q k H') := by
  intro pins s σ H Q I h
  exact isTrue_plain (thn (ha pins s σ H _ I h) fun v s1 ⟨x, H1, I1, r1, q1⟩ => tru_ok pins s1 σ H1 x v Q I1 r1 q1) (he _)

/-! ### strs and bytes -/
theorem op_add_byt : OpR X (binaryOp .Add) (fun x y H Q => ∃ i j, x = .byt i ∧ y = .byt j ∧ i.size + j.size ≤ 16777216 ∧ Q (.byt (i ++ j)) H) := by
  intro pins s σ H x y v u Q I rx ry h
  obtain ⟨i, j, rfl, rfl, hz, q⟩ := h
  obtain ⟨t, rfl⟩ := rx
  obtain ⟨t', rfl⟩ := ry
  exact PySem.W.KBy.add_bytes hz (fun t' tk => ⟨.byt (i ++ j), H, I.tok _, ⟨_, rfl⟩, q⟩)

def PlainIxT (b : Expr) : Prop := ∀ o i, subscripted b false o i = operate [o, i] (getItem o i)
/-! ### scalar builtins, by CallR -/
theorem vals1 {x : V} {us : List Value} (r : Vals [x] us) : ∃ u, us = [u] ∧ RelV x u := by
  cases r with
  | cons r1 r2 => cases r2; exact ⟨_, rfl, r1⟩
theorem vals2 {x y : V} {us : List Value} (r : Vals [x, y] us) : ∃ u w', us = [u, w'] ∧ RelV x u ∧ RelV y w' := by
  cases r with
  | cons r1 r2 =>
    cases r2 with
    | cons r3 r4 => cases r4; exact ⟨_, _, rfl, r1, r3⟩
theorem call_max2 (hc : X.calm = true) : CallR X (.builtin "max") (fun xs H Q => ∃ i j, xs = [.int i, .int j] ∧ Q (.int (if j > i then j else i)) H) := by
  intro pins s σ H xs us Q I r h
  obtain ⟨i, j, rfl, q⟩ := h
  obtain ⟨u, w', rfl, ⟨t, rfl⟩, ⟨t', rfl⟩⟩ := vals2 r
  refine max_two_ints (I.ok.hd hc) fun h' tk k => ⟨_, H, I.kept k, ?_, q⟩
  by_cases hj : j > i
  · rw [if_pos hj, if_pos hj]; exact ⟨_, rfl⟩
  · rw [if_neg hj, if_neg hj]; exact ⟨_, rfl⟩
theorem call_min2 (hc : X.calm = true) : CallR X (.builtin "min") (fun xs H Q => ∃ i j, xs = [.int i, .int j] ∧ Q (.int (if j < i then j else i)) H) := by
  intro pins s σ H xs us Q I r h
  obtain ⟨i, j, rfl, q⟩ := h
  obtain ⟨u, w', rfl, ⟨t, rfl⟩, ⟨t', rfl⟩⟩ := vals2 r
  refine min_two_ints (I.ok.hd hc) fun h' tk k => ⟨_, H, I.kept k, ?_, q⟩
  by_cases hj : j < i
  · rw [if_pos hj, if_pos hj]; exact ⟨_, rfl⟩
  · rw [if_neg hj, if_neg hj]; exact ⟨_, rfl⟩
/-- len of a str, a bytes, a list, a tuple -/
def LenV (K : PySem.W.Frag) (x : V) (H : Hp) (n : Nat) : Prop :=
  match x with
  | .str y => y.length ≤ sizeLine ∧ n = y.length
  | .byt y => y.size ≤ sizeLine ∧ n = y.size
  | .ref p => (∃ xs, SqL K H p xs ∧ n = xs.length) ∨ ∃ xs, SqT K H p xs ∧ n = xs.length
  | _ => False
end
end L2

namespace L2
open PySem PySem.Spec PyProof.Rows

/-! ### an instance, its attributes a map -/
structure ObjM (h : Heap) (x dx C : Addr) (mA : Str → Option Value) : Prop where
  obj : h.get? x = some (PySem.W.instObj C dx)
  ns : h.Ns1 dx mA
  ne : dx ≠ x

theorem lookIn_ns {h : Heap} {dx : Addr} {mA : Str → Option Value} (n : h.Ns1 dx mA) : ∃ od, h.get? dx = some od ∧ ∀ name, PySem.W.lookIn name od = some (mA name) := by
  obtain ⟨o, es, ep, ho, hd, hk, _, hm⟩ := n
  refine ⟨o, ho, fun name => ?_⟩
  have e := hm name
  unfold nsFind findBy at e
  rw [← Array.find?_toList] at e
  unfold PySem.W.lookIn
  rw [hd]
  dsimp only
  split
  · rename_i y q
    rw [q] at e
    exact congrArg some e
  · rename_i q
    rw [q] at e
    have a : es.toList.any (·.refKey) = false := by
      rw [List.any_eq_false]
      intro y hy
      obtain ⟨z, t, hkey⟩ := hk y (Array.mem_toList_iff.mp hy)
      simp [DictEntry.refKey, hkey]
    have a' : ¬ es.toList.any (·.refKey) = true := by rw [a]; exact Bool.false_ne_true
    rw [if_neg a']
    exact congrArg some e

theorem ObjM.look {h : Heap} {x dx C : Addr} {mA : Str → Option Value} (I : ObjM h x dx C mA) : ∃ od, PySem.W.InstAt h x (PySem.W.instObj C dx) C (some od) ∧ ∀ name, PySem.W.lookIn name od = some (mA name) := by
  obtain ⟨od, ho, hl⟩ := lookIn_ns I.ns
  exact ⟨od, ⟨I.obj, rfl, rfl, ho⟩, hl⟩

section
variable {prog : Program} {w : World} {A : Around} {E : Value → Shared → Prop} {s : Shared} {K : PySem.W.Frag} {x dx C f : Addr} {mA : Str → Option Value} {name : Str} {v : Value}

end

/-! ### the attributes as a list of pairs -/
def putF (f : Str) (v : V) : List (Str × V) → List (Str × V)
  | [] => [(f, v)]
  | (g, x) :: r => if g = f then (g, v) :: r else (g, x) :: putF f v r
section
variable {P : Program} {w : World} {H H' : Hp} {h h' : Heap} {a C dx : Addr} {fs fs' : List (Str × V)}
theorem ins_get (hok : HOk P w H h) (e : H a = some (.ins C dx fs)) : ∃ mA, ObjM h a dx C mA ∧ (∀ f, RelO (fs.lookup f) (mA f)) ∧ PySem.Within mA (fs.map (·.1)) ∧ fs.length ≤ 1000 ∧ H dx = some (.own a) := by
  obtain ⟨d, z, ne, ob, mA, n, r, q⟩ := (show ObjOk P w H h a (.ins C dx fs) from hok a _ e)
  exact ⟨mA, ⟨ob, n, ne⟩, r, q, z, d⟩
end

/-! ### what of the text a class must have -/
structure Cls (K : PySem.W.Frag) (C : Addr) : Prop where
  pg : PySem.W.plainGet K C Str.empty = true
  hd : PySem.W.hasDictIn K C = true
  po : PySem.W.plainOver K C = true
  sa : PySem.W.findIn K (.ref C) "__setattr__" = some (some (.builtin "object.__setattr__"))
theorem Cls.get {K : PySem.W.Frag} {C : Addr} (c : Cls K C) (f : Str) : PySem.W.plainGet K C f = true := c.pg
/-- no class of it has the name -/
def NoAttr (K : PySem.W.Frag) (C : Addr) (f : Str) : Prop := PySem.W.findIn K (.ref C) f = some none
/-- a constant of the class -/
structure Con (K : PySem.W.Frag) (C : Addr) (f : Str) (v : V) (u : Value) : Prop where
  at_ : PySem.W.findIn K (.ref C) f = some (some u)
  rel : RelV v u
  get : PySem.W.specialIn K u "__get__" = some none
  cp : PySem.W.copiedNames.contains f = false
/-- a method: a plain def of the class or of one above it -/
structure Meth (K : PySem.W.Frag) (C : Addr) (m : Str) (f : Addr) : Prop where
  at_ : PySem.W.findIn K (.ref C) m = some (some (.ref f))
  fn : PySem.W.isFn K (.ref f) = true
  kp : PySem.W.keepIn K (.ref f) = true

section
variable {X : Cx} {pins : List (Addr × Obj)} {σ : St} {H : Hp} {s : Shared} {a C dx : Addr} {fs : List (Str × V)} {f : Str} {v : V} {A : Around} {E : Value → Shared → Prop}

end

/-! ### readings and rules -/
/-- e.f, an attribute of the instance -/
def tFld (K : PySem.W.Frag) (ta : TE) (f : Str) : TE := fun σ H Q => ta σ H fun x H1 => ∃ a C dx fs v, x = .ref a ∧ H1 a = some (.ins C dx fs) ∧ Cls K C ∧ NoAttr K C f ∧ fs.lookup f = some v ∧ Q v H1
/-- e.f, a constant of the class -/
def tCon (K : PySem.W.Frag) (ta : TE) (f : Str) : TE := fun σ H Q => ta σ H fun x H1 => ∃ a C dx fs v u, x = .ref a ∧ H1 a = some (.ins C dx fs) ∧ Cls K C ∧ Con K C f v u ∧ fs.lookup f = none ∧ Q v H1
/-- e.f = value -/
def sFld (K : PySem.W.Frag) (ta tv : TE) (f : Str) : TS := fun D σ H => tv σ H fun y H1 => ta σ H1 fun x H2 => ∃ a C dx fs, x = .ref a ∧ H2 a = some (.ins C dx fs) ∧ Cls K C ∧ NoAttr K C f ∧ fs.length < 1000 ∧
  D.nx σ (upd H2 a (.ins C dx (putF f y fs)))
/-- an augmented operator on two values -/
def InOp (X : Cx) (op : Operator) (rd : V → V → Hp → VK → Prop) : Prop :=
  ∀ (pins : List (Addr × Obj)) (s : Shared) (σ : St) (H : Hp) (x y : V) (u v : Value) (Q : VK), Inv X pins σ H s → RelV x u → RelV y v → rd x y H Q → wpAny (model X.prog X.w) X.A (inplaceOp op u v) (EP X pins σ Q) X.xe s
/-- e.f op= value -/
def sFldAug (K : PySem.W.Frag) (ta tv : TE) (rd : V → V → Hp → VK → Prop) (f : Str) : TS := fun D σ H => ta σ H fun x H1 => ∃ a C dx fs v, x = .ref a ∧ H1 a = some (.ins C dx fs) ∧ Cls K C ∧ NoAttr K C f ∧ fs.lookup f = some v ∧
  tv σ H1 fun y H2 => rd v y H2 fun z H3 => ∃ dx' fs', H3 a = some (.ins C dx' fs') ∧ fs'.length < 1000 ∧ D.nx σ (upd H3 a (.ins C dx' (putF f z fs')))

section
variable {X : Cx} {o e value : Expr} {f : Str} {pos pos' tpos : Pos} {ta tv : TE}
def rAdd : V → V → Hp → VK → Prop := fun x y H Q => ∃ i j, x = .int i ∧ y = .int j ∧ Q (.int (i + j)) H
def rSub : V → V → Hp → VK → Prop := fun x y H Q => ∃ i j, x = .int i ∧ y = .int j ∧ Q (.int (i - j)) H
end

/-! ### isinstance -/
section
variable {X : Cx} {pins : List (Addr × Obj)} {σ : St} {H : Hp} {s : Shared} {A : Around} {E : Value → Shared → Prop} {Q : Value → Shared → Prop} {c : Value} {b : Bool}
/-- the type of a value, as the fragment's deciders take it; for an instance its class -/
inductive TyOf (K : PySem.W.Frag) (H : Hp) : V → Value → Prop where
  | non : TyOf K H .non (.type "NoneType")
  | bl (x : Bool) : TyOf K H (.bl x) (.type "bool")
  | int (i : Int) : TyOf K H (.int i) (.type "int")
  | str (x : Str) : TyOf K H (.str x) (.type "str")
  | flt (x : UInt64) : TyOf K H (.flt x) (.type "float")
  | lst {a : Addr} {xs : List V} (e : H a = some (.lst xs)) : TyOf K H (.ref a) (.type "list")
  | frz {a : Addr} {o : Obj} {xs : List V} (e : H a = some (.frz o (.lst xs))) : TyOf K H (.ref a) (.type "list")
  | tup {a : Addr} {xs : List V} (e : H a = some (.tup xs)) : TyOf K H (.ref a) (.type "tuple")
  | dK {a : Addr} {kvs : List (Key × V)} (e : H a = some (.dK kvs)) : TyOf K H (.ref a) (.type "dict")
  | dT {a : Addr} {kvs : List (List Key × V)} (e : H a = some (.dT kvs)) : TyOf K H (.ref a) (.type "dict")
  | ins {a C dx : Addr} {fs : List (Str × V)} (e : H a = some (.ins C dx fs)) (cl : Cls K C) (ha : PySem.W.findIn K (.ref C) "__class__" = some (some (.builtin "object.__class__")))
      (hn : PySem.W.specialIn K (.builtin "object.__class__") "__get__" = some (some (.builtin "getset_descriptor.__get__"))) (htk : PySem.W.takesIn K (.builtin "object.__class__") = some true)
      (hm : PySem.W.mroIn K C (.type "object") = some true) : TyOf K H (.ref a) (.ref C)
/-- isinstance(x, c) for one class c, a built-in or an own one: kitOne's answer -/
theorem isinst_ok {x : V} {u t : Value} (I : Inv X pins σ H s) (rx : RelV x u) (ty : TyOf X.K H x t) (e : PySem.W.kitOne X.K t c = some b) (h : ∀ tk, Q (.bool b) { s with toks := tk }) :
    wpAny (model X.prog X.w) A (call (.builtin "isinstance") [u, c]) Q E s := by
  cases ty with
  | non => cases (show u = Value.none from rx); exact PySem.W.kia_one PySem.W.kitx_none I.kIn True.intro e (fun z => nomatch z) h
  | bl y => cases (show u = Value.bool y from rx); exact PySem.W.kia_one PySem.W.kitx_bool I.kIn True.intro e (fun z => nomatch z) h
  | int i => obtain ⟨t, q⟩ := (show ∃ t, u = Value.int i t from rx); cases q; exact PySem.W.kia_one PySem.W.kitx_int I.kIn True.intro e (fun z => nomatch z) h
  | str y => obtain ⟨t, q⟩ := (show ∃ t, u = Value.str y t from rx); cases q; exact PySem.W.kia_one PySem.W.kitx_str I.kIn True.intro e (fun z => nomatch z) h
  | flt y => obtain ⟨t, q⟩ := (show ∃ t, u = Value.float y t from rx); cases q; exact PySem.W.kia_one PySem.W.kitx_float I.kIn True.intro e (fun z => nomatch z) h
  | @lst a xs ea =>
    cases (show u = Value.ref a from rx)
    obtain ⟨_, _, n, _, h1⟩ := (show ObjOk X.prog X.w H s.heap a (.lst xs) from I.hok a _ ea)
    exact PySem.W.kia_one PySem.W.kitx_list I.kIn ⟨_, h1, rfl⟩ e (fun z => nomatch z) h
  | @frz a ob xs ea =>
    cases (show u = Value.ref a from rx)
    obtain ⟨_, _, _, n, _, h1⟩ := (show ObjOk X.prog X.w H s.heap a (.frz ob (.lst xs)) from I.hok a _ ea)
    exact PySem.W.kia_one PySem.W.kitx_list I.kIn ⟨_, h1, rfl⟩ e (fun z => nomatch z) h
  | @tup a xs ea =>
    cases (show u = Value.ref a from rx)
    obtain ⟨_, _, _, p⟩ := (show ObjOk X.prog X.w H s.heap a (.tup xs) from I.hok a _ ea)
    obtain ⟨o, h1, h2, _⟩ := p
    exact PySem.W.kia_one PySem.W.kitx_tuple I.kIn ⟨o, h1, h2⟩ e (fun z => nomatch z) h
  | @dK a kvs ea =>
    cases (show u = Value.ref a from rx)
    obtain ⟨_, _, vs, _, p⟩ := (show ObjOk X.prog X.w H s.heap a (.dK kvs) from I.hok a _ ea)
    obtain ⟨o, es, ep, h1, h2, _⟩ := p
    exact PySem.W.kia_one PySem.W.kitx_dict I.kIn ⟨o, h1, h2.1⟩ e (fun z => nomatch z) h
  | @dT a kvs ea =>
    cases (show u = Value.ref a from rx)
    obtain ⟨_, _, xs, _, o, es, ep, h1, h2, _⟩ := (show ObjOk X.prog X.w H s.heap a (.dT kvs) from I.hok a _ ea)
    exact PySem.W.kia_one PySem.W.kitx_dict I.kIn ⟨o, h1, h2.1⟩ e (fun z => nomatch z) h
  | @ins a C dx fs ea cl ha hn htk hm =>
    cases (show u = Value.ref a from rx)
    obtain ⟨mA, O, _⟩ := ins_get I.hok ea
    obtain ⟨od, J, _⟩ := O.look
    exact PySem.W.kia_one (PySem.W.kitx_own (cl.get _) cl.hd ha hn htk hm) I.kIn J e (fun z => nomatch z) h
end
end L2

namespace L2
open PySem PySem.Spec PyProof.Rows

/-! ### room -/
structure Room (k : Nat) (A : Around) : Prop where
  hd : A.handled = none
  dp : A.depth + 3 * k + 5 < recursionLimit
  un : A.units + 16 * k + 200 < cLine
theorem Room.mono {j k : Nat} {A : Around} (r : Room k A) (h : j ≤ k) : Room j A := ⟨r.hd, by have := r.dp; omega, by have := r.un; omega⟩
theorem Room.deeper {k : Nat} {A : Around} (r : Room (k + 1) A) (env : Env) : Room k (A.deeper env) :=
  ⟨r.hd, by have := r.dp; show A.depth + 1 + 3 * k + 5 < _; omega, by have := r.un; show A.units + 3 + 16 * k + 200 < _; omega⟩
theorem Room.depth {k : Nat} {A : Around} (r : Room k A) : A.depth < recursionLimit := by have := r.dp; omega
theorem Room.units {k : Nat} {A : Around} (r : Room k A) : A.units + 64 < cLine := by have := r.un; omega
/-! ### argument lists and displays -/
def tNil : TA := fun _ H Q => Q [] H
def tCons (ta : TE) (tr : TA) : TA := fun σ H Q => ta σ H fun x H1 => tr σ H1 fun xs H2 => Q (x :: xs) H2
section
variable {X : Cx} {e : Expr} {es : List Expr} {te : TE} {t : TA} {pos : Pos}
theorem pa_nil : PA X [] tNil := fun _ _ _ _ H Q I h => Calls.spliced_nil ⟨[], H, I, .nil, h⟩
theorem pa_cons (ha : PE X e te) (hr : PA X es t) (hs : starEach (e :: es) X.env = (false, eval e X.env) :: starEach es X.env := by rfl) : PA X (e :: es) (tCons te t) := by
  intro pos pins s σ H Q I h
  rw [hs]
  show wpAny _ _ (spliced ((false, eval e X.env) :: backTo pos (starEach es X.env))) _ _ s
  refine Calls.spliced_cons (thn (ha pins s σ H _ I h) fun u s1 ⟨x, H1, I1, r1, q1⟩ => ?_)
  exact thn (hr pos pins s1 σ H1 _ I1 q1) fun us s2 ⟨xs, H2, I2, r2, q2⟩ => ⟨x :: xs, H2, I2, .cons r1 r2, q2⟩

/-- a tuple, a list of written items -/
def tTup (t : TA) : TE := fun σ H Q => t σ H fun xs H1 => xs.length ≤ sizeLine ∧ ∀ p, H1 p = none → Q (.ref p) (upd H1 p (.tup xs))
def tLst (t : TA) : TE := fun σ H Q => t σ H fun xs H1 => xs.length ≤ sizeLine ∧ ∀ p, H1 p = none → Q (.ref p) (upd H1 p (.lst xs))
theorem pe_tup {x1} (h : PA X es t) : PE X (.Tuple es x1 pos) (tTup t) := by
  intro pins s σ H Q I hq
  refine wpAny_Tuple_spliced (thn (h pos pins s σ H _ I hq) fun us s1 ⟨xs, H1, I1, r, z, q⟩ => ⟨by rw [← r.length]; exact z, ?_⟩)
  have hf : H1 s1.heap.objs.size = none := I1.hok.fresh (Nat.le_refl _)
  refine ⟨.ref s1.heap.objs.size, upd H1 s1.heap.objs.size (.tup xs), I1.laid (t' := s1.toks) (fun b u e => Heap.get?_push_of_some _ e) (Nat.le_refl _) ?_, rfl, q _ hf⟩
  exact ⟨z, us, r, ⟨_, Heap.get?_push_size _ rfl, rfl, _, rfl⟩⟩
theorem pe_lst (h : PA X es t) : PE X (.List es pos) (tLst t) := by
  intro pins s σ H Q I hq
  refine wpAny_List_spliced (thn (h pos pins s σ H _ I hq) fun us s1 ⟨xs, H1, I1, r, z, q⟩ => ⟨by rw [← r.length]; exact z, ?_⟩)
  have hf : H1 s1.heap.objs.size = none := I1.hok.fresh (Nat.le_refl _)
  refine ⟨.ref s1.heap.objs.size, upd H1 s1.heap.objs.size (.lst xs), I1.laid (t' := s1.toks) (fun b u e => Heap.get?_push_of_some _ e) (Nat.le_refl _) ?_, rfl, q _ hf⟩
  exact ⟨z, us, 0, r, Heap.get?_push_size _ rfl⟩
end

/-! ### what a def promises -/
/-- a def's promise: the bound arguments in the parameters' order, the heap, the wanted end, the wanted exception -/
abbrev Sp := List V → Hp → VK → XK → Prop
/-- how an exception lies behind a call (file 08 gives it): the callers' frames, abstract heap and state ahead of the call, the wish, the exception, the state -/
abbrev CXT := List Env → Hp → Shared → XK → Value → Shared → Prop

/-- the state at a call -/
structure Env0 (P : Program) (w : World) (K : PySem.W.Frag) (mg : Str → Option Value) (base : Heap) (A : Around) (outer : List Env) (s : Shared) (H : Hp) : Prop where
  frames : A.frames = some outer
  mod : Mod K mg base
  bs : ∀ b o, base.get? b = some o → s.heap.get? b = some o ∧ H b = none
  bsz : base.objs.size ≤ s.heap.objs.size
  funs : s.heap.FunFrames base outer
  frf : ∀ b ∈ frs outer, H b = none
  hok : HOk P w H s.heap
  bare : AllBare s.gens
/-- a call's end -/
def CE (outer : List Env) (P : Program) (w : World) (H : Hp) (s : Shared) (Q : VK) (u : Value) (s' : Shared) : Prop :=
  ∃ v H', s'.os = s.os ∧ AllBare s'.gens ∧ Un (frs outer) [] H H' s.heap s'.heap ∧ HOk P w H' s'.heap ∧ RelV v u ∧ Q v H'
def CR (CX : CXT) (outer : List Env) (P : Program) (w : World) (H : Hp) (s : Shared) (Q : VK) (E : XK) (r : Result) (s' : Shared) : Prop :=
  match r with
  | .ok (.ret u) => CE outer P w H s Q u s'
  | .ok _ => False
  | .error e => CX outer H s E e s'
structure FnOk (P : Program) (w : World) (K : PySem.W.Frag) (mg : Str → Option Value) (base : Heap) (CX : CXT) (k : Nat) (f : Addr) (fd : FuncData) (ps : List Str) (sp : Sp) : Prop where
  len : ∀ vs H Q E, sp vs H Q E → vs.length = ps.length
  run : ∀ (A : Around) (outer : List Env) (s : Shared) (H : Hp) (args : Args) (us : List Value) (vs : List V) (Q : VK) (E : XK), Room k A → Env0 P w K mg base A outer s H → BindsTo s fd args (ps.zip us) → Vals vs us → sp vs H Q E →
    codeAny (model P w) A (.call (.ref f) args) (CR CX outer P w H s Q E) s
theorem FnOk.mono {P : Program} {w : World} {K : PySem.W.Frag} {mg : Str → Option Value} {base : Heap} {CX : CXT} {j k : Nat} {f : Addr} {fd : FuncData} {ps : List Str} {sp : Sp} (F : FnOk P w K mg base CX j f fd ps sp) (h : j ≤ k) :
    FnOk P w K mg base CX k f fd ps sp := ⟨F.len, fun A outer s H args us vs Q E hr => F.run A outer s H args us vs Q E (hr.mono h)⟩
section
variable {X : Cx} {pins : List (Addr × Obj)} {σ : St} {H : Hp} {s s' : Shared}
/-- from a body: what a callee wants -/
theorem Inv.env0 (I : Inv X pins σ H s) : Env0 X.prog X.w X.K X.mg X.base X.A X.stack s H :=
  ⟨I.ok.frames, I.ok.mod, I.bs, Nat.le_trans I.ok.bsz I.sz, I.stack, I.stkFree, I.hok, I.bare⟩
/-- behind a call -/
theorem Inv.after {Q : VK} {u : Value} (I : Inv X pins σ H s) (h : CE X.stack X.prog X.w H s Q u s') : EP X pins σ Q u s' := by
  obtain ⟨v, H', os, bare, un, hok, r, q⟩ := h
  obtain ⟨hh, g, d, t, os'⟩ := s'
  obtain rfl : os' = s.os := os
  exact ⟨v, H', I.call (h' := hh) (g' := g) (d' := d) (t' := t) (ch := []) un hok bare (fun b z => absurd z (by simp)), r, q⟩
end

/-! ### calls -/
/-- f(..): the written arguments, then the defaults dvs; E: what is wanted of an exception -/
def tCall (sp : Sp) (dvs : List V) (E : XK) (t : TA) : TE := fun σ H Q => t σ H fun vs H1 => sp (vs ++ dvs) H1 Q E
/-- o.m(..) of an instance of the class at C -/
def tMeth (C : Addr) (m : Str) (sp : Sp) (dvs : List V) (E : XK) (ta : TE) (t : TA) : TE := fun σ H Q => ta σ H fun x H1 => ∃ a dx fs, x = .ref a ∧ H1 a = some (.ins C dx fs) ∧ fs.lookup m = none ∧
  t σ H1 fun vs H2 => sp (x :: (vs ++ dvs)) H2 Q E
/-- C(..): a new instance and its dict, then __init__ -/
def tMake (C : Addr) (sp : Sp) (dvs : List V) (E : XK) (t : TA) : TE := fun σ H Q => t σ H fun vs H1 => ∀ x dx, H1 x = none → H1 dx = none → dx ≠ x →
  sp (.ref x :: (vs ++ dvs)) (upd (upd H1 dx (.own x)) x (.ins C dx [])) (fun v H2 => v = .non ∧ Q (.ref x) H2) E

/-- how the parameters are bound: us the positional arguments, kw the keywords' values by name, ds the defaults that fill up -/
def Binds (K : PySem.W.Frag) (fd : FuncData) (ps : List Str) (ds : List Value) : Prop :=
  ∀ (s : Shared) (us : List Value), K.In s.heap → (us ++ ds).length = ps.length → BindsTo s fd ⟨us, []⟩ (ps.zip (us ++ ds))
/-- every parameter is given -/
theorem Binds.all {K : PySem.W.Frag} {fd : FuncData} {ps : List Str} (h : ∀ us : List Value, us.length = ps.length → bindArgs fd ⟨us, []⟩ = pure (ps.zip us)) : Binds K fd ps [] := fun s us _ hl => by
  rw [List.append_nil] at hl ⊢
  exact .of_eq (h us hl)

/-- an exception of a callee reaches what this body wants of exceptions -/
def Passes (CX : CXT) (X : Cx) (E : XK) : Prop := ∀ (pins : List (Addr × Obj)) (σ : St) (H : Hp) (s : Shared) (e : Value) (s' : Shared), Inv X pins σ H s → CX X.stack H s E e s' → X.xe e s'

section
variable {X : Cx} {CX : CXT} {k : Nat} {f C : Addr} {fd : FuncData} {ps : List Str} {sp : Sp} {dvs : List V} {ds : List Value} {E : XK} {x m : Str} {p pos apos : Pos} {e o : Expr} {es : List Expr} {ta : TE} {t : TA}

/-- the callee runs -/
theorem run_fn {pins : List (Addr × Obj)} {σ : St} {H : Hp} {s : Shared} {Q : VK} {us : List Value} {vs : List V} (F : FnOk X.prog X.w X.K X.mg X.base CX k f fd ps sp) (hr : Room k X.A) (hb : Binds X.K fd ps ds) (hd : Vals dvs ds) (hx : Passes CX X E)
    (I : Inv X pins σ H s) (r : Vals vs us) (h : sp (vs ++ dvs) H Q E) : wpAny (model X.prog X.w) X.A (call (.ref f) us) (EP X pins σ Q) X.xe s := by
  have r2 : Vals (vs ++ dvs) (us ++ ds) := r.append hd
  have hl : (us ++ ds).length = ps.length := by rw [← r2.length]; exact F.len _ _ _ _ h
  refine wpAny_call (codeAny_mono (F.run X.A X.stack s H ⟨us, []⟩ (us ++ ds) (vs ++ dvs) Q E hr I.env0 (hb s us I.kIn hl) r2 h) fun r s' hq => ?_)
  cases r with
  | error e => exact hx pins σ H s e s' I hq
  | ok fl =>
    cases fl with
    | ret u => exact I.after hq
    | next => exact False.elim hq
    | brk => exact False.elim hq
    | cont => exact False.elim hq

theorem pe_call (F : FnOk X.prog X.w X.K X.mg X.base CX k f fd ps sp) (hr : Room k X.A) (hg : Gl X x) (hm : X.mg x = some (.ref f)) (hk : PySem.W.keepIn X.K (.ref f) = true) (hb : Binds X.K fd ps ds) (hd : Vals dvs ds) (hx : Passes CX X E)
    (ha : PA X (e :: es) t) (hdb : (x == ("__debug__" : Str)) = false := by decide) (he : starEach (e :: es) X.env = (false, eval e X.env) :: starEach es X.env := by rfl) (hpl : (backTo pos (starEach es X.env)).any (·.1) = false := by rfl) :
    PE X (.Call (.Name x p) (e :: es) [] pos) (tCall sp dvs E t) := by
  intro pins s σ H Q I h
  refine wpAny_Call_Name_kw (ld_glob I hg hm ?_ hdb)
  refine PySem.W.callWith_K (h₀ := X.base) I.ok.mod.kin hk (thn (ha pos pins s σ H _ I h) fun us s1 ⟨vs, H1, I1, r, q⟩ => ⟨I1.kIn, ?_⟩) he hpl
  exact run_fn F hr hb hd hx I1 r q
/-- what a class must have to be made -/
structure Mk (K : PySem.W.Frag) (C f : Addr) : Prop where
  makes : PySem.W.makesIn K C = true
  init : PySem.W.findIn K (.ref C) "__init__" = some (some (.ref f))
  fn : PySem.W.isFn K (.ref f) = true
  kp : PySem.W.keepIn K (.ref C) = true

end

/-! ### keywords -/
/-- the values of the keywords, from the left -/
def PK (X : Cx) (kws : List Keyword) (t : TA) : Prop :=
  ∀ (pos : Pos) (pins : List (Addr × Obj)) (s : Shared) (σ : St) (H : Hp) (Q : List V → Hp → Prop), Inv X pins σ H s → t σ H Q → wpAny (model X.prog X.w) X.A (evalAll ((backToKw pos (keywordEach kws X.env)).map (·.2))) (AP X pins σ Q) X.xe s
section
variable {X : Cx} {CX : CXT} {k : Nat} {f C : Addr} {fd : FuncData} {ps ks : List Str} {sp : Sp} {E : XK} {x m : Str} {p pos apos kpos : Pos} {e o : Expr} {es : List Expr} {kws : List Keyword} {te ta : TE} {t tk : TA} {nm : Option Str}
/-- how a call with keywords binds: g puts the positional values us and the keywords' values ws (names ks) in the parameters' order, defaults among them -/
structure KBinds (K : PySem.W.Frag) (fd : FuncData) (ps ks : List Str) (g : List Value → List Value → List Value) (gV : List V → List V → List V) : Prop where
  to : ∀ (s : Shared) (us ws : List Value), K.In s.heap → (g us ws).length = ps.length → BindsTo s fd ⟨us, ks.zip ws⟩ (ps.zip (g us ws))
  rel : ∀ {vs : List V} {us : List Value} {zs : List V} {ws : List Value}, Vals vs us → Vals zs ws → Vals (gV vs zs) (g us ws)
def tCallK (sp : Sp) (gV : List V → List V → List V) (E : XK) (t tk : TA) : TE := fun σ H Q => t σ H fun vs H1 => tk σ H1 fun zs H2 => sp (gV vs zs) H2 Q E
variable {g : List Value → List Value → List Value} {gV : List V → List V → List V}
end

/-! ### a def's body keeps its promise -/
/-- names: the parameters first -/
structure FnScope (N P : List Str) (sc : Scope) : Prop where
  kind : sc.kind = .function
  co : sc.isCoroutine = false
  gen : sc.isGenerator = false
  nd : N.Nodup
  pre : N.take P.length = P
  par : ∀ x ∈ P, sc.names.lookup x = some .local ∨ sc.names.lookup x = some .cell
  nofree : ∀ y ∈ sc.names, y.2 ≠ .free

theorem bindL_out {kindOf : Str → Option NameKind} {x : Str} : ∀ {binds : List (Str × Value)} {m : Str → Option Value}, (∀ v, (x, v) ∉ binds) → bindL kindOf binds m x = m x
  | [], _, _ => rfl
  | (n, v) :: r, m, h => by
    unfold bindL
    rw [bindL_out fun w hw => h w (List.mem_cons_of_mem _ hw)]
    split
    · have : x ≠ n := by rintro rfl; exact h v List.mem_cons_self
      simp [this]
    · rfl
theorem bindC_out {kindOf : Str → Option NameKind} {x : Str} : ∀ {binds : List (Str × Value)} {m : Str → Option Value}, (∀ v, (x, v) ∉ binds) → bindC kindOf binds m x = m x
  | [], _, _ => rfl
  | (n, v) :: r, m, h => by
    unfold bindC
    rw [bindC_out fun w hw => h w (List.mem_cons_of_mem _ hw)]
    split
    · rfl
    · have : x ≠ n := by rintro rfl; exact h v List.mem_cons_self
      simp [this]
theorem bindL_get {kindOf : Str → Option NameKind} {x : Str} {v : Value} : ∀ {P : List Str} {vs : List Value} {i : Nat} {m : Str → Option Value}, P.Nodup → P[i]? = some x → vs[i]? = some v → kindOf x = some .local →
    bindL kindOf (P.zip vs) m x = some v
  | [], _, _, _, _, h, _, _ => by simp at h
  | _ :: _, [], _, _, _, _, h, _ => by simp at h
  | p :: P, w :: vs, 0, m, nd, h1, h2, hk => by
    simp at h1 h2; subst h1; subst h2
    show bindL kindOf ((p, w) :: P.zip vs) m p = _
    unfold bindL
    rw [bindL_out fun v hv => (List.nodup_cons.mp nd).1 (List.of_mem_zip hv).1, if_pos hk]
    simp
  | p :: P, w :: vs, i + 1, m, nd, h1, h2, hk => by
    show bindL kindOf ((p, w) :: P.zip vs) m x = _
    unfold bindL
    exact bindL_get (i := i) (List.nodup_cons.mp nd).2 (by simpa using h1) (by simpa using h2) hk
theorem bindC_get {kindOf : Str → Option NameKind} {x : Str} {v : Value} : ∀ {P : List Str} {vs : List Value} {i : Nat} {m : Str → Option Value}, P.Nodup → P[i]? = some x → vs[i]? = some v → kindOf x ≠ some .local →
    bindC kindOf (P.zip vs) m x = some v
  | [], _, _, _, _, h, _, _ => by simp at h
  | _ :: _, [], _, _, _, _, h, _ => by simp at h
  | p :: P, w :: vs, 0, m, nd, h1, h2, hk => by
    simp at h1 h2; subst h1; subst h2
    show bindC kindOf ((p, w) :: P.zip vs) m p = _
    unfold bindC
    rw [bindC_out fun v hv => (List.nodup_cons.mp nd).1 (List.of_mem_zip hv).1, if_neg hk]
    simp
  | p :: P, w :: vs, i + 1, m, nd, h1, h2, hk => by
    show bindC kindOf ((p, w) :: P.zip vs) m x = _
    unfold bindC
    exact bindC_get (i := i) (List.nodup_cons.mp nd).2 (by simpa using h1) (by simpa using h2) hk

/-- the names' values at the entry -/
def start (N : List Str) (vs : List V) : St := vs.map some ++ List.replicate (N.length - vs.length) none

/-- the context of a def's body, at its entry; an exception leaves the frame, then lies as CX says -/
def cxOf (CX : CXT) (P : Program) (w : World) (K : PySem.W.Frag) (mg : Str → Option Value) (base : Heap) (N : List Str) (qual : Str) (scope : Scope) (f : Addr) (cd : Value) (A : Around) (outer : List Env) (s : Shared) (H : Hp) (E : XK) : Cx where
  prog := P
  w := w
  K := K
  mg := mg
  base := base
  A := A.deeper (envOfC qual scope s.heap.objs.size f cd)
  N := N
  s₀ := s
  H₀ := H
  env := envOfC qual scope s.heap.objs.size f cd
  outer := outer
  stack := envOfC qual scope s.heap.objs.size f cd :: outer
  ex := []
  calm := true
  fn := fun _ => true
  pn := []
  xe := fun e s' => wpAny (model P w) (A.deeper (envOfC qual scope s.heap.objs.size f cd)) (leaving (envOfC qual scope s.heap.objs.size f cd) e) (fun _ s'' => CX outer H s E e s'') (fun e' s'' => CX outer H s E e' s'') s'

theorem cell_has {sc : Scope} {n : Nat} {x : Str} (h : sc.names.lookup x = some .cell) : ∃ c, (cellsFrom n sc.names []).lookup x = some c := by
  have q := PySem.W.cellsFrom_some sc.names n [] (.inl h)
  exact Option.isSome_iff_exists.mp q

theorem inv_start {CX : CXT} {P : Program} {w : World} {K : PySem.W.Frag} {mg : Str → Option Value} {base : Heap} {N ps : List Str} {qual : Str} {scope : Scope} {f : Addr} {cd : Value} {A : Around} {outer : List Env} {s s1 : Shared} {H : Hp} {E : XK} {us : List Value} {vs : List V}
    (S : FnScope N ps scope) (hd : A.handled = none) (e0 : Env0 P w K mg base A outer s H) (hl : vs.length = ps.length) (r : Vals vs us)
    (x : InCallC s s.heap.objs.size (bindL (envOfC qual scope s.heap.objs.size f cd).kindOf (ps.zip us) fun _ => none) (cellsFrom (s.heap.objs.size + 1) scope.names []) (bindC (envOfC qual scope s.heap.objs.size f cd).kindOf (ps.zip us) fun _ => none) s1) :
    Inv (cxOf CX P w K mg base N qual scope f cd A outer s H E) [] (start N vs) H s1 := by
  have hpl : ps.length ≤ N.length := by have := congrArg List.length S.pre; rw [List.length_take] at this; omega
  obtain ⟨h1, tk, rfl, hk⟩ := x.done
  have noA : ∀ b : Addr, b ∉ (cxOf CX P w K mg base N qual scope f cd A outer s H E).ex := fun b z => absurd (show b ∈ ([] : List Addr) from z) (by simp)
  refine ⟨⟨e0.mod, S.kind, rfl, rfl, Nat.le_refl _, fun y z c h1 h2 => ?_, fun y hy => ?_, fun y c _ h => ?_, fun _ => hd, Around.frames_deeper e0.frames, .inr ⟨rfl, rfl⟩, fun b z => absurd z (noA b), e0.bs, e0.bsz, fun b _ _ => noA b, fun b z => absurd z (noA b), e0.funs, e0.frf⟩,
    rfl, e0.bare, Un.kept hk, ⟨_, x.toInCall.ns, fun i y v h1 h2 h3 => ?_⟩, fun y c h => ⟨_, x.cell y c h⟩, e0.hok.fresh (Nat.le_refl _), fun y c h => ?_, fun p hp => absurd (show p ∈ ([] : List (Addr × Obj)) from hp) (by simp), e0.hok.kept hk, ?_⟩
  · exact name_of_addr x.apart (PySem.mem_of_lookup h1) (PySem.mem_of_lookup h2)
  · have hy : scope.names.lookup y = some .cell ∨ scope.names.lookup y = some .free := hy
    rcases hy with hy | hy
    · exact cell_has hy
    · exact absurd rfl (S.nofree _ (PySem.mem_of_lookup hy))
  · exact Nat.le_of_lt (x.above y c (PySem.mem_of_lookup h))
  · have hi : i < vs.length := by
      unfold start at h2
      by_cases hi : i < vs.length
      · exact hi
      · rw [List.getElem?_append_right (by simpa using hi)] at h2
        rw [List.getElem?_replicate] at h2
        split at h2 <;> cases h2
    have ha : vs[i]? = some v := by
      unfold start at h2
      rw [List.getElem?_append_left (by simpa using hi), List.getElem?_map] at h2
      cases e : vs[i]? with
      | none => rw [e] at h2; cases h2
      | some a => rw [e] at h2; cases h2; rfl
    obtain ⟨u, hu, rv⟩ := r.get ha
    have hp : ps[i]? = some y := by
      rw [← S.pre, List.getElem?_take_of_lt (by omega)]; exact h1
    have ndP : ps.Nodup := by rw [← S.pre]; exact S.nd.sublist (List.take_sublist _ _)
    refine ⟨u, rv, ?_⟩
    rcases S.par y (List.mem_of_getElem? hp) with k | k
    · exact .inl ⟨k, bindL_get ndP hp hu k⟩
    · obtain ⟨c, e⟩ := cell_has (n := s.heap.objs.size + 1) k
      refine .inr ⟨.inl k, c, e, ?_⟩
      have q := x.cell y c e
      rw [bindC_get ndP hp hu (by show scope.names.lookup y ≠ _; rw [k]; decide)] at q
      exact q
  · exact e0.hok.fresh (Nat.le_of_lt (x.above y c (PySem.mem_of_lookup h)))
  · unfold start
    show _ = N.length
    rw [List.length_append, List.length_map, List.length_replicate]
    omega

/-- THE RULE: a def (or a method) of the text, by its body. The body's reading t is chosen for each entry; it is run at the parameters' values -/
theorem fn_of {CX : CXT} {P : Program} {w : World} {K : PySem.W.Frag} {mg : Str → Option Value} {base : Heap} {k : Nat} {f : Addr} {name qual : Str} {params : Arguments} {body : List Stmt} {scope : Scope} {dV kV doc pm cdv ct oc : Value} {an od : Option Addr}
    {osl : Array (Option Value)} {N ps : List Str} {sp : Sp} (lk : K.lookup f = some ⟨oc, od, .func (PySem.W.fnOf name qual params body scope dV kV doc pm an cdv ct), osl⟩) (hcd : PySem.W.codeIn K cdv qual = true) (S : FnScope N ps scope)
    (len : ∀ vs H Q E, sp vs H Q E → vs.length = ps.length)
    (hbody : ∀ (A : Around) (outer : List Env) (s : Shared) (H : Hp) (vs : List V) (Q : VK) (E : XK), Room k (A.deeper (envOfC qual scope s.heap.objs.size f cdv)) → sp vs H Q E →
      ∃ t, PSs (cxOf CX P w K mg base N qual scope f cdv A outer s H E) body t ∧ t { nx := fun _ H' => Q .non H', rt := Q } (start N vs) H) :
    FnOk P w K mg base CX (k + 1) f (PySem.W.fnOf name qual params body scope dV kV doc pm an cdv ct) ps sp := by
  refine ⟨len, fun A outer s H args us vs Q E hr e0 hb r hsp => ?_⟩
  have hl := len _ _ _ _ hsp
  have KX : K.In s.heap := e0.mod.kin.keeps fun b o e => (e0.bs b o e).1
  have lim : s.heap.NoLimit := e0.mod.nolimit.keeps fun b o e => (e0.bs b o e).1
  have hkind : ∀ y ∈ ps.zip us, scope.names.lookup y.1 = some .local ∨ (scope.names.lookup y.1 = some .cell ∧ ((cellsFrom (s.heap.objs.size + 1) scope.names []).lookup y.1).isSome = true) := fun ⟨n, v⟩ hy => by
    rcases S.par n (List.of_mem_zip hy).1 with q | q
    · exact .inl q
    · exact .inr ⟨q, PySem.W.cellsFrom_some _ _ _ (.inl q)⟩
  refine codeAny_call_function hr.depth (KX _ _ lk) rfl S.co S.gen rfl (PySem.W.codeRec_of KX hcd) (hb _ _ _ _ ?_)
  refine wpAny_newFunctionEnv_cells S.kind hkind fun env he s1 x => ?_
  subst he
  refine ⟨lim.keeps x.toInCall.keep, codeAny_func ?_⟩
  obtain ⟨t, ht, hq⟩ := hbody A outer s H vs Q E (hr.deeper _) hsp
  have I : Inv (cxOf CX P w K mg base N qual scope f cdv A outer s H E) [] (start N vs) H s1 := inv_start S hr.hd e0 hl r x
  refine wpAny_mono (ht [] s1 (start N vs) H _ I hq) (fun fl s' hs => ?_) fun e s' hs => hs
  have fin : ∀ {σ' : St} {H' : Hp} {v : V} {u : Value}, Inv (cxOf CX P w K mg base N qual scope f cdv A outer s H E) [] σ' H' s' → RelV v u → Q v H' → CE outer P w H s Q u s' :=
    fun {σ' H' v u} J rv q => ⟨v, H', J.os, J.bare, J.base, J.hok, rv, q⟩
  cases fl with
  | ret u =>
    obtain ⟨v, σ', H', J, rv, q⟩ := hs
    exact fin J rv q
  | next =>
    obtain ⟨σ', H', J, q⟩ := hs
    exact fin (v := V.non) (u := Value.none) J rfl q
  | brk =>
    obtain ⟨_, _, _, q⟩ := hs
    exact False.elim q
  | cont =>
    obtain ⟨_, _, _, q⟩ := hs
    exact False.elim q
end L2

namespace L2
open PySem PySem.Spec PyProof.Rows
section
variable {X : Cx} {x : Str} {p pos : Pos} {e : Expr} {es : List Expr} {t : TA} {id T : String} {r : List V → Hp → VK → Prop}

def tCB (r : List V → Hp → VK → Prop) (t : TA) : TE := fun σ H Q => t σ H fun vs H1 => r vs H1 Q
/-- f(e, ..), f a built-in function -/
theorem pe_callB (hc : CallR X (.builtin id) r) (hg : Gl X x) (hm : X.mg x = none) (hv : bootBuiltins x = some (.builtin id)) (ha : PA X (e :: es) t) (hn : x ≠ "__name__" := by decide) (hdb : (x == ("__debug__" : Str)) = false := by decide)
    (he : starEach (e :: es) X.env = (false, eval e X.env) :: starEach es X.env := by rfl) (hpl : (backTo pos (starEach es X.env)).any (·.1) = false := by rfl) : PE X (.Call (.Name x p) (e :: es) [] pos) (tCB r t) := by
  intro pins s σ H Q I h
  refine wpAny_Call_Name_kw (ld_blt I hg hm hv ?_ hn hdb)
  exact PyProof.Rows.callWith_builtin1 (thn (ha pos pins s σ H _ I h) fun us s1 ⟨vs, H1, I1, r1, q1⟩ => hc pins s1 σ H1 vs us Q I1 r1 q1) he hpl
/-- T(e, ..), T a built-in type -/
theorem pe_callTy (hc : CallR X (.type T) r) (hg : Gl X x) (hm : X.mg x = none) (hv : bootBuiltins x = some (.type T)) (ha : PA X (e :: es) t) (hn : x ≠ "__name__" := by decide) (hdb : (x == ("__debug__" : Str)) = false := by decide)
    (he : starEach (e :: es) X.env = (false, eval e X.env) :: starEach es X.env := by rfl) (hpl : (backTo pos (starEach es X.env)).any (·.1) = false := by rfl) : PE X (.Call (.Name x p) (e :: es) [] pos) (tCB r t) := by
  intro pins s σ H Q I h
  refine wpAny_Call_Name_kw (ld_blt I hg hm hv ?_ hn hdb)
  exact PyProof.Rows.callWith_type1 (thn (ha pos pins s σ H _ I h) fun us s1 ⟨vs, H1, I1, r1, q1⟩ => hc pins s1 σ H1 vs us Q I1 r1 q1) he hpl
end
end L2

namespace HT
open PySem PyProof.Rows

/-- t < u of tuples of ints -/
def lexLt : List Int → List Int → Bool
  | [], [] => false
  | [], _ :: _ => true
  | _ :: _, [] => false
  | x :: xs, y :: ys => if x = y then lexLt xs ys else decide (x < y)
section
open PySem.SeqAt
open PySem.AutoSeq1 (wpAny_loadPart')
open PySem.MeetsSeq PySem.MeetsSeq2 PySem.MeetsSeq3

end

section
variable {prog : Program} {w : World} {A : Around} {E : Value → Shared → Prop} {s : Shared}

/-! ### t[a:b], not the whole -/
/-- a slice's bound as a place among n (d where it is left out) -/
def sIx (n d : Nat) : Option Int → Nat
  | none => d
  | some v => if v < 0 then (v + (n : Int)).toNat else min v.toNat n
end
end HT

namespace L2
open PySem PySem.Spec PyProof.Rows

/-! ### the parts of a slice -/
abbrev TO := St → Hp → (Option Int → Hp → Prop) → Prop
/-- a slice's part (left out, or an int) -/
def PO (X : Cx) (e : Option Expr) (t : TO) : Prop :=
  ∀ (pins : List (Addr × Obj)) (s : Shared) (σ : St) (H : Hp) (Q : Option Int → Hp → Prop), Inv X pins σ H s → t σ H Q →
    wpAny (model X.prog X.w) X.A (evalPart e X.env) (fun u s' => ∃ o H', Inv X pins σ H' s' ∧ IsPart u o ∧ Q o H') X.xe s
def tNoPart : TO := fun _ H Q => Q none H
def tPart (t : TE) : TO := fun σ H Q => t σ H fun x H1 => ∃ i, x = .int i ∧ Q (some i) H1

section
variable {X : Cx} {e : Expr} {te : TE} {lo hi : Option Expr} {tl th : TO} {pos p2 : Pos}

theorem po_some (h : PE X e te) : PO X (some e) (tPart te) := by
  intro pins s σ H Q I hw
  rw [evalPart_some]
  refine thn (h pins s σ H _ I hw) fun u s1 ⟨x, H1, I1, r1, q1⟩ => ?_
  obtain ⟨i, rfl, q⟩ := q1
  obtain ⟨t, rfl⟩ := r1
  exact ⟨some i, H1, I1, .int i t, q⟩

/-- what a slice of a value is, by values: the slice object stands at sl -/
def SlR (X : Cx) (r : V → Option Int → Option Int → Hp → VK → Prop) : Prop :=
  ∀ (pins : List (Addr × Obj)) (s : Shared) (σ : St) (H : Hp) (x : V) (v vl vu : Value) (lo hi : Option Int) (sl : Addr) (Q : VK), Inv X pins σ H s → RelV x v → s.heap.IsSliceOf sl vl vu .none → IsPart vl lo → IsPart vu hi → r x lo hi H Q →
    ∃ T id, typeLookup (.type T) "__getitem__" = pure (some (.builtin id)) ∧ s.TypeIs v T ∧ wpAny (model X.prog X.w) X.A (getItem v (.ref sl)) (EP X pins σ Q) X.xe s
def tSl (r : V → Option Int → Option Int → Hp → VK → Prop) (te : TE) (tl th : TO) : TE := fun σ H Q => te σ H fun x H1 => tl σ H1 fun l H2 => th σ H2 fun u H3 => r x l u H3 Q
/-- a[lo:hi], any a -/
theorem pe_slice {r : V → Option Int → Option Int → Hp → VK → Prop} (hr : SlR X r) (he : PE X e te) (hl : PO X lo tl) (hu : PO X hi th) : PE X (.Subscript e (.Slice lo hi none p2) pos) (tSl r te tl th) := by
  intro pins s σ H Q I h
  refine Subscript_ (thn (he pins s σ H _ I h) fun v s1 ⟨x, H1, I1, r1, q1⟩ => ?_)
  refine wpAny_Slice (thn (hl pins s1 σ H1 _ I1 q1) fun vl s2 ⟨l, H2, I2, pl, q2⟩ => thn (hu pins s2 σ H2 _ I2 q2) fun vu s3 ⟨u, H3, I3, pu, q3⟩ => ?_)
  rw [evalPart_none]
  refine wpAny_pure ?_
  have I4 : Inv X pins σ H3 { s3 with heap := s3.heap.push { cls := .type "slice", data := .fields #[vl, vu, .none] } } := I3.kept (t' := s3.toks) fun b ob q => Heap.get?_push_of_some _ q
  obtain ⟨T, id, hT, ht, hg⟩ := hr pins { s3 with heap := s3.heap.push { cls := .type "slice", data := .fields #[vl, vu, .none] } } σ H3 x v vl vu l u s3.heap.objs.size Q I4 r1 (Heap.IsSliceOf.new ..) pl pu q3
  show wpAny (model X.prog X.w) X.A (subscriptTail e (.Slice lo hi none p2) v (.ref s3.heap.objs.size)) (EP X pins σ Q) X.xe { s3 with heap := s3.heap.push { cls := .type "slice", data := .fields #[vl, vu, .none] } }
  exact tail_any (ops := [.ref s3.heap.objs.size, v]) ht hT hg (by with_unfolding_all rfl)

/-- the items of xs[lo:hi] -/
def cutV (xs : List V) (lo hi : Option Int) : List V := (xs.drop (HT.sIx xs.length 0 lo)).take (HT.sIx xs.length xs.length hi - HT.sIx xs.length 0 lo)
theorem cutV_length (xs : List V) (lo hi : Option Int) : (cutV xs lo hi).length ≤ xs.length := by
  unfold cutV
  rw [List.length_take, List.length_drop]
  omega
/-- t[lo:hi], not the whole of it (the whole would be t itself) -/
def rSlT (K : PySem.W.Frag) : V → Option Int → Option Int → Hp → VK → Prop := fun x lo hi H Q => ∃ a xs, x = .ref a ∧ SqT K H a xs ∧
  ¬ (HT.sIx xs.length 0 lo = 0 ∧ HT.sIx xs.length xs.length hi = xs.length) ∧ ∀ p, H p = none → Q (.ref p) (upd H p (.tup (cutV xs lo hi)))
/-! ### t < u, t + u -/
def rLtT (K : PySem.W.Frag) : R2 := fun x y H Q => ∃ a b ns ms, x = .ref a ∧ y = .ref b ∧ SqT K H a (ns.map V.int) ∧ SqT K H b (ms.map V.int) ∧ Q (.bl (HT.lexLt ns ms)) H
/-- t + u, t not empty: u empty gives t itself -/
def rCatT (K : PySem.W.Frag) : R2 := fun x y H Q => ∃ a b xs ys, x = .ref a ∧ y = .ref b ∧ SqT K H a xs ∧ SqT K H b ys ∧ xs ≠ [] ∧ xs.length + ys.length ≤ sizeLine ∧
  (ys = [] → Q (.ref a) H) ∧ (ys ≠ [] → ∀ p, H p = none → Q (.ref p) (upd H p (.tup (xs ++ ys))))
end
end L2

namespace L2
open PySem PySem.Spec PyProof.Rows

/-! ### places -/
/-- the place that an index of any sign means -/
def ixN (n : Nat) (i : Int) : Option Nat := if 0 ≤ i then (if i < n then some i.toNat else none) else if -(n : Int) ≤ i then some (i + n).toNat else none
def atI {α : Type} (xs : List α) (i : Int) : Option α := (ixN xs.length i).bind fun j => xs[j]?
theorem ixN_seq {n : Nat} {i : Int} {j : Nat} (h : ixN n i = some j) : seqIndex? i n = some j ∧ j < n ∧ -(n : Int) ≤ i ∧ i < n := by
  unfold ixN at h
  by_cases h0 : 0 ≤ i
  · rw [if_pos h0] at h
    by_cases h1 : i < n
    · rw [if_pos h1] at h
      have e : i.toNat = j := Option.some.inj h
      exact ⟨by rw [seqIndex_of h0 h1, e], by omega, by omega, h1⟩
    · rw [if_neg h1] at h; cases h
  · rw [if_neg h0] at h
    by_cases h1 : -(n : Int) ≤ i
    · rw [if_pos h1] at h
      have e : (i + n).toNat = j := Option.some.inj h
      exact ⟨by rw [seqIndex_neg (by omega) h1, e], by omega, h1, by omega⟩
    · rw [if_neg h1] at h; cases h
theorem atI_get {α : Type} {xs : List α} {i : Int} {v : α} (h : atI xs i = some v) : ∃ j, seqIndex? i xs.length = some j ∧ xs[j]? = some v ∧ j < xs.length ∧ -(xs.length : Int) ≤ i ∧ i < xs.length := by
  unfold atI at h
  cases e : ixN xs.length i with
  | none => rw [e] at h; cases h
  | some j =>
    rw [e] at h
    obtain ⟨h1, h2, h3, h4⟩ := ixN_seq e
    exact ⟨j, h1, h, h2, h3, h4⟩
theorem atI_nat {α : Type} {xs : List α} {j : Nat} {v : α} (h : xs[j]? = some v) : atI xs (j : Int) = some v := by
  have hj : j < xs.length := (List.getElem?_eq_some_iff.mp h).1
  have e : ixN xs.length (j : Int) = some j := by
    unfold ixN
    rw [if_pos (by omega), if_pos (by omega)]; simp
  unfold atI; rw [e]; exact h
theorem atI_last {α : Type} (xs : List α) (v : α) : atI (xs ++ [v]) (-1) = some v := by
  have hl : (xs ++ [v]).length = xs.length + 1 := by simp
  have e : ixN (xs ++ [v]).length (-1) = some xs.length := by
    unfold ixN
    rw [hl, if_neg (by decide), if_pos (by omega)]
    congr 1
    omega
  unfold atI
  rw [e]
  show (xs ++ [v])[xs.length]? = some v
  simp

/-! ### what may be subscripted -/
/-- what stands as an index of a plain subscript -/
def PlainIx (b : Expr) : Prop := ∀ o i, subscripted b false o i = operate [o, i] (getItem o i)
/-- a subscript by values -/
def IxR (X : Cx) (r : R2) : Prop :=
  ∀ (value slice : Expr) (pins : List (Addr × Obj)) (s : Shared) (σ : St) (H : Hp) (x y : V) (v u : Value) (Q : VK), Inv X pins σ H s → RelV x v → RelV y u → r x y H Q →
    subscripted slice false v u = operate [v, u] (getItem v u) → wpAny (model X.prog X.w) X.A (subscriptTail value slice v u) (EP X pins σ Q) X.xe s
/-- a call of a builtin's method by values: the receiver, the arguments -/
def MtR (X : Cx) (id : String) (r : V → List V → Hp → VK → Prop) : Prop :=
  ∀ (pins : List (Addr × Obj)) (s : Shared) (σ : St) (H : Hp) (x : V) (xs : List V) (v : Value) (us : List Value) (Q : VK), Inv X pins σ H s → RelV x v → Vals xs us → r x xs H Q →
    wpAny (model X.prog X.w) X.A (call (.builtin id) (v :: us)) (EP X pins σ Q) X.xe s
section
variable {X : Cx} {a b : Expr} {ta tb : TE} {pos : Pos}
/-- a[b] -/
theorem pe_ix {r : R2} (hr : IxR X r) (ha : PE X a ta) (hb : PE X b tb) (hs : PlainIx b) : PE X (.Subscript a b pos) (tOp r ta tb) := by
  intro pins s σ H Q I h
  exact Subscript_ (binT ha hb I h fun v u s2 x y H2 I2 rx ry q => hr a b pins s2 σ H2 x y v u Q I2 rx ry q (hs _ _))

def rIxL (K : PySem.W.Frag) : R2 := fun x y H Q => ∃ p xs i v, x = .ref p ∧ y = .int i ∧ SqL K H p xs ∧ atI xs i = some v ∧ Q v H
def rIxT (K : PySem.W.Frag) : R2 := fun x y H Q => ∃ p xs i v, x = .ref p ∧ y = .int i ∧ SqT K H p xs ∧ atI xs i = some v ∧ Q v H
def rIxS : R2 := fun x y H Q => ∃ z i c, x = .str z ∧ y = .int i ∧ z.length ≤ sizeLine ∧ atI z.cps.toList i = some c ∧ Q (.str ⟨#[c]⟩) H
theorem ix_list : IxR X (rIxL X.K) := by
  intro value slice pins s σ H x y v u Q I rx ry h hs
  obtain ⟨p, xs, i, z, rfl, rfl, hq, he, q⟩ := h
  cases rx
  obtain ⟨t, rfl⟩ := ry
  obtain ⟨its, r, pl, hz⟩ := I.list hq
  obtain ⟨j, h1, h2, h3, h4, h5⟩ := atI_get he
  obtain ⟨w, ew, rw'⟩ := r.get h2
  have hl := r.length
  have hn := line63
  have fin : EP X pins σ Q w s := ⟨z, H, I, rw', q⟩
  by_cases h0 : 0 ≤ i
  · have hj : i.toNat = j := by
      rw [seqIndex_of h0 h5] at h1
      exact Option.some.inj h1
    exact item_listR pl.isList h0 (by omega) (by rw [hj]; simpa using ew) fin hs
  · have hj : (i + (its.toArray.size : Int)).toNat = j := by
      rw [seqIndex_neg (by omega) h4] at h1
      rw [List.size_toArray, ← hl]
      exact Option.some.inj h1
    exact subscriptTail_builtinR (x := w) pl.isList.typeIs slot_list_getitem.lookup
      (wpAny_getItem_list_neg (Q := fun r s' => r = w ∧ EP X pins σ Q r s') pl.isList (by omega) (by rw [List.size_toArray] <;> omega) (by omega) (by rw [hj]; simpa using ew) ⟨rfl, fin⟩) hs
theorem ix_tup : IxR X (rIxT X.K) := by
  intro value slice pins s σ H x y v u Q I rx ry h hs
  obtain ⟨p, xs, i, z, rfl, rfl, hq, he, q⟩ := h
  cases rx
  obtain ⟨t, rfl⟩ := ry
  obtain ⟨its, r, pl, hz⟩ := I.tuple hq
  obtain ⟨j, h1, h2, h3, h4, h5⟩ := atI_get he
  obtain ⟨w, ew, rw'⟩ := r.get h2
  have hl := r.length
  have hn := line63
  have fin : EP X pins σ Q w s := ⟨z, H, I, rw', q⟩
  exact subscriptTail_builtinR (x := w) pl.typeIs slot_tuple_getitem.lookup
    (getItem_tuple (j := j) (Q := fun r s' => r = w ∧ EP X pins σ Q r s') pl (by omega) (by omega) (by rw [List.size_toArray, ← hl]; exact h1) (by simpa using ew) ⟨rfl, fin⟩) hs
/-- list, tuple or str -/
def rIx (K : PySem.W.Frag) : R2 := fun x y H Q => rIxL K x y H Q ∨ rIxT K x y H Q ∨ rIxS x y H Q
/-! ### xs[i] = v, any sign -/
/-- the list's object behind a store -/
theorem mapSeq_set (its : List Value) (n j : Nat) (u : Value) : Obj.mapSeq (·.setIfInBounds j u) { cls := .type "list", data := .seq its.toArray n } = { cls := .type "list", data := .seq (its.set j u).toArray n } := by
  simp [Obj.mapSeq]
theorem Inv.lst {pins : List (Addr × Obj)} {σ : St} {H : Hp} {s : Shared} {p : Addr} {xs : List V} (I : Inv X pins σ H s) (h : H p = some (.lst xs)) :
    ∃ (its : List Value) (n : Nat), Vals xs its ∧ s.heap.get? p = some { cls := .type "list", data := .seq its.toArray n } ∧ xs.length ≤ sizeLine := by
  obtain ⟨z, its, n, r, e⟩ := I.hok p _ h
  exact ⟨its, n, r, e, z⟩
/-- the list at p is written by an update of its object -/
theorem Inv.lstUpd {pins : List (Addr × Obj)} {σ : St} {H : Hp} {s : Shared} {p : Addr} {xs ys : List V} {its its' : List Value} {n n' : Nat} {f : Obj → Obj} (I : Inv X pins σ H s) (h : H p = some (.lst xs))
    (ho : s.heap.get? p = some { cls := .type "list", data := .seq its.toArray n }) (hf : f { cls := .type "list", data := .seq its.toArray n } = { cls := .type "list", data := .seq its'.toArray n' }) (r : Vals ys its') (hz : ys.length ≤ sizeLine) (t : Nat) :
    Inv X pins σ (upd H p (.lst ys)) { s with heap := s.heap.update p f, toks := t } := by
  have e : (s.heap.update p f).get? p = some { cls := .type "list", data := .seq its'.toArray n' } := by
    rw [Heap.get?_update_self f ho (by rw [hf] <;> rfl), hf]
  refine I.write (x := p) (e := p) (by rw [h]; trivial) (.inl rfl) (fun b u hb q => (Heap.get?_update_other _ _ (Ne.symm hb)).trans q) ⟨_, e⟩ ?_
  exact ⟨hz, its', n', r, e⟩
def rSetL : V → V → V → Hp → (Hp → Prop) → Prop := fun o i v H Q => ∃ p xs k j, o = .ref p ∧ i = .int k ∧ H p = some (.lst xs) ∧ ixN xs.length k = some j ∧ Q (upd H p (.lst (xs.set j v)))
theorem set_list : PSet X rSetL := by
  intro pins s σ H o i v ov iv u Q I ro ri rv h
  obtain ⟨p, xs, k, j, rfl, rfl, hp, hj, q⟩ := h
  cases ro
  obtain ⟨t, rfl⟩ := ri
  obtain ⟨its, n, r, ho, hz⟩ := I.lst hp
  obtain ⟨h1, h2, h3, h4⟩ := ixN_seq hj
  have hl := r.length
  have hn := line63
  have I' : Inv X pins σ (upd H p (.lst (xs.set j v))) { s with heap := s.heap.update p (Obj.mapSeq (·.setIfInBounds j u)) } :=
    I.lstUpd hp ho (mapSeq_set its n j u) (r.set rv j) (by rw [List.length_set]; exact hz) s.toks
  by_cases h0 : 0 ≤ k
  · have hk : k.toNat = j := by
      rw [seqIndex_of h0 h4] at h1
      exact Option.some.inj h1
    exact PySem.W.ki_setAt ho h0 (by omega) (by rw [List.size_toArray, ← hl]; exact h4) (by rw [hk]; exact ⟨_, I', q⟩)
  · have hk : (k + (its.toArray.size : Int)).toNat = j := by
      rw [seqIndex_neg (by omega) h3] at h1
      rw [List.size_toArray, ← hl]
      exact Option.some.inj h1
    exact PySem.W.ki_setBack ho (by omega) (by rw [List.size_toArray, ← hl]; exact h3) (by omega) (by rw [hk]; exact ⟨_, I', q⟩)

/-! ### slices -/
theorem slice_bounds (lo hi : Option Int) (n : Nat) : (sliceBounds lo hi none n).1 = ((HT.sIx n 0 lo : Nat) : Int) ∧ (sliceBounds lo hi none n).2.1 = ((HT.sIx n n hi : Nat) : Int) ∧ (sliceBounds lo hi none n).2.2 = 1 := by
  refine ⟨?_, ?_, rfl⟩
  · cases lo with
    | none => simp [sliceBounds, HT.sIx]
    | some i =>
      simp only [sliceBounds, HT.sIx, Option.getD_none, show (1 : Int) > 0 by decide, if_true]
      by_cases h : i < 0
      · simp only [h, if_true] <;> omega
      · simp only [h, if_false] <;> omega
  · cases hi with
    | none => simp [sliceBounds, HT.sIx]
    | some i =>
      simp only [sliceBounds, HT.sIx, Option.getD_none, show (1 : Int) > 0 by decide, if_true]
      by_cases h : i < 0
      · simp only [h, if_true] <;> omega
      · simp only [h, if_false] <;> omega
theorem slicePick_cut (its : List Value) (lo hi : Option Int) : slicePick its.toArray lo hi none = ((its.drop (HT.sIx its.length 0 lo)).take (HT.sIx its.length its.length hi - HT.sIx its.length 0 lo)).toArray := by
  obtain ⟨h1, h2, h3⟩ := slice_bounds lo hi its.toArray.size
  unfold slicePick
  rw [h1, h2, h3]
  simp only [sliceRange_one, pick_run, List.size_toArray] <;> rfl
/-- xs[lo:hi] of a list: a new list -/
def rSlL (K : PySem.W.Frag) : V → Option Int → Option Int → Hp → VK → Prop := fun x lo hi H Q => ∃ a xs, x = .ref a ∧ SqL K H a xs ∧ ∀ p, H p = none → Q (.ref p) (upd H p (.lst (cutV xs lo hi)))
theorem sl_list : SlR X (rSlL X.K) := by
  intro pins s σ H x v vl vu lo hi sl Q I rx hs pl pu h
  obtain ⟨a, xs, rfl, hx, q⟩ := h
  cases rx
  obtain ⟨its, r, ht, hz⟩ := I.list hx
  have hlen := r.length
  refine ⟨"list", _, slot_list_getitem.lookup, ht.isList.typeIs, ?_⟩
  refine wpAny_getItem_list_slice ht.isList hs pl pu .none (by simp) ?_ (by rw [List.size_toArray] <;> omega)
  rw [slicePick_cut, ← hlen]
  refine ⟨.ref s.heap.objs.size, _, I.laid (t' := s.toks) (o := .lst (cutV xs lo hi)) (fun b ob q => Heap.get?_push_of_some _ q) (Nat.le_refl _) ?_, rfl, q _ (I.hok.fresh (Nat.le_refl _))⟩
  exact ⟨Nat.le_trans (cutV_length xs lo hi) hz, _, 0, (r.drop (HT.sIx xs.length 0 lo)).take (HT.sIx xs.length xs.length hi - HT.sIx xs.length 0 lo), Heap.get?_push_size _ rfl⟩

/-! ### in, not in: flat items -/
def flatV : V → Bool
  | .non => true
  | .bl _ => true
  | .int _ => true
  | .str _ => true
  | _ => false
/-- == of flat values -/
def eqV : V → V → Bool
  | .non, .non => true
  | .bl a, .bl b => a == b
  | .bl a, .int b => (if a then 1 else 0) == b
  | .int a, .bl b => a == (if b then 1 else 0)
  | .int a, .int b => a == b
  | .str a, .str b => a == b
  | _, _ => false
theorem eqAt_V {A : Around} {s : Shared} {y x : V} {u v : Value} (ry : RelV y u) (rx : RelV x v) (fy : flatV y = true) (fx : flatV x = true) : SeqAt.EqAt A s u v (eqV y x) := by
  cases y with
  | non =>
    cases ry
    cases x with
    | non => cases rx; exact SeqAt.EqAt.same _
    | bl b => cases rx; exact SeqAt.EqAt.none_bool b
    | int b => obtain ⟨t, rfl⟩ := rx; exact SeqAt.EqAt.none_int b t
    | str b => obtain ⟨t, rfl⟩ := rx; exact SeqAt.EqAt.none_str b t
    | _ => exact absurd (show false = true from fx) Bool.false_ne_true
  | bl a =>
    cases ry
    cases x with
    | non => cases rx; exact SeqAt.EqAt.bool_none a
    | bl b => cases rx; exact SeqAt.EqAt.bool_bool a b
    | int b => obtain ⟨t, rfl⟩ := rx; exact SeqAt.EqAt.bool_int a b t
    | str b => obtain ⟨t, rfl⟩ := rx; exact SeqAt.EqAt.bool_str a b t
    | _ => exact absurd (show false = true from fx) Bool.false_ne_true
  | int a =>
    obtain ⟨t', rfl⟩ := ry
    cases x with
    | non => cases rx; exact SeqAt.EqAt.int_none a t'
    | bl b => cases rx; exact SeqAt.EqAt.int_bool a t' b
    | int b => obtain ⟨t, rfl⟩ := rx; exact SeqAt.EqAt.int_int a t' b t
    | str b => obtain ⟨t, rfl⟩ := rx; exact SeqAt.EqAt.int_str a t' b t
    | _ => exact absurd (show false = true from fx) Bool.false_ne_true
  | str a =>
    obtain ⟨t', rfl⟩ := ry
    cases x with
    | non => cases rx; exact SeqAt.EqAt.str_none a t'
    | bl b => cases rx; exact SeqAt.EqAt.str_bool a t' b
    | int b => obtain ⟨t, rfl⟩ := rx; exact SeqAt.EqAt.str_int a t' b t
    | str b => obtain ⟨t, rfl⟩ := rx; exact SeqAt.EqAt.str_str a t' b t
    | _ => exact absurd (show false = true from fx) Bool.false_ne_true
  | _ => exact absurd (show false = true from fy) Bool.false_ne_true
/-- the items' answers, read off the values (a value's own answer does not lean on its token) -/
def eqU (x : V) (u : Value) : Bool := match u with
  | .none => eqV .non x
  | .bool b => eqV (.bl b) x
  | .int i _ => eqV (.int i) x
  | .str z _ => eqV (.str z) x
  | _ => false
def inV (x : V) (xs : List V) : Bool := xs.any fun y => eqV y x
/-- x in a list or tuple of flat items -/
def rIn (K : PySem.W.Frag) (neg : Bool) : R2 := fun x y H Q => ∃ p xs, y = .ref p ∧ (SqL K H p xs ∨ SqT K H p xs) ∧ flatV x = true ∧ xs.all flatV = true ∧ Q (.bl (if neg then !inV x xs else inV x xs)) H
/-! ### len, list(x), tuple(x) of any list or tuple that is read -/
theorem call_len_seq : CallR X (.builtin "len") (fun xs H Q => ∃ p ys, xs = [.ref p] ∧ (SqL X.K H p ys ∨ SqT X.K H p ys) ∧ Q (.int ys.length) H) := by
  intro pins s σ H xs us Q I r h
  obtain ⟨p, ys, rfl, hq, q⟩ := h
  obtain ⟨u, rfl, rx⟩ := vals1 r
  cases rx
  have hn := line63
  rcases hq with hq | hq
  · obtain ⟨its, r', pl, hz⟩ := I.list hq
    have hlen := r'.length
    exact Calls.call_len_list pl.isList (by simp only [List.size_toArray] <;> omega) ⟨.int ys.length, H, I.tok _, ⟨s.toks + 1, by rw [List.size_toArray, hlen]⟩, q⟩
  · obtain ⟨its, r', pl, hz⟩ := I.tuple hq
    have hlen := r'.length
    exact len_tuple pl (by simp only [List.size_toArray] <;> omega) ⟨.int ys.length, H, I.tok _, ⟨s.toks + 1, by rw [List.size_toArray, hlen]⟩, q⟩
theorem call_list_of : CallR X (.type "list") (fun xs H Q => ∃ p ys, xs = [.ref p] ∧ (SqL X.K H p ys ∨ SqT X.K H p ys) ∧ ∀ l, H l = none → Q (.ref l) (upd H l (.lst ys))) := by
  intro pins s σ H xs us Q I r h
  obtain ⟨p, ys, rfl, hq, q⟩ := h
  obtain ⟨u, rfl, rx⟩ := vals1 r
  cases rx
  have fin : ∀ (its : List Value), Vals ys its → ys.length ≤ sizeLine → ∀ (h' : Heap) (c' : Nat), (∀ b o', s.heap.get? b = some o' → h'.get? b = some o') →
      h'.get? s.heap.objs.size = some { cls := .type "list", dict := none, data := .seq its.toArray c', slots := #[] } → EP X pins σ Q (.ref s.heap.objs.size) { s with heap := h' } := fun its r' hz h' c' kp e =>
    ⟨.ref s.heap.objs.size, _, I.laid (t' := s.toks) kp (Nat.le_refl _) (show ObjOk X.prog X.w _ h' _ (.lst ys) from ⟨hz, its, c', r', e⟩), rfl, q _ (I.hok.fresh (Nat.le_refl _))⟩
  rcases hq with hq | hq
  · obtain ⟨its, r', pl, hz⟩ := I.list hq
    have hlen := r'.length
    obtain ⟨o, ho, hc, n, hd⟩ := pl.isList
    exact call_list_seq p (.inl rfl) ho hc hd (fun h' c' kp e => fin its r' hz h' c' kp e) (by simp only [List.size_toArray] <;> omega)
  · obtain ⟨its, r', pl, hz⟩ := I.tuple hq
    have hlen := r'.length
    obtain ⟨o, ho, hc, n, hd⟩ := pl
    exact call_list_seq p (.inr rfl) ho hc hd (fun h' c' kp e => fin its r' hz h' c' kp e) (by simp only [List.size_toArray] <;> omega)
/-! ### the call of a builtin's method: o.m(..) -/
/-- the value is of that builtin type -/
def tyV (K : PySem.W.Frag) (T : String) (x : V) (H : Hp) : Prop := match x with
  | .str _ => T = "str"
  | .int _ => T = "int"
  | .ref p => (T = "list" ∧ ∃ xs, SqL K H p xs) ∨ (T = "tuple" ∧ ∃ o, K.lookup p = some o ∧ o.cls = .type "tuple" ∧ o.dict = none) ∨
      (T = "dict" ∧ ((∃ kvs, H p = some (.dK kvs)) ∨ ∃ kvs, H p = some (.dT kvs))) ∨ (T = "set" ∧ ∃ S n, H p = some (.set S n))
  | _ => False
theorem tyV_is {pins : List (Addr × Obj)} {σ : St} {H : Hp} {s : Shared} {T : String} {x : V} {v : Value} (I : Inv X pins σ H s) (r : RelV x v) (ty : tyV X.K T x H) :
    s.TypeIs v T ∧ ∀ a, v = .ref a → ∃ ob, s.heap.get? a = some ob ∧ ob.dict = none := by
  cases x with
  | str z =>
    obtain ⟨t, rfl⟩ := r
    cases (show T = "str" from ty)
    exact ⟨typeIs_str s z t, fun _ e => nomatch e⟩
  | int i =>
    obtain ⟨t, rfl⟩ := r
    cases (show T = "int" from ty)
    exact ⟨typeIs_int s i t, fun _ e => nomatch e⟩
  | ref p =>
    cases r
    rcases ty with ⟨rfl, xs, hq⟩ | ⟨rfl, o, hk, hc, hd⟩ | ⟨rfl, hk⟩ | ⟨rfl, S, n, hk⟩
    · obtain ⟨its, _, pl, _⟩ := I.list hq
      refine ⟨pl.isList.typeIs, fun a e => ?_⟩
      cases e
      obtain ⟨o, n, e, c, hd, _⟩ := pl
      exact ⟨o, e, hd⟩
    · refine ⟨⟨o, I.kIn p o hk, hc⟩, fun a e => ?_⟩
      cases e
      exact ⟨o, I.kIn _ o hk, hd⟩
    · have z : ∃ o, s.heap.get? p = some o ∧ o.ExactDict := by
        rcases hk with ⟨kvs, hk⟩ | ⟨kvs, hk⟩
        · obtain ⟨_, _, _, _, o, _, _, e, ex, _⟩ := I.hok p _ hk
          exact ⟨o, e, ex⟩
        · obtain ⟨_, _, _, _, o, _, _, e, ex, _⟩ := I.hok p _ hk
          exact ⟨o, e, ex⟩
      obtain ⟨o, e, ex⟩ := z
      refine ⟨⟨o, e, ex.1⟩, fun a e2 => ?_⟩
      cases e2
      exact ⟨o, e, ex.2.1⟩
    · obtain ⟨o, _, _, _, e, ex, _⟩ := I.hok p _ hk
      refine ⟨⟨o, e, ex.1⟩, fun a e2 => ?_⟩
      cases e2
      exact ⟨o, e, ex.2.1⟩
  | _ => exact False.elim ty
def tBM0 (K : PySem.W.Frag) (T : String) (r : V → List V → Hp → VK → Prop) (to : TE) : TE := fun σ H Q => to σ H fun x H1 => tyV K T x H1 ∧ r x [] H1 Q
def tBM (K : PySem.W.Frag) (T : String) (r : V → List V → Hp → VK → Prop) (to : TE) (t : TA) : TE := fun σ H Q => to σ H fun x H1 => tyV K T x H1 ∧ t σ H1 fun xs H2 => r x xs H2 Q
variable {o e : Expr} {es : List Expr} {to : TE} {t : TA} {name : Str} {apos cpos : Pos} {T id : String} {r : V → List V → Hp → VK → Prop}
theorem pe_bm (pa : PlainAttrs T) (slot : Slot T name id) (hty : typeOf (.builtin id) = pure (.type "method_descriptor")) (hm : MtR X id r) (ho : PE X o to) (ha : PA X (e :: es) t)
    (hbase : attributeBase o name X.env (eval o X.env) = eval o X.env := by rfl)
    (hfew : ((backTo cpos (starEach (e :: es) X.env)).all (fun x => !x.1) && (backToKw cpos (keywordEach [] X.env)).all (fun x => x.1.isSome)
      && decide ((e :: es).length + ([] : List Keyword).length + (if ([] : List Keyword).isEmpty then 0 else 1) < 30)) = true := by rfl)
    (hline : (apos.endLine == cpos.line) = true := by rfl) (hs : starEach (e :: es) X.env = (false, eval e X.env) :: starEach es X.env := by rfl) (hplain : (backTo cpos (starEach es X.env)).any (·.1) = false := by rfl) :
    PE X (.Call (.Attribute o name apos) (e :: es) [] cpos) (tBM X.K T r to t) := by
  intro pins s σ H Q I h
  refine wpAny_Call_method_late hbase hfew hline rfl (thn (ho pins s σ H _ I h) fun v s1 ⟨x, H1, I1, r1, ty, q1⟩ => ?_)
  obtain ⟨h1, h2⟩ := tyV_is I1 r1 ty
  refine ⟨T, id, pa, slot, hty, h1, h2, ?_⟩
  have hA := ha cpos pins s1 σ H1 _ I1 q1
  rw [hs] at hA ⊢
  refine Calls.callWith_builtin (by show (false || (backTo cpos (starEach es X.env)).any (·.1)) = false; rw [hplain] <;> rfl) (Calls.evalArgs_plain ?_)
  exact thn hA fun us s2 ⟨vs, H2, I2, r2, q2⟩ => hm pins s2 σ H2 x vs v us Q I2 r1 r2 q2
/- xs.append(e), list.index on a module's tuple .. are MtR facts of 06m -/
end
end L2

namespace L2
open PySem PySem.Spec PyProof.Rows

def MtM (X : Cx) (id : String) (r : V → List V → Hp → VK → Prop) : Prop :=
  ∀ (pins : List (Addr × Obj)) (s : Shared) (σ : St) (H : Hp) (x : V) (xs : List V) (v : Value) (us : List Value) (Q : VK), Inv X pins σ H s → RelV x v → Vals xs us → r x xs H Q →
    wpAny (model X.prog X.w) X.A (call (.builtin id) (v :: us)) (EP X pins σ Q) X.xe s

/-! ### lists of values -/
theorem Vals.one : ∀ {x : V} {us : List Value}, Vals [x] us → ∃ u, us = [u] ∧ RelV x u
  | _, _, .cons r .nil => ⟨_, rfl, r⟩
theorem Vals.two : ∀ {x y : V} {us : List Value}, Vals [x, y] us → ∃ u v, us = [u, v] ∧ RelV x u ∧ RelV y v
  | _, _, _, .cons r (.cons q .nil) => ⟨_, _, rfl, r, q⟩
section
variable {X : Cx} {pins : List (Addr × Obj)} {σ : St} {H : Hp} {s : Shared} {l b : Addr} {xs ys zs : List V}

/-! ### the two steps: a tracked list is rewritten, a new list is laid -/
theorem Inv.lset {its its' : List Value} {n : Nat} {f : Array Value → Array Value} {t' : Nat} (I : Inv X pins σ H s) (hH : H l = some (.lst xs))
    (e : s.heap.get? l = some { cls := .type "list", data := .seq its.toArray n }) (hf : f its.toArray = its'.toArray) (hv : Vals ys its') (hz : ys.length ≤ sizeLine) :
    Inv X pins σ (upd H l (.lst ys)) { s with heap := s.heap.update l (Obj.mapSeq f), toks := t' } := by
  have q := PySem.IsL.update e f
  rw [hf] at q
  refine I.write (x := l) (e := l) (by rw [hH]; exact trivial) (.inl rfl) (fun b' u hb hu => (Heap.get?_update_other s.heap (Obj.mapSeq f) (Ne.symm hb)).trans hu) ⟨_, q⟩ ?_
  exact ⟨hz, its', _, hv, q⟩
theorem Inv.lnew {its : List Value} {t' : Nat} (I : Inv X pins σ H s) (hv : Vals ys its) (hz : ys.length ≤ sizeLine) :
    Inv X pins σ (upd H s.heap.objs.size (.lst ys)) { s with heap := s.heap.push { cls := .type "list", data := .seq its.toArray }, toks := t' } :=
  I.laid (fun _ _ q => Heap.get?_push_of_some _ q) (Nat.le_refl _) ⟨hz, its, 0, hv, Heap.get?_push_size _ rfl⟩
theorem Inv.fresh (I : Inv X pins σ H s) : H s.heap.objs.size = none := I.hok.fresh (Nat.le_refl _)
theorem Inv.lstM (I : Inv X pins σ H s) (hH : H l = some (.lst xs)) : xs.length ≤ sizeLine ∧ ∃ (its : List Value) (n : Nat), Vals xs its ∧ xs.length = its.length ∧ s.heap.get? l = some { cls := .type "list", data := .seq its.toArray n } := by
  obtain ⟨z, its, n, r, e⟩ := I.hok l _ hH
  exact ⟨z, its, n, r, r.length, e⟩

end

section
variable {X : Cx}

/-! ### methods -/
def rAppend : V → List V → Hp → VK → Prop := fun x vs H Q => ∃ l xs y, x = .ref l ∧ vs = [y] ∧ H l = some (.lst xs) ∧ xs.length < sizeLine ∧ Q .non (upd H l (.lst (xs ++ [y])))
theorem mt_append : MtM X "list.append" rAppend := by
  intro pins s σ H x vs v us Q I rx rv h
  obtain ⟨l, xs, y, rfl, rfl, hH, hz, q⟩ := h
  cases rx
  obtain ⟨u, rfl, ru⟩ := rv.one
  obtain ⟨z, its, n, r, hl, e⟩ := I.lstM hH
  refine call_meets F.slot_list_append ⟨_, e, rfl⟩ F.entry_list_append (F.args_list_append_2 _ _) (PySem.list_append l its.toArray n u (by rw [List.size_toArray]; omega)) ⟨e, ?_⟩
  refine ⟨.non, _, I.lset (its' := its ++ [u]) hH e (by simp) (r.append (.cons ru .nil)) ?_, rfl, q⟩
  rw [List.length_append, List.length_singleton]
  omega

def rExtend : V → List V → Hp → VK → Prop := fun x vs H Q => ∃ l b xs zs, x = .ref l ∧ vs = [.ref b] ∧ H l = some (.lst xs) ∧ H b = some (.lst zs) ∧ xs.length + zs.length ≤ sizeLine ∧ Q .non (upd H l (.lst (xs ++ zs)))
def rPop : V → List V → Hp → VK → Prop := fun x vs H Q => ∃ l xs y, x = .ref l ∧ vs = [] ∧ H l = some (.lst xs) ∧ xs[xs.length - 1]? = some y ∧ Q y (upd H l (.lst xs.dropLast))
def rPopAt : V → List V → Hp → VK → Prop := fun x vs H Q => ∃ l xs i k y, x = .ref l ∧ vs = [.int i] ∧ H l = some (.lst xs) ∧ -(2 ^ 63) ≤ i ∧ i < 2 ^ 63 ∧ seqIndex? i xs.length = some k ∧ xs[k]? = some y ∧ Q y (upd H l (.lst (xs.eraseIdx k)))
def rReverse : V → List V → Hp → VK → Prop := fun x vs H Q => ∃ l xs, x = .ref l ∧ vs = [] ∧ H l = some (.lst xs) ∧ Q .non (upd H l (.lst xs.reverse))
def rClear : V → List V → Hp → VK → Prop := fun x vs H Q => ∃ l xs, x = .ref l ∧ vs = [] ∧ H l = some (.lst xs) ∧ Q .non (upd H l (.lst []))
/-! ### list + list, list += list, list * int -/
def rCat : R2 := fun x y H Q => ∃ l b xs zs, x = .ref l ∧ y = .ref b ∧ H l = some (.lst xs) ∧ H b = some (.lst zs) ∧ xs.length + zs.length ≤ sizeLine ∧ ∀ p, H p = none → Q (.ref p) (upd H p (.lst (xs ++ zs)))
theorem op_cat : OpR X (binaryOp .Add) rCat := by
  intro pins s σ H x y v u Q I rx ry h
  obtain ⟨l, b, xs, zs, rfl, rfl, hH, hB, hz, q⟩ := h
  cases rx
  cases ry
  obtain ⟨z, its, n, r, hl, e⟩ := I.lstM hH
  obtain ⟨z2, its2, n2, r2, hl2, e2⟩ := I.lstM hB
  refine PySem.P.add_list e e2 ?_ (by rw [List.size_toArray, List.size_toArray]; omega)
  have ea : its.toArray ++ its2.toArray = (its ++ its2).toArray := by simp
  rw [ea]
  exact ⟨.ref _, _, I.lnew (t' := s.toks) (r.append r2) (by rw [List.length_append]; omega), rfl, q _ I.fresh⟩
/-- a list times an int (a negative one is nothing) -/
def rRep : R2 := fun x y H Q => ∃ l k xs, x = .ref l ∧ y = .int k ∧ H l = some (.lst xs) ∧ -(2 ^ 63) ≤ k ∧ k < 2 ^ 63 ∧ xs.length * k.toNat ≤ sizeLine ∧
  ∀ p, H p = none → Q (.ref p) (upd H p (.lst (List.replicate k.toNat xs).flatten))
/-! ### del xs[i] -/
end

/-! ### xs[a:b] = ys -/
section
variable {prog : Program} {w : World} {A : Around} {E : Value → Shared → Prop} {s : Shared}
end

section
variable {X : Cx}
end
end L2

namespace Att
open PySem PySem.W PySem.Calls PyProof.Rows

/-! ### the script -/
theorem ints_of_wellAll {P : Params} {h : Heap} : ∀ (ns : List Int) (vs : List Value), WellAll P h vs (ns.map WData.int) → IntsAre vs ns := by
  intro ns
  induction ns with
  | nil =>
    intro vs w
    rw [List.map_nil] at w
    cases w
    exact .nil
  | cons n ns ih =>
    intro vs w
    rw [List.map_cons] at w
    cases w with
    | cons a b =>
      cases a
      exact .cons _ _ (ih _ b)

theorem script_of {l : OpenLaw} {n : Nat} (hn : l.most = some n) {P : Params} {h : Heap} {args : List WData} {vals : List Value}
    (hpre : l.row.toRowW.claim.pre args = true) (hwl : WellAll P h vals args) :
    ∃ a vs ns, vals = [Value.ref a] ∧ args = [WData.list (ns.map WData.int)] ∧ h.get? a = some { cls := .type "list", data := .seq vs.toArray } ∧ IntsAre vs ns ∧ ns.length ≤ n := by
  have hsh : WShape.hasAll [] args [.list .int] = true := (pre_splitW hpre).1
  have hc : l.pre.holds [] { args := args } = true := (pre_splitW hpre).2
  obtain ⟨d, r, rfl, h1, h2⟩ := hasAllW_cons hsh
  obtain rfl := hasAllW_nil h2
  obtain ⟨xs, rfl, h3⟩ := hasW_list h1
  obtain ⟨ns, rfl⟩ := items_int h3
  have hlen : ns.length ≤ n := by
    unfold OpenLaw.pre at hc
    have h4 : (WTm.not (.lt (.lit (.int (n : Int))) (.len (.arg 0)))).holds [] { args := [.list (ns.map .int)] } = true := by
      have h4 := (holds_andW hc).1
      rw [hn] at h4
      exact h4
    have h5 := condW_of h4 (w_not (w_lt w_lit (w_len_list (w_arg rfl))))
    rw [List.length_map] at h5
    refine Nat.le_of_not_lt fun q => ?_
    have q' : (n : Int) < ((ns.length : Nat) : Int) := by omega
    first
      | (rw [decide_eq_true q'] at h5; exact absurd h5 (by decide))
      | (simp at h5; omega)
  cases hwl with
  | cons w1 w2 =>
    cases w2
    cases w1 with
    | list ho hall => exact ⟨_, _, ns, rfl, rfl, ho, ints_of_wellAll ns _ hall, hlen⟩

theorem post_true (l : OpenLaw) (args : List WData) : l.row.toRowW.claim.post args (.bool true) args = true :=
  postW_of (r := l.row.toRowW) (X := (true == true))
    (show WShape.has [] (.bool true) .bool = true by first | rfl | decide | simp [WShape.has, WShape.arms, WShape.armsAll])
    (show (WTm.eq .res (.lit (.bool true))).value [] { args := args, res := some (.bool true), after := args } = some (.bool (true == true)) from w_eq_bool (w_res rfl) w_lit) rfl

/-! ### the attachment: holds_open's last premise (the goal 'hc' behind k_head) from a wpAny of the law's body -/
/-- the same from a codeAny of the CALL (for a layer whose function contracts speak of calls) -/
theorem attach_call {l : OpenLaw} {n : Nat} {q : Program} {loose : List Str} {XP : (Str → Option Value) → Heap → Prop} {YP : World → Heap → Prop} {d : DefRec}
    (hn : l.most = some n) (hdf : d.params.defaults = [])
    (call : ∀ (w : World) (s₀ s₁ : Shared) (mg mb : Str → Option Value) (fa : Addr) (o : Obj) (pm cd doc : Value) (a : Addr) (vs : List Value) (ns : List Int),
      Ground q loose [] XP w s₀ mg mb s₁.heap → YP w s₁.heap →
      s₁.heap.get? fa = some o → o.data = .func (docDef d.name d.params d.body d.scope pm cd doc) → s₁.heap.CodeRec cd d.name → mg d.name = some (.ref fa) →
      s₁.heap.get? a = some { cls := .type "list", data := .seq vs.toArray } → IntsAre vs ns → ns.length ≤ n → s₁.gens = #[] →
      codeAny (model l.prog w) callerA (.call (.ref fa) ⟨[.ref a], []⟩) (fun r s' => r = .ok (.ret (.bool true)) ∧ OldK s₁.heap s'.heap ∧ s'.os = s₁.os ∧ AllBare s'.gens) s₁) :
    WalkO q loose XP YP l.row.toRowW d [] (fun f vs => PySem.call f vs) := by
  intro w s₀ s₁ mg mb G Y fa o pm cd doc dV kV ho hd hcd hD hmg hg args vals as hpre hlay hrd hwl hlo
  obtain rfl : dV = .none := Dflts.none hD hdf
  obtain rfl : kV = .none := Dflts.noKw hD
  obtain ⟨a, vs, ns, rfl, rfl, hobj, hints, hlen⟩ := script_of hn hpre hwl
  refine enter_call (codeAny_mono (call w s₀ s₁ mg mb fa o pm cd doc a vs ns G Y ho (fd_plain hd) hcd hmg hobj hints hlen hg) fun r s' hq => ?_)
  obtain ⟨rfl, h2, h3, h4⟩ := hq
  exact ⟨.inl ⟨.bool true, .bool true, [], rfl, fun _ => rfl, .bool true, post_true l _, fun _ => ⟨List.Pairwise.nil, fun _ hm => (nomatch hm)⟩⟩, h2, h3, h4⟩

/-! ### rules over ANY heap (no ledger) from facts about the written part K: the library's own take a ledger (News) for what they write -/
section
variable {prog : Program} {w : World} {A : Around} {E : Value → Shared → Prop} {s : Shared} {K : Frag}

/-! the whole heap as the ledger: makes every rule that writes through a ledger a rule over any heap -/
def noObjs (h : Heap) : Heap := { h with objs := #[] }
def ledger (h : Heap) (L d : Addr) : List (Addr × Obj) := (List.range h.objs.size).filterMap fun a => if a = L ∨ a = d then none else (h.get? a).map fun o => (a, o)
end
end Att

namespace L2
open PySem PySem.Spec PyProof.Rows

theorem vals_ints : ∀ {vs : List Value} {ns : List Int}, IntsAre vs ns → Vals (ns.map V.int) vs
  | _, _, .nil => .nil
  | _, _, .cons n t h => .cons ⟨t, rfl⟩ (vals_ints h)

/-- nothing is tracked but the script, known to the object (or it is an object of the module) -/
def Only (H : Hp) : Prop := ∀ b, H b = none ∨ ∃ o xs, H b = some (.frz o (.lst xs))

/-- THE HEAD: the law's promise, at the heap behind the top. F, the promise of the law's def, may use that base is part of the heap (so K.In base, base.Ns mainGlobals mg stand in Mod) -/
theorem law_call {P : Program} {w : World} {K : PySem.W.Frag} {mg mb : Str → Option Value} {CX : CXT} {k : Nat} {fa a : Addr} {fd : FuncData} {x : Str} {sp : Sp} {s₁ : Shared} {vs : List Value} {ns : List Int}
    (KX : K.In s₁.heap) (hns : s₁.heap.Ns mainGlobals mg) (hb : s₁.heap.Ns builtinsNs mb) (hbb : ∀ x : Str, x ≠ "__name__" → mb x = bootBuiltins x) (hlim : s₁.heap.NoLimit) (hg : s₁.gens = #[])
    (ha : s₁.heap.get? a = some { cls := .type "list", data := .seq vs.toArray }) (hi : IntsAre vs ns) (hl : ns.length ≤ sizeLine) (hr : Room k callerA)
    (F : ∀ base : Heap, K.In base → base.Ns mainGlobals mg → FnOk P w K mg base CX k fa fd [x] sp) (hbind : ∀ (s : Shared) (u : Value), BindsTo s fd ⟨[u], []⟩ [(x, u)])
    (hsp : ∀ H : Hp, Only H → SqL K H a (ns.map V.int) → sp [.ref a] H (fun v _ => v = .bl true) fun _ _ _ => False)
    (hCX : ∀ H e s', CX [] H s₁ (fun _ _ _ => False) e s' → False) :
    codeAny (model P w) callerA (.call (.ref fa) ⟨[.ref a], []⟩) (fun r s' => r = .ok (.ret (.bool true)) ∧ OldK s₁.heap s'.heap ∧ s'.os = s₁.os ∧ AllBare s'.gens) s₁ := by
  have rv := vals_ints hi
  have lenV := hi.length
  -- from an abstract heap in which nothing but the script may be tracked
  have core : ∀ H : Hp, Only H → SqL K H a (ns.map V.int) → HOk P w H s₁.heap → (∀ b, H b ≠ none → b = a) → (H a ≠ none → K.lookup a = none) →
      codeAny (model P w) callerA (.call (.ref fa) ⟨[.ref a], []⟩) (fun r s' => r = .ok (.ret (.bool true)) ∧ OldK s₁.heap s'.heap ∧ s'.os = s₁.os ∧ AllBare s'.gens) s₁ := by
    intro H hO hS hok hA hK
    have base_of : ∀ {b : Addr} {o : Obj}, s₁.heap.get? b = some o → H b = none → (hidT s₁.heap H).get? b = some o := fun e n => hidT_get e n
    have noA : ∀ {b : Addr} {o : Obj} {es : Array DictEntry} {ep : Nat}, s₁.heap.get? b = some o → o.data = .dict es ep → H b = none := fun {b o es ep} e d => by
      cases q : H b with
      | none => rfl
      | some u =>
        have e' : b = a := hA b (by rw [q]; simp)
        subst e'
        rw [ha] at e; cases e
        have d' : Data.seq vs.toArray _ = Data.dict es ep := d
        cases d'
    have nsK : ∀ {b : Addr} {m : Str → Option Value}, s₁.heap.Ns b m → (hidT s₁.heap H).Ns b m := fun {b m} ⟨o, es, ep, e, d, r⟩ => ⟨o, es, ep, base_of e (noA e d), d, r⟩
    have hKb : K.In (hidT s₁.heap H) := fun b o e => base_of (KX b o e) (by
      cases q : H b with
      | none => rfl
      | some u =>
        have e' : b = a := hA b (by rw [q]; simp)
        subst e'
        rw [hK (by rw [q]; simp)] at e; cases e)
    have hM : Mod K mg (hidT s₁.heap H) := ⟨hKb, nsK hns, ⟨mb, nsK hb, hbb⟩, let ⟨mc, h1, h2⟩ := hlim; ⟨mc, nsK h1, h2⟩⟩
    have e0 : Env0 P w K mg (hidT s₁.heap H) callerA [] s₁ H := ⟨rfl, hM, fun b o e => of_hidT e, Nat.le_of_eq (hidT_size _ _), trivial, fun b hb => absurd (show b ∈ ([] : List Addr) from hb) (by simp), hok, .of_eq hg⟩
    refine codeAny_mono ((F _ hKb (nsK hns)).run callerA [] s₁ H ⟨[.ref a], []⟩ [.ref a] [.ref a] _ _ hr e0 (hbind s₁ (.ref a)) (.cons rfl .nil) (hsp H hO hS)) fun r s' h => ?_
    cases r with
    | error e => exact (hCX H e s' h).elim
    | ok fl =>
      cases fl with
      | next => exact False.elim h
      | brk => exact False.elim h
      | cont => exact False.elim h
      | ret u =>
        obtain ⟨v, H', os, bare, un, hok', r', q⟩ := h
        have q' : v = .bl true := q
        subst q'
        obtain rfl : u = Value.bool true := r'
        refine ⟨rfl, OldK.of_keep fun b o e => ?_, os, bare⟩
        cases q : H b with
        | none => exact un.keep b o e q (by intro z; exact absurd (show b ∈ ([] : List Addr) from z) (by simp)) (by simp)
        | some u =>
          rcases hO b with z | ⟨ob, xs, z⟩
          · rw [q] at z; cases z
          · have z2 := un.frzs b ob _ z
            obtain ⟨e1, _⟩ := hok b _ z
            obtain ⟨e2, _⟩ := hok' b _ z2
            rw [e] at e1; cases e1
            exact e2
  cases hk : K.lookup a with
  | some o =>
    -- the script is one of the module's own objects
    have e := KX a o hk
    rw [ha] at e
    cases e
    refine core (fun _ => none) (fun _ => .inl rfl) (.inr ⟨_, vs.toArray, _, hk, rfl, rfl, rfl, by rw [List.size_toArray, lenV]; exact hl, by simpa using rv⟩) (fun b u z => by have z' : (none : Option HO) = some u := z; cases z') (fun b z => absurd rfl z) fun z => absurd rfl z
  | none =>
    refine core (fun b => if b = a then some (.frz { cls := .type "list", data := .seq vs.toArray } (.lst (ns.map V.int))) else none) (fun b => ?_) (.inl (.inr ⟨{ cls := .type "list", data := .seq vs.toArray }, if_pos rfl⟩)) (fun b u z => ?_) (fun b z => ?_) fun _ => hk
    · by_cases hb : b = a
      · exact .inr ⟨_, _, if_pos hb⟩
      · exact .inl (if_neg hb)
    · by_cases hb : b = a
      · have z' := (if_pos hb).symm.trans z
        cases z'
        subst hb
        exact ⟨ha, by rw [List.length_map]; exact hl, vs, _, rv, ha⟩
      · have z' := (if_neg hb).symm.trans z
        cases z'
    · by_cases hb : b = a
      · exact hb
      · exact absurd (if_neg hb) z
end L2

namespace L2
open PySem PySem.Spec PyProof.Rows

abbrev KOf {K : PySem.W.Frag} {h : Heap} (_ : K.In h) : PySem.W.Frag := K

/-- the goal that k_head leaves (case hc), from the law's promise. F gives the function object fd (K's own) once, then the promise over every base -/
theorem walk_of {l : PySem.W.OpenLaw} {n k : Nat} {q : Program} {loose : List Str} {XP : (Str → Option Value) → Heap → Prop} {YP : World → Heap → Prop} {d : DefRec} {K : Params → PySem.W.Frag} {CX : World → CXT} {sp : World → Sp} {x : Str}
    (hn : l.most = some n) (hn2 : n ≤ sizeLine) (hdf : d.params.defaults = []) (hr : Room k callerA)
    (hY : ∀ (w : World) (h : Heap), YP w h → (K w.params).In h)
    (F : ∀ (w : World) (mg : Str → Option Value) (fa : Addr) (h : Heap), (K w.params).In h → h.Ns mainGlobals mg → mg d.name = some (.ref fa) →
      ∃ fd : FuncData, (∀ (s : Shared) (u : Value), BindsTo s fd ⟨[u], []⟩ [(x, u)]) ∧
        ∀ base : Heap, (K w.params).In base → base.Ns mainGlobals mg → FnOk l.prog w (K w.params) mg base (CX w) k fa fd [x] (sp w))
    (hsp : ∀ (w : World) (H : Hp) (a : Addr) (ns : List Int), ns.length ≤ n → Only H → SqL (K w.params) H a (ns.map V.int) → sp w [.ref a] H (fun v _ => v = .bl true) fun _ _ _ => False)
    (hCX : ∀ (w : World) (H : Hp) (s : Shared) (e : Value) (s' : Shared), CX w [] H s (fun _ _ _ => False) e s' → False) :
    PySem.W.WalkO q loose XP YP l.row.toRowW d [] (fun f vs => PySem.call f vs) := by
  refine Att.attach_call hn hdf fun w s₀ s₁ mg mb fa o pm cd doc a vs ns G Y ho hd hcd hmg hobj hints hlen hg => ?_
  have KX := hY w _ Y
  obtain ⟨fd, hb, hF⟩ := F w mg fa _ KX G.T.g hmg
  exact law_call KX G.T.g G.T.b G.T.builtins G.T.nolimit hg hobj hints (Nat.le_trans hlen hn2) hr hF hb (fun H hO hS => hsp w H a ns hlen hO hS) fun H e s' => hCX w H s₁ e s'
end L2

/- THE LAST THEOREM (shape; LID, My.* are yours):
   My.Adr: a structure of the addresses that your layer names (classes, functions); My.Txt K t: a structure (Prop) of the equations over K;
   My.txt_mk : {K} {implicit addresses ..} (e1 : nsIn K mainGlobals "law" = some (some (.ref f))) (e2 : K.lookup f = some ⟨oc, od, .func (fnOf "law" "law" params body scope dV kV doc pm an cdv ct), sl⟩) (e3 : codeIn K cdv "law" = true) .. : ∃ t, My.Txt K t

set_option maxRecDepth 100000 in
set_option maxHeartbeats 0 in
theorem PySem.Challenge.cw_LID_holds : PySem.Challenge.rw_LID.Holds := by
  w_on; o_law; k_head; (case hw => w_witness2)
  k_fill
  refine L2.walk_of (l := PySem.Challenge.rw_LID) (n := 63) (k := 40) (x := "script") (CX := fun w => ..) (sp := fun _ => My.sp_law) rfl (by decide) rfl ⟨rfl, by decide, by decide⟩ (fun w h Y => PySem.W.kIn_of Y) ?F ?S ?C
  case F =>
    intro w mg fa h KX G hmg
    have T : ∃ t, My.Txt (L2.KOf KX) t := by
      dsimp only [L2.KOf]                          -- K must stand as «<heap const> w.params» for k_is
      refine' My.txt_mk ?e1 ?e2 ?e3 ..
      (case e1 => PySem.W.k_is)                    -- in the order: a name -> its address -> its object -> its parts
      (case e2 => PySem.W.k_is)
      ..
    obtain ⟨t, T⟩ := T
    have e0 := hmg.symm.trans (PySem.W.mg_of KX G T.law)
    cases e0                                       -- fa is the law's own address
    exact ⟨_, fun s u => .of_eq rfl, fun base kb nb => My.law_fn T kb nb⟩     -- if «.of_eq rfl» comes too early: refine' ⟨_, ?b, fun base kb nb => My.law_fn T kb nb⟩; exact fun s u => .of_eq rfl
  case S => exact fun w H a ns hl hO hS => ..
  case C => exact ..
(the tactic k_is has no namespace: write k_is) -/

/-! SHORT WORDS over the layer: a def of the text, its body, what a loop and a test want. -/
namespace L2
open PySem PySem.Spec PyProof.Rows

/-! ### the text by places -/
/-- the j-th statement of a class's body -/
def inClass (s : Stmt) (j : Nat) : Stmt := match s with
  | .ClassDef _ _ _ body _ _ _ _ _ _ _ => body.getD j (.Pass ⟨0, 0, 0, 0⟩)
  | _ => .Pass ⟨0, 0, 0, 0⟩
def defArgs (s : Stmt) : Arguments := match s with
  | .FunctionDef _ a _ _ _ _ _ _ _ _ => a
  | _ => { posonlyargs := [], args := [], vararg := none, kwonlyargs := [], kw_defaults := [], kwarg := none, defaults := [] }
def defBody (s : Stmt) : List Stmt := match s with
  | .FunctionDef _ _ b _ _ _ _ _ _ _ => b
  | _ => []
def defScope (s : Stmt) : Scope := match s with
  | .FunctionDef _ _ _ _ _ _ sc _ _ _ => sc
  | _ => { kind := .function, names := [], isGenerator := false, isCoroutine := false }

/-! ### no exception leaves a def -/
abbrev CX0 : CXT := fun _ _ _ _ _ _ => False
abbrev E0 : XK := fun _ _ _ => False
theorem pass0 {X : Cx} : Passes CX0 X E0 := fun _ _ _ _ _ _ _ h => h.elim

/-! ### a def (or method) of the text as it stands behind the top -/
structure Fun (K : PySem.W.Frag) (x qual : Str) (st : Stmt) (f : Addr) (fd : FuncData) : Prop where
  ex : ∃ (oc : Value) (od : Option Addr) (kV doc pm : Value) (an : Option Addr) (cdv ct : Value) (osl : Array (Option Value)),
    fd = PySem.W.fnOf x qual (defArgs st) (defBody st) (defScope st) .none kV doc pm an cdv ct ∧ K.lookup f = some ⟨oc, od, .func fd, osl⟩ ∧ PySem.W.codeIn K cdv qual = true
  kp : PySem.W.keepIn K (.ref f) = true
section
variable {P : Program} {w : World} {K : PySem.W.Frag} {mg : Str → Option Value} {base : Heap}
/-- THE RULE for a def: its body as a term of rules, and the reading of that term -/
theorem Fun.ok {x qual : Str} {st : Stmt} {f : Addr} {fd : FuncData} {N ps : List Str} {k : Nat} {sp : Sp} (F : Fun K x qual st f fd) (S : FnScope N ps (defScope st)) (len : ∀ vs H Q E, sp vs H Q E → vs.length = ps.length)
    (hbody : ∀ (cdv : Value) (A : Around) (outer : List Env) (s : Shared) (H : Hp) (vs : List V) (Q : VK) (E : XK), Room k (A.deeper (envOfC qual (defScope st) s.heap.objs.size f cdv)) → sp vs H Q E →
      ∃ t, PSs (cxOf CX0 P w K mg base N qual (defScope st) f cdv A outer s H E).nox (defBody st) t ∧ t { nx := fun _ H' => Q .non H', rt := Q } (start N vs) H) : FnOk P w K mg base CX0 (k + 1) f fd ps sp := by
  obtain ⟨oc, od, kV, doc, pm, an, cdv, ct, osl, rfl, lk, hcd⟩ := F.ex
  refine fn_of lk hcd S len fun A outer s H vs Q E hr hsp => ?_
  obtain ⟨t, h, q⟩ := hbody cdv A outer s H vs Q E hr hsp
  exact ⟨t, h.nox, q⟩
/-- how its arguments bind (no defaults): h is «fun _ _ _ _ _ _ us hl => match us, hl with | [_, _], _ => rfl», one _ a parameter -/
theorem Fun.binds {x qual : Str} {st : Stmt} {f : Addr} {fd : FuncData} {ps : List Str} (F : Fun K x qual st f fd)
    (h : ∀ (kV doc pm : Value) (an : Option Addr) (cdv ct : Value) (us : List Value), us.length = ps.length → bindArgs (PySem.W.fnOf x qual (defArgs st) (defBody st) (defScope st) .none kV doc pm an cdv ct) ⟨us, []⟩ = pure (ps.zip us)) : Binds K fd ps [] := by
  obtain ⟨oc, od, kV, doc, pm, an, cdv, ct, osl, rfl, lk, hcd⟩ := F.ex
  exact .all (h kV doc pm an cdv ct)
theorem fun_mk {x qual : Str} {st : Stmt} {f : Addr} {oc : Value} {od an : Option Addr} {osl : Array (Option Value)} {kV doc pm cdv ct : Value} (l : K.lookup f = some ⟨oc, od, .func (PySem.W.fnOf x qual (defArgs st) (defBody st) (defScope st) .none kV doc pm an cdv ct), osl⟩)
    (c : PySem.W.codeIn K cdv qual = true) (k : PySem.W.keepIn K (.ref f) = true) : Fun K x qual st f (PySem.W.fnOf x qual (defArgs st) (defBody st) (defScope st) .none kV doc pm an cdv ct) := ⟨⟨oc, od, kV, doc, pm, an, cdv, ct, osl, rfl, l, c⟩, k⟩
end
theorem small1000 {n : Nat} (h : n ≤ 1000) : n < sizeLine := Nat.lt_of_le_of_lt h (by decide)

/-! ### expressions in short: the name that stands in the i-th slot -/
section
variable {X : Cx}
theorem pv (i : Nat) {x : Str} {pos : Pos} (hN : X.N[i]? = some x := by rfl) (hv : Vis X.env.scope x := by first | exact Or.inl rfl | exact Or.inr (Or.inl rfl) | exact Or.inr (Or.inr rfl)) (hd : (x == ("__debug__" : Str)) = false := by decide)
    (hcd : (x == ("__classdict__" : Str)) = false := by decide) : PE X (.Name x pos) (tVar i) := pe_var hN hv hd hcd
end

/-! ### tests -/
theorem iteF {A B : Prop} (h : B) : if false = true then A else B := by
  rw [if_neg Bool.false_ne_true]
  exact h
theorem iteT {A B : Prop} (h : A) : if true = true then A else B := by
  rw [if_pos rfl]
  exact h
theorem ite2 {c A B : Prop} [Decidable c] (h1 : c → A) (h2 : ¬ c → B) : if c then A else B := by
  by_cases h : c
  · rw [if_pos h]
    exact h1 h
  · rw [if_neg h]
    exact h2 h
theorem iteNS {c A B : Prop} [Decidable c] (hc : c) (h : B) : if (!decide c) = true then A else B := by
  rw [decide_eq_true hc]
  exact iteF h

/-! ### heaps -/
/-- all that was tracked is as it was -/
def Same (H H' : Hp) : Prop := ∀ b o, H b = some o → H' b = some o
theorem Same.trans {H H1 H2 : Hp} (a : Same H H1) (b : Same H1 H2) : Same H H2 := fun c o h => b c o (a c o h)
theorem Same.free {H H' : Hp} (e : Same H H') {l : Addr} (h : H' l = Option.none) : H l = Option.none := by
  cases q : H l with
  | none => rfl
  | some o =>
    rw [e l o q] at h
    cases h
theorem Same.seq {K : PySem.W.Frag} {H H' : Hp} {a : Addr} {xs : List V} (e : Same H H') (h : SqL K H a xs) : SqL K H' a xs := by
  rcases h with (h | ⟨o, h⟩) | h
  · exact .inl (.inl (e _ _ h))
  · exact .inl (.inr ⟨o, e _ _ h⟩)
  · exact .inr h

end L2

set_option maxHeartbeats 4000000
namespace L2
abbrev Pr := Int × Int
def inR (n : Int) (p : Pr) : Bool := decide (p.1 ≤ n) && decide (n ≤ p.2)
def inP (ps : List Pr) (n : Int) : Bool := ps.any (inR n)
/-- pairs that hold a number each, ascending and apart -/
structure Apart (R : List Pr) : Prop where
  le : ∀ p ∈ R, p.1 ≤ p.2
  gap : R.Pairwise fun p q => p.2 + 2 ≤ q.1
theorem inP_snoc (R : List Pr) (p : Pr) (n : Int) : inP (R ++ [p]) n = (inP R n || inR n p) := by
  unfold inP; rw [List.any_append]; simp
theorem Apart.snoc {R : List Pr} {p : Pr} (h : Apart R) (hp : p.1 ≤ p.2) (hl : ∀ r ∈ R, r.2 + 2 ≤ p.1) : Apart (R ++ [p]) where
  le := fun q hq => by
    rcases List.mem_append.mp hq with hq | hq
    · exact h.le q hq
    · have e : q = p := by simpa using hq
      rw [e]; exact hp
  gap := by
    rw [List.pairwise_append]
    refine ⟨h.gap, List.pairwise_singleton _ _, fun a ha b hb => ?_⟩
    have e : b = p := by simpa using hb
    rw [e]; exact hl a ha
theorem Apart.init {R : List Pr} {p : Pr} (h : Apart (R ++ [p])) : Apart R ∧ p.1 ≤ p.2 ∧ ∀ r ∈ R, r.2 + 2 ≤ p.1 := by
  have g := h.gap
  rw [List.pairwise_append] at g
  exact ⟨⟨fun q hq => h.le q (List.mem_append_left _ hq), g.1⟩, h.le p (by simp), fun r hr => g.2.2 r hr p (by simp)⟩
/-- what the loop of tidy keeps: R told so far of the pairs qs -/
structure TidI (R qs : List Pr) : Prop where
  ap : Apart R
  mem : ∀ n, inP R n = inP qs n
  cov : ∀ p ∈ qs, p.1 ≤ p.2 → ∃ r ∈ R, r.1 ≤ p.1 ∧ p.2 ≤ r.2
  low : ∀ r ∈ R, ∃ q ∈ qs, r.1 = q.1
theorem TidI.nil : TidI [] [] := ⟨⟨(fun p hp => by cases hp), List.Pairwise.nil⟩, fun _ => rfl, (fun p hp => by cases hp), (fun r hr => by cases hr)⟩
theorem TidI.skip {R qs : List Pr} {p : Pr} (h : TidI R qs) (hp : p.2 < p.1) : TidI R (qs ++ [p]) where
  ap := h.ap
  mem := fun n => by
    rw [inP_snoc, h.mem n]
    have e : inR n p = false := by
      unfold inR
      rw [Bool.and_eq_false_iff]
      simp only [decide_eq_false_iff_not]
      omega
    rw [e, Bool.or_false]
  cov := fun q hq hl => by
    rcases List.mem_append.mp hq with hq | hq
    · exact h.cov q hq hl
    · have e : q = p := by simpa using hq
      rw [e] at hl; omega
  low := fun r hr => by
    obtain ⟨q, hq, e⟩ := h.low r hr
    exact ⟨q, List.mem_append_left _ hq, e⟩
theorem TidI.join {R qs : List Pr} {l p : Pr} {m : Int} (h : TidI (R ++ [l]) qs) (h1 : l.1 ≤ p.1) (h2 : p.1 ≤ l.2 + 1) (h3 : p.1 ≤ p.2) (hm : m = max l.2 p.2) : TidI (R ++ [(l.1, m)]) (qs ++ [p]) := by
  obtain ⟨a1, a2, a3⟩ := h.ap.init
  have hml : l.2 ≤ m ∧ p.2 ≤ m ∧ (m = l.2 ∨ m = p.2) := by omega
  refine ⟨a1.snoc (by show l.1 ≤ m; omega) a3, fun n => ?_, fun q hq hl => ?_, fun r hr => ?_⟩
  · rw [inP_snoc, inP_snoc, ← h.mem n, inP_snoc, Bool.or_assoc]
    congr 1
    unfold inR
    rw [Bool.eq_iff_iff]
    simp only [Bool.or_eq_true, Bool.and_eq_true, decide_eq_true_eq]
    omega
  · rcases List.mem_append.mp hq with hq | hq
    · obtain ⟨r, hr, c1, c2⟩ := h.cov q hq hl
      rcases List.mem_append.mp hr with hr | hr
      · exact ⟨r, List.mem_append_left _ hr, c1, c2⟩
      · have e : r = l := by simpa using hr
        subst e
        exact ⟨(r.1, m), by simp, c1, by show q.2 ≤ m; omega⟩
    · have e : q = p := by simpa using hq
      subst e
      exact ⟨(l.1, m), by simp, h1, by show q.2 ≤ m; omega⟩
  · rcases List.mem_append.mp hr with hr | hr
    · obtain ⟨q, hq, e⟩ := h.low r (List.mem_append_left _ hr)
      exact ⟨q, List.mem_append_left _ hq, e⟩
    · have e : r = (l.1, m) := by simpa using hr
      obtain ⟨q, hq, e2⟩ := h.low l (by simp)
      exact ⟨q, List.mem_append_left _ hq, by rw [e]; exact e2⟩
theorem TidI.add {R qs : List Pr} {p : Pr} (h : TidI R qs) (h3 : p.1 ≤ p.2) (hl : ∀ r ∈ R, r.2 + 2 ≤ p.1) : TidI (R ++ [p]) (qs ++ [p]) := by
  refine ⟨h.ap.snoc h3 hl, fun n => by rw [inP_snoc, inP_snoc, h.mem n], fun q hq hle => ?_, fun r hr => ?_⟩
  · rcases List.mem_append.mp hq with hq | hq
    · obtain ⟨r, hr, c⟩ := h.cov q hq hle
      exact ⟨r, List.mem_append_left _ hr, c⟩
    · have e : q = p := by simpa using hq
      subst e
      exact ⟨q, by simp, Int.le_refl _, Int.le_refl _⟩
  · rcases List.mem_append.mp hr with hr | hr
    · obtain ⟨q, hq, e⟩ := h.low r hr
      exact ⟨q, List.mem_append_left _ hq, e⟩
    · have e : r = p := by simpa using hr
      exact ⟨p, by simp, by rw [e]⟩
/-- behind the last one all others end lower -/
theorem Apart.last {R : List Pr} {l : Pr} (h : Apart (R ++ [l])) {c : Int} (hc : l.2 + 2 ≤ c) : ∀ r ∈ R ++ [l], r.2 + 2 ≤ c := fun r hr => by
  obtain ⟨a1, a2, a3⟩ := h.init
  rcases List.mem_append.mp hr with hr | hr
  · have := a3 r hr; omega
  · have e : r = l := by simpa using hr
    rw [e]; exact hc
theorem inP_perm {ps qs : List Pr} (h : ps.Perm qs) (n : Int) : inP ps n = inP qs n := by
  unfold inP
  rw [Bool.eq_iff_iff, List.any_eq_true, List.any_eq_true]
  exact ⟨fun ⟨x, hx, e⟩ => ⟨x, h.mem_iff.mp hx, e⟩, fun ⟨x, hx, e⟩ => ⟨x, h.mem_iff.mpr hx, e⟩⟩
theorem TidI.perm {R qs ps : List Pr} (h : TidI R qs) (p : qs.Perm ps) : TidI R ps := ⟨h.ap, fun n => (h.mem n).trans (inP_perm p n), fun q hq => h.cov q (p.mem_iff.mpr hq), fun r hr => let ⟨q, hq, e⟩ := h.low r hr; ⟨q, p.mem_iff.mp hq, e⟩⟩
end L2

namespace L2
open PySem PySem.Spec PyProof.Rows
/-! ### a def of the text that may be called, bundled -/
def Callee (P : Program) (w : World) (K : PySem.W.Frag) (mg : Str → Option Value) (base : Heap) (k : Nat) (x : Str) (ps : List Str) (sp : Sp) : Prop :=
  ∃ f fd, FnOk P w K mg base CX0 k f fd ps sp ∧ Binds K fd ps [] ∧ PySem.W.keepIn K (.ref f) = true ∧ mg x = some (.ref f)
theorem Callee.mono {P : Program} {w : World} {K : PySem.W.Frag} {mg : Str → Option Value} {base : Heap} {j k : Nat} {x : Str} {ps : List Str} {sp : Sp} (C : Callee P w K mg base j x ps sp) (h : j ≤ k) : Callee P w K mg base k x ps sp := by
  obtain ⟨f, fd, F, r⟩ := C
  exact ⟨f, fd, F.mono h, r⟩
section
variable {X : Cx} {k : Nat} {x : Str} {ps : List Str} {sp : Sp} {e : Expr} {es : List Expr} {t : TA} {p pos : Pos}
/-- f(..) of a bundled def -/
def tFn (sp : Sp) (t : TA) : TE := fun σ H Q => t σ H fun vs H1 => sp vs H1 Q E0
theorem pe_fn (C : Callee X.prog X.w X.K X.mg X.base k x ps sp) (hr : Room k X.A) (hg : Gl X x) (ha : PA X (e :: es) t) (hdb : (x == ("__debug__" : Str)) = false := by decide)
    (he : starEach (e :: es) X.env = (false, eval e X.env) :: starEach es X.env := by rfl) (hpl : (backTo pos (starEach es X.env)).any (·.1) = false := by rfl) : PE X (.Call (.Name x p) (e :: es) [] pos) (tFn sp t) := by
  obtain ⟨f, fd, F, b, kk, m⟩ := C
  have h := pe_call (E := E0) (dvs := []) (ds := []) (p := p) F hr hg m kk b .nil pass0 ha hdb he hpl
  intro pins s σ H Q I q
  refine h pins s σ H Q I ?_
  have q' : t σ H fun vs H1 => sp vs H1 Q E0 := q
  have e1 : (fun (vs : List V) (H1 : Hp) => sp (vs ++ []) H1 Q E0) = fun vs H1 => sp vs H1 Q E0 := by
    funext vs H1
    rw [List.append_nil]
  show t σ H fun vs H1 => sp (vs ++ []) H1 Q E0
  rw [e1]
  exact q'
end
/-! ### a block with a word between its first statement and the rest -/
def tCut (t u : TS) : TS := fun D σ H => ∃ M : St → Hp → Prop, t { D with nx := M } σ H ∧ ∀ σ' H', M σ' H' → u D σ' H'
theorem pss_cut {X : Cx} {st : Stmt} {rest : List Stmt} {t u : TS} (h1 : PS X st t) (h2 : PSs X rest u) : PSs X (st :: rest) (tCut t u) := by
  intro pins s σ H D I ⟨M, a, b⟩
  refine wpAny_execs_cons (thn (h1 pins s σ H { D with nx := M } I a) fun fl s1 q => ?_)
  cases fl with
  | next => obtain ⟨σ', H', I', q⟩ := q; exact h2 pins s1 σ' H' D I' (b σ' H' q)
  | ret v => exact q
  | brk => exact q
  | cont => exact q
/-! ### isinstance(x, T), T a built-in type -/
section
variable {X : Cx}
theorem call_isinst : CallR X (.builtin "isinstance") (fun xs H Q => ∃ x T t b, xs = [x, .ty T] ∧ TyOf X.K H x t ∧ PySem.W.kitOne X.K t (.type T) = some b ∧ Q (.bl b) H) := by
  intro pins s σ H xs us Q I r h
  obtain ⟨x, T, t, b, rfl, ty, e, q⟩ := h
  cases r with
  | cons rx r2 =>
    cases r2 with
    | cons ry r3 =>
      cases r3
      cases (show _ = Value.type T from ry)
      exact isinst_ok I rx ty e fun tk => ⟨.bl b, H, I.tok tk, rfl, q⟩
end
/-! ### == and != of lists -/
/-- what == says of two items of lists: plain values; one object; two tuples of plain values -/
inductive EqI (K : PySem.W.Frag) (H : Hp) : V → V → Bool → Prop where
  | flat {x y : V} (fx : flatV x = true) (fy : flatV y = true) : EqI K H x y (eqV x y)
  | same (a : Addr) : EqI K H (.ref a) (.ref a) true
  | tup {a b : Addr} {xs ys : List V} (ha : SqT K H a xs) (hb : SqT K H b ys) (fx : xs.all flatV = true) (fy : ys.all flatV = true) : EqI K H (.ref a) (.ref b) (decide (xs.length = ys.length) && (List.zipWith eqV xs ys).all id)
section
variable {X : Cx} {pins : List (Addr × Obj)} {σ : St} {H : Hp} {s : Shared}
end
/-- == (neg: !=) of two lists -/
def rEqL (K : PySem.W.Frag) (neg : Bool) : R2 := fun x y H Q => ∃ a b xs ys, x = .ref a ∧ y = .ref b ∧ SqL K H a xs ∧ SqL K H b ys ∧
  ((xs.length ≠ ys.length ∧ Q (.bl neg) H) ∨ (xs.length = ys.length ∧ ∃ f : Nat → Bool, (∀ j x y, xs[j]? = some x → ys[j]? = some y → EqI K H x y (f j)) ∧ Q (.bl (if neg then !(List.range xs.length).all f else (List.range xs.length).all f)) H))
section
variable {X : Cx}
end
/-! ### what stays -/
/-- every tuple stays -/
def SameT (H H' : Hp) : Prop := ∀ b xs, H b = some (.tup xs) → H' b = some (.tup xs)
theorem Same.tups {H H' : Hp} (h : Same H H') : SameT H H' := fun b xs e => h b _ e
theorem SameT.trans {H H1 H2 : Hp} (a : SameT H H1) (b : SameT H1 H2) : SameT H H2 := fun c xs e => b c xs (a c xs e)
theorem sameT_new {H : Hp} {p : Addr} {o : HO} (h : H p = none) : SameT H (upd H p o) := fun b xs e => by rw [upd_ne (ne_of_none e h)]; exact e
theorem sameT_lst {H : Hp} {p : Addr} {o : HO} {ys : List V} (h : H p = some (.lst ys)) : SameT H (upd H p o) := fun b xs e => by rw [upd_ne (ne_of e h (by intro z; cases z))]; exact e
theorem same_new {H : Hp} {p : Addr} (h : H p = none) (o : HO) : Same H (upd H p o) := fun b u q => by rw [upd_ne (ne_of_none q h)]; exact q
/-- an address that was free is changed -/
theorem Same.upd {H H' : Hp} {p : Addr} {o : HO} (s : Same H H') (h : H p = none) : Same H (upd H' p o) := fun b u q => by rw [upd_ne (ne_of_none q h)]; exact s b u q
/-! ### lists of pairs -/
def PL (H : Hp) : List V → List (Int × Int) → Prop := Paired fun x p => ∃ r, x = .ref r ∧ H r = some (.tup [.int p.1, .int p.2])
theorem PL.mono {H H' : Hp} {xs : List V} {ps : List (Int × Int)} (h : PL H xs ps) (s : SameT H H') : PL H' xs ps := Paired.mapP h fun _ _ ⟨r, e, z⟩ => ⟨r, e, s r _ z⟩
theorem PL.get {H : Hp} : ∀ {xs : List V} {ps : List (Int × Int)} {i : Nat} {x : V}, PL H xs ps → xs[i]? = some x → ∃ p r, ps[i]? = some p ∧ x = .ref r ∧ H r = some (.tup [.int p.1, .int p.2])
  | _, _, _, _, .nil, e => by simp at e
  | _, _, 0, _, .cons (b := b) ⟨r, e1, z⟩ _, e => by simp at e; subst e; exact ⟨b, r, rfl, e1, z⟩
  | _, _, i + 1, x, .cons _ t, e => by
    obtain ⟨p, r, q⟩ := PL.get (i := i) (x := x) t (by simpa using e)
    exact ⟨p, r, by simpa using q.1, q.2⟩
theorem PL.length {H : Hp} {xs : List V} {ps : List (Int × Int)} (h : PL H xs ps) : xs.length = ps.length := Paired.length h
theorem PL.snoc {H : Hp} {xs : List V} {ps : List (Int × Int)} {r : Addr} {a b : Int} (h : PL H xs ps) (e : H r = some (.tup [.int a, .int b])) : PL H (xs ++ [.ref r]) (ps ++ [(a, b)]) := Paired.snoc h ⟨r, rfl, e⟩
theorem PL.last {H : Hp} {xs : List V} {ps : List (Int × Int)} (h : PL H xs ps) (hn : xs ≠ []) : ∃ xs' r ps' p, xs = xs' ++ [.ref r] ∧ ps = ps' ++ [p] ∧ PL H xs' ps' ∧ H r = some (.tup [.int p.1, .int p.2]) := by
  induction h with
  | nil => exact absurd rfl hn
  | @cons a b l1 l2 hd tl ih =>
    cases tl with
    | nil =>
      obtain ⟨r, e, z⟩ := hd
      exact ⟨[], r, [], b, by rw [e]; rfl, rfl, .nil, z⟩
    | @cons a2 b2 l3 l4 hd2 tl2 =>
      obtain ⟨xs', r, ps', p, e1, e2, h3, h4⟩ := ih (by simp)
      exact ⟨a :: xs', r, b :: ps', p, by rw [e1]; rfl, by rw [e2]; rfl, .cons hd h3, h4⟩
theorem PL.app {H : Hp} {xs ys : List V} {ps qs : List (Int × Int)} (h : PL H xs ps) (h' : PL H ys qs) : PL H (xs ++ ys) (ps ++ qs) := by
  induction h with
  | nil => exact h'
  | cons r t ih => exact .cons r ih
/-! ### lists of triples of ints -/
abbrev Tr := Int × Int × Int
def TL (H : Hp) : List V → List Tr → Prop := Paired fun x t => ∃ r, x = .ref r ∧ H r = some (.tup [.int t.1, .int t.2.1, .int t.2.2])
theorem any_take_succ {ps : List (Int × Int)} {i : Nat} {p : Int × Int} {f : Int × Int → Bool} (e : ps[i]? = some p) (h : (ps.take i).any f = false) (hf : f p = false) : (ps.take (i + 1)).any f = false := by
  rw [List.take_add_one, e, List.any_append, h]
  simp [hf]
theorem any_of_get {ps : List (Int × Int)} {i : Nat} {p : Int × Int} {f : Int × Int → Bool} (e : ps[i]? = some p) (hf : f p = true) : ps.any f = true := List.any_eq_true.mpr ⟨p, List.mem_of_getElem? e, hf⟩
/-- the place i of xs, counted as Python does, is there -/
theorem atI_int {ns : List Int} {k : Int} (h0 : 0 ≤ k) (h : k < (ns.length : Int)) : ∃ v : Int, atI (ns.map V.int) k = some (.int v) := by
  have hk : k.toNat < ns.length := by omega
  have ek : k = ((k.toNat : Nat) : Int) := by omega
  have q : atI (ns.map V.int) ((k.toNat : Nat) : Int) = some (.int ns[k.toNat]) := atI_nat (by rw [List.getElem?_map, List.getElem?_eq_getElem hk] <;> rfl)
  rw [← ek] at q
  exact ⟨_, q⟩
theorem dec_t {p : Prop} [Decidable p] (h : decide p = true) : p := of_decide_eq_true h
theorem dec_f {p : Prop} [Decidable p] (h : ¬ decide p = true) : ¬ p := fun e => h (decide_eq_true e)
end L2

namespace L2
open PySem PySem.Spec PyProof.Rows
/-! ### rules that name the written part by itself (within a block) -/
theorem ix_listK {X : Cx} {K : PySem.W.Frag} (h : X.K = K) : IxR X (rIxL K) := h ▸ ix_list
/-! ### a list comprehension with one clause whose target is a plain name -/
/-- the block's context: nothing raises in it; the frames that run are the def's own and its callers' -/
def cmpCx (X : Cx) (N : List Str) (scope : Scope) (cl : List (Str × Addr)) (fp : List Addr) (C : Addr) (s2 : Shared) (H2 : Hp) : Cx :=
  { prog := X.prog, w := X.w, K := X.K, mg := X.mg, base := X.base, A := X.A, N := N, s₀ := s2, H₀ := H2, env := compEnvC scope cl C X.env, outer := X.stack, stack := X.stack, ex := fp, fn := fun _ => false, calm := X.calm, pn := [], xe := fun _ _ => False }
/-- the tests of a clause -/
def PIf (X : Cx) (ifs : List Expr) (t : TT) : Prop :=
  ∀ (pins : List (Addr × Obj)) (s : Shared) (σ : St) (H : Hp) (Q : Bool → Hp → Prop), Inv X pins σ H s → t σ H Q →
    wpAny (model X.prog X.w) X.A (forIn ifs true fun c r => if r = true then do let ok ← isTrue c X.env (eval c X.env); pure (ForInStep.yield ok) else pure (ForInStep.yield r)) (TP X pins σ Q) X.xe s
def tYes : TT := fun _ H Q => Q true H
theorem pif_nil {X : Cx} : PIf X [] tYes := fun _ _ _ H _ I h => wpAny_tests_nil ⟨H, I, h⟩
/-- what is asked of the block's names: N its slots (the target first, then the def's own names that it sees), fr where these stand among the def's slots -/
structure CmpOk (X : Cx) (N : List Str) (fr : List Nat) (scope : Scope) (cl : List (Str × Addr)) (x : Str) : Prop where
  clos : closureFor scope X.env = pure cl
  kind : scope.kind = .function
  nocell : ∀ y ∈ scope.names, y.2 ≠ .cell
  names : ∀ y ∈ scope.names, y.2 = .local → scope.names.lookup y.1 = some .local
  hx : scope.names.lookup x = some .local
  nd : N.Nodup
  n0 : N[0]? = some x
  len : N.length = fr.length + 1
  sub : ∀ (i : Nat) (y : Str), N[i + 1]? = some y → ∃ j, fr[i]? = some j ∧ X.N[j]? = some y ∧ (X.env.kindOf y = some .cell ∨ X.env.kindOf y = some .free) ∧ ((relabel scope X.env).names.lookup y = some .cell ∨ (relabel scope X.env).names.lookup y = some .free)
  cells : ∀ y c, cl.lookup y = some c → X.env.cells.lookup y = some c
  has : ∀ y, ((relabel scope X.env).names.lookup y = some .cell ∨ (relabel scope X.env).names.lookup y = some .free) → ∃ c, cl.lookup y = some c
/-- a block that sees no name of the def -/
theorem cmpOk_plain {X : Cx} {scope : Scope} {x : Str} (kind : scope.kind = .function) (nofree : ∀ y ∈ scope.names, y.2 ≠ .free) (nocell : ∀ y ∈ scope.names, y.2 ≠ .cell)
    (names : ∀ y ∈ scope.names, y.2 = .local → scope.names.lookup y.1 = some .local) (hx : scope.names.lookup x = some .local) : CmpOk X [x] [] scope [] x := by
  have er : (relabel scope X.env).names = scope.names := map_eq_self fun y hy => by
    have z : (y.2 == NameKind.free) = false := by simpa using nofree y hy
    simp [z]
  have no : ∀ y, ¬ ((relabel scope X.env).names.lookup y = some .cell ∨ (relabel scope X.env).names.lookup y = some .free) := fun y h => by
    rw [er] at h
    rcases h with h | h
    · exact nocell _ (PySem.mem_of_lookup h) rfl
    · exact nofree _ (PySem.mem_of_lookup h) rfl
  exact ⟨closureFor_none nofree, kind, nocell, names, hx, by simp, rfl, rfl, fun i y e => by simp at e, (fun y c e => by cases e), fun y h => absurd h (no y)⟩
/-- a block that sees names of the def: those are cells there -/
theorem cmpOk_free {X : Cx} {N : List Str} {fr : List Nat} {scope : Scope} {cl : List (Str × Addr)} {x : Str} (clos : closureFor scope X.env = pure cl) (kind : scope.kind = .function) (nocell : ∀ y ∈ scope.names, y.2 ≠ .cell)
    (names : ∀ y ∈ scope.names, y.2 = .local → scope.names.lookup y.1 = some .local) (hx : scope.names.lookup x = some .local) (nd : N.Nodup) (n0 : N[0]? = some x) (len : N.length = fr.length + 1)
    (sub : ((List.range fr.length).all fun i => match N[i + 1]?, fr[i]? with | some y, some j => (X.N[j]? == some y) && ((X.env.kindOf y == some .cell) && ((relabel scope X.env).names.lookup y == some .cell)) | _, _ => false) = true)
    (cells : ∀ p ∈ cl, X.env.cells.lookup p.1 = some p.2) (has : ((relabel scope X.env).names.all fun p => (p.2 != .cell && p.2 != .free) || (cl.lookup p.1).isSome) = true) : CmpOk X N fr scope cl x := by
  refine ⟨clos, kind, nocell, names, hx, nd, n0, len, fun i y e => ?_, fun y c e => cells _ (PySem.mem_of_lookup e), fun y h => ?_⟩
  · have hi : i < fr.length := by have := (List.getElem?_eq_some_iff.mp e).1; omega
    have z := List.all_eq_true.mp sub i (List.mem_range.mpr hi)
    rw [e, List.getElem?_eq_getElem hi] at z
    simp only [Bool.and_eq_true, beq_iff_eq] at z
    exact ⟨_, List.getElem?_eq_getElem hi, z.1, .inl z.2.1, .inl z.2.2⟩
  · have look : ∀ k, (relabel scope X.env).names.lookup y = some k → (k = .cell ∨ k = .free) → ∃ c, cl.lookup y = some c := fun k e hk => by
      have z := List.all_eq_true.mp has _ (PySem.mem_of_lookup e)
      rcases hk with rfl | rfl
      · exact Option.isSome_iff_exists.mp (by simpa using z)
      · exact Option.isSome_iff_exists.mp (by simpa using z)
    rcases h with h | h
    · exact look _ h (.inl rfl)
    · exact look _ h (.inr rfl)
def cmpSt (σ : St) (fr : List Nat) (x : Option V) : St := x :: fr.map fun j => (σ[j]?).join
/-- the comprehension's reading: D the new list, W the invariant by the turn and a measure -/
def CompAt (J : It) (fr : List Nat) (tt : TT) (te : TE) (σ : St) (Q : VK) (H1 : Hp) : Prop := ∀ D, H1 D = none → ∃ W : Nat → Nat → Hp → Prop, (∃ m, W 0 m (upd H1 D (.lst []))) ∧ ∀ i m H, W i m H →
  (J.stop i H ∧ Q (.ref D) H) ∨ (J.go i H ∧ ∀ x H', J.yld i H x H' → tt (cmpSt σ fr (some x)) H' fun b H2 => if b = true then te (cmpSt σ fr (some x)) H2 fun y H3 => ∃ ys, H3 D = some (.lst ys) ∧ ys.length < sizeLine ∧ ∃ m', m' < m ∧ W (i + 1) m' (upd H3 D (.lst (ys ++ [y])))
    else ∃ m', m' < m ∧ W (i + 1) m' H2)
def tComp (wi : TI) (fr : List Nat) (tt : TT) (te : TE) : TE := fun σ H Q => wi σ H fun J H1 => CompAt J fr tt te σ Q H1
section
variable {prog : Program} {w : World} {A : Around} {R : Result → Shared → Prop} {s : Shared}
theorem comp_turns {elt target iter : Expr} {ifs : List Expr} {scope : Scope} {pos : Pos} {it acc : Value} {env : Env} (J : Nat → Shared → Prop)
    (turn : ∀ n s, J n s → wpAny (model prog w) A (pyNext it) (fun r s1 => match r with
      | none => R (.ok .next) s1
      | some v => wpAny (model prog w) A (letOwnedTupleGo target it v) (fun _ s2 => wpAny (model prog w) A (assign target env v) (fun _ s3 =>
          wpAny (model prog w) A (forIn ifs true fun c r => if r = true then do let ok ← isTrue c env (eval c env); pure (ForInStep.yield ok) else pure (ForInStep.yield r)) (fun ok s4 =>
            if ok = true then wpAny (model prog w) A (eval elt env) (fun y s5 => wpAny (model prog w) A (call (.builtin "list.append") [acc, y]) (fun _ s6 => ∃ m, m < n ∧ J m s6) (fun _ _ => False) s5) (fun _ _ => False) s4
            else ∃ m, m < n ∧ J m s4) (fun _ _ => False) s3) (fun _ _ => False) s2) (fun _ _ => False) s1) (fun _ _ => False) s)
    (n : Nat) (h : J n s) : codeAny (model prog w) A (.compLoop (.ListComp elt [⟨target, iter, ifs, 0⟩] scope pos) 0 it acc env) R s := by
  refine codeAny_loop rfl J (fun n s hJ => ?_) n h
  show wpAny _ A ((compTurn (.ListComp elt [⟨target, iter, ifs, 0⟩] scope pos) 0 it acc env).onRaise (fun x => do noteFrame x env; theTreesLotGoes x)) _ _ s
  refine wpAny_noted ?_
  rw [compTurn_list]
  refine wpAny_bind (wpAny_standAt (wpAny_bind (wpAny_mono (turn n s hJ) (fun r s1 h1 => ?_) fun _ _ z => z.elim)))
  cases r with
  | none => exact wpAny_pure h1
  | some v =>
    refine wpAny_bind (wpAny_mono h1 (fun _ s2 h2 => ?_) fun _ _ z => z.elim)
    refine wpAny_bind (wpAny_mono h2 (fun _ s3 h3 => wpAny_bind (wpAny_mono h3 (fun ok s4 h4 => ?_) fun _ _ z => z.elim)) fun _ _ z => z.elim)
    cases ok with
    | false => exact wpAny_pure ⟨rfl, h4⟩
    | true => exact wpAny_bind (wpAny_bind (wpAny_mono h4 (fun y s5 h5 => wpAny_bind (wpAny_mono h5 (fun _ s6 h6 => wpAny_pure (wpAny_pure ⟨rfl, h6⟩)) fun _ _ z => z.elim)) fun _ _ z => z.elim))
end
section
variable {X : Cx} {elt iter : Expr} {ifs : List Expr} {x : Str} {px pos : Pos} {scope : Scope} {cl : List (Str × Addr)} {N : List Str} {fr : List Nat} {tt : TT} {te : TE}
theorem comp_core {pins : List (Addr × Obj)} {σ : St} {s2 : Shared} {H2 : Hp} {it : Addr} {fp : List Addr} {tn : Nat → Heap → Prop} {J : It} {Q : VK} {E : Value → Shared → Prop} {RR : Value → Addr → Result → Shared → Prop}
    (O : CmpOk X N fr scope cl x) (hc : X.calm = true) (I2 : Inv X pins σ H2 s2) (T : Turn X.prog X.w X.K (.Name x px) J fp it tn) (st2 : tn 0 s2.heap) (f2 : ∀ b ∈ fp, FpOk X pins H2 b)
    (ht : ∀ fp C s H, PIf (cmpCx X N scope cl fp C s H) ifs tt) (he : ∀ fp C s H, PE (cmpCx X N scope cl fp C s H) elt te)
    (hW : CompAt J fr tt te σ Q H2)
    (fin : ∀ D C s' H', s2.heap.objs.size ≤ C → H' C = none → (∃ m, s'.heap.Ns C m) → Inv X pins σ H' s' → Q (.ref D) H' → RR (.ref D) C (.ok .next) s') :
    wpAny (model X.prog X.w) X.A (newList []) (fun acc s3 => wpAny (model X.prog X.w) X.A (newFunctionEnv scope X.env.globals cl [] X.env.qual none .none (some X.env)) (fun cenv s4 =>
      codeAny (model X.prog X.w) X.A (.compStart (.ListComp elt [⟨.Name x px, iter, ifs, 0⟩] scope pos) 0 (.ref it) acc { cenv with scope := relabel scope X.env }) (RR acc cenv.locals) s4) E s3) E s2 := by
  refine wpAny_newObj_type (wpAny_newFunctionEnv O.nocell (by intro y hy; simp at hy) (fun h1 hns hsb => ?_) O.kind)
  dsimp only at hns hsb ⊢
  generalize hG : s2.heap.push { cls := .type "list", dict := none, data := .seq ([] : List Value).toArray } = G at hns hsb ⊢
  have hC : G.objs.size = s2.heap.objs.size + 1 := by rw [← hG, Heap.size_push]
  have old : ∀ b o, s2.heap.get? b = some o → h1.get? b = some o := fun b o e => hsb.extBut b o (Nat.ne_of_lt (by rw [hC]; exact Nat.lt_succ_of_lt (Heap.lt_size e))) (Heap.get?_push_of_some _ (hG ▸ Heap.get?_push_of_some _ e))
  have hacc : h1.get? s2.heap.objs.size = some { cls := .type "list", data := .seq ([] : List Value).toArray 0 } := hsb.extBut _ _ (Nat.ne_of_lt (by rw [hC]; exact Nat.lt_succ_self _)) (Heap.get?_push_of_some _ (hG ▸ Heap.get?_push_size _ rfl))
  have hD : H2 s2.heap.objs.size = none := I2.fresh
  have okX : (cmpCx X N scope cl fp G.objs.size s2 H2).Ok := by
    refine ⟨I2.ok.mod, O.kind, I2.ok.glob, I2.ok.blt, by show s2.heap.objs.size ≤ G.objs.size; rw [hC]; exact Nat.le_succ _, fun y z c e1 e2 => I2.ok.inj y z c (O.cells y c e1) (O.cells z c e2), fun y hy => O.has y hy, fun y c z => absurd (show false = true from z) Bool.false_ne_true, I2.ok.hd, I2.ok.frames, .inl rfl,
      fun b hb => ⟨?_, fun y c e => (f2 b hb).2.2.2.2.1 y c (O.cells y c e)⟩, I2.bs, Nat.le_trans I2.ok.bsz I2.sz, fun b o e hb => ?_, fun b hb z => ?_, I2.stack, I2.stkFree⟩
    · obtain ⟨o, e, _⟩ := T.obj _ _ st2 b hb
      show b ≠ G.objs.size
      exact Nat.ne_of_lt (by rw [hC]; exact Nat.lt_succ_of_lt (Heap.lt_size e))
    · rcases (f2 b hb).2.2.2.1 with z | z
      · exact I2.ok.noex b o e z
      · exact absurd (Nat.lt_of_lt_of_le (Heap.lt_size e) (Nat.le_trans I2.ok.bsz z)) (Nat.lt_irrefl _)
    · rcases List.mem_cons.mp (I2.stkSub b z) with z | z
      · exact (f2 b hb).2.1 z
      · exact (f2 b hb).2.2.1 z
  have statX : ∀ {H' : Hp}, (∀ b ∈ fp, H' b = none) → ∀ b ∈ fp, FpOk (cmpCx X N scope cl fp G.objs.size s2 H2) [] H' b := fun hn b hb =>
    ⟨hn b hb, (okX.exf b hb).1, okX.exfs b hb, .inl hb, (okX.exf b hb).2, fun p hp => absurd (show p ∈ ([] : List (Addr × Obj)) from hp) (by simp)⟩
  have I' : Inv (cmpCx X N scope cl fp G.objs.size s2 H2) [] (cmpSt σ fr none) (upd H2 s2.heap.objs.size (.lst [])) { s2 with heap := h1, toks := s2.toks + ([] : List (Str × Value)).length } := by
    refine ⟨okX, rfl, I2.bare, Un.laid old (Nat.le_refl _) hD, ⟨_, hns, fun i y v e1 e2 e3 => ?_⟩, fun y c e => ?_, ?_, fun y c e => ?_, fun p hp => absurd (show p ∈ ([] : List (Addr × Obj)) from hp) (by simp), I2.hok.laid old (Nat.le_refl _) ⟨Nat.zero_le _, [], 0, .nil, hacc⟩, ?_⟩
    · cases i with
      | zero => cases e2
      | succ i =>
        obtain ⟨j, q1, q2, q3, q4⟩ := O.sub i y e1
        have e2' : (σ[j]?).join = some v := by
          have : (fr.map fun j => (σ[j]?).join)[i]? = some (some v) := e2
          rw [List.getElem?_map, q1] at this
          exact Option.some.inj this
        have e4 : σ[j]? = some (some v) := by
          cases z : σ[j]? with
          | none => rw [z] at e2'; cases e2'
          | some t => rw [z] at e2'; exact congrArg some e2'
        obtain ⟨m, _, hl⟩ := I2.loc
        have vis : Vis X.env.scope y := .inr q3
        obtain ⟨u, r, l⟩ := hl j y v q2 e4 vis
        refine ⟨u, r, .inr ⟨q4, ?_⟩⟩
        obtain ⟨c', hc'⟩ := O.has y q4
        rcases l with ⟨k, _⟩ | ⟨_, c, ec, ic⟩
        · rcases q3 with z | z
          · rw [z] at k; cases k
          · rw [z] at k; cases k
        · have := O.cells y c' hc'
          have e' : c = c' := Option.some.inj (ec.symm.trans this)
          obtain ⟨o, ho, hd⟩ := ic
          rw [e'] at ho
          exact ⟨c', hc', o, old c' o ho, hd⟩
    · obtain ⟨v, o, ho, hd⟩ := I2.cell y c (O.cells y c e)
      exact ⟨v, o, old c o ho, hd⟩
    · show upd H2 s2.heap.objs.size (.lst []) G.objs.size = none
      rw [upd_ne (Nat.ne_of_gt (by rw [hC]; exact Nat.lt_succ_self _))]
      exact I2.hok.fresh (by rw [hC]; exact Nat.le_succ _)
    · obtain ⟨v, o, ho, hd⟩ := I2.cell y c (O.cells y c e)
      rw [upd_ne (Nat.ne_of_lt (Heap.lt_size ho))]
      exact I2.freeC y c (O.cells y c e)
    · show (cmpSt σ fr none).length = N.length
      rw [O.len]; simp [cmpSt]
  have st1 : tn 0 h1 := T.keep _ _ _ st2 fun b hb o e => old b o e
  have loop : ∀ s3 : Shared, s3 = { s2 with heap := h1, toks := s2.toks + ([] : List (Str × Value)).length } →
      codeAny (model X.prog X.w) X.A (.compLoop (.ListComp elt [⟨.Name x px, iter, ifs, 0⟩] scope pos) 0 (.ref it) (.ref s2.heap.objs.size) (compEnvC scope cl G.objs.size X.env)) (RR (.ref s2.heap.objs.size) G.objs.size) s3 := by
    rintro s3 rfl
    obtain ⟨W, ⟨m0, w0⟩, turn⟩ := hW _ hD
    refine comp_turns (fun n s' => ∃ i t H', Inv (cmpCx X N scope cl fp G.objs.size s2 H2) [] (cmpSt σ fr t) H' s' ∧ tn i s'.heap ∧ (∀ b ∈ fp, H' b = none) ∧ W i n H') ?_ m0
      ⟨0, none, _, I', st1, fun b hb => by
        rw [upd_ne (by obtain ⟨o, e, _⟩ := T.obj _ _ st2 b hb; exact Nat.ne_of_lt (Heap.lt_size e))]
        exact (f2 b hb).1, w0⟩
    rintro n s' ⟨i, t, H', I3, st3, fr3, w3⟩
    rcases turn i n H' w3 with ⟨stop, qn⟩ | ⟨go, step⟩
    · refine thn (T.done (cmpCx X N scope cl fp G.objs.size s2 H2) rfl rfl rfl hc i [] s' _ H' _ I3 (statX fr3) st3 stop) fun r s4 ⟨hr, I4⟩ => ?_
      subst hr
      obtain ⟨m, hm, _⟩ := I4.loc
      refine fin _ _ s4 H' (by rw [hC]; exact Nat.le_succ _) I4.free ⟨m, hm⟩ (I2.call' (ch := fp) I4.os I4.base I4.hok I4.bare fun b hb => ?_) qn
      exact ⟨(f2 b hb).2.2.2.1, (f2 b hb).2.1, (f2 b hb).2.2.2.2.1, (f2 b hb).2.2.2.2.2⟩
    · refine thn (T.item (cmpCx X N scope cl fp G.objs.size s2 H2) rfl rfl rfl hc i [] s' _ H' _ I3 (statX fr3) st3 go) fun r s4 ⟨u, hr, h4⟩ => ?_
      subst hr
      refine thn h4 fun _ s5 ⟨y, H5, I5, r5, y5, st5, fr5⟩ => ?_
      have I5' := I5.pinned (statX fr5) (T.obj _ _ st5)
      have lx : (cmpCx X N scope cl fp G.objs.size s2 H2).env.scope.names.lookup x = some .local := lookup_relabel_local O.hx
      refine thn (pg_name (X := cmpCx X N scope cl fp G.objs.size s2 H2) (i := 0) O.nd O.n0 (.inl lx) (.inr lx) _ s5 _ H5 y u (fun σ' H' => σ' = cmpSt σ fr (some y) ∧ H' = H5) I5' r5 ⟨rfl, rfl⟩) fun _ s6 ⟨σ6, H6, I6, e6, e6'⟩ => ?_
      subst e6; subst e6'
      have again : ∀ {σ7 : St} {H7 : Hp} {s7 : Shared} {m' : Nat}, σ7 = cmpSt σ fr (some y) → Inv (cmpCx X N scope cl fp G.objs.size s2 H2) ([] ++ pinsAt fp s5.heap) σ7 H7 s7 → m' < n → W (i + 1) m' H7 →
          ∃ m, m < n ∧ ∃ i t H', Inv (cmpCx X N scope cl fp G.objs.size s2 H2) [] (cmpSt σ fr t) H' s7 ∧ tn i s7.heap ∧ (∀ b ∈ fp, H' b = none) ∧ W i m H' := fun {σ7 H7 s7 m'} e7 I7 hm w7 => by
        subst e7
        refine ⟨m', hm, i + 1, some y, H7, I7.unpinned, T.keep _ _ _ st5 fun b hb o e => (I7.pin (b, o) (List.mem_append_right _ (List.mem_append_right _ (mem_pinsAt hb e)))).1, fun b hb => ?_, w7⟩
        obtain ⟨o, e, d⟩ := T.obj _ _ st5 b hb
        exact (I7.pin (b, o) (List.mem_append_right _ (List.mem_append_right _ (mem_pinsAt hb e)))).2.1
      refine thn (ht fp G.objs.size s2 H2 _ s6 _ H6 _ I6 (step y H6 y5)) fun ok s7 ⟨H7, I7, q7⟩ => ?_
      cases ok with
      | false =>
        rw [if_neg Bool.false_ne_true] at q7 ⊢
        obtain ⟨m', hm, w7⟩ := q7
        exact again rfl I7 hm w7
      | true =>
        rw [if_pos rfl] at q7 ⊢
        refine thn (he fp G.objs.size s2 H2 _ s7 _ H7 _ I7 q7) fun u8 s8 ⟨v8, H8, I8, r8, ys, hys, hlen, m', hm, w8⟩ => ?_
        refine thn (mt_append (X := cmpCx X N scope cl fp G.objs.size s2 H2) _ s8 _ H8 (.ref s2.heap.objs.size) [v8] _ [u8] (fun _ H9 => W (i + 1) m' H9) I8 rfl (.cons r8 .nil) ⟨_, ys, v8, rfl, rfl, hys, hlen, w8⟩) fun _ s9 ⟨_, H9, I9, _, w9⟩ => ?_
        exact again rfl I9 hm w9
  exact codeAny_compStart_list (loop _ rfl) (T.self _ 0 _ _ _ st1 (loop _ rfl))
/-- the frame of a block is let go -/
theorem Inv.left {pins : List (Addr × Obj)} {σ σ2 : St} {s2 s' : Shared} {H2 H' : Hp} {C : Addr} {h' : Heap} (I2 : Inv X pins σ2 H2 s2) (I' : Inv X pins σ H' s') (hC : s2.heap.objs.size ≤ C) (hn : H' C = none) (hs : Heap.SameBut C s'.heap h') : Inv X pins σ H' { s' with heap := h' } := by
  refine I'.turned (t' := s'.toks) (it := C) (fun b o hb e => (hs.2 b hb).trans e) hn (Nat.ne_of_gt (Nat.lt_of_lt_of_le I2.lt hC)) (.inr (Nat.le_trans I2.sz hC)) (fun y c e => ?_) fun p hp => ?_
  · obtain ⟨v, o, ho, _⟩ := I2.cell y c e
    exact Nat.ne_of_lt (Nat.lt_of_lt_of_le (Heap.lt_size ho) hC)
  · exact Nat.ne_of_lt (Nat.lt_of_lt_of_le (Heap.lt_size (I2.pin p hp).1) hC)
/-- [elt for x in iter if ..] -/
theorem pe_comp {wi : TI} (hi : PI X (.Name x px) iter wi) (O : CmpOk X N fr scope cl x) (hc : X.calm = true) (ht : ∀ fp C s H, PIf (cmpCx X N scope cl fp C s H) ifs tt) (he : ∀ fp C s H, PE (cmpCx X N scope cl fp C s H) elt te)
    (hs : ∀ v, foldedSetIterable iter X.env v = pure v := by intro _; rfl) : PE X (.ListComp elt [⟨.Name x px, iter, ifs, 0⟩] scope pos) (tComp wi fr tt te) := by
  intro pins s σ H Q I h
  rw [eval_ListComp]
  refine wpAny_comprehension_free (use := none) rfl hs O.clos O.kind O.names (thn (hi pins s σ H _ I h) fun v s1 h1 => thn h1 fun itv s2 h2 => ?_)
  obtain ⟨it, fp, tn, J, H2, e, I2, T, st2, f2, hW⟩ := h2
  subst e
  refine comp_core (RR := fun acc C => compPost (model X.prog X.w) X.A X.xe none (EP X pins σ Q) acc C) O hc I2 T st2 f2 ht he hW fun D C s' H' hC hn ⟨m, hm⟩ I' q => ?_
  exact ⟨m, hm, fun h' hs' => ⟨.ref D, H', I2.left I' hC hn hs', rfl, q⟩⟩
/-- what is wanted behind a turn that tells nothing; behind one that tells y -/
def CNext (Pv : Addr → Nat → List V → Hp → Prop) (D : Addr) (i n : Nat) (H2 : Hp) : Prop := ∃ m', m' < n - i ∧ m' = n - (i + 1) ∧ i + 1 ≤ n ∧ ∃ zs, Pv D (i + 1) zs H2
def CYes (Pv : Addr → Nat → List V → Hp → Prop) (D : Addr) (i n : Nat) : VK := fun y H3 => ∃ ys, H3 D = some (.lst ys) ∧ ys.length < sizeLine ∧ CNext Pv D i n (upd H3 D (.lst (ys ++ [y])))
theorem CNext.mk {Pv : Addr → Nat → List V → Hp → Prop} {D : Addr} {i n : Nat} {H2 : Hp} {zs : List V} (hi : i < n) (h : Pv D (i + 1) zs H2) : CNext Pv D i n H2 := ⟨n - (i + 1), by omega, rfl, hi, zs, h⟩
theorem CYes.mk {Pv : Addr → Nat → List V → Hp → Prop} {D : Addr} {i n : Nat} {H3 : Hp} {ys : List V} {y : V} (hi : i < n) (e : H3 D = some (.lst ys)) (hl : ys.length < sizeLine) (h : Pv D (i + 1) (ys ++ [y]) (upd H3 D (.lst (ys ++ [y])))) : CYes Pv D i n y H3 := ⟨ys, e, hl, .mk hi h⟩
/-- over a list that the block leaves as it is -/
theorem comp_list {K : PySem.W.Frag} {a : Addr} {xs : List V} {σ : St} {H1 : Hp} {Q : VK} (Pv : Addr → Nat → List V → Hp → Prop) (h0 : ∀ D, H1 D = none → Pv D 0 [] (upd H1 D (.lst [])))
    (hk : ∀ D i ys H, H1 D = none → i ≤ xs.length → Pv D i ys H → SqL K H a xs)
    (hs : ∀ D i x ys H, H1 D = none → xs[i]? = some x → Pv D i ys H → tt (cmpSt σ fr (some x)) H fun b H2 => if b = true then te (cmpSt σ fr (some x)) H2 (CYes Pv D i xs.length) else CNext Pv D i xs.length H2)
    (hd : ∀ D ys H, H1 D = none → Pv D xs.length ys H → Q (.ref D) H) : CompAt (Itl K a) fr tt te σ Q H1 := by
  intro D hD
  refine ⟨fun i m H => m = xs.length - i ∧ i ≤ xs.length ∧ ∃ ys, Pv D i ys H, ⟨_, rfl, Nat.zero_le _, [], h0 D hD⟩, ?_⟩
  rintro i m H ⟨rfl, hi, ys, p⟩
  have q := hk D i ys H hD hi p
  by_cases hlt : i < xs.length
  · refine .inr ⟨⟨xs, xs[i], q, by simp [hlt]⟩, fun x H' y => ?_⟩
    obtain ⟨e, y⟩ := y
    subst e
    exact hs D i x ys _ hD (y xs q) p
  · have e : i = xs.length := by omega
    subst e
    exact .inl ⟨⟨xs, q, Nat.le_refl _⟩, hd D ys H hD p⟩
/-- over a range -/
theorem comp_range {lo : Int} {n : Nat} {σ : St} {H1 : Hp} {Q : VK} (Pv : Addr → Nat → List V → Hp → Prop) (h0 : ∀ D, H1 D = none → Pv D 0 [] (upd H1 D (.lst [])))
    (hs : ∀ D i ys H, H1 D = none → i < n → Pv D i ys H → tt (cmpSt σ fr (some (.int (lo + i)))) H fun b H2 => if b = true then te (cmpSt σ fr (some (.int (lo + i)))) H2 (CYes Pv D i n) else CNext Pv D i n H2)
    (hd : ∀ D ys H, H1 D = none → Pv D n ys H → Q (.ref D) H) : CompAt (Itr lo n) fr tt te σ Q H1 := by
  intro D hD
  refine ⟨fun i m H => m = n - i ∧ i ≤ n ∧ ∃ ys, Pv D i ys H, ⟨_, rfl, Nat.zero_le _, [], h0 D hD⟩, ?_⟩
  rintro i m H ⟨rfl, hi, ys, p⟩
  by_cases hlt : i < n
  · refine .inr ⟨hlt, fun x H' y => ?_⟩
    obtain ⟨e, y⟩ := y
    subst e; subst y
    exact hs D i ys _ hD hlt p
  · have e : i = n := by omega
    subst e
    exact .inl ⟨Nat.le_refl _, hd D ys H hD p⟩
end
end L2

namespace L2
open PySem PySem.Spec PyProof.Rows
/-! ### a list comprehension whose target is any (a tuple of names): k names of the target first, then the def's own that the block sees -/
structure CmpOkG (X : Cx) (N : List Str) (k : Nat) (fr : List Nat) (scope : Scope) (cl : List (Str × Addr)) : Prop where
  clos : closureFor scope X.env = pure cl
  kind : scope.kind = .function
  nocell : ∀ y ∈ scope.names, y.2 ≠ .cell
  names : ∀ y ∈ scope.names, y.2 = .local → scope.names.lookup y.1 = some .local
  len : N.length = k + fr.length
  sub : ∀ (i : Nat) (y : Str), N[k + i]? = some y → ∃ j, fr[i]? = some j ∧ X.N[j]? = some y ∧ (X.env.kindOf y = some .cell ∨ X.env.kindOf y = some .free) ∧ ((relabel scope X.env).names.lookup y = some .cell ∨ (relabel scope X.env).names.lookup y = some .free)
  cells : ∀ y c, cl.lookup y = some c → X.env.cells.lookup y = some c
  has : ∀ y, ((relabel scope X.env).names.lookup y = some .cell ∨ (relabel scope X.env).names.lookup y = some .free) → ∃ c, cl.lookup y = some c
def cmpStG (σ : St) (fr : List Nat) (ts : St) : St := ts ++ fr.map fun j => (σ[j]?).join
def CompAtG (J : It) (gt : TG) (k : Nat) (fr : List Nat) (tt : TT) (te : TE) (σ : St) (Q : VK) (H1 : Hp) : Prop := ∀ D, H1 D = none → ∃ W : Nat → Nat → Hp → Prop, (∃ m, W 0 m (upd H1 D (.lst []))) ∧ ∀ i m H, W i m H →
  (J.stop i H ∧ Q (.ref D) H) ∨ (J.go i H ∧ ∀ x H', J.yld i H x H' → ∀ ts : St, ts.length = k → gt x (cmpStG σ fr ts) H' fun σ2 H2 => (∃ ts2 : St, ts2.length = k ∧ σ2 = cmpStG σ fr ts2) ∧ tt σ2 H2 fun b H3 => if b = true then te σ2 H3 fun y H4 => ∃ ys, H4 D = some (.lst ys) ∧ ys.length < sizeLine ∧ ∃ m', m' < m ∧ W (i + 1) m' (upd H4 D (.lst (ys ++ [y])))
    else ∃ m', m' < m ∧ W (i + 1) m' H3)
def tCompG (wi : TI) (gt : TG) (k : Nat) (fr : List Nat) (tt : TT) (te : TE) : TE := fun σ H Q => wi σ H fun J H1 => CompAtG J gt k fr tt te σ Q H1
section
variable {X : Cx} {elt iter tg : Expr} {ifs : List Expr} {pos : Pos} {scope : Scope} {cl : List (Str × Addr)} {N : List Str} {k : Nat} {fr : List Nat} {gt : TG} {tt : TT} {te : TE}
end
end L2

namespace Srt
open PySem PySem.W PyProof.Rows
/-- the tree's end under an oracle; each question is about places below n -/
def Ok (n : Nat) (lt : Nat → Nat → Bool) {α : Type} : KasT α → (α → Prop) → Prop
  | .ret a, Q => Q a
  | .ask i j k, Q => i < n ∧ j < n ∧ Ok n lt (k (lt i j)) Q
section
variable {n : Nat} {lt : Nat → Nat → Bool}
abbrev g (p : Array Nat) (i : Nat) : Nat := p.getD i 0
/-- p holds places below n alone -/
def Bd (n : Nat) (p : Array Nat) : Prop := 0 < n ∧ ∀ i, g p i < n
/-- ascending up to k; not ascending up to k -/
def Up (lt : Nat → Nat → Bool) (p : Array Nat) (k : Nat) : Prop := ∀ i j, i ≤ j → j < k → lt (g p j) (g p i) = false
def Dn (lt : Nat → Nat → Bool) (p : Array Nat) (k : Nat) : Prop := ∀ i j, i ≤ j → j < k → lt (g p i) (g p j) = false
structure Ord (lt : Nat → Nat → Bool) : Prop where
  tr : ∀ a b c, lt b a = false → lt c b = false → lt c a = false
  as : ∀ a b, lt a b = true → lt b a = false
/-- equal keys between a and b -/
def Eqs (lt : Nat → Nat → Bool) (p : Array Nat) (a b : Nat) : Prop := ∀ i j, a ≤ i → i < b → a ≤ j → j < b → lt (g p i) (g p j) = false
end
end Srt

namespace L2
open PySem PySem.Spec PySem.W PyProof.Rows
/-! ### sorted(..) of a short list of pairs of ints -/
def ltP (p q : Int × Int) : Bool := decide (p.1 < q.1) || (decide (p.1 = q.1) && decide (p.2 < q.2))
section
variable {prog : Program} {w : World} {A : Around} {E : Value → Shared → Prop} {s : Shared}
/-- two tuples of two ints compared as the sort does -/
theorem lt_pairs {x y : Addr} {a b c d : Int} {t1 t2 t3 t4 : Tok} {Q : Bool → Shared → Prop} (hx : IsTup s.heap x #[.int a t1, .int b t2]) (hy : IsTup s.heap y #[.int c t3, .int d t4]) (h : Q (ltP (a, b) (c, d)) s) :
    wpAny (model prog w) A (keyLt' (tuples' true) (.ref x) (.ref y)) Q E s := by
  obtain ⟨ox, ex, _, nx, dx⟩ := hx
  obtain ⟨oy, ey, _, ny, dy⟩ := hy
  refine kat_lt ex dx ey dy ?_
  refine kat_cons (wpAny_eqBool_int (kat_go (fun e1 => kat_yes (kat_cons (wpAny_eqBool_int (kat_go (fun e2 => kat_yes (kat_nil ?_)) fun e2 => kat_no (kat_one _ _ (lt_int ?_)))))) fun e1 => kat_no ?_))
  · have z1 : a = c := by simpa using e1
    have z2 : b = d := by simpa using e2
    have e : ltP (a, b) (c, d) = decide ((#[Value.int a t1, Value.int b t2] : Array Value).size < (#[Value.int c t3, Value.int d t4] : Array Value).size) := by
      subst z1; subst z2
      simp [ltP]
    rw [e] at h; exact h
  · have z1 : a = c := by simpa using e1
    have e : ltP (a, b) (c, d) = decide (b < d) := by subst z1; simp [ltP]
    rw [e] at h; exact h
  · have z1 : a ≠ c := by simpa using e1
    have e : ltP (a, b) (c, d) = decide (a < c) := by simp [ltP, z1]
    rw [e] at h
    exact oneLt_int h
end
theorem Paired.map_of {α β γ : Type} {F : α → β → Prop} {f : γ → α} {g : γ → β} : ∀ {l : List γ}, (∀ i ∈ l, F (f i) (g i)) → Paired F (l.map f) (l.map g)
  | [], _ => .nil
  | i :: l, h => .cons (h i List.mem_cons_self) (Paired.map_of fun j hj => h j (List.mem_cons_of_mem _ hj))
theorem map_range_getD {α : Type} (d : α) (l : List α) : (List.range l.length).map (fun i => l.getD i d) = l := by
  apply List.ext_getElem
  · simp
  · intro i h1 h2
    simp only [List.getElem_map, List.getElem_range]
    simp [List.getD_eq_getElem?_getD, h2]
section
variable {X : Cx}
end
end L2

namespace L2
/-! ### both, gaps, without: the mathematics -/
theorem inP_cons (p : Pr) (R : List Pr) (n : Int) : inP (p :: R) n = (inR n p || inP R n) := by
  unfold inP; rw [List.any_cons]
theorem inR_iff {n : Int} {p : Pr} : inR n p = true ↔ p.1 ≤ n ∧ n ≤ p.2 := by
  unfold inR; simp only [Bool.and_eq_true, decide_eq_true_eq]
theorem inR_not {n : Int} {p : Pr} : inR n p = false ↔ ¬ (p.1 ≤ n ∧ n ≤ p.2) := by
  rw [← inR_iff]; simp
theorem inP_iff {n : Int} {R : List Pr} : inP R n = true ↔ ∃ p ∈ R, p.1 ≤ n ∧ n ≤ p.2 := by
  unfold inP
  rw [List.any_eq_true]
  exact ⟨fun ⟨p, h, e⟩ => ⟨p, h, inR_iff.mp e⟩, fun ⟨p, h, e⟩ => ⟨p, h, inR_iff.mpr e⟩⟩
theorem inP_not {n : Int} {R : List Pr} (h : ∀ p ∈ R, ¬ (p.1 ≤ n ∧ n ≤ p.2)) : inP R n = false := by
  cases e : inP R n with
  | false => rfl
  | true => obtain ⟨p, hp, z⟩ := inP_iff.mp e; exact absurd z (h p hp)
theorem Apart.nil : Apart [] := ⟨(fun p hp => by cases hp), List.Pairwise.nil⟩
theorem Apart.tail {a : Pr} {A : List Pr} (h : Apart (a :: A)) : Apart A ∧ a.1 ≤ a.2 ∧ ∀ p ∈ A, a.2 + 2 ≤ p.1 := by
  have g := List.pairwise_cons.mp h.gap
  exact ⟨⟨fun p hp => h.le p (List.mem_cons_of_mem _ hp), g.2⟩, h.le a List.mem_cons_self, fun p hp => g.1 p hp⟩
theorem Apart.behind {a : Pr} {A : List Pr} (h : Apart (a :: A)) {n : Int} (hn : n ≤ a.2) : inP A n = false := inP_not fun p hp z => by
  have := h.tail.2.2 p hp
  omega
theorem Apart.take {R : List Pr} (h : Apart R) (i : Nat) : Apart (R.take i) := ⟨fun p hp => h.le p (List.mem_of_mem_take hp), h.gap.sublist (List.take_sublist _ _)⟩
/-- what the loop of both keeps: S told so far, A and B the rests -/
structure BothI (S A B A0 B0 : List Pr) : Prop where
  ap : Apart S
  aA : Apart A
  aB : Apart B
  mem : ∀ n, (inP A0 n && inP B0 n) = (inP S n || (inP A n && inP B n))
  gap : ∀ s ∈ S, (∀ p ∈ A, s.2 + 2 ≤ p.1) ∨ (∀ p ∈ B, s.2 + 2 ≤ p.1)
theorem BothI.start {A B : List Pr} (hA : Apart A) (hB : Apart B) : BothI [] A B A B := ⟨Apart.nil, hA, hB, fun n => by simp [inP], fun s hs => by cases hs⟩
theorem BothI.fin {S A B A0 B0 : List Pr} (h : BothI S A B A0 B0) (e : A = [] ∨ B = []) (n : Int) : inP S n = (inP A0 n && inP B0 n) := by
  rw [h.mem n]
  rcases e with e | e <;> rw [e] <;> simp [inP]
theorem BothI.left {S A B A0 B0 : List Pr} {a b c : Pr} (h : BothI S (a :: A) (b :: B) A0 B0) (hl : a.2 < b.2) (hc : c.1 = max a.1 b.1 ∧ c.2 = min a.2 b.2) :
    (c.1 ≤ c.2 → BothI (S ++ [c]) A (b :: B) A0 B0) ∧ (¬ c.1 ≤ c.2 → BothI S A (b :: B) A0 B0) := by
  obtain ⟨a1, a2, a3⟩ := h.aA.tail
  have em : ∀ n, ((inR n a || inP A n) && (inR n b || inP B n)) = (inR n c || (inP A n && (inR n b || inP B n))) := fun n => by
    have ec : inR n c = (inR n a && inR n b) := by
      rw [Bool.eq_iff_iff, Bool.and_eq_true, inR_iff, inR_iff, inR_iff]; omega
    rw [ec]
    cases e : inR n a with
    | false => simp
    | true =>
      have z := inR_iff.mp e
      rw [h.aA.behind z.2, h.aB.behind (by omega)]
      cases inR n b <;> rfl
  have g0 : ∀ s ∈ S, (∀ p ∈ A, s.2 + 2 ≤ p.1) ∨ (∀ p ∈ b :: B, s.2 + 2 ≤ p.1) := fun s hs => by
    rcases h.gap s hs with z | z
    · exact .inl fun p hp => z p (List.mem_cons_of_mem _ hp)
    · exact .inr z
  refine ⟨fun hle => ⟨h.ap.snoc hle fun s hs => ?_, a1, h.aB, fun n => ?_, fun s hs => ?_⟩, fun hle => ⟨h.ap, a1, h.aB, fun n => ?_, g0⟩⟩
  · rcases h.gap s hs with z | z
    · have := z a List.mem_cons_self; omega
    · have := z b List.mem_cons_self; omega
  · rw [h.mem n, inP_cons, inP_cons, em n, inP_snoc, Bool.or_assoc]
  · rcases List.mem_append.mp hs with hs | hs
    · exact g0 s hs
    · have e : s = c := by simpa using hs
      refine .inl fun p hp => ?_
      have := a3 p hp
      rw [e]; omega
  · have ec : inR n c = false := inR_not.mpr (by omega)
    rw [h.mem n, inP_cons, inP_cons, em n, ec, Bool.false_or]
theorem BothI.right {S A B A0 B0 : List Pr} {a b c : Pr} (h : BothI S (a :: A) (b :: B) A0 B0) (hl : ¬ a.2 < b.2) (hc : c.1 = max a.1 b.1 ∧ c.2 = min a.2 b.2) :
    (c.1 ≤ c.2 → BothI (S ++ [c]) (a :: A) B A0 B0) ∧ (¬ c.1 ≤ c.2 → BothI S (a :: A) B A0 B0) := by
  obtain ⟨b1, b2, b3⟩ := h.aB.tail
  have em : ∀ n, ((inR n a || inP A n) && (inR n b || inP B n)) = (inR n c || ((inR n a || inP A n) && inP B n)) := fun n => by
    have ec : inR n c = (inR n a && inR n b) := by
      rw [Bool.eq_iff_iff, Bool.and_eq_true, inR_iff, inR_iff, inR_iff]; omega
    rw [ec]
    cases e : inR n b with
    | false => simp
    | true =>
      have z := inR_iff.mp e
      rw [h.aB.behind z.2, h.aA.behind (by omega)]
      cases inR n a <;> rfl
  have g0 : ∀ s ∈ S, (∀ p ∈ a :: A, s.2 + 2 ≤ p.1) ∨ (∀ p ∈ B, s.2 + 2 ≤ p.1) := fun s hs => by
    rcases h.gap s hs with z | z
    · exact .inl z
    · exact .inr fun p hp => z p (List.mem_cons_of_mem _ hp)
  refine ⟨fun hle => ⟨h.ap.snoc hle fun s hs => ?_, h.aA, b1, fun n => ?_, fun s hs => ?_⟩, fun hle => ⟨h.ap, h.aA, b1, fun n => ?_, g0⟩⟩
  · rcases h.gap s hs with z | z
    · have := z a List.mem_cons_self; omega
    · have := z b List.mem_cons_self; omega
  · rw [h.mem n, inP_cons, inP_cons, em n, inP_snoc, Bool.or_assoc]
  · rcases List.mem_append.mp hs with hs | hs
    · exact g0 s hs
    · have e : s = c := by simpa using hs
      refine .inr fun p hp => ?_
      have := b3 p hp
      rw [e]; omega
  · have ec : inR n c = false := inR_not.mpr (by omega)
    rw [h.mem n, inP_cons, inP_cons, em n, ec, Bool.false_or]
/-- what the loop of gaps keeps: F told so far of the spans T -/
structure GapI (F T : List Pr) (lo hi st : Int) : Prop where
  ap : Apart F
  lt : ∀ s ∈ F, s.2 + 2 ≤ st
  rng : ∀ s ∈ F, lo ≤ s.1 ∧ s.2 ≤ hi
  tk : ∀ p ∈ T, p.2 < st
  fr : st = lo ∨ ∃ p ∈ T, st = p.2 + 1
  ge : lo ≤ st
  mem : ∀ n, lo ≤ n → n ≤ hi → n < st → inP F n = !inP T n
theorem GapI.start (lo hi : Int) : GapI [] [] lo hi lo := ⟨Apart.nil, (fun s hs => by cases hs), (fun s hs => by cases hs), (fun s hs => by cases hs), .inl rfl, Int.le_refl _, fun n h1 _ h3 => by omega⟩
theorem GapI.turn {F T : List Pr} {lo hi st st' e : Int} {p : Pr} (h : GapI F T lo hi st) (ap : Apart (T ++ [p])) (he : e = min (p.1 - 1) hi) (hs : st' = max st (p.2 + 1)) :
    (st ≤ e → GapI (F ++ [(st, e)]) (T ++ [p]) lo hi st') ∧ (¬ st ≤ e → GapI F (T ++ [p]) lo hi st') := by
  obtain ⟨t1, t2, t3⟩ := ap.init
  have low : ∀ n, lo ≤ n → n < st → inR n p = false := fun n h1 h2 => inR_not.mpr fun z => by
    rcases h.fr with q | ⟨o, ho, q⟩
    · omega
    · have := t3 o ho; omega
  have tk' : ∀ q ∈ T ++ [p], q.2 < st' := fun q hq => by
    rcases List.mem_append.mp hq with hq | hq
    · have := h.tk q hq; omega
    · have e : q = p := by simpa using hq
      rw [e]; omega
  have fr' : st' = lo ∨ ∃ q ∈ T ++ [p], st' = q.2 + 1 := by
    by_cases c : p.2 + 1 ≤ st
    · have e1 : st' = st := by omega
      rw [e1]
      rcases h.fr with q | ⟨o, ho, q⟩
      · exact .inl q
      · exact .inr ⟨o, List.mem_append_left _ ho, q⟩
    · exact .inr ⟨p, by simp, by omega⟩
  have tno : ∀ n, st ≤ n → inP T n = false := fun n hn => inP_not fun q hq z => by have := h.tk q hq; omega
  have fno : ∀ n, st ≤ n → inP F n = false := fun n hn => inP_not fun q hq z => by have := h.lt q hq; omega
  refine ⟨fun hle => ⟨h.ap.snoc hle h.lt, fun s hs' => ?_, fun s hs' => ?_, tk', fr', by have := h.ge; omega, fun n h1 h2 h3 => ?_⟩, fun hle => ⟨h.ap, fun s hs' => ?_, h.rng, tk', fr', by have := h.ge; omega, fun n h1 h2 h3 => ?_⟩⟩
  · rcases List.mem_append.mp hs' with hs' | hs'
    · have := h.lt s hs'; omega
    · have e2 : s = (st, e) := by simpa using hs'
      rw [e2]; show e + 2 ≤ st'; omega
  · rcases List.mem_append.mp hs' with hs' | hs'
    · exact h.rng s hs'
    · have e2 : s = (st, e) := by simpa using hs'
      rw [e2]; have := h.ge; exact ⟨by show lo ≤ st; omega, by show e ≤ hi; omega⟩
  · rw [inP_snoc, inP_snoc]
    by_cases c : n < st
    · have e1 : inR n (st, e) = false := inR_not.mpr (by show ¬ (st ≤ n ∧ n ≤ e); omega)
      rw [h.mem n h1 h2 c, low n h1 c, e1, Bool.or_false, Bool.or_false]
    · rw [fno n (by omega), tno n (by omega), Bool.false_or, Bool.false_or]
      clear fr' tk'
      have hge := h.ge
      clear h
      rw [Bool.eq_iff_iff, inR_iff]
      cases q : inR n p with
      | true => have z := inR_iff.mp q; simp; show st ≤ n → e < n; omega
      | false => have z := inR_not.mp q; simp; show st ≤ n ∧ n ≤ e; omega
  · have := h.lt s hs'; omega
  · rw [inP_snoc]
    by_cases c : n < st
    · rw [h.mem n h1 h2 c, low n h1 c, Bool.or_false]
    · rw [fno n (by omega), tno n (by omega), Bool.false_or]
      clear fr' tk' h
      have q : inR n p = true := inR_iff.mpr (by omega)
      rw [q]; rfl
theorem GapI.fin {F T : List Pr} {lo hi st : Int} (h : GapI F T lo hi st) :
    (st ≤ hi → Apart (F ++ [(st, hi)]) ∧ ∀ n, inP (F ++ [(st, hi)]) n = (decide (lo ≤ n) && decide (n ≤ hi) && !inP T n)) ∧ (¬ st ≤ hi → Apart F ∧ ∀ n, inP F n = (decide (lo ≤ n) && decide (n ≤ hi) && !inP T n)) := by
  have tno : ∀ n, st ≤ n → inP T n = false := fun n hn => inP_not fun q hq z => by have := h.tk q hq; omega
  have fno : ∀ n, st ≤ n → inP F n = false := fun n hn => inP_not fun q hq z => by have := h.lt q hq; omega
  have out : ∀ n, ¬ (lo ≤ n ∧ n ≤ hi) → inP F n = false := fun n hn => inP_not fun q hq z => by have := h.rng q hq; omega
  have dd : ∀ n, (decide (lo ≤ n) && decide (n ≤ hi)) = decide (lo ≤ n ∧ n ≤ hi) := fun n => by simp
  refine ⟨fun hle => ⟨h.ap.snoc hle h.lt, fun n => ?_⟩, fun hle => ⟨h.ap, fun n => ?_⟩⟩
  · rw [inP_snoc, dd]
    by_cases c : lo ≤ n ∧ n ≤ hi
    · rw [decide_eq_true c, Bool.true_and]
      by_cases c2 : n < st
      · have e1 : inR n (st, hi) = false := inR_not.mpr (by show ¬ (st ≤ n ∧ n ≤ hi); omega)
        rw [h.mem n c.1 c.2 c2, e1, Bool.or_false]
      · have e1 : inR n (st, hi) = true := inR_iff.mpr (by show st ≤ n ∧ n ≤ hi; omega)
        rw [e1, tno n (by omega), Bool.or_true]; rfl
    · have e1 : inR n (st, hi) = false := inR_not.mpr (by have := h.ge; show ¬ (st ≤ n ∧ n ≤ hi); omega)
      rw [decide_eq_false c, out n c, e1]; rfl
  · rw [dd]
    by_cases c : lo ≤ n ∧ n ≤ hi
    · rw [decide_eq_true c, Bool.true_and]
      exact h.mem n c.1 c.2 (by omega)
    · rw [decide_eq_false c, out n c]; rfl
/-- a set's numbers lie from its first low to its last high -/
theorem Apart.ends {a z : Pr} {R M : List Pr} (h : Apart (a :: R)) (e : a :: R = M ++ [z]) {n : Int} (hn : inP (a :: R) n = true) : a.1 ≤ n ∧ n ≤ z.2 := by
  obtain ⟨p, hp, q⟩ := inP_iff.mp hn
  obtain ⟨t1, t2, t3⟩ := h.tail
  have low : a.1 ≤ p.1 := by
    rcases List.mem_cons.mp hp with z | z
    · rw [z]; exact Int.le_refl _
    · have := t3 p z; omega
  have h2 := h
  rw [e] at h2 hp
  obtain ⟨u1, u2, u3⟩ := h2.init
  have high : p.2 ≤ z.2 := by
    rcases List.mem_append.mp hp with y | y
    · have := u3 p y; omega
    · have e2 : p = z := by simpa using y
      rw [e2]; exact Int.le_refl _
  omega
end L2

namespace L2
/-! ### runs of pieces: the mathematics -/
/-- the pieces of a walk: each begins behind the one ahead of it -/
structure Walk (ts : List (Int × Int × Int)) : Prop where
  le : ∀ t ∈ ts, t.1 ≤ t.2.1
  nx : ∀ (i : Nat) a b, ts[i]? = some a → ts[i + 1]? = some b → b.1 = a.2.1 + 1
def pcs (msk : Int → Bool) (ts : List (Int × Int × Int)) (n : Int) : Bool := ts.any fun t => inR n (t.1, t.2.1) && msk t.2.2
/-- what the loop over the pieces keeps: R told of the first i pieces, at where the next one begins -/
structure RunI (R : List Pr) (ts : List (Int × Int × Int)) (msk : Int → Bool) (i : Nat) (at_ : Int) : Prop where
  ap : Apart R
  mem : ∀ n, inP R n = pcs msk (ts.take i) n
  lt : ∀ r ∈ R, r.2 < at_
  few : 2 * R.length ≤ i ∨ (2 * R.length ≤ i + 1 ∧ ∃ R' l, R = R' ++ [l] ∧ l.2 = at_ - 1)
section
variable {R : List Pr} {ts : List (Int × Int × Int)} {msk : Int → Bool} {i : Nat} {at_ : Int} {t : Int × Int × Int}
end
end L2

namespace L2
/-! ### edges: the mathematics -/
/-- each low, and the number behind each high -/
def ends (R : List Pr) : List Int := R.flatMap fun p => [p.1, p.2 + 1]
end L2

namespace L2
open PySem PySem.Spec PyProof.Rows
/-! ### texts: a loop over the signs, join, globals -/
/-- the signs of z, one by one -/
def Its (z : Str) : It := ⟨fun i _ => i < z.cps.size, fun i H x H' => H' = H ∧ ∃ c, z.cps[i]? = some c ∧ x = .str ⟨#[c]⟩, fun i _ => z.cps.size ≤ i⟩
section
variable {X : Cx} {tg : Expr}
def iStr (tl : TE) : PySem.W.Frag → St → Hp → (It → Hp → Prop) → Prop := fun _ σ H R => tl σ H fun x H1 => ∃ z, x = .str z ∧ R (Its z) H1
end
section
variable {X : Cx}
/-- sep.join(xs), xs a list of texts -/
def rJoin (K : PySem.W.Frag) : V → List V → Hp → VK → Prop := fun x vs H Q => ∃ (z : Str) (a : Addr) (ys : List Str), x = .str z ∧ vs = [.ref a] ∧ SqL K H a (ys.map V.str) ∧ z.length ≤ 64 ∧ (ys.map (·.length)).sum + ys.length * 64 ≤ 16777216 ∧ Q (.str (Txt.join z ys)) H
end
/-- a sign that stands in g -/
def sg (g : Str) (c : Nat) : Bool := !(Builtin.Str.occurrences g ⟨#[c]⟩ 0 g.length 1).isEmpty
def allIn (z g : Str) : Bool := z.cps.toList.all (sg g)
end L2

namespace L2
open PySem PySem.Spec PyProof.Rows PySem.NumText
/-! ### texts of numbers: slices, startswith, int(text), figures -/
section
variable {X : Cx}
/-- z[lo:hi] -/
def rSlS : V → Option Int → Option Int → Hp → VK → Prop := fun x lo hi H Q => ∃ z, x = .str z ∧ z.length ≤ sizeLine ∧ Q (.str (Txt.slice z lo hi)) H
def rStarts : V → List V → Hp → VK → Prop := fun x vs H Q => ∃ z y : Str, x = .str z ∧ vs = [.str y] ∧ Q (.bl (Txt.startswith z y)) H
end
/-! figures -/
/-- figures with no nought ahead -/
structure Figs (cs : List Nat) : Prop where
  all : AllDigits cs
  one : cs.length = 1 ∨ ∃ c r, cs = c :: r ∧ 49 ≤ c
/-- the signs of str(n) -/
def numCs (n : Int) (cs : List Nat) : List Nat := if n < 0 then 45 :: cs else cs
end L2

/-! ### the script's numbers are of a bounded size -/
namespace L2
open PySem PySem.Spec PyProof.Rows PySem.W
end L2

namespace L2
open PySem PySem.Spec PyProof.Rows
/-! ### exceptions of own classes: raised, passed on, caught -/
/-- an exception: its own record and the head of its trace -/
def ExcT (h : Heap) (e T : Addr) (cls a0 : Value) : Prop :=
  ∃ oe vs oT ts, h.get? e = some oe ∧ (oe.cls = cls ∧ vs[0]? = some a0) ∧ oe.data = .fields vs ∧ vs[1]? = some (.ref T) ∧ T ≠ e ∧ h.get? T = some oT ∧ oT.data = .fields ts ∧ ts[3]? = some .none
/-- what a step of a trace changes: the records at X, the slots of the frames at F -/
structure Stp (F X : List Addr) (h h' : Heap) : Prop where
  keep : ∀ b o, b ∉ F → b ∉ X → h.get? b = some o → h'.get? b = some o
  slot : ∀ b o, b ∈ F → h.get? b = some o → ∃ sl, h'.get? b = some { o with slots := sl }
section
variable {M : Model} {A : Around} {E : Value → Shared → Prop} {s : Shared} {base : Heap} {env : Env} {outer : List Env} {L e T : Addr} {oe : Obj} {vs : Array Value} {a0 cls : Value} {Q : Unit → Shared → Prop}
end
end L2

namespace L2
open PySem PySem.Spec PyProof.Rows
section
variable {P : Program} {w : World} {H H' : Hp} {h h' : Heap} {a : Addr} {o : HO} {F Y fs : List Addr}
end
/-- how an exception of an own class lies behind a call -/
def CX1 (P : Program) (w : World) : CXT := fun outer H s E ev s' => ∃ (e T C : Addr) (a0 : Value) (H' : Hp), ev = .ref e ∧ s'.os = s.os ∧ AllBare s'.gens ∧ Un (frs outer) [] H H' s.heap s'.heap ∧ HOk P w H' s'.heap ∧
  ExcT s'.heap e T (.ref C) a0 ∧ s.heap.get? e = none ∧ s.heap.get? T = none ∧ H' e = none ∧ H' T = none ∧ E (.ref C) none H'
/-- a record that is new to a body, not its frame's, not pinned -/
structure NewAt (X : Cx) (pins : List (Addr × Obj)) (H : Hp) (b : Addr) : Prop where
  ent : X.s₀.heap.get? b = none
  unt : H b = none
  loc : b ≠ X.env.locals
  cel : ∀ x c, X.env.cells.lookup x = some c → c ≠ b
  pin : ∀ p ∈ X.pn ++ pins, p.1 ≠ b
section
variable {X : Cx} {pins : List (Addr × Obj)} {σ : St} {H : Hp} {s : Shared} {h' : Heap} {e T : Addr}
end
/-! raise -/
/-- a class of the text below a built-in exception -/
structure ExcCls (K : PySem.W.Frag) (C : Addr) : Prop where
  ex : ∃ (bmB bmN : List Value) (newId B Bn nid initId inN : String), PySem.W.excIn K C bmB newId = true ∧ ExcBaseFacts Bn newId inN bmN ∧ bmB.contains (Value.type Bn) = true ∧ ExcBaseFacts B nid initId bmB
section
variable {P : Program} {w : World} {K : PySem.W.Frag} {mg : Str → Option Value} {base : Heap} {N : List Str} {qual : Str} {scope : Scope} {f : Addr} {cd : Value} {A : Around} {outer : List Env} {s0 : Shared} {H0 : Hp} {E : XK}
def tRaise (C : Addr) (E : XK) (t : TA) : TS := fun _ σ H => t σ H fun vs H1 => vs.length ≤ sizeLine ∧ E (.ref C) none H1
end
end L2

namespace L2
open PySem PySem.Spec PyProof.Rows
/-! ### a call that may raise; try with one except clause -/
/-- behind an exception, in the frame that sees it -/
def XP (X : Cx) (pins : List (Addr × Obj)) (σ : St) (EX : Addr → Hp → Prop) (ev : Value) (s' : Shared) : Prop :=
  ∃ (e T C : Addr) (a0 : Value) (H' : Hp), ev = .ref e ∧ Inv X pins σ H' s' ∧ ExcT s'.heap e T (.ref C) a0 ∧ NewAt X pins H' e ∧ NewAt X pins H' T ∧ EX C H'
abbrev TX := St → Hp → VK → (Addr → Hp → Prop) → Prop
def PEX (X : Cx) (e : Expr) (t : TX) : Prop :=
  ∀ (pins : List (Addr × Obj)) (s : Shared) (σ : St) (H : Hp) (Q : VK) (EX : Addr → Hp → Prop), Inv X pins σ H s → t σ H Q EX → wpAny (model X.prog X.w) X.A (eval e X.env) (EP X pins σ Q) (XP X pins σ EX) s
/-- a def that may raise, bundled -/
def CalleeX (P : Program) (w : World) (K : PySem.W.Frag) (mg : Str → Option Value) (base : Heap) (k : Nat) (x : Str) (ps : List Str) (sp : Sp) : Prop :=
  ∃ f fd, FnOk P w K mg base (CX1 P w) k f fd ps sp ∧ Binds K fd ps [] ∧ PySem.W.keepIn K (.ref f) = true ∧ mg x = some (.ref f)
section
variable {X : Cx} {pins : List (Addr × Obj)} {σ : St} {H : Hp} {s s' : Shared}
end
section
variable {X : Cx} {k : Nat} {x : Str} {ps : List Str} {sp : Sp} {e : Expr} {es : List Expr} {t : TA} {p pos : Pos}
def tFnX (sp : Sp) (t : TA) : TX := fun σ H Q EX => t σ H fun vs H1 => sp vs H1 Q fun cv _ H2 => ∃ C, cv = .ref C ∧ EX C H2
abbrev TSX := Ends → St → Hp → (Addr → Hp → Prop) → Prop
/-- a statement that may raise, at the state it was begun with -/
def PSX (X : Cx) (st : Stmt) (t : TSX) : Prop :=
  ∀ (pins : List (Addr × Obj)) (s : Shared) (σ : St) (H : Hp) (D : Ends) (EX : Addr → Hp → Prop), Inv X pins σ H s → t D σ H EX → wpAny (model X.prog X.w) X.A (exec st X.env) (SP X pins D) (XP X pins σ EX) s
def tSetX (i : Nat) (te : TX) : TSX := fun D σ H EX => te σ H (fun v H1 => D.nx (σ.set i (some v)) H1) EX
def tDropX (te : TX) : TSX := fun D σ H EX => te σ H (fun _ H1 => D.nx σ H1) EX
end
/-! the except suite -/
/-- its context: the exception is handled, its record is pinned -/
def sfx (X : Cx) (e : Addr) (oe : Obj) : Cx := { X with A := X.A.mark (some (.ref e)), calm := false, pn := (e, oe) :: X.pn, xe := fun _ _ => False }
section
variable {X : Cx} {pins : List (Addr × Obj)} {σ : St} {H : Hp} {s s' : Shared} {e : Addr} {oe : Obj}
end

section
variable {X : Cx} {pins : List (Addr × Obj)} {σ : St} {H : Hp} {s : Shared}
end
def tTry (i : Nat) (B : Addr) (K : PySem.W.Frag) (G : Addr → Prop) (tb : TSX) (ts : Addr → Addr → TS) : TS := fun D σ H => tb D σ H fun C H1 => PySem.W.exmOne K (.ref C) (.ref B) = some true ∧ G C ∧
  ∀ e, ts C e { nx := fun σ' H' => D.nx (σ'.set i none) H', rt := D.rt, bk := fun σ' H' => D.bk (σ'.set i none) H', ct := fun σ' H' => D.ct (σ'.set i none) H' } (σ.set i (some (.ref e))) H1
section
variable {X : Cx} {st b₀ : Stmt} {su : List Stmt} {tb : TSX} {ts : Addr → Addr → TS} {Tn n : Str} {B : Addr} {i : Nat} {np hpos pos : Pos}
end
end L2

namespace L2
open PySem PySem.Spec PyProof.Rows
/-! ### isinstance of an exception of an own class -/
/-- what a class must have: below a built-in exception, no hooks of its own -/
structure ExcLook (K : PySem.W.Frag) (C : Addr) : Prop where
  ga : PySem.W.findIn K (.ref C) "__getattribute__" = some (some (.builtin "BaseException.__getattribute__"))
  hk : PySem.W.findIn K (.ref C) "__getattr__" = some none
  cl : PySem.W.findIn K (.ref C) "__class__" = some (some (.builtin "object.__class__"))
  gt : PySem.W.specialIn K (.builtin "object.__class__") "__get__" = some (some (.builtin "getset_descriptor.__get__"))
  tk : PySem.W.takesIn K (.builtin "object.__class__") = some true
  ob : PySem.W.mroIn K C (.type "object") = some true
  be : PySem.W.mroIn K C (.type "BaseException") = some true
  me : PySem.W.kitCls K (.ref C) (.ref C) = some true
section
variable {prog : Program} {w : World} {A : Around} {E : Value → Shared → Prop} {s : Shared} {K : PySem.W.Frag} {e C : Addr} {oe : Obj}
end
section
variable {X : Cx} {e C : Addr} {oe : Obj}
end
end L2

namespace L2
open PySem PySem.Spec PyProof.Rows
/-! ### f'{text!r} ..', a text times a number, find, join of more -/
section
variable {X : Cx}
def tFr (c : Str) (ta : TE) : TE := fun σ H Q => ta σ H fun x H1 => ∃ z : Str, x = .str z ∧ z.length ≤ 1000 ∧ (∀ n ∈ z.cps.toList, n < 16 ^ 8) ∧ c.length ≤ 1000 ∧ ∀ z2 : Str, Q (.str z2) H1
def rFind : V → List V → Hp → VK → Prop := fun x vs H Q => ∃ z y : Str, x = .str z ∧ vs = [.str y] ∧ Q (.int (Txt.find z y)) H
end
end L2

namespace L2
open PySem PySem.Spec PyProof.Rows
/-! ### own classes: methods bundled, instances made, a method of a class above called by that class's name; calls of these that may raise -/
/-- a method of the class at C, bundled -/
def MCallee (CX : CXT) (P : Program) (w : World) (K : PySem.W.Frag) (mg : Str → Option Value) (base : Heap) (k : Nat) (C : Addr) (m : Str) (ps : List Str) (sp : Sp) : Prop :=
  ∃ f fd, Meth K C m f ∧ FnOk P w K mg base CX k f fd ps sp ∧ Binds K fd ps []
/-- a class that can be made, bundled with its __init__ -/
def MkCallee (CX : CXT) (P : Program) (w : World) (K : PySem.W.Frag) (mg : Str → Option Value) (base : Heap) (k : Nat) (x : Str) (C : Addr) (ps : List Str) (sp : Sp) : Prop :=
  ∃ f fd, Mk K C f ∧ FnOk P w K mg base CX k f fd ps sp ∧ Binds K fd ps [] ∧ mg x = some (.ref C)
/-- what the text must have for B.m(..) -/
structure BaseM (K : PySem.W.Frag) (B : Addr) (m : Str) (f : Addr) : Prop where
  sp : PySem.W.specialIn K (.ref B) "__getattribute__" = some (some (.builtin "type.__getattribute__"))
  rd : PySem.W.readsIn K B (.type "type") = true
  at_ : PySem.W.findCls K (.ref B) (.type "type") m = some (.val (.ref f))
  kp : PySem.W.keepIn K (.ref f) = true
def BCallee (CX : CXT) (P : Program) (w : World) (K : PySem.W.Frag) (mg : Str → Option Value) (base : Heap) (k : Nat) (x : Str) (m : Str) (ps : List Str) (sp : Sp) : Prop :=
  ∃ f fd B, BaseM K B m f ∧ FnOk P w K mg base CX k f fd ps sp ∧ Binds K fd ps [] ∧ mg x = some (.ref B)
section
variable {CX : CXT} {P : Program} {w : World} {K : PySem.W.Frag} {mg : Str → Option Value} {base : Heap} {j k : Nat} {C : Addr} {x m : Str} {ps : List Str} {sp : Sp}
end
/-- the readings -/
def tMt (C : Addr) (m : Str) (sp : Sp) (ta : TE) (t : TA) : TE := fun σ H Q => ta σ H fun x H1 => ∃ a dx fs, x = .ref a ∧ H1 a = some (.ins C dx fs) ∧ fs.lookup m = none ∧ t σ H1 fun vs H2 => sp (x :: vs) H2 Q E0
def tMk (C : Addr) (sp : Sp) (t : TA) : TE := fun σ H Q => t σ H fun vs H1 => ∀ x dx, H1 x = none → H1 dx = none → dx ≠ x →
  sp (.ref x :: vs) (upd (upd H1 dx (.own x)) x (.ins C dx [])) (fun v H2 => v = .non ∧ Q (.ref x) H2) E0
def tMtX (C : Addr) (m : Str) (sp : Sp) (ta : TE) (t : TA) : TX := fun σ H Q EX => ta σ H fun x H1 => ∃ a dx fs, x = .ref a ∧ H1 a = some (.ins C dx fs) ∧ fs.lookup m = none ∧ t σ H1 fun vs H2 => sp (x :: vs) H2 Q fun cv _ H3 => ∃ C', cv = .ref C' ∧ EX C' H3
def tMkX (C : Addr) (sp : Sp) (t : TA) : TX := fun σ H Q EX => t σ H fun vs H1 => ∀ x dx, H1 x = none → H1 dx = none → dx ≠ x →
  sp (.ref x :: vs) (upd (upd H1 dx (.own x)) x (.ins C dx [])) (fun v H2 => v = .non ∧ Q (.ref x) H2) fun cv _ H3 => ∃ C', cv = .ref C' ∧ EX C' H3
section
variable {X : Cx} {CX : CXT} {k : Nat} {f C : Addr} {fd : FuncData} {ps : List Str} {sp : Sp} {x m : Str} {p np pos apos : Pos} {e o : Expr} {es : List Expr} {ta : TE} {t : TA}
end
/-! f'{value!r} ..' of a plain value -/
/-- what can be shown: none, a bool, a number of few figures, a text of small signs -/
inductive Shw : V → Prop where
  | non : Shw .non
  | bl (b : Bool) : Shw (.bl b)
  | int {i : Int} (h : i.natAbs < 10 ^ 60) : Shw (.int i)
  | str {z : Str} (h : z.length ≤ 1000) (k : ∀ n ∈ z.cps.toList, n < 16 ^ 8) : Shw (.str z)
section
variable {X : Cx}
def tFrV (c : Str) (ta : TE) : TE := fun σ H Q => ta σ H fun x H1 => Shw x ∧ c.length ≤ 1000 ∧ ∀ z2 : Str, Q (.str z2) H1
end
/-! == of two tuples -/
def rEqT (K : PySem.W.Frag) (neg : Bool) : R2 := fun x y H Q => ∃ a b xs ys, x = .ref a ∧ y = .ref b ∧ SqT K H a xs ∧ SqT K H b ys ∧
  ∃ f : Nat → Bool, (∀ j x y, xs[j]? = some x → ys[j]? = some y → EqI K H x y (f j)) ∧ Q (.bl (if neg then !((List.range (min xs.length ys.length)).all f && xs.length == ys.length) else (List.range (min xs.length ys.length)).all f && xs.length == ys.length)) H
section
variable {X : Cx}
end
end L2

namespace L2
open PySem
set_option maxRecDepth 100000
/-! ### == and != of lists and tuples that hold lists and tuples, down to a depth -/
inductive DEq (K : PySem.W.Frag) (H : Hp) : Nat → V → V → Bool → Prop where
  | flat {n : Nat} {x y : V} (fx : flatV x = true) (fy : flatV y = true) : DEq K H n x y (eqV x y)
  | same {n : Nat} (a : Addr) : DEq K H n (.ref a) (.ref a) true
  | lst {n : Nat} {a b : Addr} {xs ys : List V} {f : Nat → Bool} (ne : a ≠ b) (ha : SqL K H a xs) (hb : SqL K H b ys) (hl : xs.length = ys.length) (h : ∀ (j : Nat) (x y : V), xs[j]? = some x → ys[j]? = some y → DEq K H n x y (f j)) : DEq K H (n + 1) (.ref a) (.ref b) ((List.range xs.length).all f)
  | lst_ne {n : Nat} {a b : Addr} {xs ys : List V} (ne : a ≠ b) (ha : SqL K H a xs) (hb : SqL K H b ys) (hl : xs.length ≠ ys.length) : DEq K H (n + 1) (.ref a) (.ref b) false
  | tup {n : Nat} {a b : Addr} {xs ys : List V} {f : Nat → Bool} (ne : a ≠ b) (ha : SqT K H a xs) (hb : SqT K H b ys) (h : ∀ (j : Nat) (x y : V), xs[j]? = some x → ys[j]? = some y → DEq K H n x y (f j)) : DEq K H (n + 1) (.ref a) (.ref b) ((List.range (min xs.length ys.length)).all f && xs.length == ys.length)
theorem its_at {xs : List V} {its : List Value} (r : Vals xs its) {j : Nat} (h : j < its.toArray.size) : ∃ x, xs[j]? = some x ∧ RelV x its.toArray[j] := by
  have j1 : j < its.length := by simpa using h
  have l1 := r.length
  have x1 : xs[j]? = some xs[j] := List.getElem?_eq_getElem (by omega)
  obtain ⟨u1, q1, r1⟩ := r.get x1
  have eu : its.toArray[j] = u1 := by
    have := List.getElem?_eq_getElem j1
    rw [this] at q1; simpa using Option.some.inj q1
  exact ⟨xs[j], x1, eu ▸ r1⟩
section
variable {X : Cx} {pins : List (Addr × Obj)} {σ : St} {H : Hp} {s : Shared}
theorem DEq.at {n : Nat} {x y : V} {b : Bool} (e : DEq X.K H n x y b) (I : Inv X pins σ H s) : ∀ {A : Around} {u v : Value}, A.units + n < cLine → RelV x u → RelV y v → SeqAt.EqAt A s u v b := by
  induction e with
  | flat fx fy => intro A u v hu rx ry; exact eqAt_V rx ry fx fy
  | same a =>
    intro A u v hu rx ry
    cases (show u = Value.ref a from rx)
    cases (show v = Value.ref a from ry)
    exact SeqAt.EqAt.same _
  | @lst n a b xs ys f ne ha hb hl h ih =>
    intro A u v hu rx ry
    cases (show u = Value.ref a from rx)
    cases (show v = Value.ref b from ry)
    obtain ⟨its, r, p, _⟩ := I.list ha
    obtain ⟨its', r', p', _⟩ := I.list hb
    have l1 := r.length
    have l2 := r'.length
    have h0 := SeqAt.RcAt.lists (A := A) (e := f) p.isList p'.isList (by simp only [List.size_toArray]; omega) (by omega) (fun j h1 h2 => by
      obtain ⟨x, e1, q1⟩ := its_at r h1
      obtain ⟨y, e2, q2⟩ := its_at r' h2
      exact ih j x y e1 e2 (by show A.units + 1 + n < cLine; omega) q1 q2)
    rw [show its.toArray.size = xs.length by simp only [List.size_toArray]; omega] at h0
    exact SeqAt.EqAt.of_refs ne h0
  | @lst_ne n a b xs ys ne ha hb hl =>
    intro A u v hu rx ry
    cases (show u = Value.ref a from rx)
    cases (show v = Value.ref b from ry)
    obtain ⟨its, r, p, _⟩ := I.list ha
    obtain ⟨its', r', p', _⟩ := I.list hb
    have l1 := r.length
    have l2 := r'.length
    exact SeqAt.EqAt.of_refs ne (SeqAt.RcAt.lists_lengths p.isList p'.isList (by simp only [List.size_toArray, bne_iff_ne, ne_eq]; omega) (by omega))
  | @tup n a b xs ys f ne ha hb h ih =>
    intro A u v hu rx ry
    cases (show u = Value.ref a from rx)
    cases (show v = Value.ref b from ry)
    obtain ⟨its, r, p, _⟩ := I.tuple ha
    obtain ⟨its', r', p', _⟩ := I.tuple hb
    have l1 := r.length
    have l2 := r'.length
    have h0 := SeqAt.RcAt.tuples (A := A) (e := f) (show s.heap.IsTuple a its.toArray from p) (show s.heap.IsTuple b its'.toArray from p') (by omega) (fun j h1 h2 => by
      obtain ⟨x, e1, q1⟩ := its_at r h1
      obtain ⟨y, e2, q2⟩ := its_at r' h2
      exact ih j x y e1 e2 (by show A.units + 1 + n < cLine; omega) q1 q2)
    rw [show its.toArray.size = xs.length by simp only [List.size_toArray]; omega, show its'.toArray.size = ys.length by simp only [List.size_toArray]; omega] at h0
    exact SeqAt.EqAt.of_refs ne h0
end
/-- == (neg: !=) of two lists -/
def rEqDL (K : PySem.W.Frag) (neg : Bool) : R2 := fun x y H Q => ∃ a b xs ys, x = .ref a ∧ y = .ref b ∧ SqL K H a xs ∧ SqL K H b ys ∧
  ((xs.length ≠ ys.length ∧ Q (.bl neg) H) ∨ (xs.length = ys.length ∧ ∃ f : Nat → Bool, (∀ (j : Nat) (x y : V), xs[j]? = some x → ys[j]? = some y → DEq K H 60 x y (f j)) ∧ Q (.bl (if neg then !(List.range xs.length).all f else (List.range xs.length).all f)) H))
/-- == (neg: !=) of two tuples -/
def rEqDT (K : PySem.W.Frag) (neg : Bool) : R2 := fun x y H Q => ∃ a b xs ys, x = .ref a ∧ y = .ref b ∧ SqT K H a xs ∧ SqT K H b ys ∧
  ∃ f : Nat → Bool, (∀ (j : Nat) (x y : V), xs[j]? = some x → ys[j]? = some y → DEq K H 60 x y (f j)) ∧ Q (.bl (if neg then !((List.range (min xs.length ys.length)).all f && xs.length == ys.length) else (List.range (min xs.length ys.length)).all f && xs.length == ys.length)) H
section
variable {X : Cx}
theorem deep_at {pins : List (Addr × Obj)} {σ : St} {H : Hp} {s : Shared} {A : Around} {xs ys : List V} {its its' : List Value} {f : Nat → Bool} (I : Inv X pins σ H s) (hu : A.units + 60 < cLine) (r : Vals xs its) (r' : Vals ys its')
    (hf : ∀ (j : Nat) (x y : V), xs[j]? = some x → ys[j]? = some y → DEq X.K H 60 x y (f j)) : ∀ j (h1 : j < its.toArray.size) (h2 : j < its'.toArray.size), SeqAt.EqAt A s its.toArray[j] its'.toArray[j] (f j) := fun j h1 h2 => by
  obtain ⟨x, e1, q1⟩ := its_at r h1
  obtain ⟨y, e2, q2⟩ := its_at r' h2
  exact (hf j x y e1 e2).at I hu q1 q2
theorem op_eqDL {k : Nat} (hr : Room k X.A) : OpR X (compareOp .Eq) (rEqDL X.K false) := by
  intro pins s σ H x y v u Q I rx ry h
  obtain ⟨a, b, xs, ys, rfl, rfl, ha, hb, h⟩ := h
  cases (show v = Value.ref a from rx)
  cases (show u = Value.ref b from ry)
  obtain ⟨its, r, p, _⟩ := I.list ha
  obtain ⟨its', r', p', _⟩ := I.list hb
  have l1 := r.length
  have l2 := r'.length
  have hu := hr.units
  rcases h with ⟨hn, q⟩ | ⟨hl, f, hf, q⟩
  · refine SeqAt.eq_list_lengthsAt p.isList p'.isList (by simp only [List.size_toArray, bne_iff_ne, ne_eq]; omega) (by omega) ⟨.bl false, H, I, rfl, q⟩
  · refine SeqAt.eq_listAt (e := f) p.isList p'.isList (by simp only [List.size_toArray]; omega) (by omega) (deep_at I (by show X.A.units + 1 + 60 < cLine; omega) r r' hf) ⟨.bl _, H, I, rfl, ?_⟩
    rw [show its.toArray.size = xs.length by simp only [List.size_toArray]; omega]
    exact q
end
end L2

namespace PyProof.Rows.Ts
open PySem PyProof.Rows
def gallop' : Bool → Keyed → Array Keyed → Nat → Nat → Nat → StateT SortSt Sem (Option Nat) := sortPriv% PySem.Builtin.gallop
def setMinGallop' : Nat → StateT SortSt Sem Unit := sortPriv% PySem.Builtin.setMinGallop
def mergeLo' : Array Keyed → Array Keyed → StateT SortSt Sem (Array Keyed) := sortPriv% PySem.Builtin.mergeLo
def mergeHi' : Array Keyed → Array Keyed → StateT SortSt Sem (Array Keyed) := sortPriv% PySem.Builtin.mergeHi
theorem setMinGallop'_eq (n : Nat) : setMinGallop' n = modify fun s => SortSt.mk' (kindOf s) (arrOf s) (pendingOf s) n (failedOf s) := rfl
theorem wpS_set {M : Model} {A : Around} {E : Value → Shared → Prop} {s : Shared} {σ : Type} {x : σ} {Q : PUnit → σ → Prop} {st : σ} (h : Q ⟨⟩ x) : wpS M A E s (set x : StateT σ Sem PUnit) Q st := by
  unfold wpS
  rw [StateT.run_set]
  exact wpAny_pure ⟨rfl, h⟩
end PyProof.Rows.Ts
namespace PyProof.Rows.Ts
open PySem PyProof.Rows
section
variable {prog : Program} {w : World} {A : Around} {E : Value → Shared → Prop} {s : Shared} {κ : SortKind} {S : Keyed → Prop} {rk : Keyed → Int}

/-- the comparison tells the ranks' order -/
def Ask (prog : Program) (w : World) (A : Around) (E : Value → Shared → Prop) (s : Shared) (κ : SortKind) (S : Keyed → Prop) (rk : Keyed → Int) : Prop :=
  ∀ (x y : Keyed) (st : SortSt) (Q : Option Bool → SortSt → Prop), S x → S y → kindOf st = κ → Q (some (decide (rk x < rk y))) st → wpS (model prog w) A E s (lt' x y) Q st

def Kx (rk : Keyed → Int) (xs : Array Keyed) (i : Nat) : Int := match xs[i]? with
  | some p => rk p
  | none => 0
theorem Kx_at {xs : Array Keyed} {i : Nat} (h : i < xs.size) : Kx rk xs i = rk xs[i] := by unfold Kx; rw [getElem?_pos xs i h]
theorem Kx_congr {xs ys : Array Keyed} {i j : Nat} (h : xs[i]? = ys[j]?) : Kx rk xs i = Kx rk ys j := by unfold Kx; rw [h]
theorem wpS_elem {arr : Array Keyed} {i : Nat} {st : SortSt} {Q : Keyed → SortSt → Prop} (hi : i < arr.size) (h : Q arr[i] st) : wpS (model prog w) A E s (elem' arr i) Q st := by
  rw [elem'_eq, getElem?_pos arr i hi]
  exact wpS_pure h

/-- what a gallop asks -/
def Bey (rk : Keyed → Int) (left : Bool) (key : Keyed) (arr : Array Keyed) (base i : Nat) : Bool :=
  if left = true then decide (Kx rk arr (base + i) < rk key) else !decide (rk key < Kx rk arr (base + i))

theorem wpS_beyond {left : Bool} {key : Keyed} {arr : Array Keyed} {base i : Nat} {st : SortSt} {Q : Option Bool → SortSt → Prop} (hA : Ask prog w A E s κ S rk) (hk : kindOf st = κ) (hS : ∀ x ∈ arr, S x) (hkey : S key) (hi : base + i < arr.size)
    (h : Q (some (Bey rk left key arr base i)) st) :
    wpS (model prog w) A E s (do
      let x ← elem' arr (base + i)
      if left = true then lt' x key
        else do
          let __do_lift ← lt' key x
          pure (Option.map (fun x => !x) __do_lift)) Q st := by
  refine wpS_bind (wpS_elem hi ?_)
  unfold Bey at h
  rw [Kx_at hi] at h
  cases left with
  | true => exact hA _ _ st Q (hS _ (Array.getElem_mem hi)) hkey hk (by simpa using h)
  | false => exact wpS_bind (hA _ _ st _ hkey (hS _ (Array.getElem_mem hi)) hk (wpS_pure (by simpa using h)))

def SrtOn (rk : Keyed → Int) (xs : Array Keyed) (lo n : Nat) : Prop := ∀ i j, lo ≤ i → i ≤ j → j < lo + n → Kx rk xs i ≤ Kx rk xs j

theorem Bey.anti {left : Bool} {key : Keyed} {arr : Array Keyed} {base n : Nat} (hs : SrtOn rk arr base n) {i j : Nat} (hij : i ≤ j) (hj : j < n) (h : Bey rk left key arr base j = true) : Bey rk left key arr base i = true := by
  have := hs (base + i) (base + j) (by omega) (by omega) (by omega)
  unfold Bey at h ⊢
  cases left <;> simp at h ⊢ <;> omega

theorem wpS_gallop {left : Bool} {key : Keyed} {arr : Array Keyed} {base n hint : Nat} {st : SortSt} {Q : Option Nat → SortSt → Prop} (hA : Ask prog w A E s κ S rk) (hk : kindOf st = κ) (hS : ∀ x ∈ arr, S x) (hkey : S key)
    (hn : hint < n) (hb : base + n ≤ arr.size) (hs : SrtOn rk arr base n)
    (h : ∀ k, k ≤ n → (∀ i, i < k → Bey rk left key arr base i = true) → (∀ i, k ≤ i → i < n → Bey rk left key arr base i = false) → Q (some k) st) :
    wpS (model prog w) A E s (gallop' left key arr base n hint) Q st := by
  have ask : ∀ {i : Nat} {Q : Option Bool → SortSt → Prop}, i < n → Q (some (Bey rk left key arr base i)) st → wpS (model prog w) A E s (do
      let x ← elem' arr (base + i)
      if left = true then lt' x key
        else do
          let __do_lift ← lt' key x
          pure (Option.map (fun x => !x) __do_lift)) Q st := fun hi hq => wpS_beyond hA hk hS hkey (by omega) hq
  have anti : ∀ {i j : Nat}, i ≤ j → j < n → Bey rk left key arr base j = true → Bey rk left key arr base i = true := fun hij hj hh => Bey.anti hs hij hj hh
  generalize hB : Bey rk left key arr base = B at h ask anti
  refine wpS_bind (ask hn ?_)
  dsimp -zeta only
  extract_lets jp m1 m2
  -- the last loop
  have last : ∀ (u : Unit) (a b lo hi : Nat), lo ≤ hi → hi ≤ n → (∀ i, i < lo → B i = true) → (∀ i, hi ≤ i → i < n → B i = false) → wpS (model prog w) A E s (jp u a b lo hi) Q st := by
    intro u a b lo hi h1 h2 h3 h4
    refine wpS_bind (wpS_mono (wpS_forRange (I := fun x c st' => st' = st ∧ ∃ lo hi, c = (none, lo, hi) ∧ lo ≤ hi ∧ hi ≤ n ∧ hi - lo ≤ n - x ∧ (∀ i, i < lo → B i = true) ∧ (∀ i, hi ≤ i → i < n → B i = false))
      (Q := fun c st' => st' = st ∧ ∃ lo hi, c = (none, lo, hi) ∧ hi ≤ n ∧ (∀ i, i < hi → B i = true) ∧ (∀ i, hi ≤ i → i < n → B i = false)) ?step ?fin ⟨rfl, lo, hi, rfl, h1, h2, by omega, h3, h4⟩) ?post)
    case fin =>
      rintro c st' ⟨rfl, lo, hi, rfl, a1, a2, a3, a4, a5⟩
      have : lo = hi := by omega
      subst this
      exact ⟨rfl, lo, lo, rfl, a2, a4, a5⟩
    case step =>
      rintro x c st' _ hx ⟨rfl, lo, hi, rfl, a1, a2, a3, a4, a5⟩
      dsimp only
      by_cases hge : lo ≥ hi
      · rw [if_pos hge]
        have : lo = hi := by omega
        subst this
        exact wpS_pure ⟨rfl, lo, lo, rfl, a2, a4, a5⟩
      · rw [if_neg hge]
        refine wpS_bind (ask (i := lo + (hi - lo) / 2) (by omega) ?_)
        cases hm : B (lo + (hi - lo) / 2) with
        | true =>
          dsimp only
          rw [if_pos rfl]
          exact wpS_pure ⟨rfl, lo + (hi - lo) / 2 + 1, hi, rfl, by omega, a2, by omega, fun i hi' => anti (show i ≤ lo + (hi - lo) / 2 by omega) (by omega) hm, a5⟩
        | false =>
          dsimp only
          rw [if_neg Bool.false_ne_true]
          refine wpS_pure ⟨rfl, lo, lo + (hi - lo) / 2, rfl, by omega, by omega, by omega, a4, fun i h1 h2 => ?_⟩
          cases hbi : B i with
          | false => rfl
          | true => rw [anti h1 h2 hbi] at hm; cases hm
    case post =>
      rintro c st' ⟨rfl, lo, hi, rfl, a2, a4, a5⟩
      exact wpS_pure (h hi a2 a4 a5)
  clear_value jp
  cases hr : B hint with
  | true =>
    dsimp only
    rw [if_pos rfl]
    refine wpS_bind (wpS_mono (wpS_forRange (I := fun x c st' => st' = st ∧ ∃ la of_, c = (none, la, of_) ∧ x + 1 ≤ of_ ∧ la < of_ ∧ hint + la < n ∧ B (hint + la) = true)
      (Q := fun c st' => st' = st ∧ ∃ la of_, c = (none, la, of_) ∧ la < of_ ∧ hint + la < n ∧ B (hint + la) = true ∧ (n - hint ≤ of_ ∨ (hint + of_ < n ∧ B (hint + of_) = false))) ?step ?fin ⟨rfl, 0, 1, rfl, by omega, by omega, by omega, hr⟩) ?post)
    case fin =>
      rintro c st' ⟨rfl, la, of_, rfl, a1, a2, a3, a4⟩
      exact ⟨rfl, la, of_, rfl, a2, a3, a4, .inl (by omega)⟩
    case step =>
      rintro x c st' _ hx ⟨rfl, la, of_, rfl, a1, a2, a3, a4⟩
      dsimp only
      by_cases hge : of_ ≥ n - hint
      · rw [if_pos hge]
        exact wpS_pure ⟨rfl, la, of_, rfl, a2, a3, a4, .inl hge⟩
      · rw [if_neg hge]
        refine wpS_bind (ask (by omega) ?_)
        cases hm : B (hint + of_) with
        | true =>
          dsimp only
          rw [if_neg (by decide)]
          exact wpS_pure ⟨rfl, of_, 2 * of_ + 1, rfl, by omega, by omega, by omega, hm⟩
        | false =>
          dsimp only
          rw [if_pos (by decide)]
          exact wpS_pure ⟨rfl, la, of_, rfl, a2, a3, a4, .inr ⟨by omega, hm⟩⟩
    case post =>
      rintro c st' ⟨rfl, la, of_, rfl, a2, a3, a4, a5⟩
      show wpS _ _ _ _ (jp () la of_ (hint + la + 1) (hint + min of_ (n - hint))) _ _
      refine last _ _ _ _ _ (by omega) (by omega) (fun i hi' => anti (show i ≤ hint + la by omega) a3 a4) fun i h1 h2 => ?_
      rcases a5 with a5 | ⟨a5, a6⟩
      · omega
      · cases hbi : B i with
        | false => rfl
        | true => rw [anti (show hint + of_ ≤ i by omega) h2 hbi] at a6; cases a6
  | false =>
    dsimp only
    rw [if_neg Bool.false_ne_true]
    refine wpS_bind (wpS_mono (wpS_forRange (I := fun x c st' => st' = st ∧ ∃ la of_, c = (none, la, of_) ∧ x + 1 ≤ of_ ∧ la < of_ ∧ la ≤ hint ∧ B (hint - la) = false)
      (Q := fun c st' => st' = st ∧ ∃ la of_, c = (none, la, of_) ∧ la < of_ ∧ la ≤ hint ∧ B (hint - la) = false ∧ (hint + 1 ≤ of_ ∨ (of_ ≤ hint ∧ B (hint - of_) = true))) ?step ?fin ⟨rfl, 0, 1, rfl, by omega, by omega, by omega, hr⟩) ?post)
    case fin =>
      rintro c st' ⟨rfl, la, of_, rfl, a1, a2, a3, a4⟩
      exact ⟨rfl, la, of_, rfl, a2, a3, a4, .inl (by omega)⟩
    case step =>
      rintro x c st' _ hx ⟨rfl, la, of_, rfl, a1, a2, a3, a4⟩
      dsimp only
      by_cases hge : of_ ≥ hint + 1
      · rw [if_pos hge]
        exact wpS_pure ⟨rfl, la, of_, rfl, a2, a3, a4, .inl hge⟩
      · rw [if_neg hge]
        refine wpS_bind (ask (by omega) ?_)
        cases hm : B (hint - of_) with
        | false =>
          dsimp only
          rw [if_neg (by decide)]
          exact wpS_pure ⟨rfl, of_, 2 * of_ + 1, rfl, by omega, by omega, by omega, hm⟩
        | true =>
          dsimp only
          rw [if_pos rfl]
          exact wpS_pure ⟨rfl, la, of_, rfl, a2, a3, a4, .inr ⟨by omega, hm⟩⟩
    case post =>
      rintro c st' ⟨rfl, la, of_, rfl, a2, a3, a4, a5⟩
      show wpS _ _ _ _ (jp () la of_ (hint + 1 - min of_ (hint + 1)) (hint - la)) _ _
      refine last _ _ _ _ _ (by omega) (by omega) (fun i hi' => ?_) fun i h1 h2 => ?_
      · rcases a5 with a5 | ⟨a5, a6⟩
        · omega
        · exact anti (show i ≤ hint - of_ by omega) (by omega) a6
      · cases hbi : B i with
        | false => rfl
        | true => rw [anti (show hint - la ≤ i by omega) h2 hbi] at a4; cases a4
end
end PyProof.Rows.Ts
namespace PyProof.Rows.Ts
open PySem PyProof.Rows
section
variable {rk : Keyed → Int}
abbrev Sd (rk : Keyed → Int) (l : List Keyed) : Prop := l.Pairwise fun x y => rk x ≤ rk y
/-- out holds what was taken of A and of B, in order, and is not above the rest -/
structure MI (rk : Keyed → Int) (A B out : List Keyed) (ia ib : Nat) : Prop where
  perm : out.Perm (A.take ia ++ B.take ib)
  srt : Sd rk out
  la : ∀ x ∈ out, ∀ y ∈ A.drop ia, rk x ≤ rk y
  lb : ∀ x ∈ out, ∀ y ∈ B.drop ib, rk x ≤ rk y
def MR (rk : Keyed → Int) (A B M : List Keyed) : Prop := M.Perm (A ++ B) ∧ Sd rk M
theorem MI.symm {A B out : List Keyed} {ia ib : Nat} (h : MI rk A B out ia ib) : MI rk B A out ib ia := ⟨h.perm.trans List.perm_append_comm, h.srt, h.lb, h.la⟩
theorem Sd.cut {l : List Keyed} (h : Sd rk l) (k : Nat) : ∀ x ∈ l.take k, ∀ y ∈ l.drop k, rk x ≤ rk y := by
  have h' : Sd rk (l.take k ++ l.drop k) := by rw [List.take_append_drop]; exact h
  exact (List.pairwise_append.mp h').2.2
theorem Sd.dropn {l : List Keyed} (h : Sd rk l) (k : Nat) : Sd rk (l.drop k) := h.sublist (List.drop_sublist _ _)
theorem Sd.taken {l : List Keyed} (h : Sd rk l) (k : Nat) : Sd rk (l.take k) := h.sublist (List.take_sublist _ _)
theorem MI.pushA {A B out : List Keyed} {ia ib : Nat} (sA : Sd rk A) (h : MI rk A B out ia ib) (k : Nat) (hk : ∀ x ∈ (A.drop ia).take k, ∀ y ∈ B.drop ib, rk x ≤ rk y) : MI rk A B (out ++ (A.drop ia).take k) (ia + k) ib := by
  have hd : A.drop (ia + k) = (A.drop ia).drop k := by rw [List.drop_drop]
  refine ⟨?_, List.pairwise_append.mpr ⟨h.srt, (sA.dropn ia).taken k, fun x hx y hy => h.la x hx y (List.mem_of_mem_take hy)⟩, fun x hx y hy => ?_, fun x hx y hy => ?_⟩
  · rw [List.take_add]
    refine (h.perm.append_right _).trans ?_
    rw [List.append_assoc, List.append_assoc]
    exact List.Perm.append_left _ List.perm_append_comm
  · rw [hd] at hy
    rcases List.mem_append.mp hx with hx | hx
    · exact h.la x hx y (List.mem_of_mem_drop hy)
    · exact (sA.dropn ia).cut k x hx y hy
  · rcases List.mem_append.mp hx with hx | hx
    · exact h.lb x hx y hy
    · exact hk x hx y hy
theorem MI.pushB {A B out : List Keyed} {ia ib : Nat} (sB : Sd rk B) (h : MI rk A B out ia ib) (k : Nat) (hk : ∀ x ∈ (B.drop ib).take k, ∀ y ∈ A.drop ia, rk x ≤ rk y) : MI rk A B (out ++ (B.drop ib).take k) ia (ib + k) := (h.symm.pushA sB k hk).symm
theorem MI.last {A B out : List Keyed} {ia ib : Nat} (sA : Sd rk A) (sB : Sd rk B) (h : MI rk A B out ia ib) (hk : ∀ x ∈ B.drop ib, ∀ y ∈ A.drop ia, rk x ≤ rk y) : MR rk A B (out ++ B.drop ib ++ A.drop ia) := by
  refine ⟨?_, List.pairwise_append.mpr ⟨List.pairwise_append.mpr ⟨h.srt, sB.dropn ib, h.lb⟩, sA.dropn ia, fun x hx y hy => ?_⟩⟩
  · have e1 : (A ++ B).Perm ((A.take ia ++ A.drop ia) ++ (B.take ib ++ B.drop ib)) := by rw [List.take_append_drop, List.take_append_drop]
    refine ((h.perm.append_right _).append_right _).trans (List.Perm.trans ?_ e1.symm)
    rw [List.append_assoc, List.append_assoc, List.append_assoc]
    refine List.Perm.append_left _ ?_
    refine List.Perm.trans ?_ (List.perm_append_comm (l₁ := B.take ib ++ B.drop ib))
    rw [List.append_assoc]
  · rcases List.mem_append.mp hx with hx | hx
    · exact h.la x hx y hy
    · exact hk x hx y hy
theorem MI.done {A B out : List Keyed} {ia ib : Nat} (sA : Sd rk A) (sB : Sd rk B) (h : MI rk A B out ia ib) (hb : ib = B.length) : MR rk A B (out ++ A.drop ia ++ B.drop ib) := by
  have hd : B.drop ib = [] := by rw [hb, List.drop_length]
  have := h.last sA sB (by rw [hd]; intro x hx; cases hx)
  rw [hd, List.append_nil] at this ⊢
  exact this
/-- the same from the end: out stands behind -/
structure HI (rk : Keyed → Int) (A B R : List Keyed) (na nb : Nat) : Prop where
  perm : R.Perm (A.drop na ++ B.drop nb)
  srt : Sd rk R
  la : ∀ x ∈ A.take na, ∀ y ∈ R, rk x ≤ rk y
  lb : ∀ x ∈ B.take nb, ∀ y ∈ R, rk x ≤ rk y
theorem HI.symm {A B R : List Keyed} {na nb : Nat} (h : HI rk A B R na nb) : HI rk B A R nb na := ⟨h.perm.trans List.perm_append_comm, h.srt, h.lb, h.la⟩
theorem take_dt {l : List Keyed} {k n : Nat} (h : k ≤ n) : l.take n = l.take k ++ (l.take n).drop k := by
  have := (List.take_append_drop k (l.take n)).symm
  rwa [List.take_take, Nat.min_eq_left h] at this
theorem drop_dt {l : List Keyed} {k n : Nat} (h : k ≤ n) : l.drop k = (l.take n).drop k ++ l.drop n := by
  have e := List.take_append_drop (n - k) (l.drop k)
  rw [List.drop_drop, show k + (n - k) = n by omega] at e
  rw [← e, List.drop_take]
theorem HI.pushA {A B R : List Keyed} {na nb : Nat} (sA : Sd rk A) (h : HI rk A B R na nb) (k : Nat) (hkn : k ≤ na) (hk : ∀ x ∈ B.take nb, ∀ y ∈ (A.take na).drop k, rk x ≤ rk y) : HI rk A B ((A.take na).drop k ++ R) k nb := by
  refine ⟨?_, List.pairwise_append.mpr ⟨(sA.taken na).dropn k, h.srt, fun x hx y hy => h.la x (List.mem_of_mem_drop hx) y hy⟩, fun x hx y hy => ?_, fun x hx y hy => ?_⟩
  · rw [drop_dt (l := A) hkn, List.append_assoc]
    exact List.Perm.append_left _ h.perm
  · rcases List.mem_append.mp hy with hy | hy
    · refine (sA.taken na).cut k x ?_ y hy
      rw [List.take_take, Nat.min_eq_left hkn]
      exact hx
    · refine h.la x ?_ y hy
      rw [take_dt hkn]
      exact List.mem_append_left _ hx
  · rcases List.mem_append.mp hy with hy | hy
    · exact hk x hx y hy
    · exact h.lb x hx y hy
theorem HI.pushB {A B R : List Keyed} {na nb : Nat} (sB : Sd rk B) (h : HI rk A B R na nb) (k : Nat) (hkn : k ≤ nb) (hk : ∀ x ∈ A.take na, ∀ y ∈ (B.take nb).drop k, rk x ≤ rk y) : HI rk A B ((B.take nb).drop k ++ R) na k := (h.symm.pushA sB k hkn hk).symm
theorem HI.last {A B R : List Keyed} {na nb : Nat} (sA : Sd rk A) (sB : Sd rk B) (h : HI rk A B R na nb) (hk : ∀ x ∈ B.take nb, ∀ y ∈ A.take na, rk x ≤ rk y) : MR rk A B (B.take nb ++ A.take na ++ R) := by
  refine ⟨?_, List.pairwise_append.mpr ⟨List.pairwise_append.mpr ⟨sB.taken nb, sA.taken na, hk⟩, h.srt, fun x hx y hy => ?_⟩⟩
  · have e1 : (A ++ B).Perm ((A.take na ++ A.drop na) ++ (B.take nb ++ B.drop nb)) := by rw [List.take_append_drop, List.take_append_drop]
    refine (List.Perm.append_left _ h.perm).trans (List.Perm.trans ?_ e1.symm)
    rw [List.append_assoc, List.append_assoc]
    refine List.Perm.trans (List.perm_append_comm (l₁ := B.take nb)) ?_
    rw [List.append_assoc, List.append_assoc]
    exact List.Perm.append_left _ (List.Perm.append_left _ List.perm_append_comm)
  · rcases List.mem_append.mp hx with hx | hx
    · exact h.lb x hx y hy
    · exact h.la x hx y hy
theorem HI.done {A B R : List Keyed} {na nb : Nat} (sA : Sd rk A) (sB : Sd rk B) (h : HI rk A B R na nb) (ha : na = 0) : MR rk A B (A.take na ++ B.take nb ++ R) := by
  have := h.last sA sB (by rw [ha, List.take_zero]; intro x _ y hy; cases hy)
  rw [ha, List.take_zero] at this ⊢
  rw [List.append_nil] at this
  exact this
theorem take1 {l : Array Keyed} {i : Nat} (h : i < l.size) : (l.toList.drop i).take 1 = [l[i]] := by
  rw [List.drop_eq_getElem_cons (by simpa using h)]
  simp
theorem droplast {l : Array Keyed} {i : Nat} (h : i < l.size) : (l.toList.take (i + 1)).drop i = [l[i]] := by
  rw [List.drop_take, show i + 1 - i = 1 by omega, take1 h]
theorem ext_take {l : Array Keyed} {i k : Nat} : (l.extract i (i + k)).toList = (l.toList.drop i).take k := by
  rw [Array.toList_extract]; simp
theorem ext_drop {l : Array Keyed} {i : Nat} : (l.extract i l.size).toList = l.toList.drop i := by
  rw [Array.toList_extract]
  simp [List.take_of_length_le]
end
end PyProof.Rows.Ts
namespace PyProof.Rows.Ts
open PySem PyProof.Rows
section
variable {prog : Program} {w : World} {A : Around} {E : Value → Shared → Prop} {s : Shared} {κ : SortKind} {S : Keyed → Prop} {rk : Keyed → Int}
/-- but for the count of gallops the same -/
structure SameSt (st st' : SortSt) : Prop where
  arr : arrOf st' = arrOf st
  pend : pendingOf st' = pendingOf st
  kind : kindOf st' = kindOf st
  failed : failedOf st' = failedOf st
theorem SameSt.refl {st : SortSt} : SameSt st st := ⟨rfl, rfl, rfl, rfl⟩
theorem wpS_mg {st st' : SortSt} {n : Nat} {Q : Unit → SortSt → Prop} (hs : SameSt st st') (h : ∀ st'', SameSt st st'' → Q () st'') : wpS (model prog w) A E s (setMinGallop' n) Q st' := by
  rw [setMinGallop'_eq]
  exact wpS_modify (h _ ⟨hs.arr, hs.pend, hs.kind, hs.failed⟩)
theorem Sd.srtOn {xs : Array Keyed} (h : Sd rk xs.toList) {lo n : Nat} (hn : lo + n ≤ xs.size) : SrtOn rk xs lo n := fun i j _ hij hj => by
  have hi' : i < xs.size := by omega
  have hj' : j < xs.size := by omega
  rw [Kx_at hi', Kx_at hj']
  rcases Nat.lt_or_eq_of_le hij with hlt | rfl
  · have := List.pairwise_iff_getElem.mp h i j (by simpa using hi') (by simpa using hj') hlt
    simpa using this
  · exact Int.le_refl _
theorem mem_dropI {xs : Array Keyed} {i : Nat} {y : Keyed} (h : y ∈ xs.toList.drop i) : ∃ j, ∃ hj : j < xs.size, i ≤ j ∧ xs[j] = y := by
  obtain ⟨k, hk, e⟩ := List.mem_iff_getElem.mp h
  rw [List.length_drop] at hk
  rw [List.getElem_drop] at e
  exact ⟨i + k, by simpa using (show i + k < xs.toList.length by omega), by omega, by simpa using e⟩
theorem mem_takeI {xs : Array Keyed} {i k : Nat} {y : Keyed} (h : y ∈ (xs.toList.drop i).take k) : ∃ j, ∃ hj : j < xs.size, i ≤ j ∧ j < i + k ∧ xs[j] = y := by
  obtain ⟨m, hm, e⟩ := List.mem_iff_getElem.mp h
  rw [List.length_take, List.length_drop] at hm
  rw [List.getElem_take, List.getElem_drop] at e
  exact ⟨i + m, by simpa using (show i + m < xs.toList.length by omega), by omega, by omega, by simpa using e⟩
theorem mem_take0 {xs : Array Keyed} {k : Nat} {y : Keyed} (h : y ∈ xs.toList.take k) : ∃ j, ∃ hj : j < xs.size, j < k ∧ xs[j] = y := by
  obtain ⟨j, h1, _, h3, h4⟩ := mem_takeI (i := 0) (by simpa using h)
  exact ⟨j, h1, by omega, h4⟩
theorem bey_t {left : Bool} {key : Keyed} {arr : Array Keyed} {base j : Nat} (hj : j < arr.size) (hb : base ≤ j) (h : Bey rk left key arr base (j - base) = true) : rk arr[j] ≤ rk key := by
  unfold Bey at h
  rw [show base + (j - base) = j by omega, Kx_at hj] at h
  cases left <;> simp at h <;> omega
theorem bey_lt {key : Keyed} {arr : Array Keyed} {base j : Nat} (hj : j < arr.size) (hb : base ≤ j) (h : Bey rk true key arr base (j - base) = true) : rk arr[j] < rk key := by
  unfold Bey at h
  rw [show base + (j - base) = j by omega, Kx_at hj] at h
  simpa using h
theorem bey_f {left : Bool} {key : Keyed} {arr : Array Keyed} {base j : Nat} (hj : j < arr.size) (hb : base ≤ j) (h : Bey rk left key arr base (j - base) = false) : rk key ≤ rk arr[j] := by
  unfold Bey at h
  rw [show base + (j - base) = j by omega, Kx_at hj] at h
  cases left <;> simp at h <;> omega
theorem bey_flt {key : Keyed} {arr : Array Keyed} {base j : Nat} (hj : j < arr.size) (hb : base ≤ j) (h : Bey rk false key arr base (j - base) = false) : rk key < rk arr[j] := by
  unfold Bey at h
  rw [show base + (j - base) = j by omega, Kx_at hj] at h
  simpa using h
theorem Sd.le_of {xs : Array Keyed} (h : Sd rk xs.toList) {i j : Nat} (hij : i ≤ j) (hj : j < xs.size) : rk (xs[i]'(by omega)) ≤ rk xs[j] := by
  have := h.srtOn (lo := 0) (n := xs.size) (by omega) i j (Nat.zero_le _) hij (by omega)
  rwa [Kx_at (by omega), Kx_at hj] at this

theorem wpS_mergeLo {a b : Array Keyed} {st : SortSt} {Q : Array Keyed → SortSt → Prop} (hA : Ask prog w A E s κ S rk) (hk : kindOf st = κ) (hSa : ∀ x ∈ a, S x) (hSb : ∀ x ∈ b, S x)
    (sa : Sd rk a.toList) (sb : Sd rk b.toList) (h1 : 0 < a.size) (h2 : 0 < b.size) (hb0 : ∀ y ∈ a, rk b[0] ≤ rk y) (hal : ∀ x ∈ b, rk x < rk a[a.size - 1])
    (h : ∀ m st', SameSt st st' → MR rk a.toList b.toList m.toList → Q m st') : wpS (model prog w) A E s (mergeLo' a b) Q st := by
  have lA : a.toList.length = a.size := by simp
  have lB : b.toList.length = b.size := by simp
  have hdone : ∀ {out : Array Keyed} {ia ib : Nat}, MI rk a.toList b.toList out.toList ia ib → ib = b.size → MR rk a.toList b.toList (out ++ a.extract ia a.size ++ b.extract ib b.size).toList := fun hm e => by
    rw [Array.toList_append, Array.toList_append, ext_drop, ext_drop]
    exact hm.done sa sb (by omega)
  have hlast : ∀ {out : Array Keyed} {ia ib : Nat}, MI rk a.toList b.toList out.toList ia ib → ia + 1 = a.size → MR rk a.toList b.toList (out ++ b.extract ib b.size ++ a.extract ia a.size).toList := fun {out ia ib} hm e => by
    rw [Array.toList_append, Array.toList_append, ext_drop, ext_drop]
    refine hm.last sa sb fun x hx y hy => ?_
    obtain ⟨j, hj, hij, rfl⟩ := mem_dropI hy
    have hj' : j = a.size - 1 := by omega
    subst hj'
    exact Int.le_of_lt (hal x (by simpa using List.mem_of_mem_drop hx))
  have push1 : ∀ {out : Array Keyed} {x : Keyed}, (out.push x).toList = out.toList ++ [x] := fun {_ _} => by simp
  refine wpS_bind (wpS_lift (wpAny_rule ⟨rfl, ?_⟩))
  extract_lets total done lastOfA
  refine wpS_bind (wpS_elem h2 ?_)
  have m0 : MI rk a.toList b.toList (#[b[0]] : Array Keyed).toList 0 1 := by
    refine ⟨?_, ?_, ?_, ?_⟩
    · have := take1 h2
      rw [List.drop_zero] at this
      rw [List.take_zero, List.nil_append, this]
    · exact List.pairwise_singleton _ _
    · intro x hx y hy
      have hx : x = b[0] := by simpa using hx
      subst hx
      exact hb0 y (by simpa using hy)
    · intro x hx y hy
      have hx : x = b[0] := by simpa using hx
      subst hx
      obtain ⟨j, hj, _, rfl⟩ := mem_dropI hy
      exact sb.le_of (Nat.zero_le _) hj
  dsimp only
  by_cases c1 : (1 == b.size) = true
  · rw [if_pos c1]
    exact wpS_pure (h _ _ .refl (hdone m0 (by simpa using c1)))
  rw [if_neg c1]
  have c1 : 1 ≠ b.size := by simpa using c1
  by_cases c2 : (0 + 1 == a.size) = true
  · rw [if_pos c2]
    exact wpS_pure (h _ _ .refl (hlast m0 (by simpa using c2)))
  rw [if_neg c2]
  have c2 : 0 + 1 ≠ a.size := by simpa using c2
  refine wpS_bind (wpS_get ?_)
  refine wpS_bind (wpS_mono (wpS_forRange (I := fun x c st' => SameSt st st' ∧ ∃ out ia ib mg, c = (none, out, ia, ib, mg) ∧ MI rk a.toList b.toList out.toList ia ib ∧ ia + 1 < a.size ∧ ib < b.size ∧ x + 1 ≤ ia + ib)
    (Q := fun c st' => SameSt st st' ∧ ∃ r rest, c = (some r, rest) ∧ MR rk a.toList b.toList r.toList) ?step ?fin ⟨.refl, _, _, _, _, rfl, m0, by omega, by omega, by omega⟩) ?post)
  case fin =>
    rintro c st' ⟨_, out, ia, ib, mg, rfl, hm, a1, a2, a3⟩
    exfalso
    omega
  case post =>
    rintro c st' ⟨hs', r, rest, rfl, hr⟩
    exact wpS_pure (h _ _ hs' hr)
  case step =>
    rintro x c st' _ hx ⟨hs', out, ia, ib, mg, rfl, hm, a1, a2, a3⟩
    dsimp only
    refine wpS_bind (wpS_mono (wpS_forRange (I := fun y c st'' => st'' = st' ∧ ∃ out ia ib ac bc, c = (none, out, ia, ib, ac, bc) ∧ MI rk a.toList b.toList out.toList ia ib ∧ ia + 1 < a.size ∧ ib < b.size ∧ y + (x + 1) ≤ ia + ib)
      (Q := fun c st'' => st'' = st' ∧ ((∃ r rest, c = (some r, rest) ∧ MR rk a.toList b.toList r.toList) ∨ ∃ out ia ib ac bc, c = (none, out, ia, ib, ac, bc) ∧ MI rk a.toList b.toList out.toList ia ib ∧ ia + 1 < a.size ∧ ib < b.size ∧ x + 2 ≤ ia + ib)) ?step1 ?fin1 ⟨rfl, _, _, _, _, _, rfl, hm, a1, a2, by omega⟩) ?post1)
    case fin1 =>
      rintro c st'' ⟨_, out, ia, ib, ac, bc, rfl, hm, a1, a2, a3⟩
      exfalso
      omega
    case step1 =>
      rintro y c st'' _ hy ⟨rfl, out, ia, ib, ac, bc, rfl, hm, a1, a2, a3⟩
      dsimp only
      refine wpS_bind (wpS_elem a2 (wpS_bind (wpS_elem (by omega) ?_)))
      refine wpS_bind (hA _ _ _ _ (hSb _ (Array.getElem_mem _)) (hSa _ (Array.getElem_mem _)) (hs'.kind.trans hk) ?_)
      dsimp only
      by_cases hlt : rk b[ib] < rk (a[ia]'(by omega))
      · rw [decide_eq_true hlt, if_pos rfl]
        refine wpS_bind (wpS_elem a2 ?_)
        have hm' : MI rk a.toList b.toList (out.push b[ib]).toList ia (ib + 1) := by
          rw [push1, ← take1 a2]
          refine hm.pushB sb 1 fun x hx y hy => ?_
          rw [take1 a2] at hx
          rw [List.mem_singleton.mp hx]
          obtain ⟨j, hj, hij, rfl⟩ := mem_dropI hy
          exact Int.le_trans (Int.le_of_lt hlt) (sa.le_of hij hj)
        by_cases c : (ib + 1 == b.size) = true
        · rw [if_pos c]
          exact wpS_pure ⟨rfl, .inl ⟨_, _, rfl, hdone hm' (by simpa using c)⟩⟩
        · rw [if_neg c]
          have c : ib + 1 ≠ b.size := by simpa using c
          split
          · exact wpS_pure ⟨rfl, .inr ⟨_, _, _, _, _, rfl, hm', a1, by omega, by omega⟩⟩
          · exact wpS_pure ⟨rfl, _, _, _, _, _, rfl, hm', a1, by omega, by omega⟩
      · rw [decide_eq_false hlt, if_neg Bool.false_ne_true]
        refine wpS_bind (wpS_elem (by omega) ?_)
        have hia : ia < a.size := by omega
        have hm' : MI rk a.toList b.toList (out.push a[ia]).toList (ia + 1) ib := by
          rw [push1, ← take1 hia]
          refine hm.pushA sa 1 fun x hx y hy => ?_
          rw [take1 hia] at hx
          rw [List.mem_singleton.mp hx]
          obtain ⟨j, hj, hij, rfl⟩ := mem_dropI hy
          exact Int.le_trans (Int.not_lt.mp hlt) (sb.le_of hij hj)
        by_cases c : (ia + 1 + 1 == a.size) = true
        · rw [if_pos c]
          exact wpS_pure ⟨rfl, .inl ⟨_, _, rfl, hlast hm' (by simpa using c)⟩⟩
        · rw [if_neg c]
          have c : ia + 1 + 1 ≠ a.size := by simpa using c
          split
          · exact wpS_pure ⟨rfl, .inr ⟨_, _, _, _, _, rfl, hm', by omega, a2, by omega⟩⟩
          · exact wpS_pure ⟨rfl, _, _, _, _, _, rfl, hm', by omega, a2, by omega⟩
    case post1 =>
      rintro c st'' ⟨rfl, ⟨r, rest, rfl, hr⟩ | ⟨out, ia, ib, ac, bc, rfl, hm, a1, a2, a3⟩⟩
      · exact wpS_pure ⟨hs', r, _, rfl, hr⟩
      dsimp only
      refine wpS_bind (wpS_lift (wpAny_rule ⟨rfl, ?_⟩))
      refine wpS_bind (wpS_mono (wpS_forRange (I := fun y c st'' => SameSt st st'' ∧ ∃ out ia ib mg ac bc, c = (none, out, ia, ib, mg, ac, bc) ∧ MI rk a.toList b.toList out.toList ia ib ∧ ia + 1 < a.size ∧ ib < b.size ∧ y + (x + 2) ≤ ia + ib)
        (Q := fun c st'' => SameSt st st'' ∧ ((∃ r rest, c = (some r, rest) ∧ MR rk a.toList b.toList r.toList) ∨ ∃ out ia ib mg ac bc, c = (none, out, ia, ib, mg, ac, bc) ∧ MI rk a.toList b.toList out.toList ia ib ∧ ia + 1 < a.size ∧ ib < b.size ∧ x + 2 ≤ ia + ib)) ?step2 ?fin2 ⟨hs', _, _, _, _, _, _, rfl, hm, a1, a2, by omega⟩) ?post2)
      case fin2 =>
        rintro c st'' ⟨_, out, ia, ib, mg, ac, bc, rfl, hm, a1, a2, a3⟩
        exfalso
        omega
      case post2 =>
        rintro c st'' ⟨hs2, ⟨r, rest, rfl, hr⟩ | ⟨out, ia, ib, mg, ac, bc, rfl, hm, a1, a2, a3⟩⟩
        · exact wpS_pure ⟨hs2, r, _, rfl, hr⟩
        · dsimp only
          exact wpS_bind (wpS_mg hs2 fun st3 hs3 => wpS_pure ⟨hs3, _, _, _, _, rfl, hm, a1, a2, by omega⟩)
      case step2 =>
        rintro y c st2 _ hy ⟨hs2, out, ia, ib, mg, ac, bc, rfl, hm, a1, a2, a3⟩
        dsimp only
        by_cases hg : mg > 1
        rw [if_pos hg]
        rotate_left
        rw [if_neg hg]
        all_goals
          refine wpS_bind (wpS_mg hs2 fun st3 hs3 => ?_)
          refine wpS_bind (wpS_elem a2 ?_)
          refine wpS_bind (wpS_gallop hA (hs3.kind.trans hk) hSa (hSb _ (Array.getElem_mem _)) (by omega) (by omega) (sa.srtOn (by omega)) fun k hk1 hk2 hk3 => ?_)
          have hkl : ia + k < a.size := by
            rcases Nat.lt_or_ge (ia + k) a.size with hh | hh
            · exact hh
            · exfalso
              have e1 := bey_t (j := a.size - 1) (by omega) (by omega) (hk2 (a.size - 1 - ia) (by omega))
              have e2 := hal b[ib] (Array.getElem_mem _)
              omega
          have hmo : MI rk a.toList b.toList (out.toList ++ (a.toList.drop ia).take k) (ia + k) ib := hm.pushA sa k fun x hx y hy => by
            obtain ⟨j, hj, hij, hjk, rfl⟩ := mem_takeI hx
            obtain ⟨j', hj', hij', rfl⟩ := mem_dropI hy
            exact Int.le_trans (bey_t hj hij (hk2 (j - ia) (by omega))) (sb.le_of hij' hj')
          have hm2 : ∀ x ∈ (b.toList.drop ib).take 1, ∀ y ∈ a.toList.drop (ia + k), rk x ≤ rk y := fun x hx y hy => by
            rw [take1 a2] at hx
            rw [List.mem_singleton.mp hx]
            obtain ⟨j, hj, hij, rfl⟩ := mem_dropI hy
            exact bey_f hj (by omega) (hk3 (j - ia) (by omega) (by omega))
          have hlo : y + (x + 2) ≤ ia + k + ib := by omega
          clear hk2 hk3 hk1
          dsimp only
          rcases Nat.eq_zero_or_pos k with hk0 | hk0
          rw [if_neg (by omega)]
          subst hk0
          rw [List.take_zero, List.append_nil] at hmo
          rw [Nat.add_zero] at hmo hm2 hlo
          obtain ⟨o, rfl⟩ : ∃ o, o = out := ⟨_, rfl⟩
          obtain ⟨ja, rfl⟩ : ∃ ja, ja = ia := ⟨_, rfl⟩
          have hja := a1
          rotate_left
          rw [if_pos hk0]
          rw [← ext_take, ← Array.toList_append] at hmo
          by_cases c3 : (ia + k + 1 == a.size) = true
          · rw [if_pos c3]
            exact wpS_pure ⟨hs3, .inl ⟨_, _, rfl, hlast hmo (by simpa using c3)⟩⟩
          rw [if_neg c3]
          have hja : ia + k + 1 < a.size := by
            have : ia + k + 1 ≠ a.size := by simpa using c3
            omega
          rw [if_neg (by simp; omega)]
          generalize out ++ a.extract ia (ia + k) = o at hmo ⊢
          generalize ia + k = ja at hmo hm2 hlo hja ⊢
          all_goals
            have hm3 : MI rk a.toList b.toList (o.push b[ib]).toList ja (ib + 1) := by
              rw [push1, ← take1 a2]
              exact hmo.pushB sb 1 hm2
            refine wpS_bind (wpS_elem a2 ?_)
            by_cases c : (ib + 1 == b.size) = true
            · rw [if_pos c]
              exact wpS_pure ⟨hs3, .inl ⟨_, _, rfl, hdone hm3 (by simpa using c)⟩⟩
            rw [if_neg c]
            have c : ib + 1 ≠ b.size := by simpa using c
            refine wpS_bind (wpS_elem (by omega) ?_)
            refine wpS_bind (wpS_gallop hA (hs3.kind.trans hk) hSb (hSa _ (Array.getElem_mem _)) (by omega) (by omega) (sb.srtOn (by omega)) fun k' hk1' hk2' hk3' => ?_)
            have hm4 : MI rk a.toList b.toList ((o.push b[ib]).toList ++ (b.toList.drop (ib + 1)).take k') ja (ib + 1 + k') := hm3.pushB sb k' fun x hx y hy => by
              obtain ⟨j, hj, hij, hjk, rfl⟩ := mem_takeI hx
              obtain ⟨j', hj', hij', rfl⟩ := mem_dropI hy
              exact Int.le_trans (bey_t hj hij (hk2' (j - (ib + 1)) (by omega))) (sa.le_of hij' hj')
            have hia' : ja < a.size := by omega
            have fin : ∀ (o2 : Array Keyed), o2.toList = (o.push b[ib]).toList ++ (b.toList.drop (ib + 1)).take k' → MI rk a.toList b.toList (o2.push a[ja]).toList (ja + 1) (ib + 1 + k') := fun o2 ho2 => by
              rw [← ho2] at hm4
              rw [push1, ← take1 hia']
              refine hm4.pushA sa 1 fun x hx y hy => ?_
              rw [take1 hia'] at hx
              rw [List.mem_singleton.mp hx]
              obtain ⟨j, hj, hij, rfl⟩ := mem_dropI hy
              exact bey_f hj (by omega) (hk3' (j - (ib + 1)) (by omega) (by omega))
            dsimp only
            by_cases hk0 : k' > 0
            · rw [if_pos hk0]
              by_cases c3 : (ib + 1 + k' == b.size) = true
              · rw [if_pos c3]
                refine wpS_pure ⟨hs3, .inl ⟨_, _, rfl, hdone (out := o.push b[ib] ++ b.extract (ib + 1) (ib + 1 + k')) ?_ (by simpa using c3)⟩⟩
                rw [Array.toList_append, ext_take]
                exact hm4
              rw [if_neg c3]
              have c3 : ib + 1 + k' ≠ b.size := by simpa using c3
              refine wpS_bind (wpS_elem hia' ?_)
              have hm5 := fin (o.push b[ib] ++ b.extract (ib + 1) (ib + 1 + k')) (by rw [Array.toList_append, ext_take])
              by_cases c4 : (ja + 1 + 1 == a.size) = true
              · rw [if_pos c4]
                exact wpS_pure ⟨hs3, .inl ⟨_, _, rfl, hlast hm5 (by simpa using c4)⟩⟩
              rw [if_neg c4]
              have c4 : ja + 1 + 1 ≠ a.size := by simpa using c4
              split
              · exact wpS_pure ⟨hs3, .inr ⟨_, _, _, _, _, _, rfl, hm5, by omega, by omega, by omega⟩⟩
              · exact wpS_pure ⟨hs3, _, _, _, _, _, _, rfl, hm5, by omega, by omega, by omega⟩
            · rw [if_neg hk0]
              have hk0 : k' = 0 := by omega
              subst hk0
              refine wpS_bind (wpS_elem hia' ?_)
              have hm5 := fin (o.push b[ib]) (by simp)
              rw [Nat.add_zero] at hm5
              by_cases c4 : (ja + 1 + 1 == a.size) = true
              · rw [if_pos c4]
                exact wpS_pure ⟨hs3, .inl ⟨_, _, rfl, hlast hm5 (by simpa using c4)⟩⟩
              rw [if_neg c4]
              have c4 : ja + 1 + 1 ≠ a.size := by simpa using c4
              split
              · exact wpS_pure ⟨hs3, .inr ⟨_, _, _, _, _, _, rfl, hm5, by omega, by omega, by omega⟩⟩
              · exact wpS_pure ⟨hs3, _, _, _, _, _, _, rfl, hm5, by omega, by omega, by omega⟩
end
end PyProof.Rows.Ts
namespace PyProof.Rows.Ts
open PySem PyProof.Rows
section
variable {prog : Program} {w : World} {A : Around} {E : Value → Shared → Prop} {s : Shared} {κ : SortKind} {S : Keyed → Prop} {rk : Keyed → Int}
theorem drop1 {l : Array Keyed} {n : Nat} (h1 : 1 ≤ n) (h : n ≤ l.size) : (l.toList.take n).drop (n - 1) = [l[n - 1]'(by omega)] := by
  obtain ⟨i, rfl⟩ : ∃ i, n = i + 1 := ⟨n - 1, by omega⟩
  exact droplast (by omega)
theorem ext0 {l : Array Keyed} {n : Nat} : (l.extract 0 n).toList = l.toList.take n := by
  rw [Array.toList_extract]; simp
theorem ext_mid {l : Array Keyed} {i j : Nat} : (l.extract i j).toList = (l.toList.take j).drop i := by
  rw [Array.toList_extract, List.drop_take]
theorem mem_mid {xs : Array Keyed} {i k : Nat} {y : Keyed} (h : y ∈ (xs.toList.take k).drop i) : ∃ j, ∃ hj : j < xs.size, i ≤ j ∧ j < k ∧ xs[j] = y := by
  rw [List.drop_take] at h
  obtain ⟨j, h1, h2, h3, h4⟩ := mem_takeI h
  exact ⟨j, h1, h2, by omega, h4⟩

theorem wpS_mergeHi {a b : Array Keyed} {st : SortSt} {Q : Array Keyed → SortSt → Prop} (hA : Ask prog w A E s κ S rk) (hk : kindOf st = κ) (hSa : ∀ x ∈ a, S x) (hSb : ∀ x ∈ b, S x)
    (sa : Sd rk a.toList) (sb : Sd rk b.toList) (h1 : 0 < a.size) (h2 : 0 < b.size) (hb0 : ∀ y ∈ a, rk b[0] < rk y) (hal : ∀ x ∈ b, rk x ≤ rk a[a.size - 1])
    (h : ∀ m st', SameSt st st' → MR rk a.toList b.toList m.toList → Q m st') : wpS (model prog w) A E s (mergeHi' a b) Q st := by
  have lA : a.toList.length = a.size := by simp
  have lB : b.toList.length = b.size := by simp
  have hdone : ∀ {out : Array Keyed} {na nb : Nat}, HI rk a.toList b.toList out.toList.reverse na nb → na = 0 → MR rk a.toList b.toList (a.extract 0 na ++ b.extract 0 nb ++ out.reverse).toList := fun hm e => by
    rw [Array.toList_append, Array.toList_append, ext0, ext0, Array.toList_reverse]
    exact hm.done sa sb e
  have hfirst : ∀ {out : Array Keyed} {na nb : Nat}, HI rk a.toList b.toList out.toList.reverse na nb → nb = 1 → MR rk a.toList b.toList (b.extract 0 nb ++ a.extract 0 na ++ out.reverse).toList := fun {out na nb} hm e => by
    rw [Array.toList_append, Array.toList_append, ext0, ext0, Array.toList_reverse]
    refine hm.last sa sb fun x hx y hy => ?_
    obtain ⟨j, hj, hij, rfl⟩ := mem_take0 hx
    have hj' : j = 0 := by omega
    subst hj'
    exact Int.le_of_lt (hb0 y (by simpa using List.mem_of_mem_take hy))
  have push1 : ∀ {out : Array Keyed} {x : Keyed}, (out.push x).toList.reverse = [x] ++ out.toList.reverse := fun {_ _} => by simp
  have pushk : ∀ {out c : Array Keyed}, (out ++ c.reverse).toList.reverse = c.toList ++ out.toList.reverse := fun {_ _} => by simp
  refine wpS_bind (wpS_lift (wpAny_rule ⟨rfl, ?_⟩))
  dsimp only
  have hla : a.size - 1 < a.size := by omega
  refine wpS_bind (wpS_elem hla ?_)
  have m0 : HI rk a.toList b.toList (#[a[a.size - 1]] : Array Keyed).toList.reverse (a.size - 1) b.size := by
    have e := List.drop_eq_getElem_cons (l := a.toList) (i := a.size - 1) (by omega)
    rw [show a.size - 1 + 1 = a.toList.length by omega, List.drop_length] at e
    refine ⟨?_, ?_, ?_, ?_⟩
    · rw [e, show b.toList.drop b.size = [] by rw [← lB, List.drop_length]]
      simp
    · exact List.pairwise_singleton _ _
    · intro x hx y hy
      have hy : y = a[a.size - 1] := by simpa using hy
      subst hy
      obtain ⟨j, hj, hij, rfl⟩ := mem_take0 hx
      exact sa.le_of (by omega) hla
    · intro x hx y hy
      have hy : y = a[a.size - 1] := by simpa using hy
      subst hy
      exact hal x (by simpa using List.mem_of_mem_take hx)
  by_cases c1 : (a.size - 1 == 0) = true
  · rw [if_pos c1]
    exact wpS_pure (h _ _ .refl (hdone m0 (by simpa using c1)))
  rw [if_neg c1]
  have c1 : a.size - 1 ≠ 0 := by simpa using c1
  by_cases c2 : (b.size == 1) = true
  · rw [if_pos c2]
    exact wpS_pure (h _ _ .refl (hfirst m0 (by simpa using c2)))
  rw [if_neg c2]
  have c2 : b.size ≠ 1 := by simpa using c2
  refine wpS_bind (wpS_get ?_)
  refine wpS_bind (wpS_mono (wpS_forRange (I := fun x c st' => SameSt st st' ∧ ∃ na nb out mg, c = (none, na, nb, out, mg) ∧ HI rk a.toList b.toList out.toList.reverse na nb ∧ 1 ≤ na ∧ na < a.size ∧ 2 ≤ nb ∧ nb ≤ b.size ∧ x + 1 + na + nb ≤ a.size + b.size)
    (Q := fun c st' => SameSt st st' ∧ ∃ r rest, c = (some r, rest) ∧ MR rk a.toList b.toList r.toList) ?step ?fin ⟨.refl, _, _, _, _, rfl, m0, by omega, by omega, by omega, by omega, by omega⟩) ?post)
  case fin =>
    rintro c st' ⟨_, na, nb, out, mg, rfl, hm, a1, a2, a3, a4, a5⟩
    exfalso
    omega
  case post =>
    rintro c st' ⟨hs', r, rest, rfl, hr⟩
    exact wpS_pure (h _ _ hs' hr)
  case step =>
    rintro x c st' _ hx ⟨hs', na, nb, out, mg, rfl, hm, a1, a2, a3, a4, a5⟩
    dsimp only
    refine wpS_bind (wpS_mono (wpS_forRange (I := fun y c st'' => st'' = st' ∧ ∃ na nb out ac bc, c = (none, na, nb, out, ac, bc) ∧ HI rk a.toList b.toList out.toList.reverse na nb ∧ 1 ≤ na ∧ na < a.size ∧ 2 ≤ nb ∧ nb ≤ b.size ∧ y + (x + 1) + na + nb ≤ a.size + b.size)
      (Q := fun c st'' => st'' = st' ∧ ((∃ r rest, c = (some r, rest) ∧ MR rk a.toList b.toList r.toList) ∨ ∃ na nb out ac bc, c = (none, na, nb, out, ac, bc) ∧ HI rk a.toList b.toList out.toList.reverse na nb ∧ 1 ≤ na ∧ na < a.size ∧ 2 ≤ nb ∧ nb ≤ b.size ∧ x + 2 + na + nb ≤ a.size + b.size)) ?step1 ?fin1 ⟨rfl, _, _, _, _, _, rfl, hm, a1, a2, a3, a4, by omega⟩) ?post1)
    case fin1 =>
      rintro c st'' ⟨_, na, nb, out, ac, bc, rfl, hm, a1, a2, a3, a4, a5⟩
      exfalso
      omega
    case step1 =>
      rintro y c st'' _ hy ⟨rfl, na, nb, out, ac, bc, rfl, hm, a1, a2, a3, a4, a5⟩
      dsimp only
      have hnb : nb - 1 < b.size := by omega
      have hna : na - 1 < a.size := by omega
      refine wpS_bind (wpS_elem hnb (wpS_bind (wpS_elem hna ?_)))
      refine wpS_bind (hA _ _ _ _ (hSb _ (Array.getElem_mem _)) (hSa _ (Array.getElem_mem _)) (hs'.kind.trans hk) ?_)
      dsimp only
      by_cases hlt : rk b[nb - 1] < rk a[na - 1]
      · rw [decide_eq_true hlt, if_pos rfl]
        refine wpS_bind (wpS_elem hna ?_)
        have hm' : HI rk a.toList b.toList (out.push a[na - 1]).toList.reverse (na - 1) nb := by
          rw [push1, ← drop1 a1 (by omega)]
          refine hm.pushA sa _ (by omega) fun x hx y hy => ?_
          rw [drop1 a1 (by omega)] at hy
          rw [List.mem_singleton.mp hy]
          obtain ⟨j, hj, hij, rfl⟩ := mem_take0 hx
          exact Int.le_trans (sb.le_of (show j ≤ nb - 1 by omega) hnb) (Int.le_of_lt hlt)
        by_cases c : (na - 1 == 0) = true
        · rw [if_pos c]
          exact wpS_pure ⟨rfl, .inl ⟨_, _, rfl, hdone hm' (by simpa using c)⟩⟩
        · rw [if_neg c]
          have c : na - 1 ≠ 0 := by simpa using c
          split
          · exact wpS_pure ⟨rfl, .inr ⟨_, _, _, _, _, rfl, hm', by omega, by omega, a3, a4, by omega⟩⟩
          · exact wpS_pure ⟨rfl, _, _, _, _, _, rfl, hm', by omega, by omega, a3, a4, by omega⟩
      · rw [decide_eq_false hlt, if_neg Bool.false_ne_true]
        refine wpS_bind (wpS_elem hnb ?_)
        have hm' : HI rk a.toList b.toList (out.push b[nb - 1]).toList.reverse na (nb - 1) := by
          rw [push1, ← drop1 (by omega) a4]
          refine hm.pushB sb _ (by omega) fun x hx y hy => ?_
          rw [drop1 (by omega) a4] at hy
          rw [List.mem_singleton.mp hy]
          obtain ⟨j, hj, hij, rfl⟩ := mem_take0 hx
          exact Int.le_trans (sa.le_of (show j ≤ na - 1 by omega) hna) (Int.not_lt.mp hlt)
        by_cases c : (nb - 1 == 1) = true
        · rw [if_pos c]
          exact wpS_pure ⟨rfl, .inl ⟨_, _, rfl, hfirst hm' (by simpa using c)⟩⟩
        · rw [if_neg c]
          have c : nb - 1 ≠ 1 := by simpa using c
          split
          · exact wpS_pure ⟨rfl, .inr ⟨_, _, _, _, _, rfl, hm', by omega, by omega, by omega, by omega, by omega⟩⟩
          · exact wpS_pure ⟨rfl, _, _, _, _, _, rfl, hm', by omega, by omega, by omega, by omega, by omega⟩
    case post1 =>
      rintro c st'' ⟨rfl, ⟨r, rest, rfl, hr⟩ | ⟨na, nb, out, ac, bc, rfl, hm, a1, a2, a3, a4, a5⟩⟩
      · exact wpS_pure ⟨hs', r, _, rfl, hr⟩
      dsimp only
      refine wpS_bind (wpS_lift (wpAny_rule ⟨rfl, ?_⟩))
      refine wpS_bind (wpS_mono (wpS_forRange (I := fun y c st'' => SameSt st st'' ∧ ∃ na nb out mg ac bc, c = (none, na, nb, out, mg, ac, bc) ∧ HI rk a.toList b.toList out.toList.reverse na nb ∧ 1 ≤ na ∧ na < a.size ∧ 2 ≤ nb ∧ nb ≤ b.size ∧ y + (x + 2) + na + nb ≤ a.size + b.size)
        (Q := fun c st'' => SameSt st st'' ∧ ((∃ r rest, c = (some r, rest) ∧ MR rk a.toList b.toList r.toList) ∨ ∃ na nb out mg ac bc, c = (none, na, nb, out, mg, ac, bc) ∧ HI rk a.toList b.toList out.toList.reverse na nb ∧ 1 ≤ na ∧ na < a.size ∧ 2 ≤ nb ∧ nb ≤ b.size ∧ x + 2 + na + nb ≤ a.size + b.size)) ?step2 ?fin2 ⟨hs', _, _, _, _, _, _, rfl, hm, a1, a2, a3, a4, by omega⟩) ?post2)
      case fin2 =>
        rintro c st'' ⟨_, na, nb, out, mg, ac, bc, rfl, hm, a1, a2, a3, a4, a5⟩
        exfalso
        omega
      case post2 =>
        rintro c st'' ⟨hs2, ⟨r, rest, rfl, hr⟩ | ⟨na, nb, out, mg, ac, bc, rfl, hm, a1, a2, a3, a4, a5⟩⟩
        · exact wpS_pure ⟨hs2, r, _, rfl, hr⟩
        · dsimp only
          exact wpS_bind (wpS_mg hs2 fun st3 hs3 => wpS_pure ⟨hs3, _, _, _, _, rfl, hm, a1, a2, a3, a4, by omega⟩)
      case step2 =>
        rintro y c st2 _ hy ⟨hs2, na, nb, out, mg, ac, bc, rfl, hm, a1, a2, a3, a4, a5⟩
        dsimp only
        have hnb : nb - 1 < b.size := by omega
        by_cases hg : mg > 1
        rw [if_pos hg]
        rotate_left
        rw [if_neg hg]
        all_goals
          refine wpS_bind (wpS_mg hs2 fun st3 hs3 => ?_)
          refine wpS_bind (wpS_elem hnb ?_)
          refine wpS_bind (wpS_gallop hA (hs3.kind.trans hk) hSa (hSb _ (Array.getElem_mem _)) (by omega) (by omega) (sa.srtOn (by omega)) fun at_ hk1 hk2 hk3 => ?_)
          have hmo : HI rk a.toList b.toList ((a.toList.take na).drop at_ ++ out.toList.reverse) at_ nb := hm.pushA sa at_ hk1 fun x hx y hy => by
            obtain ⟨j, hj, hij, hjk, rfl⟩ := mem_mid hy
            obtain ⟨j', hj', hij', rfl⟩ := mem_take0 hx
            exact Int.le_trans (sb.le_of (show j' ≤ nb - 1 by omega) hnb) (bey_f (base := 0) hj (by omega) (hk3 (j - 0) (by omega) (by omega)))
          have hm2 : ∀ x ∈ a.toList.take at_, ∀ y ∈ (b.toList.take nb).drop (nb - 1), rk x ≤ rk y := fun x hx y hy => by
            rw [drop1 (by omega) a4] at hy
            rw [List.mem_singleton.mp hy]
            obtain ⟨j, hj, hij, rfl⟩ := mem_take0 hx
            exact bey_t (base := 0) hj (by omega) (hk2 (j - 0) (by omega))
          clear hk2 hk3
          dsimp only
          rcases Nat.eq_or_lt_of_le hk1 with hk0 | hk0
          rw [if_neg (by omega)]
          subst hk0
          rw [show (a.toList.take at_).drop at_ = [] by rw [List.drop_take, Nat.sub_self, List.take_zero], List.nil_append] at hmo
          obtain ⟨o, rfl⟩ : ∃ o, o = out := ⟨_, rfl⟩
          obtain ⟨ja, rfl⟩ : ∃ ja, ja = at_ := ⟨_, rfl⟩
          have hja := a1
          have hjb := a5
          have hjc := a2
          rotate_left
          rw [if_pos (by omega)]
          rw [← ext_mid, ← pushk] at hmo
          by_cases c3 : (at_ == 0) = true
          · rw [if_pos c3]
            exact wpS_pure ⟨hs3, .inl ⟨_, _, rfl, hdone hmo (by simpa using c3)⟩⟩
          rw [if_neg c3]
          have hja : 1 ≤ at_ := by
            have : at_ ≠ 0 := by simpa using c3
            omega
          have hjb : y + (x + 2) + at_ + nb ≤ a.size + b.size := by omega
          have hjc : at_ < a.size := by omega
          generalize out ++ (a.extract at_ na).reverse = o at hmo ⊢
          obtain ⟨ja, rfl⟩ : ∃ ja, ja = at_ := ⟨_, rfl⟩
          all_goals
            have hm3 : HI rk a.toList b.toList (o.push b[nb - 1]).toList.reverse ja (nb - 1) := by
              rw [push1, ← drop1 (by omega) a4]
              exact hmo.pushB sb _ (by omega) hm2
            refine wpS_bind (wpS_elem hnb ?_)
            by_cases c : (nb - 1 == 1) = true
            · rw [if_pos c]
              exact wpS_pure ⟨hs3, .inl ⟨_, _, rfl, hfirst hm3 (by simpa using c)⟩⟩
            rw [if_neg c]
            have c : nb - 1 ≠ 1 := by simpa using c
            have hja1 : ja - 1 < a.size := by omega
            refine wpS_bind (wpS_elem hja1 ?_)
            refine wpS_bind (wpS_gallop hA (hs3.kind.trans hk) hSb (hSa _ (Array.getElem_mem _)) (by omega) (by omega) (sb.srtOn (by omega)) fun at2 hk1' hk2' hk3' => ?_)
            have hat2 : 1 ≤ at2 := by
              rcases Nat.eq_zero_or_pos at2 with hh | hh
              · exfalso
                have e1 := bey_f (base := 0) (j := 0) h2 (by omega) (hk3' (0 - 0) (by omega) (by omega))
                have e2 := hb0 a[ja - 1] (Array.getElem_mem _)
                omega
              · exact hh
            have hm4 : HI rk a.toList b.toList ((b.toList.take (nb - 1)).drop at2 ++ (o.push b[nb - 1]).toList.reverse) ja at2 := hm3.pushB sb at2 hk1' fun x hx y hy => by
              obtain ⟨j, hj, hij, hjk, rfl⟩ := mem_mid hy
              obtain ⟨j', hj', hij', rfl⟩ := mem_take0 hx
              exact Int.le_trans (sa.le_of (show j' ≤ ja - 1 by omega) hja1) (bey_f (base := 0) hj (by omega) (hk3' (j - 0) (by omega) (by omega)))
            have fin : ∀ (o2 : Array Keyed), o2.toList.reverse = (b.toList.take (nb - 1)).drop at2 ++ (o.push b[nb - 1]).toList.reverse → HI rk a.toList b.toList (o2.push a[ja - 1]).toList.reverse (ja - 1) at2 := fun o2 ho2 => by
              rw [← ho2] at hm4
              rw [push1, ← drop1 hja (by omega)]
              refine hm4.pushA sa _ (by omega) fun x hx y hy => ?_
              rw [drop1 hja (by omega)] at hy
              rw [List.mem_singleton.mp hy]
              obtain ⟨j, hj, hij, rfl⟩ := mem_take0 hx
              exact bey_t (base := 0) hj (by omega) (hk2' (j - 0) (by omega))
            dsimp only
            rcases Nat.eq_or_lt_of_le hk1' with hk0' | hk0'
            · rw [if_neg (by omega)]
              refine wpS_bind (wpS_elem hja1 ?_)
              have hm5 := fin (o.push b[nb - 1]) (by rw [hk0', show (b.toList.take (nb - 1)).drop (nb - 1) = [] by rw [List.drop_take, Nat.sub_self, List.take_zero], List.nil_append])
              rw [hk0'] at hm5
              by_cases c4 : (ja - 1 == 0) = true
              · rw [if_pos c4]
                exact wpS_pure ⟨hs3, .inl ⟨_, _, rfl, hdone hm5 (by simpa using c4)⟩⟩
              rw [if_neg c4]
              have c4 : ja - 1 ≠ 0 := by simpa using c4
              split
              · exact wpS_pure ⟨hs3, .inr ⟨_, _, _, _, _, _, rfl, hm5, by omega, by omega, by omega, by omega, by omega⟩⟩
              · exact wpS_pure ⟨hs3, _, _, _, _, _, _, rfl, hm5, by omega, by omega, by omega, by omega, by omega⟩
            · rw [if_pos (by omega)]
              rw [← ext_mid, ← pushk] at hm4 fin
              by_cases c5 : (at2 == 1) = true
              · rw [if_pos c5]
                exact wpS_pure ⟨hs3, .inl ⟨_, _, rfl, hfirst hm4 (by simpa using c5)⟩⟩
              rw [if_neg c5]
              have c5 : at2 ≠ 1 := by simpa using c5
              rw [if_neg (by simp; omega)]
              refine wpS_bind (wpS_elem hja1 ?_)
              have hm5 := fin _ rfl
              by_cases c4 : (ja - 1 == 0) = true
              · rw [if_pos c4]
                exact wpS_pure ⟨hs3, .inl ⟨_, _, rfl, hdone hm5 (by simpa using c4)⟩⟩
              rw [if_neg c4]
              have c4 : ja - 1 ≠ 0 := by simpa using c4
              split
              · exact wpS_pure ⟨hs3, .inr ⟨_, _, _, _, _, _, rfl, hm5, by omega, by omega, by omega, by omega, by omega⟩⟩
              · exact wpS_pure ⟨hs3, _, _, _, _, _, _, rfl, hm5, by omega, by omega, by omega, by omega, by omega⟩
end
end PyProof.Rows.Ts
namespace PyProof.Rows.Ts
open PySem PyProof.Rows
section
variable {prog : Program} {w : World} {A : Around} {E : Value → Shared → Prop} {s : Shared} {κ : SortKind} {rk : Keyed → Int} {a₀ : Array Keyed}
structure SB (κ : SortKind) (a₀ : Array Keyed) (st : SortSt) : Prop where
  perm : (arrOf st).Perm a₀
  kind : kindOf st = κ
  failed : failedOf st = none
theorem SB.size {st : SortSt} (h : SB κ a₀ st) : (arrOf st).size = a₀.size := h.perm.size_eq
theorem SB.mem {st : SortSt} (h : SB κ a₀ st) : ∀ x ∈ arrOf st, x ∈ a₀ := fun x hx => by
  have := (Array.perm_iff_toList_perm.mp h.perm).mem_iff (a := x)
  exact Array.mem_toList_iff.mp (this.mp (Array.mem_toList_iff.mpr hx))
theorem SB.setArr {st : SortSt} (h : SB κ a₀ st) {xs : Array Keyed} (hp : xs.Perm (arrOf st)) : SB κ a₀ (setArr st xs) := ⟨hp.trans h.perm, h.kind, h.failed⟩
theorem wpS_ltx {st : SortSt} {i j : Nat} {Q : Option Bool → SortSt → Prop} (hA : Ask prog w A E s κ (· ∈ a₀) rk) (hB : SB κ a₀ st) (hi : i < a₀.size) (hj : j < a₀.size)
    (h : Q (some (decide (Kx rk (arrOf st) i < Kx rk (arrOf st) j))) st) : wpS (model prog w) A E s (ltAt' i j) Q st := by
  have hi' : i < (arrOf st).size := by rw [hB.size]; exact hi
  have hj' : j < (arrOf st).size := by rw [hB.size]; exact hj
  rw [Kx_at hi', Kx_at hj'] at h
  rw [ltAt'_eq]
  refine wpS_bind (wpS_get ?_)
  refine wpS_bind (wpS_elem hi' (wpS_bind (wpS_elem hj' ?_)))
  exact hA _ _ _ _ (hB.mem _ (Array.getElem_mem _)) (hB.mem _ (Array.getElem_mem _)) hB.kind h
theorem wpS_rev {st : SortSt} {i j : Nat} {Q : Unit → SortSt → Prop} (h : Q () (setArr st (mirror (arrOf st) i j ((j - i) / 2)))) :
    wpS (model prog w) A E s (reverseSlice' i j) Q st := by
  rw [reverseSlice'_eq]; exact wpS_modify h
theorem Kx_bubble {xs : Array Keyed} {src d : Nat} (hs : src < xs.size) (hd : d ≤ src) (k : Nat) :
    Kx rk (bubble xs src d) k = if k = src - d then Kx rk xs src else if src - d < k ∧ k ≤ src then Kx rk xs (k - 1) else Kx rk xs k := by
  have e := getElem?_bubble hs d hd k
  by_cases h1 : k = src - d
  · rw [if_pos h1] at e ⊢; exact Kx_congr e
  · rw [if_neg h1] at e ⊢
    by_cases h2 : src - d < k ∧ k ≤ src
    · rw [if_pos h2] at e ⊢; exact Kx_congr e
    · rw [if_neg h2] at e ⊢; exact Kx_congr e
theorem Kx_mirror {xs : Array Keyed} {i j : Nat} (hj : j ≤ xs.size) (k : Nat) :
    Kx rk (mirror xs i j ((j - i) / 2)) k = if i ≤ k ∧ k < j then Kx rk xs (i + j - 1 - k) else Kx rk xs k := by
  have e := getElem?_mirror_all (i := i) hj k
  by_cases h1 : i ≤ k ∧ k < j
  · rw [if_pos h1] at e ⊢; exact Kx_congr e
  · rw [if_neg h1] at e ⊢; exact Kx_congr e
theorem Kx_mirror_eq {xs : Array Keyed} {i j : Nat} (hj : j ≤ xs.size) (heq : ∀ k, i ≤ k → k < j → Kx rk xs k = Kx rk xs (j - 1)) (k : Nat) :
    Kx rk (mirror xs i j ((j - i) / 2)) k = Kx rk xs k := by
  rw [Kx_mirror hj]
  split
  · rw [heq _ (by omega) (by omega), heq k (by omega) (by omega)]
  · rfl
/-- what lies ahead keeps its ranks, and so does the row of runs -/
def Ahd (rk : Keyed → Int) (lo : Nat) (st st' : SortSt) : Prop := (∀ i, i < lo → Kx rk (arrOf st') i = Kx rk (arrOf st) i) ∧ pendingOf st' = pendingOf st
theorem Ahd.refl {lo : Nat} {st : SortSt} : Ahd rk lo st st := ⟨fun _ _ => rfl, rfl⟩
theorem Ahd.trans {lo : Nat} {st st' st'' : SortSt} (h : Ahd rk lo st st') (h' : Ahd rk lo st' st'') : Ahd rk lo st st'' := ⟨fun i hi => (h'.1 i hi).trans (h.1 i hi), h'.2.trans h.2⟩
def Non (rk : Keyed → Int) (xs : Array Keyed) (lo n : Nat) : Prop := ∀ i j, lo ≤ i → i ≤ j → j < lo + n → Kx rk xs j ≤ Kx rk xs i

theorem wpS_binary {st : SortSt} {lo n ok : Nat} {Q : Bool → SortSt → Prop} (hA : Ask prog w A E s κ (· ∈ a₀) rk) (hn : lo + n ≤ a₀.size) (hok : ok ≤ n) (hB : SB κ a₀ st) (hs : SrtOn rk (arrOf st) lo ok)
    (h : ∀ st', SB κ a₀ st' → Ahd rk lo st st' → SrtOn rk (arrOf st') lo n → Q true st') : wpS (model prog w) A E s (binarySort' lo n ok) Q st := by
  refine wpS_bind (wpS_mono (wpS_forRange (I := fun k c st' => c = (none, ()) ∧ SB κ a₀ st' ∧ Ahd rk lo st st' ∧ SrtOn rk (arrOf st') lo (min k n))
    (Q := fun c st' => c = (none, ()) ∧ SB κ a₀ st' ∧ Ahd rk lo st st' ∧ SrtOn rk (arrOf st') lo n) ?step ?fin ?init) ?post)
  case post =>
    rintro c st' ⟨rfl, hB', ha', hs'⟩
    exact wpS_pure (h st' hB' ha' hs')
  case init =>
    refine ⟨rfl, hB, .refl, fun i j hi hij hj => ?_⟩
    by_cases h1 : ok = 0
    · have : i = j := by omega
      subst this; exact Int.le_refl _
    · exact hs i j hi hij (by omega)
  case fin =>
    rintro c st' ⟨hc, hB', ha', hs'⟩
    refine ⟨hc, hB', ha', ?_⟩
    rwa [show min (max (max ok 1) n) n = n by omega] at hs'
  case step =>
    rintro k c st' hak hkn ⟨rfl, hB', ha', hs'⟩
    rw [show min k n = k by omega] at hs'
    have hk : lo + k < a₀.size := by omega
    refine wpS_bind (wpS_mono (wpS_forRange (I := fun x c st'' => st'' = st' ∧ ∃ l r, c = (none, l, r) ∧ l ≤ r ∧ r ≤ k ∧ r - l ≤ k - x ∧
        (∀ i, i < l → Kx rk (arrOf st') (lo + i) ≤ Kx rk (arrOf st') (lo + k)) ∧ (∀ i, r ≤ i → i < k → Kx rk (arrOf st') (lo + k) < Kx rk (arrOf st') (lo + i)))
      (Q := fun c st'' => st'' = st' ∧ ∃ l r, c = (none, l, r) ∧ l ≤ k ∧
        (∀ i, i < l → Kx rk (arrOf st') (lo + i) ≤ Kx rk (arrOf st') (lo + k)) ∧ (∀ i, l ≤ i → i < k → Kx rk (arrOf st') (lo + k) < Kx rk (arrOf st') (lo + i))) ?istep ?ifin ?iinit) ?ipost)
    case iinit => exact ⟨rfl, 0, k, rfl, by omega, by omega, by omega, fun i hi => by omega, fun i h1 h2 => by omega⟩
    case ifin =>
      rintro c st'' ⟨rfl, l, r, rfl, hlr, hrk, hm, hlo, hhi⟩
      have : l = r := by omega
      subst this
      exact ⟨rfl, l, l, rfl, hrk, hlo, hhi⟩
    case istep =>
      rintro x c st'' _ hxk ⟨rfl, l, r, rfl, hlr, hrk, hm, hlo, hhi⟩
      dsimp only
      by_cases hge : l ≥ r
      · rw [if_pos hge]
        have : l = r := by omega
        subst this
        exact wpS_pure ⟨rfl, l, l, rfl, hrk, hlo, hhi⟩
      · rw [if_neg hge]
        refine wpS_bind (wpS_ltx hA hB' hk (by omega) ?_)
        by_cases hless : Kx rk (arrOf st'') (lo + k) < Kx rk (arrOf st'') (lo + (l + r) / 2)
        · simp only [hless, decide_true, if_true]
          refine wpS_pure ⟨rfl, l, (l + r) / 2, rfl, by omega, by omega, by omega, hlo, fun i h1 h2 => ?_⟩
          exact Int.lt_of_lt_of_le hless (hs' _ _ (by omega) (by omega) (by omega))
        · simp only [hless, decide_false, Bool.false_eq_true, if_false]
          refine wpS_pure ⟨rfl, (l + r) / 2 + 1, r, rfl, by omega, by omega, by omega, fun i h1 => ?_, hhi⟩
          exact Int.le_trans (hs' (lo + i) (lo + (l + r) / 2) (by omega) (by omega) (by omega)) (Int.not_lt.mp hless)
    case ipost =>
      rintro c st'' ⟨rfl, l, r, rfl, hlk, hlo, hhi⟩
      show wpS _ _ _ _ (do moveDown' (lo + k) (lo + l); pure (ForInStep.yield (none, ()))) _ _
      rw [moveDown'_eq]
      have hks : lo + k < (arrOf st'').size := by rw [hB'.size]; exact hk
      refine wpS_bind (wpS_modify (wpS_pure ⟨rfl, hB'.setArr (bubble_perm _ _ _), ha'.trans ⟨fun i hi => ?_, rfl⟩, ?_⟩))
      · show Kx rk (bubble (arrOf st'') (lo + k) (lo + k - (lo + l))) i = _
        rw [Kx_bubble hks (by omega), if_neg (by omega), if_neg (by omega)]
      rw [show min (k + 1) n = k + 1 by omega]
      intro i j hi hij hj
      show Kx rk (bubble (arrOf st'') (lo + k) (lo + k - (lo + l))) i ≤ Kx rk (bubble (arrOf st'') (lo + k) (lo + k - (lo + l))) j
      rw [Kx_bubble hks (by omega), Kx_bubble hks (by omega), show lo + k - (lo + k - (lo + l)) = lo + l by omega]
      have hlo' : ∀ i, lo ≤ i → i < lo + l → Kx rk (arrOf st'') i ≤ Kx rk (arrOf st'') (lo + k) := fun i h1 h2 => by
        have := hlo (i - lo) (by omega)
        rwa [show lo + (i - lo) = i by omega] at this
      have hhi' : ∀ i, lo + l ≤ i → i < lo + k → Kx rk (arrOf st'') (lo + k) < Kx rk (arrOf st'') i := fun i h1 h2 => by
        have := hhi (i - lo) (by omega) (by omega)
        rwa [show lo + (i - lo) = i by omega] at this
      repeat' split
      all_goals first
        | (exfalso; omega)
        | exact Int.le_refl _
        | exact hlo' _ (by omega) (by omega)
        | exact Int.le_of_lt (hhi' _ (by omega) (by omega))
        | exact hs' _ _ (by omega) (by omega) (by omega)

theorem wpS_count {st : SortSt} {lo nrem : Nat} {Q : Option Nat → SortSt → Prop} (hA : Ask prog w A E s κ (· ∈ a₀) rk) (hn : lo + nrem ≤ a₀.size) (h1 : 1 ≤ nrem) (hB : SB κ a₀ st)
    (h : ∀ m st', SB κ a₀ st' → Ahd rk lo st st' → 1 ≤ m → m ≤ nrem → SrtOn rk (arrOf st') lo m → Q (some m) st') :
    wpS (model prog w) A E s (countRun' lo nrem) Q st := by
  have asc : ∀ {st1 : SortSt} {a : Nat} {R : Option (Option Nat) × Nat → SortSt → Prop} {f : Nat → Option (Option Nat) × Nat → StateT SortSt Sem (ForInStep (Option (Option Nat) × Nat))},
      (∀ x n st2 (T : ForInStep (Option (Option Nat) × Nat) → SortSt → Prop), wpS (model prog w) A E s (ltAt' (lo + n) (lo + n - 1)) (fun r st3 => ∃ b, r = some b ∧ T (if b = true then ForInStep.done (none, n) else ForInStep.yield (none, n + 1)) st3) st2 → wpS (model prog w) A E s (f x (none, n)) T st2) →
      SB κ a₀ st1 → 1 ≤ a → a ≤ nrem → SrtOn rk (arrOf st1) lo a →
      (∀ n, a ≤ n → n ≤ nrem → SrtOn rk (arrOf st1) lo n → (n = nrem ∨ Kx rk (arrOf st1) (lo + n) < Kx rk (arrOf st1) (lo + n - 1)) → R (none, n) st1) →
      wpS (model prog w) A E s (forIn [a:nrem] ((none, a) : Option (Option Nat) × Nat) f) R st1 := by
    intro st1 a R f hf hB1 ha han hs hR
    refine wpS_forRange (I := fun x c st' => st' = st1 ∧ c = (none, x) ∧ SrtOn rk (arrOf st1) lo x) ?step ?fin ⟨rfl, rfl, hs⟩
    case fin =>
      rintro c st' ⟨rfl, rfl, hs'⟩
      rw [show max a nrem = nrem by omega] at hs' ⊢
      exact hR nrem han (Nat.le_refl _) hs' (.inl rfl)
    case step =>
      rintro x c st' hax hxn ⟨rfl, rfl, hs'⟩
      refine hf _ _ _ _ (wpS_ltx hA hB1 (by omega) (by omega) ?_)
      refine ⟨_, rfl, ?_⟩
      by_cases hless : Kx rk (arrOf st') (lo + x) < Kx rk (arrOf st') (lo + x - 1)
      · rw [decide_eq_true hless, if_pos rfl]
        exact hR x hax (by omega) hs' (.inr hless)
      · rw [decide_eq_false hless, if_neg Bool.false_ne_true]
        refine ⟨rfl, rfl, fun i j hi hij hj => ?_⟩
        by_cases hjx : j < lo + x
        · exact hs' i j hi hij hjx
        · have hj' : j = lo + x := by omega
          subst hj'
          by_cases hi' : i = lo + x
          · subst hi'; exact Int.le_refl _
          · exact Int.le_trans (hs' i (lo + x - 1) hi (by omega) (by omega)) (Int.not_lt.mp hless)
  refine wpS_bind (asc (fun x n st2 T hT => wpS_bind (wpS_mono hT fun r st3 hb => ?_)) hB (Nat.le_refl 1) h1 (fun i j hi hij hj => by have : i = j := by omega
                                                                                                                                      subst this; exact Int.le_refl _) fun n hn1 hn2 hsn hor => ?_)
  · obtain ⟨b, rfl, hb⟩ := hb
    cases b with
    | true => exact wpS_pure hb
    | false => exact wpS_pure hb
  dsimp only
  by_cases hnn : (n == nrem) = true
  · rw [if_pos hnn]
    exact wpS_pure (h n st hB .refl hn1 hn2 hsn)
  rw [if_neg hnn]
  have hnn : n ≠ nrem := by simpa using hnn
  have hlt : Kx rk (arrOf st) (lo + n) < Kx rk (arrOf st) (lo + n - 1) := hor.resolve_left hnn
  have hsz : lo + n ≤ (arrOf st).size := by rw [hB.size]; omega
  -- both ways lead to a run that does not rise
  by_cases hgt : n > 1
  rw [if_pos hgt]
  refine wpS_bind (wpS_ltx hA hB (by omega) (by omega) ?_)
  dsimp only
  by_cases hrose : Kx rk (arrOf st) lo < Kx rk (arrOf st) (lo + n - 1)
  · rw [decide_eq_true hrose, if_pos rfl]
    exact wpS_pure (h n st hB .refl hn1 hn2 hsn)
  rw [decide_eq_false hrose, if_neg Bool.false_ne_true]
  have hall : ∀ k, lo ≤ k → k < lo + n → Kx rk (arrOf st) k = Kx rk (arrOf st) (lo + n - 1) := by
    intro k hk0 hk
    have a1 := hsn lo k (Nat.le_refl _) (by omega) hk
    have a2 := hsn k (lo + n - 1) (by omega) (by omega) (by omega)
    omega
  refine wpS_bind (wpS_rev ?_)
  have hB1 : SB κ a₀ (setArr st (mirror (arrOf st) lo (lo + n) ((lo + n - lo) / 2))) := hB.setArr (mirror_perm _ _ _ _)
  have hA1 : Ahd rk lo st (setArr st (mirror (arrOf st) lo (lo + n) ((lo + n - lo) / 2))) := ⟨fun i _ => Kx_mirror_eq hsz hall i, rfl⟩
  have hN1 : Non rk (arrOf (setArr st (mirror (arrOf st) lo (lo + n) ((lo + n - lo) / 2)))) lo (n + 1) := by
    intro i j hi hij hj
    show Kx rk (mirror (arrOf st) _ _ _) j ≤ Kx rk (mirror (arrOf st) _ _ _) i
    rw [Kx_mirror_eq hsz hall, Kx_mirror_eq hsz hall]
    by_cases hjn : j < lo + n
    · rw [hall i (by omega) (by omega), hall j (by omega) hjn]; exact Int.le_refl _
    · have hj' : j = lo + n := by omega
      subst hj'
      by_cases hi' : i = lo + n
      · subst hi'; exact Int.le_refl _
      · rw [hall i (by omega) (by omega)]; exact Int.le_of_lt hlt
  generalize setArr st (mirror (arrOf st) lo (lo + n) ((lo + n - lo) / 2)) = st1 at hB1 hA1 hN1 ⊢
  rotate_left
  rw [if_neg hgt]
  have hB1 := hB
  have hA1 : Ahd rk lo st st := .refl
  have hN1 : Non rk (arrOf st) lo (n + 1) := by
    intro i j hi hij hj
    by_cases hi' : i = j
    · subst hi'; exact Int.le_refl _
    · have hn' : n = 1 := by omega
      subst hn'
      have hi0 : i = lo := by omega
      have hj1 : j = lo + 1 := by omega
      subst hi0; subst hj1
      exact Int.le_of_lt hlt
  generalize hst1 : st = st1 at hB1 hA1 hN1 ⊢
  replace hA1 : Ahd rk lo st st1 := by rw [hst1]; exact .refl
  clear hst1
  all_goals
    refine wpS_bind (wpS_lift (wpAny_rule ⟨rfl, ?_⟩))
    refine wpS_bind (wpS_mono (wpS_forRange (I := fun x c st' => ∃ neq, c = (none, x, neq) ∧ SB κ a₀ st' ∧ Ahd rk lo st st' ∧ Non rk (arrOf st') lo x ∧ neq + 1 ≤ x ∧ (∀ i, lo + x - (neq + 1) ≤ i → i < lo + x → Kx rk (arrOf st') i = Kx rk (arrOf st') (lo + x - 1)))
      (Q := fun c st' => ∃ m neq, c = (none, m, neq) ∧ 1 ≤ m ∧ m ≤ nrem ∧ SB κ a₀ st' ∧ Ahd rk lo st st' ∧ Non rk (arrOf st') lo m ∧ neq + 1 ≤ m ∧ (∀ i, lo + m - (neq + 1) ≤ i → i < lo + m → Kx rk (arrOf st') i = Kx rk (arrOf st') (lo + m - 1))) ?step ?fin ⟨0, rfl, hB1, hA1, hN1, by omega, fun i h1 h2 => by congr 1; omega⟩) ?post)
    case fin =>
      rintro c st' ⟨neq, rfl, hB', ha', hs', hq, he⟩
      rw [show max (n + 1) nrem = nrem by omega] at hs' hq he ⊢
      exact ⟨nrem, neq, rfl, h1, Nat.le_refl _, hB', ha', hs', hq, he⟩
    case step =>
      rintro x c st' hax hxn ⟨neq, rfl, hB', ha', hs', hq, he⟩
      dsimp only
      have hsz : lo + x ≤ (arrOf st').size := by rw [hB'.size]; omega
      refine wpS_bind (wpS_ltx hA hB' (by omega) (by omega) ?_)
      dsimp only
      by_cases hless : Kx rk (arrOf st') (lo + x) < Kx rk (arrOf st') (lo + x - 1)
      · rw [decide_eq_true hless, if_pos rfl]
        have step1 : ∀ xs : Array Keyed, (∀ k, Kx rk xs k = Kx rk (arrOf st') k) → Non rk xs lo (x + 1) := by
          intro xs hk i j hi hij hj
          rw [hk, hk]
          by_cases hjx : j < lo + x
          · exact hs' i j hi hij hjx
          · have hj' : j = lo + x := by omega
            subst hj'
            by_cases hi' : i = lo + x
            · subst hi'; exact Int.le_refl _
            · exact Int.le_trans (Int.le_of_lt hless) (hs' i (lo + x - 1) hi (by omega) (by omega))
        by_cases hneq : neq > 0
        · rw [if_pos hneq]
          refine wpS_bind (wpS_rev (wpS_pure ⟨0, rfl, hB'.setArr (mirror_perm _ _ _ _), ha'.trans ⟨fun i _ => Kx_mirror_eq hsz he i, rfl⟩, step1 _ (Kx_mirror_eq hsz he), by omega, fun i h1 h2 => by congr 1; omega⟩))
        · rw [if_neg hneq]
          exact wpS_pure ⟨0, rfl, hB', ha', step1 _ (fun _ => rfl), by omega, fun i h1 h2 => by congr 1; omega⟩
      · rw [decide_eq_false hless, if_neg Bool.false_ne_true]
        refine wpS_bind (wpS_ltx hA hB' (by omega) (by omega) ?_)
        dsimp only
        by_cases hlarger : Kx rk (arrOf st') (lo + x - 1) < Kx rk (arrOf st') (lo + x)
        · rw [decide_eq_true hlarger, if_pos rfl]
          exact wpS_pure ⟨x, neq, rfl, by omega, by omega, hB', ha', hs', hq, he⟩
        · rw [decide_eq_false hlarger, if_neg Bool.false_ne_true]
          have heqx : Kx rk (arrOf st') (lo + x) = Kx rk (arrOf st') (lo + x - 1) := by omega
          refine wpS_pure ⟨neq + 1, rfl, hB', ha', fun i j hi hij hj => ?_, by omega, fun i h1 h2 => ?_⟩
          · by_cases hjx : j < lo + x
            · exact hs' i j hi hij hjx
            · have hj' : j = lo + x := by omega
              subst hj'
              by_cases hi' : i = lo + x
              · subst hi'; exact Int.le_refl _
              · rw [heqx]; exact hs' i (lo + x - 1) hi (by omega) (by omega)
          · rw [show lo + (x + 1) - 1 = lo + x by omega]
            by_cases hix : i = lo + x
            · subst hix; rfl
            · rw [heqx]; exact he i (by omega) (by omega)
    case post =>
      rintro c st' ⟨m, neq, rfl, hm1, hm2, hB', ha', hs', hq, he⟩
      dsimp only
      have hsz : lo + m ≤ (arrOf st').size := by rw [hB'.size]; omega
      by_cases hneq : neq > 0
      rw [if_pos hneq]
      refine wpS_bind (wpS_rev ?_)
      have hB2 : SB κ a₀ (setArr st' (mirror (arrOf st') (lo + m - (neq + 1)) (lo + m) ((lo + m - (lo + m - (neq + 1))) / 2))) := hB'.setArr (mirror_perm _ _ _ _)
      have hA2 : Ahd rk lo st (setArr st' (mirror (arrOf st') (lo + m - (neq + 1)) (lo + m) ((lo + m - (lo + m - (neq + 1))) / 2))) := ha'.trans ⟨fun i _ => Kx_mirror_eq hsz he i, rfl⟩
      have hN2 : Non rk (arrOf (setArr st' (mirror (arrOf st') (lo + m - (neq + 1)) (lo + m) ((lo + m - (lo + m - (neq + 1))) / 2)))) lo m := by
        intro i j hi hij hj
        show Kx rk (mirror (arrOf st') _ _ _) j ≤ Kx rk (mirror (arrOf st') _ _ _) i
        rw [Kx_mirror_eq hsz he, Kx_mirror_eq hsz he]
        exact hs' i j hi hij hj
      generalize setArr st' (mirror (arrOf st') (lo + m - (neq + 1)) (lo + m) ((lo + m - (lo + m - (neq + 1))) / 2)) = st2 at hB2 hA2 hN2 ⊢
      rotate_left
      rw [if_neg hneq]
      have hB2 := hB'
      have hA2 := ha'
      have hN2 := hs'
      clear he hs' ha' hB'
      obtain ⟨st2, rfl⟩ : ∃ st2, st2 = st' := ⟨_, rfl⟩
      all_goals
        have hsz2 : lo + m ≤ (arrOf st2).size := by rw [hB2.size]; omega
        refine wpS_bind (wpS_rev ?_)
        have hB3 : SB κ a₀ (setArr st2 (mirror (arrOf st2) lo (lo + m) ((lo + m - lo) / 2))) := hB2.setArr (mirror_perm _ _ _ _)
        refine wpS_bind (asc (fun x n st2 T hT => wpS_bind (wpS_mono hT fun r st3 hb => ?_)) hB3 hm1 hm2 ?_ fun m' hm1' hm2' hsm _ => wpS_pure (h m' _ hB3 (hA2.trans ⟨fun i hi => ?_, rfl⟩) (by omega) hm2' hsm))
        · obtain ⟨b, rfl, hb⟩ := hb
          cases b with
          | true => exact wpS_pure hb
          | false => exact wpS_pure hb
        · intro i j hi hij hj
          show Kx rk (mirror (arrOf st2) lo (lo + m) ((lo + m - lo) / 2)) i ≤ Kx rk (mirror (arrOf st2) lo (lo + m) ((lo + m - lo) / 2)) j
          rw [Kx_mirror hsz2, Kx_mirror hsz2, if_pos (by omega), if_pos (by omega)]
          exact hN2 _ _ (by omega) (by omega) (by omega)
        · show Kx rk (mirror (arrOf st2) lo (lo + m) ((lo + m - lo) / 2)) i = _
          rw [Kx_mirror hsz2, if_neg (by omega)]
end
end PyProof.Rows.Ts
namespace PyProof.Rows.Ts
open PySem PyProof.Rows
section
variable {prog : Program} {w : World} {A : Around} {E : Value → Shared → Prop} {s : Shared} {κ : SortKind} {rk : Keyed → Int} {a₀ : Array Keyed}
theorem fold_set (b : Nat) : ∀ (M : List Keyed) (k : Nat) (arr : Array Keyed), b + k + M.length ≤ arr.size → ((M.zipIdx k).foldl (fun (a : Array Keyed) (x : Keyed × Nat) => match x with | (p, j) => a.setIfInBounds (b + j) p) arr).toList = arr.toList.take (b + k) ++ M ++ arr.toList.drop (b + k + M.length)
  | [], k, arr, h => by simp
  | m :: M, k, arr, h => by
    rw [List.length_cons] at h
    rw [List.zipIdx_cons, List.foldl_cons]
    have ih := fold_set b M (k + 1) (arr.setIfInBounds (b + k) m) (by rw [Array.size_setIfInBounds]; omega)
    refine ih.trans ?_
    rw [Array.toList_setIfInBounds]
    have hl : arr.toList.length = arr.size := by simp
    rw [show b + (k + 1) = b + k + 1 by omega]
    have e1 : (arr.toList.set (b + k) m).take (b + k + 1) = arr.toList.take (b + k) ++ [m] := by
      rw [List.take_succ, List.take_set_of_le (Nat.le_refl _), List.getElem?_set_self (by omega)]
      rfl
    have e2 : (arr.toList.set (b + k) m).drop (b + k + 1 + M.length) = arr.toList.drop (b + k + (m :: M).length) := by
      rw [List.drop_set_of_lt (by omega), List.length_cons]
      congr 1
      omega
    rw [e1, e2]
    simp
theorem mem_Kx {xs : Array Keyed} {lo hi : Nat} {m : Keyed} (h : m ∈ (xs.extract lo hi).toList) : ∃ t, lo ≤ t ∧ t < hi ∧ t < xs.size ∧ rk m = Kx rk xs t := by
  rw [ext_mid] at h
  obtain ⟨j, hj, h1, h2, rfl⟩ := mem_mid h
  exact ⟨j, h1, h2, hj, (Kx_at hj).symm⟩
theorem sd_ext {xs : Array Keyed} {lo n hi : Nat} (h : SrtOn rk xs lo n) (hn : lo + n ≤ xs.size) {i : Nat} (hi1 : lo ≤ i) (hi2 : hi ≤ lo + n) : Sd rk (xs.extract i hi).toList := by
  refine List.pairwise_iff_getElem.mpr fun p q hp hq hpq => ?_
  have hp' : p < (xs.extract i hi).size := by rw [← Array.length_toList]; exact hp
  have hq' : q < (xs.extract i hi).size := by rw [← Array.length_toList]; exact hq
  rw [Array.size_extract] at hp' hq'
  have := h (i + p) (i + q) (by omega) (by omega) (by omega)
  rw [Kx_at (by omega), Kx_at (by omega)] at this
  simpa using this
theorem wpS_mergeAt {st : SortSt} {i : Nat} {pre post : List (Nat × Nat × Nat)} {sa na pa sb nb pb : Nat} {Q : Bool → SortSt → Prop} (hA : Ask prog w A E s κ (· ∈ a₀) rk) (hB : SB κ a₀ st)
    (hp : (pendingOf st).toList = pre ++ (sa, na, pa) :: (sb, nb, pb) :: post) (hi : i = pre.length) (hsb : sb = sa + na) (hna : 1 ≤ na) (hnb : 1 ≤ nb) (hend : sb + nb ≤ a₀.size) (sA : SrtOn rk (arrOf st) sa na) (sB : SrtOn rk (arrOf st) sb nb)
    (h : ∀ st', SB κ a₀ st' → (pendingOf st').toList = pre ++ (sa, na + nb, pa) :: post → (∀ j, j < sa ∨ sb + nb ≤ j → Kx rk (arrOf st') j = Kx rk (arrOf st) j) → SrtOn rk (arrOf st') sa (na + nb) → Q true st') :
    wpS (model prog w) A E s (mergeAt' i) Q st := by
  have e0 : (pendingOf st)[i]? = some (sa, na, pa) := by rw [← Array.getElem?_toList, hp, hi]; simp
  have e1 : (pendingOf st)[i + 1]? = some (sb, nb, pb) := by rw [← Array.getElem?_toList, hp, hi]; simp
  have hsz := hB.size
  refine wpS_bind (wpS_get ?_)
  rw [e0, e1]
  dsimp only
  refine wpS_bind (wpS_set ?_)
  have hP : (((pendingOf st).setIfInBounds i (sa, na + nb, pa)).eraseIdxIfInBounds (i + 1)).toList = pre ++ (sa, na + nb, pa) :: post := by
    rw [Array.toList_eraseIdxIfInBounds, Array.toList_setIfInBounds, hp, hi]
    simp [List.eraseIdx_append]
    intro hh
    omega
  generalize (((pendingOf st).setIfInBounds i (sa, na + nb, pa)).eraseIdxIfInBounds (i + 1)) = P at hP ⊢
  refine wpS_bind (wpS_elem (show sb < (arrOf st).size by omega) ?_)
  refine wpS_bind (wpS_gallop (arr := arrOf st) hA hB.kind hB.mem (hB.mem _ (Array.getElem_mem _)) (show 0 < na by omega) (by omega) sA fun k hk1 hk2 hk3 => ?_)
  dsimp only
  have kb : ∀ j, sb ≤ j → j < sb + nb → Kx rk (arrOf st) sb ≤ Kx rk (arrOf st) j := fun j h1 h2 => sB sb j (Nat.le_refl _) h1 h2
  have ka : ∀ j, sa ≤ j → j < sa + na → Kx rk (arrOf st) j ≤ Kx rk (arrOf st) (sb - 1) := fun j h1 h2 => sA j (sb - 1) h1 (by omega) (by omega)
  have low : ∀ j, sa ≤ j → j < sa + k → Kx rk (arrOf st) j ≤ Kx rk (arrOf st) sb := fun j h1 h2 => by
    have hj : j < (arrOf st).size := by omega
    rw [Kx_at hj, Kx_at (show sb < (arrOf st).size by omega)]
    exact bey_t hj h1 (hk2 (j - sa) (by omega))
  have low2 : ∀ j, sa + k ≤ j → j < sa + na → Kx rk (arrOf st) sb < Kx rk (arrOf st) j := fun j h1 h2 => by
    have hj : j < (arrOf st).size := by omega
    rw [Kx_at hj, Kx_at (show sb < (arrOf st).size by omega)]
    exact bey_flt hj (by omega) (hk3 (j - sa) (by omega) (by omega))
  by_cases c1 : (na - k == 0) = true
  · rw [if_pos c1]
    have c1 : na - k = 0 := by simpa using c1
    refine wpS_pure (h _ ⟨hB.perm, hB.kind, hB.failed⟩ hP (fun _ _ => rfl) fun i j h1 h2 h3 => ?_)
    show Kx rk (arrOf st) i ≤ Kx rk (arrOf st) j
    rcases Nat.lt_or_ge j sb with hj | hj
    · exact sA i j h1 h2 (by omega)
    · rcases Nat.lt_or_ge i sb with hi' | hi'
      · exact Int.le_trans (low i h1 (by omega)) (kb j hj (by omega))
      · exact sB i j hi' h2 (by omega)
  rw [if_neg c1]
  have c1 : na - k ≠ 0 := by simpa using c1
  have hlast : sa + k + (na - k) - 1 = sb - 1 := by omega
  refine wpS_bind (wpS_elem (show sa + k + (na - k) - 1 < (arrOf st).size by omega) ?_)
  refine wpS_bind (wpS_gallop (arr := arrOf st) hA hB.kind hB.mem (hB.mem _ (Array.getElem_mem _)) (show nb - 1 < nb by omega) (by omega) sB fun n2 hn1 hn2 hn3 => ?_)
  dsimp only
  have key : rk ((arrOf st)[sa + k + (na - k) - 1]'(by omega)) = Kx rk (arrOf st) (sb - 1) := by
    exact (Kx_at (rk := rk) (xs := arrOf st) (i := sa + k + (na - k) - 1) (by omega)).symm.trans (by rw [hlast])
  have up : ∀ j, sb + n2 ≤ j → j < sb + nb → Kx rk (arrOf st) (sb - 1) ≤ Kx rk (arrOf st) j := fun j h1 h2 => by
    have hj : j < (arrOf st).size := by omega
    rw [← key, Kx_at hj]
    exact bey_f hj (by omega) (hn3 (j - sb) (by omega) (by omega))
  have up2 : ∀ j, sb ≤ j → j < sb + n2 → Kx rk (arrOf st) j < Kx rk (arrOf st) (sb - 1) := fun j h1 h2 => by
    have hj : j < (arrOf st).size := by omega
    rw [← key, Kx_at hj]
    exact bey_lt hj h1 (hn2 (j - sb) (by omega))
  by_cases c2 : (n2 == 0) = true
  · rw [if_pos c2]
    have c2 : n2 = 0 := by simpa using c2
    refine wpS_pure (h _ ⟨hB.perm, hB.kind, hB.failed⟩ hP (fun _ _ => rfl) fun i j h1 h2 h3 => ?_)
    show Kx rk (arrOf st) i ≤ Kx rk (arrOf st) j
    rcases Nat.lt_or_ge j sb with hj | hj
    · exact sA i j h1 h2 (by omega)
    · rcases Nat.lt_or_ge i sb with hi' | hi'
      · exact Int.le_trans (ka i h1 (by omega)) (up j (by omega) (by omega))
      · exact sB i j hi' h2 (by omega)
  rw [if_neg c2]
  have c2 : n2 ≠ 0 := by simpa using c2
  -- what is merged
  have hX : (arrOf st).extract (sa + k) sb = (arrOf st).extract (sa + k) sb := rfl
  have zx : ((arrOf st).extract (sa + k) sb).size = na - k := by rw [Array.size_extract]; omega
  have zy : ((arrOf st).extract sb (sb + n2)).size = n2 := by rw [Array.size_extract]; omega
  have sX : Sd rk ((arrOf st).extract (sa + k) sb).toList := sd_ext sA (by omega) (by omega) (by omega)
  have sY : Sd rk ((arrOf st).extract sb (sb + n2)).toList := sd_ext sB (by omega) (by omega) (by omega)
  have mX : ∀ x ∈ (arrOf st).extract (sa + k) sb, ∃ t, sa + k ≤ t ∧ t < sb ∧ rk x = Kx rk (arrOf st) t := fun x hx => by
    obtain ⟨t, t1, t2, _, t3⟩ := mem_Kx (rk := rk) (Array.mem_toList_iff.mpr hx)
    exact ⟨t, t1, t2, t3⟩
  have mY : ∀ x ∈ (arrOf st).extract sb (sb + n2), ∃ t, sb ≤ t ∧ t < sb + n2 ∧ rk x = Kx rk (arrOf st) t := fun x hx => by
    obtain ⟨t, t1, t2, _, t3⟩ := mem_Kx (rk := rk) (Array.mem_toList_iff.mpr hx)
    exact ⟨t, t1, t2, t3⟩
  have kX : ∀ x ∈ (arrOf st).extract (sa + k) sb, x ∈ a₀ := fun x hx => hB.mem x (by
    have : x ∈ ((arrOf st).extract (sa + k) sb).toList := Array.mem_toList_iff.mpr hx
    rw [ext_mid] at this
    simpa using List.mem_of_mem_take (List.mem_of_mem_drop this))
  have kY : ∀ x ∈ (arrOf st).extract sb (sb + n2), x ∈ a₀ := fun x hx => hB.mem x (by
    have : x ∈ ((arrOf st).extract sb (sb + n2)).toList := Array.mem_toList_iff.mpr hx
    rw [ext_mid] at this
    simpa using List.mem_of_mem_take (List.mem_of_mem_drop this))
  have y0 : rk ((arrOf st).extract sb (sb + n2))[0] = Kx rk (arrOf st) sb := by
    rw [Kx_at (by omega)]; simp
  have xl : rk ((arrOf st).extract (sa + k) sb)[((arrOf st).extract (sa + k) sb).size - 1] = Kx rk (arrOf st) (sb - 1) := by
    rw [Kx_at (by omega), Array.getElem_extract]
    congr 2
    omega
  have hb0 : ∀ y ∈ (arrOf st).extract (sa + k) sb, rk ((arrOf st).extract sb (sb + n2))[0] < rk y := fun y hy => by
    obtain ⟨t, t1, t2, t3⟩ := mX y hy
    rw [y0, t3]
    exact low2 t t1 (by omega)
  have hal : ∀ x ∈ (arrOf st).extract sb (sb + n2), rk x < rk ((arrOf st).extract (sa + k) sb)[((arrOf st).extract (sa + k) sb).size - 1] := fun x hx => by
    obtain ⟨t, t1, t2, t3⟩ := mY x hx
    rw [xl, t3]
    exact up2 t t1 t2
  have lX : ((arrOf st).extract (sa + k) sb).toList = ((arrOf st).toList.take sb).drop (sa + k) := ext_mid
  have lY : ((arrOf st).extract sb (sb + n2)).toList = ((arrOf st).toList.take (sb + n2)).drop sb := ext_mid
  have fin : ∀ (m : Array Keyed) (st' : SortSt), SameSt (SortSt.mk' (kindOf st) (arrOf st) P (gallopOf st) (failedOf st)) st' → MR rk ((arrOf st).extract (sa + k) sb).toList ((arrOf st).extract sb (sb + n2)).toList m.toList →
      Q true (SortSt.mk' (kindOf st') (m.toList.zipIdx.foldl (fun (a : Array Keyed) (x : Keyed × Nat) => match x with | (p, j) => a.setIfInBounds (sa + k + j) p) (arrOf st')) (pendingOf st') (gallopOf st') (failedOf st')) := by
    intro m st' hs' hm
    obtain ⟨q1, q2, q3, q4⟩ := hs'
    have hml : m.toList.length = (sb - (sa + k)) + n2 := by
      rw [hm.1.length_eq, List.length_append]
      have a1 : ((arrOf st).extract (sa + k) sb).toList.length = na - k := Array.length_toList.trans zx
      have a2 : ((arrOf st).extract sb (sb + n2)).toList.length = n2 := Array.length_toList.trans zy
      omega
    rw [q1]
    have hf := fold_set (sa + k) m.toList 0 (arrOf st) (by omega)
    rw [Nat.add_zero, show sa + k + m.toList.length = sb + n2 by omega] at hf
    generalize (m.toList.zipIdx.foldl (fun (a : Array Keyed) (x : Keyed × Nat) => match x with | (p, j) => a.setIfInBounds (sa + k + j) p) (arrOf st)) = R at hf ⊢
    have hl : (arrOf st).toList.length = (arrOf st).size := by simp
    have hsplit : (arrOf st).toList = (arrOf st).toList.take (sa + k) ++ (((arrOf st).toList.take sb).drop (sa + k) ++ ((arrOf st).toList.take (sb + n2)).drop sb) ++ (arrOf st).toList.drop (sb + n2) := by
      rw [← List.append_assoc, ← take_dt (show sa + k ≤ sb by omega), ← take_dt (show sb ≤ sb + n2 by omega), List.take_append_drop]
    have hperm : R.toList.Perm (arrOf st).toList := by
      rw [hf]
      conv => rhs; rw [hsplit]
      refine List.Perm.append_right _ (List.Perm.append_left _ ?_)
      rw [← lX, ← lY]
      exact hm.1
    have hRs : R.size = (arrOf st).size := by
      have := hperm.length_eq
      simpa using this
    have out1 : ∀ j, j < sa + k → Kx rk R j = Kx rk (arrOf st) j := fun j hj => by
      refine Kx_congr ?_
      rw [← Array.getElem?_toList, ← Array.getElem?_toList, hf, List.append_assoc, List.getElem?_append_left (by rw [List.length_take]; omega), List.getElem?_take, if_pos hj]
    have out2 : ∀ j, sb + n2 ≤ j → Kx rk R j = Kx rk (arrOf st) j := fun j hj => by
      refine Kx_congr ?_
      have hl2 : ((arrOf st).toList.take (sa + k) ++ m.toList).length = sb + n2 := by rw [List.length_append, List.length_take]; omega
      rw [← Array.getElem?_toList, ← Array.getElem?_toList, hf, List.getElem?_append_right (by omega), hl2, List.getElem?_drop]
      congr 1
      omega
    have mid : ∀ j, sa + k ≤ j → j < sb + n2 → ∃ hj : j - (sa + k) < m.toList.length, Kx rk R j = rk (m.toList[j - (sa + k)]) := fun j h1 h2 => by
      have hj : j - (sa + k) < m.toList.length := by omega
      refine ⟨hj, ?_⟩
      have e : R.toList[j]? = some (m.toList[j - (sa + k)]) := by
        rw [hf, List.append_assoc, List.getElem?_append_right (by rw [List.length_take]; omega), List.length_take, show min (sa + k) (arrOf st).toList.length = sa + k by omega, List.getElem?_append_left hj, List.getElem?_eq_getElem hj]
      rw [Array.getElem?_toList] at e
      unfold Kx
      rw [e]
    have memM : ∀ x ∈ m.toList, ∃ t, sa + k ≤ t ∧ t < sb + n2 ∧ rk x = Kx rk (arrOf st) t := fun x hx => by
      rcases List.mem_append.mp (hm.1.mem_iff.mp hx) with hx | hx
      · obtain ⟨t, t1, t2, t3⟩ := mX x (Array.mem_toList_iff.mp hx)
        exact ⟨t, t1, by omega, t3⟩
      · obtain ⟨t, t1, t2, t3⟩ := mY x (Array.mem_toList_iff.mp hx)
        exact ⟨t, by omega, t2, t3⟩
    refine h _ ⟨(Array.perm_iff_toList_perm.mpr hperm).trans hB.perm, q3.trans hB.kind, q4.trans hB.failed⟩ (by show (pendingOf st').toList = _; rw [q2]; exact hP) (fun j hj => ?_) fun i j h1 h2 h3 => ?_
    · rcases hj with hj | hj
      · exact out1 j (by omega)
      · exact out2 j (by omega)
    · show Kx rk R i ≤ Kx rk R j
      rcases Nat.lt_or_ge i (sa + k) with hi1 | hi1
      · rw [out1 i hi1]
        rcases Nat.lt_or_ge j (sa + k) with hj1 | hj1
        · rw [out1 j hj1]; exact sA i j h1 h2 (by omega)
        rcases Nat.lt_or_ge j (sb + n2) with hj2 | hj2
        · obtain ⟨hj, e⟩ := mid j hj1 hj2
          obtain ⟨t, t1, t2, t3⟩ := memM _ (List.getElem_mem hj)
          rw [e, t3]
          rcases Nat.lt_or_ge t sb with ht | ht
          · exact sA i t h1 (by omega) (by omega)
          · exact Int.le_trans (low i h1 hi1) (kb t ht (by omega))
        · rw [out2 j hj2]
          exact Int.le_trans (low i h1 hi1) (kb j (by omega) (by omega))
      rcases Nat.lt_or_ge i (sb + n2) with hi2 | hi2
      · obtain ⟨hi', e⟩ := mid i hi1 hi2
        rw [e]
        rcases Nat.lt_or_ge j (sb + n2) with hj2 | hj2
        · obtain ⟨hj', e'⟩ := mid j (by omega) hj2
          rw [e']
          rcases Nat.lt_or_eq_of_le h2 with hlt | rfl
          · exact List.pairwise_iff_getElem.mp hm.2 _ _ hi' hj' (by omega)
          · exact Int.le_refl _
        · rw [out2 j hj2]
          obtain ⟨t, t1, t2, t3⟩ := memM _ (List.getElem_mem hi')
          rw [t3]
          rcases Nat.lt_or_ge t sb with ht | ht
          · exact Int.le_trans (ka t (by omega) (by omega)) (up j hj2 (by omega))
          · exact sB t j ht (by omega) (by omega)
      · rw [out2 i hi2, out2 j (by omega)]
        exact sB i j (by omega) h2 (by omega)
  have tail : ∀ (m : Array Keyed) (st' : SortSt), SameSt (SortSt.mk' (kindOf st) (arrOf st) P (gallopOf st) (failedOf st)) st' → MR rk ((arrOf st).extract (sa + k) sb).toList ((arrOf st).extract sb (sb + n2)).toList m.toList →
      wpS (model prog w) A E s (do
        modify fun s => SortSt.mk' (kindOf s) (m.toList.zipIdx.foldl (fun (a : Array Keyed) (x : Keyed × Nat) => match x with | (p, j) => a.setIfInBounds (sa + k + j) p) (arrOf s)) (pendingOf s) (gallopOf s) (failedOf s)
        let s ← get
        pure (failedOf s).isNone) Q st' := fun m st' hs' hm => by
    refine wpS_bind (wpS_modify (wpS_bind (wpS_get (wpS_pure ?_))))
    have hf : (failedOf st').isNone = true := by rw [show failedOf st' = failedOf st from hs'.failed, hB.failed]; rfl
    show Q (failedOf st').isNone _
    rw [hf]
    exact fin m st' hs' hm
  by_cases c3 : na - k ≤ n2
  · rw [if_pos c3]
    exact wpS_bind (wpS_mergeLo hA hB.kind kX kY sX sY (show 0 < ((arrOf st).extract (sa + k) sb).size by omega) (show 0 < ((arrOf st).extract sb (sb + n2)).size by omega) (fun y hy => Int.le_of_lt (hb0 y hy)) hal fun m st' hs' hm => tail m st' hs' hm)
  · rw [if_neg c3]
    exact wpS_bind (wpS_mergeHi hA hB.kind kX kY sX sY (show 0 < ((arrOf st).extract (sa + k) sb).size by omega) (show 0 < ((arrOf st).extract sb (sb + n2)).size by omega) hb0 (fun x hx => Int.le_of_lt (hal x hx)) fun m st' hs' hm => tail m st' hs' hm)
end
end PyProof.Rows.Ts
namespace PyProof.Rows.Ts
open PySem PyProof.Rows
section
variable {prog : Program} {w : World} {A : Around} {E : Value → Shared → Prop} {s : Shared} {κ : SortKind} {rk : Keyed → Int} {a₀ : Array Keyed}
/-- runs that stand one behind the other -/
def Chn : Nat → List (Nat × Nat × Nat) → Nat → Prop
  | a, [], b => a = b
  | a, r :: l, b => r.1 = a ∧ 1 ≤ r.2.1 ∧ Chn (a + r.2.1) l b
theorem Chn.split : ∀ {l : List (Nat × Nat × Nat)} {l' : List (Nat × Nat × Nat)} {a c : Nat}, Chn a (l ++ l') c → ∃ b, Chn a l b ∧ Chn b l' c
  | [], _, a, _, h => ⟨a, rfl, h⟩
  | r :: l, _, a, _, ⟨h1, h2, h3⟩ => let ⟨b, h4, h5⟩ := Chn.split (l := l) h3; ⟨b, ⟨h1, h2, h4⟩, h5⟩
theorem Chn.join : ∀ {l : List (Nat × Nat × Nat)} {l' : List (Nat × Nat × Nat)} {a b c : Nat}, Chn a l b → Chn b l' c → Chn a (l ++ l') c
  | [], _, a, b, _, h, h' => by have h : a = b := h; subst h; exact h'
  | r :: l, _, a, _, _, ⟨h1, h2, h3⟩, h' => ⟨h1, h2, Chn.join h3 h'⟩
theorem Chn.le : ∀ {l : List (Nat × Nat × Nat)} {a b : Nat}, Chn a l b → a + l.length ≤ b
  | [], a, b, h => by have h : a = b := h; subst h; exact Nat.le_refl _
  | r :: l, a, b, ⟨h1, h2, h3⟩ => by have := Chn.le h3; rw [List.length_cons]; omega
theorem Chn.mem : ∀ {l : List (Nat × Nat × Nat)} {a b : Nat} {r : Nat × Nat × Nat}, Chn a l b → r ∈ l → a ≤ r.1 ∧ r.1 + r.2.1 ≤ b
  | x :: l, a, b, r, ⟨h1, h2, h3⟩, h => by
    rcases List.mem_cons.mp h with rfl | h
    · have := Chn.le h3; omega
    · have := Chn.mem h3 h; omega
theorem Chn.same : ∀ {l l' : List (Nat × Nat × Nat)} {a b : Nat}, l.map (fun r => (r.1, r.2.1)) = l'.map (fun r => (r.1, r.2.1)) → Chn a l b → Chn a l' b
  | [], [], _, _, _, h => h
  | [], _ :: _, _, _, e, _ => by simp at e
  | _ :: _, [], _, _, e, _ => by simp at e
  | r :: l, r' :: l', a, b, e, ⟨h1, h2, h3⟩ => by
    rw [List.map_cons, List.map_cons] at e
    injection e with e1 e2
    injection e1 with e3 e4
    refine ⟨e3 ▸ h1, e4 ▸ h2, ?_⟩
    rw [← e4]
    exact Chn.same e2 h3
structure RS (rk : Keyed → Int) (κ : SortKind) (a₀ : Array Keyed) (st : SortSt) (lo : Nat) : Prop where
  sb : SB κ a₀ st
  ch : Chn 0 (pendingOf st).toList lo
  srt : ∀ r ∈ (pendingOf st).toList, SrtOn rk (arrOf st) r.1 r.2.1
theorem RS.ahd {st st' : SortSt} {lo : Nat} (h : RS rk κ a₀ st lo) (ha : Ahd rk lo st st') (hb : SB κ a₀ st') : RS rk κ a₀ st' lo := by
  refine ⟨hb, by rw [ha.2]; exact h.ch, fun r hr i j h1 h2 h3 => ?_⟩
  rw [ha.2] at hr
  have := (h.ch.mem hr).2
  rw [ha.1 i (by omega), ha.1 j (by omega)]
  exact h.srt r hr i j h1 h2 h3
theorem two_at {l : List (Nat × Nat × Nat)} {i : Nat} (h : i + 2 ≤ l.length) : ∃ x y, l = l.take i ++ x :: y :: l.drop (i + 2) := by
  refine ⟨l[i], l[i + 1], ?_⟩
  rw [← List.drop_eq_getElem_cons, ← List.drop_eq_getElem_cons, List.take_append_drop]
theorem wpS_mergeRS {st : SortSt} {i lo : Nat} {Q : Bool → SortSt → Prop} (hA : Ask prog w A E s κ (· ∈ a₀) rk) (hR : RS rk κ a₀ st lo) (hlo : lo ≤ a₀.size) (hi : i + 2 ≤ (pendingOf st).size)
    (h : ∀ st', RS rk κ a₀ st' lo → (pendingOf st').size + 1 = (pendingOf st).size → (∀ j, lo ≤ j → Kx rk (arrOf st') j = Kx rk (arrOf st) j) → Q true st') : wpS (model prog w) A E s (mergeAt' i) Q st := by
  have hl : (pendingOf st).toList.length = (pendingOf st).size := Array.length_toList
  obtain ⟨⟨sa, na, pa⟩, ⟨sb, nb, pb⟩, e⟩ := two_at (l := (pendingOf st).toList) (i := i) (by omega)
  have hpre : i = ((pendingOf st).toList.take i).length := by rw [List.length_take]; omega
  generalize (pendingOf st).toList.take i = pre at e hpre
  generalize (pendingOf st).toList.drop (i + 2) = post at e
  have ch := hR.ch
  rw [e] at ch
  obtain ⟨b, c1, c2, c3, c4, c5, c6⟩ := ch.split
  have c2 : sa = b := c2
  have c4 : sb = b + na := c4
  have c3 : 1 ≤ na := c3
  have c5 : 1 ≤ nb := c5
  have c6 : Chn (b + na + nb) post lo := c6
  have hle := c6.le
  refine wpS_mergeAt hA hR.sb e hpre (by omega) c3 c5 (by omega) (hR.srt (sa, na, pa) (by rw [e]; simp)) (hR.srt (sb, nb, pb) (by rw [e]; simp)) fun st' hB' hp' hk hs => h st' ⟨hB', ?_, fun r hr => ?_⟩ ?_ fun j hj => hk j (.inr (by omega))
  · rw [hp']
    exact c1.join ⟨c2, by show 1 ≤ na + nb; omega, by show Chn (b + (na + nb)) post lo; rw [← Nat.add_assoc]; exact c6⟩
  · rw [hp'] at hr
    have hsame : ∀ r' : Nat × Nat × Nat, r' ∈ (pendingOf st).toList → (r'.1 + r'.2.1 ≤ sa ∨ sb + nb ≤ r'.1) → SrtOn rk (arrOf st') r'.1 r'.2.1 := fun r' hr' hcase i j h1 h2 h3 => by
      rw [hk i (by omega), hk j (by omega)]
      exact hR.srt r' hr' i j h1 h2 h3
    rcases List.mem_append.mp hr with hr | hr
    · exact hsame r (by rw [e]; exact List.mem_append_left _ hr) (.inl (by have := (c1.mem hr).2; omega))
    · rcases List.mem_cons.mp hr with rfl | hr
      · exact hs
      · exact hsame r (by rw [e]; simp [hr]) (.inr (by have := (c6.mem hr).1; omega))
  · have e1 := congrArg List.length hp'
    have e2 := congrArg List.length e
    rw [Array.length_toList] at e1 e2
    simp only [List.length_append, List.length_cons] at e1 e2
    omega
theorem map_modify {l : List (Nat × Nat × Nat)} {i pw : Nat} : (l.modify i fun x => (x.1, x.2.1, pw)).map (fun r => (r.1, r.2.1)) = l.map (fun r => (r.1, r.2.1)) := by
  refine List.ext_getElem? fun j => ?_
  rw [List.getElem?_map, List.getElem?_map, List.getElem?_modify]
  cases l[j]? with
  | none => rfl
  | some x =>
    by_cases h : i = j
    · simp [h]
    · simp [h]
theorem mem_modify {l : List (Nat × Nat × Nat)} {i pw : Nat} {r : Nat × Nat × Nat} (h : r ∈ l.modify i fun x => (x.1, x.2.1, pw)) : ∃ r' ∈ l, r'.1 = r.1 ∧ r'.2.1 = r.2.1 := by
  have h1 : (r.1, r.2.1) ∈ (l.modify i fun x => (x.1, x.2.1, pw)).map (fun r => (r.1, r.2.1)) := List.mem_map.mpr ⟨r, h, rfl⟩
  rw [map_modify] at h1
  obtain ⟨r', h2, e⟩ := List.mem_map.mp h1
  injection e with e1 e2
  exact ⟨r', h2, e1, e2⟩
theorem RS.power {st : SortSt} {lo i pw : Nat} (h : RS rk κ a₀ st lo) : RS rk κ a₀ (setPending st ((pendingOf st).modify i fun x => (x.1, x.2.1, pw))) lo := by
  have e : (pendingOf (setPending st ((pendingOf st).modify i fun x => (x.1, x.2.1, pw)))).toList = (pendingOf st).toList.modify i fun x => (x.1, x.2.1, pw) := Array.toList_modify
  refine ⟨⟨h.sb.perm, h.sb.kind, h.sb.failed⟩, ?_, fun r hr => ?_⟩
  · rw [e]
    exact Chn.same map_modify.symm h.ch
  · rw [e] at hr
    obtain ⟨r', h1, h2, h3⟩ := mem_modify hr
    rw [← h2, ← h3]
    exact h.srt r' h1
theorem RS.push {st : SortSt} {lo n : Nat} (h : RS rk κ a₀ st lo) (hn : 1 ≤ n) (hs : SrtOn rk (arrOf st) lo n) : RS rk κ a₀ (setPending st ((pendingOf st).push (lo, n, 0))) (lo + n) := by
  have e : (pendingOf (setPending st ((pendingOf st).push (lo, n, 0)))).toList = (pendingOf st).toList ++ [(lo, n, 0)] := Array.toList_push
  refine ⟨⟨h.sb.perm, h.sb.kind, h.sb.failed⟩, ?_, fun r hr => ?_⟩
  · rw [e]
    exact h.ch.join ⟨rfl, hn, rfl⟩
  · rw [e] at hr
    rcases List.mem_append.mp hr with hr | hr
    · exact h.srt r hr
    · rw [List.mem_singleton.mp hr]
      exact hs
theorem wpS_sortAll {st : SortSt} {Q : Unit → SortSt → Prop} (hA : Ask prog w A E s κ (· ∈ a₀) rk) (hB : SB κ a₀ st) (hp : pendingOf st = #[]) (h2 : 2 ≤ a₀.size)
    (h : ∀ st', (arrOf st').Perm a₀ → failedOf st' = none → SrtOn rk (arrOf st') 0 a₀.size → Q () st') : wpS (model prog w) A E s sortRuns' Q st := by
  refine wpS_bind (wpS_get ?_)
  dsimp only
  rw [show (arrOf st).size = a₀.size from hB.size]
  generalize (sortPriv% PySem.Builtin.minRun) a₀.size a₀.size 0 = mr
  have hR0 : RS rk κ a₀ st 0 := ⟨hB, by rw [hp]; exact rfl, fun r hr => by rw [hp] at hr; simp at hr⟩
  refine wpS_bind (wpS_mono (wpS_forRange (I := fun x c st' => ∃ lo, c = (none, lo) ∧ RS rk κ a₀ st' lo ∧ x ≤ lo ∧ lo ≤ a₀.size)
    (Q := fun c st' => c = (none, a₀.size) ∧ RS rk κ a₀ st' a₀.size) ?step ?fin ⟨0, rfl, hR0, Nat.le_refl _, Nat.zero_le _⟩) ?post)
  case fin =>
    rintro c st' ⟨lo, rfl, hR, h3, h4⟩
    have : lo = a₀.size := by omega
    subst this
    exact ⟨rfl, hR⟩
  case step =>
    rintro x c st' _ hx ⟨lo, rfl, hR, h3, h4⟩
    dsimp only
    by_cases hge : lo ≥ a₀.size
    · rw [if_pos hge]
      have : lo = a₀.size := by omega
      subst this
      exact wpS_pure ⟨rfl, hR⟩
    rw [if_neg hge]
    refine wpS_bind (wpS_count hA (by omega) (by omega) hR.sb fun m st1 hB1 hA1 hm1 hm2 hs1 => ?_)
    have hR1 := hR.ahd hA1 hB1
    dsimp only
    by_cases hlt : m < mr
    rw [if_pos hlt]
    refine wpS_bind (wpS_lift (wpAny_rule ⟨rfl, ?_⟩))
    refine wpS_bind (wpS_binary hA (by omega) (by omega) hB1 hs1 fun st2 hB2 hA2 hs2 => ?_)
    rw [if_neg (by decide)]
    have hn1 : 1 ≤ min (a₀.size - lo) mr := by omega
    have hn2 : min (a₀.size - lo) mr ≤ a₀.size - lo := Nat.min_le_left _ _
    have hR2 := hR1.ahd hA2 hB2
    generalize min (a₀.size - lo) mr = n at hs2 hn1 hn2 ⊢
    clear hs1 hR1 hm1 hm2 hlt
    rotate_left
    rw [if_neg hlt]
    obtain ⟨n, rfl⟩ : ∃ n, n = m := ⟨_, rfl⟩
    obtain ⟨st2, rfl⟩ : ∃ st2, st2 = st1 := ⟨_, rfl⟩
    have hs2 := hs1
    have hn1 := hm1
    have hn2 := hm2
    have hR2 := hR1
    clear hs1 hR1 hm1 hm2 hlt
    all_goals
      refine wpS_bind (wpS_get ?_)
      cases hb : (pendingOf st2).back? with
      | none =>
        refine wpS_bind (wpS_modify (wpS_pure ⟨lo + n, rfl, hR2.push hn1 hs2, by omega, by omega⟩))
      | some b =>
        obtain ⟨s1, n1, p1⟩ := b
        dsimp only
        generalize (sortPriv% PySem.Builtin.power) a₀.size (2 * s1 + n1) (2 * s1 + n1 + n1 + n) a₀.size = pw
        refine wpS_bind (wpS_mono (wpS_forRange (I := fun _ c st' => c = (none, ()) ∧ RS rk κ a₀ st' lo ∧ SrtOn rk (arrOf st') lo n)
          (Q := fun c st' => c = (none, ()) ∧ RS rk κ a₀ st' lo ∧ SrtOn rk (arrOf st') lo n) ?mstep (fun _ _ hh => hh) ⟨rfl, hR2, hs2⟩) ?mpost)
        case mstep =>
          rintro y c st3 _ hy ⟨rfl, hR3, hs3⟩
          refine wpS_bind (wpS_get ?_)
          by_cases hsz : (pendingOf st3).size > 1
          · have hat : (pendingOf st3)[(pendingOf st3).size - 2]? = some ((pendingOf st3)[(pendingOf st3).size - 2]'(by omega)) := getElem?_pos _ _ (by omega)
            rw [if_pos hsz, hat]
            dsimp only
            split
            · exact wpS_pure ⟨rfl, hR3, hs3⟩
            · refine wpS_bind (wpS_mergeRS hA hR3 (by omega) (show (pendingOf st3).size - 2 + 2 ≤ (pendingOf st3).size by omega) fun st4 hR4 _ hk => ?_)
              rw [if_neg (by decide)]
              refine wpS_pure ⟨rfl, hR4, fun i j h1 h2 h3 => ?_⟩
              rw [hk i (by omega), hk j (by omega)]
              exact hs3 i j h1 h2 h3
          · rw [if_neg hsz]
            exact wpS_pure ⟨rfl, hR3, hs3⟩
        case mpost =>
          rintro c st3 ⟨rfl, hR3, hs3⟩
          dsimp only
          refine wpS_bind (wpS_modify (wpS_bind (wpS_modify (wpS_pure ?_))))
          exact ⟨lo + n, rfl, (hR3.power (i := (pendingOf st3).size - 1) (pw := pw)).push hn1 hs3, by omega, by omega⟩
  case post =>
    rintro c st' ⟨rfl, hR⟩
    dsimp only
    have hl := hR.ch.le
    rw [Array.length_toList] at hl
    refine wpS_bind (wpS_mono (wpS_forRange (I := fun x c st' => c = (none, ()) ∧ RS rk κ a₀ st' a₀.size ∧ ((pendingOf st').size ≤ 1 ∨ (pendingOf st').size + x ≤ a₀.size))
      (Q := fun c st' => c = (none, ()) ∧ RS rk κ a₀ st' a₀.size ∧ (pendingOf st').size ≤ 1) ?lstep ?lfin ⟨rfl, hR, .inr (by omega)⟩) ?lpost)
    case lfin =>
      rintro c st1 ⟨rfl, hR1, hz⟩
      exact ⟨rfl, hR1, by omega⟩
    case lstep =>
      rintro x c st1 _ hx ⟨rfl, hR1, hz⟩
      refine wpS_bind (wpS_get ?_)
      by_cases hle : (pendingOf st1).size ≤ 1
      · rw [if_pos hle]
        exact wpS_pure ⟨rfl, hR1, hle⟩
      rw [if_neg hle]
      refine wpS_bind (wpS_mergeRS hA hR1 (Nat.le_refl _) ?_ fun st2 hR2 he _ => ?_)
      · have aux : ∀ b : Bool, (if b = true then (pendingOf st1).size - 2 - 1 else (pendingOf st1).size - 2) + 2 ≤ (pendingOf st1).size := fun b => by
          split
          · omega
          · omega
        exact aux _
      · rw [if_neg (by decide)]
        exact wpS_pure ⟨rfl, hR2, by omega⟩
    case lpost =>
      rintro c st1 ⟨rfl, hR1, hz⟩
      refine wpS_pure (h _ hR1.sb.perm hR1.sb.failed ?_)
      have hch := hR1.ch
      have hsr := hR1.srt
      have hz' : (pendingOf st1).toList.length ≤ 1 := by rw [Array.length_toList]; exact hz
      generalize (pendingOf st1).toList = l at hch hsr hz'
      match l, hch, hsr, hz' with
      | [], hch, _, _ =>
        have : 0 = a₀.size := hch
        omega
      | [r], ⟨e1, _, e2⟩, hsr, _ =>
        have := hsr r (List.mem_singleton.mpr rfl)
        have e2 : 0 + r.2.1 = a₀.size := e2
        rw [e1, show r.2.1 = a₀.size by omega] at this
        exact this
      | _ :: _ :: _, _, _, hz' => simp at hz'
end
end PyProof.Rows.Ts

namespace L2
open PySem PySem.Spec PySem.W PyProof.Rows
section
variable {prog : Program} {w : World} {A : Around} {E : Value → Shared → Prop} {s : Shared}
/-- the comparison of keyed items, by what the keys' own comparison tells -/
theorem ask_of {κ : SortKind} {S : Keyed → Prop} {rk : Keyed → Int} (h : ∀ (x y : Keyed) (Q : Bool → Shared → Prop) (E' : Value → Shared → Prop), S x → S y → Q (decide (rk x < rk y)) s → wpAny (model prog w) A (keyLt' κ x.1 y.1) Q E' s) : Ts.Ask prog w A E s κ S rk := by
  intro x y st Q hx hy hk hq
  rw [lt'_eq]
  refine wpS_bind (wpS_get ?_)
  rw [hk]
  refine wpS_bind (wpS_lift (wpAny_attempt (h x y _ _ hx hy ⟨rfl, ?_⟩)))
  exact wpS_pure hq
/-- list.sort of a list of any length -/
theorem sort_big {a : Addr} {vs : List Value} {n : Nat} {G : Array Value → Prop} {P : PySem.Fin → Shared → Prop} (ho : s.heap.get? a = some (seqObj "list" vs.toArray n)) (hz : vs.length ≤ sizeLine)
    (hkey : 2 ≤ vs.length → ∀ s' : Shared, (∀ b o, b ≠ a → s.heap.get? b = some o → s'.heap.get? b = some o) → ∀ E', ∃ κ rk, (∀ Q : SortKind → Shared → Prop, Q κ s' → wpAny (model prog w) A (keyKind' vs.toArray) Q E' s') ∧ Ts.Ask prog w A E' s' κ (· ∈ pairsOf vs) rk ∧ ∀ arr : Array Keyed, arr.Perm (pairsOf vs) → Ts.SrtOn rk arr 0 vs.length → G (arr.map (·.2)))
    (hsmall : vs.length < 2 → G vs.toArray)
    (h : ∀ out : Array Value, out.size = vs.length → G out → P (.done (.ret .none)) { s with heap := sortedHeap s.heap a vs out }) :
    wpAny (model prog w) A (Builtin.«list.sort» ⟨[.ref a], []⟩) P E s := by
  have ha : a < s.heap.objs.size := Heap.lt_size ho
  have hz' : vs.toArray.size ≤ sizeLine := by rw [List.size_toArray]; exact hz
  rw [list_sort_plain]; refine wpAny_bind (listItems_at ho rfl (wpAny_bind (listUpdate_at ho rfl ?_ hz' (Nat.zero_le _))))
  obtain ⟨e1, ho1⟩ : ∃ e1, (s.heap.update a (Obj.mapSeq fun _ => #[])).get? a = some (seqObj "list" #[] e1) := ⟨_, get?_update_seq ho (fun _ => #[])⟩
  refine wpAny_bind (seqEpoch_at ho1 rfl (wpAny_bind (wpAny_newTuple (wpAny_bind (wpAny_newList (wpAny_holding ?_) (Nat.zero_le _))) (by show vs.length ≤ _; exact hz))))
  generalize hs6 : ({ s with heap := ((s.heap.update a (Obj.mapSeq fun _ => #[])).push (seqObj "tuple" vs.toArray 0)).push (seqObj "list" #[] 0) } : Shared) = s6
  have ho6 : s6.heap.get? a = some (seqObj "list" #[] e1) := by
    subst hs6
    show (((s.heap.update a (Obj.mapSeq fun _ => #[])).push (seqObj "tuple" vs.toArray 0)).push (seqObj "list" #[] 0)).get? a = _
    rw [Heap.get?_push_ne _ _ _ (by rw [size_push', Heap.size_update]; exact Nat.ne_of_lt (Nat.lt_succ_of_lt ha)), Heap.get?_push_ne _ _ _ (by rw [Heap.size_update]; exact Nat.ne_of_lt ha)]; exact ho1
  have keep : ∀ b o, b ≠ a → s.heap.get? b = some o → s6.heap.get? b = some o := fun b o hb e => by
    subst hs6
    have hlt : b < s.heap.objs.size := Heap.lt_size e
    show (((s.heap.update a (Obj.mapSeq fun _ => #[])).push (seqObj "tuple" vs.toArray 0)).push (seqObj "list" #[] 0)).get? b = _
    rw [Heap.get?_push_ne _ _ _ (by rw [size_push', Heap.size_update]; exact Nat.ne_of_lt (Nat.lt_succ_of_lt hlt)), Heap.get?_push_ne _ _ _ (by rw [Heap.size_update]; exact Nat.ne_of_lt hlt), Heap.get?_update_ne _ _ _ _ hb]; exact e
  have fin : ∀ out : Array Value, out.size = vs.length → G out → P (.done (.ret .none)) { s6 with heap := s6.heap.update a (Obj.mapSeq fun _ => out) } := fun out hs hg => by
    subst hs6
    exact h out hs hg
  show wpAny (model prog w) A _ P E s6
  dsimp only
  by_cases h2 : vs.length < 2
  · have c2 : vs.toArray.size < 2 := by rw [List.size_toArray]; exact h2
    rw [if_pos c2, if_pos c2]
    refine wpAny_bind (wpAny_pure ?_)
    rw [StateT.run_pure]
    refine wpAny_bind (wpAny_pure ?_)
    dsimp only
    have eo : (arrOf (SortSt.mk' general' (vs.toArray.zip vs.toArray) #[] 7 none)).map (·.2) = vs.toArray := by
      show (vs.toArray.zip vs.toArray).map (·.2) = vs.toArray
      apply Array.toList_inj.mp
      rw [Array.toList_map, Array.toList_zip]
      exact List.map_snd_zip (Nat.le_refl _)
    rw [eo]
    refine wpAny_bind (seqEpoch_at ho6 rfl (wpAny_bind (listUpdate_at ho6 rfl ?_ (Nat.zero_le _) (Nat.le_succ_of_le hz'))))
    simp only [bne_self_eq_false, Bool.false_eq_true, if_false]
    exact wpAny_pure (fin vs.toArray List.size_toArray (hsmall h2))
  · have c2 : ¬ vs.toArray.size < 2 := by rw [List.size_toArray]; exact h2
    rw [if_neg c2, if_neg c2]
    obtain ⟨κ, rk, hk1, hk2, hk3⟩ := hkey (by omega) s6 keep E
    refine wpAny_bind (hk1 _ ?_)
    have hps : (pairsOf vs).size = vs.length := pairsOf_size vs
    refine wpAny_bind (wpAny_mono (Ts.wpS_sortAll (a₀ := pairsOf vs) (st := SortSt.mk' κ (vs.toArray.zip vs.toArray) #[] 7 none)
      (Q := fun _ st' => (arrOf st').Perm (pairsOf vs) ∧ failedOf st' = none ∧ Ts.SrtOn rk (arrOf st') 0 (pairsOf vs).size)
      hk2 ⟨Array.Perm.refl _, rfl, rfl⟩ rfl (by rw [hps]; omega) fun st' a1 a2 a3 => ⟨a1, a2, a3⟩) ?_ fun _ _ e => e)
    rintro ⟨⟨⟩, st'⟩ s' ⟨rfl, hp, hf, hs⟩
    dsimp only at hp hf hs ⊢
    rw [hps] at hs
    have hsz : ((arrOf st').map (·.2)).size = vs.length := (Array.size_map ..).trans (hp.size_eq.trans hps)
    refine wpAny_bind (seqEpoch_at ho6 rfl (wpAny_bind (listUpdate_at ho6 rfl ?_ (Nat.zero_le _) (Nat.le_trans (Nat.le_of_eq hsz) (Nat.le_succ_of_le hz)))))
    rw [hf]
    simp only [bne_self_eq_false, Bool.false_eq_true, if_false]
    exact wpAny_pure (fin _ hsz (hk3 _ hp hs))
theorem sorted_big {l : Addr} {vs : List Value} {G : Array Value → Prop} {Q : Value → Shared → Prop} (hl : s.heap.IsList l vs.toArray) (hz : vs.length ≤ sizeLine)
    (hkey : 2 ≤ vs.length → ∀ s' : Shared, (∀ b o, s.heap.get? b = some o → s'.heap.get? b = some o) → ∀ E', ∃ κ rk, (∀ Q : SortKind → Shared → Prop, Q κ s' → wpAny (model prog w) A.in1.in1 (keyKind' vs.toArray) Q E' s') ∧ Ts.Ask prog w A.in1.in1 E' s' κ (· ∈ pairsOf vs) rk ∧ ∀ arr : Array Keyed, arr.Perm (pairsOf vs) → Ts.SrtOn rk arr 0 vs.length → G (arr.map (·.2)))
    (hsmall : vs.length < 2 → G vs.toArray)
    (h : ∀ (out : Array Value) (h' : Heap) (D : Addr) (c : Nat), out.size = vs.length → G out → s.heap.objs.size ≤ D →
      (∀ b o, s.heap.get? b = some o → h'.get? b = some o) → h'.get? D = some (seqObj "list" out c) → Q (.ref D) { s with heap := h' }) :
    wpAny (model prog w) A (call (.builtin "sorted") [.ref l]) Q E s := by
  have hzl : vs.toArray.size ≤ sizeLine := by rw [List.size_toArray]; exact hz
  refine Calls.call_function_entry kind_sorted plain_sorted entry_sorted (args_sorted1 _) ?_
  unfold Builtin.«sorted»
  refine wpAny_bind (m := checkCount "sorted" 1 1 _) (wpAny_pure (wpAny_bind (collect_list hl (wpAny_bind (wpAny_newList ?_ hz)) hz)))
  generalize hg : (s.heap.push (seqObj "list" #[] 0)).update s.heap.objs.size (Obj.mapSeq (· ++ vs.toArray)) = g
  have hsz : g.objs.size = s.heap.objs.size + 1 := by rw [← hg, Heap.size_update, size_push']
  have hoL : (g.push (seqObj "list" vs.toArray 0)).get? (s.heap.objs.size + 1) = some (seqObj "list" vs.toArray 0) := by rw [← hsz]; exact Heap.get?_push_size _ rfl
  have keep : ∀ b o, s.heap.get? b = some o → (g.push (seqObj "list" vs.toArray 0)).get? b = some o := fun b o q => by
    have hlt : b < s.heap.objs.size := Heap.lt_size q
    rw [Heap.get?_push_ne _ _ _ (by rw [hsz]; exact Nat.ne_of_lt (Nat.lt_succ_of_lt hlt)), ← hg, Heap.get?_update_ne _ _ _ _ (Nat.ne_of_lt hlt), Heap.get?_push_ne _ _ _ (Nat.ne_of_lt hlt)]; exact q
  show wpAny _ _ _ _ _ { s with heap := g.push (seqObj "list" vs.toArray 0) }
  rw [hsz]
  refine wpAny_bind (wpAny_holding (wpAny_call_entry slot_list_sort ⟨_, hoL, rfl⟩ entry_list_sort ?body (args_list_sort _)))
  case body =>
    refine sort_big (s := { s with heap := g.push (seqObj "list" vs.toArray 0) }) (G := G) hoL hz (fun h2 s' kp E' => hkey h2 s' (fun b o q => kp b o (Nat.ne_of_lt (Nat.lt_succ_of_lt (Heap.lt_size q))) (keep b o q)) E') hsmall fun out hos hog => ⟨_, rfl, wpAny_pure ⟨_, rfl, ?_⟩⟩
    have hlt : s.heap.objs.size + 1 < (g.push (seqObj "list" vs.toArray 0)).objs.size := Heap.lt_size hoL
    obtain ⟨e1, ho1⟩ : ∃ e1, ((g.push (seqObj "list" vs.toArray 0)).update (s.heap.objs.size + 1) (Obj.mapSeq fun _ => #[])).get? (s.heap.objs.size + 1) = some (seqObj "list" #[] e1) := ⟨_, get?_update_seq hoL (fun _ => #[])⟩
    have h3 : ∀ b, b < (g.push (seqObj "list" vs.toArray 0)).objs.size → ((((g.push (seqObj "list" vs.toArray 0)).update (s.heap.objs.size + 1) (Obj.mapSeq fun _ => #[])).push (seqObj "tuple" vs.toArray 0)).push (seqObj "list" #[] 0)).get? b = ((g.push (seqObj "list" vs.toArray 0)).update (s.heap.objs.size + 1) (Obj.mapSeq fun _ => #[])).get? b := fun b hb => by
      rw [Heap.get?_push_ne _ _ _ (by rw [size_push', Heap.size_update]; exact Nat.ne_of_lt (Nat.lt_succ_of_lt hb)), Heap.get?_push_ne _ _ _ (by rw [Heap.size_update]; exact Nat.ne_of_lt hb)]
    have e6 : ((((g.push (seqObj "list" vs.toArray 0)).update (s.heap.objs.size + 1) (Obj.mapSeq fun _ => #[])).push (seqObj "tuple" vs.toArray 0)).push (seqObj "list" #[] 0)).get? (s.heap.objs.size + 1) = some (seqObj "list" #[] e1) := by rw [h3 _ hlt]; exact ho1
    refine h out (sortedHeap (g.push (seqObj "list" vs.toArray 0)) (s.heap.objs.size + 1) vs out) (s.heap.objs.size + 1) _ hos hog (Nat.le_succ _) (fun b o q => ?_) (get?_update_seq e6 (fun _ => out))
    have hb : b < s.heap.objs.size := Heap.lt_size q
    show (Heap.update _ _ _).get? b = some o
    have hb1 : b ≠ s.heap.objs.size + 1 := Nat.ne_of_lt (Nat.lt_succ_of_lt hb)
    rw [Heap.get?_update_ne _ _ _ _ hb1, h3 _ (Nat.lt_trans (Nat.lt_succ_of_lt hb) hlt), Heap.get?_update_ne _ _ _ _ hb1]
    exact keep b o q
end
/-- the rank of a pair among pairs -/
def rkP (ps : List (Int × Int)) (p : Int × Int) : Int := ((ps.filter fun q => ltP q p).length : Int)
theorem ltP_tr {x y z : Int × Int} (h1 : ltP x y = true) (h2 : ltP z y = false) : ltP x z = true := by
  simp only [ltP, Bool.or_eq_true, decide_eq_true_eq, Bool.and_eq_true, Bool.or_eq_false_iff, decide_eq_false_iff_not, Bool.and_eq_false_iff] at h1 h2 ⊢
  omega
theorem ltP_tr2 {x y z : Int × Int} (h1 : ltP x y = true) (h2 : ltP y z = true) : ltP x z = true := by
  simp only [ltP, Bool.or_eq_true, decide_eq_true_eq, Bool.and_eq_true] at h1 h2 ⊢
  omega
theorem ltP_irr (x : Int × Int) : ltP x x = false := by
  simp only [ltP, Bool.or_eq_false_iff, decide_eq_false_iff_not, Bool.and_eq_false_iff]
  omega
theorem filter_sub {α : Type} {p q : α → Bool} (h : ∀ x, p x = true → q x = true) : ∀ l : List α, (l.filter p).length ≤ (l.filter q).length
  | [] => Nat.le_refl _
  | x :: l => by
    have ih := filter_sub h l
    cases hp : p x with
    | true => rw [List.filter_cons_of_pos hp, List.filter_cons_of_pos (h x hp), List.length_cons, List.length_cons]; omega
    | false =>
      rw [List.filter_cons_of_neg (by simp [hp])]
      cases hq : q x with
      | true => rw [List.filter_cons_of_pos hq, List.length_cons]; omega
      | false => rw [List.filter_cons_of_neg (by simp [hq])]; exact ih
theorem filter_more {α : Type} {p q : α → Bool} (h : ∀ x, p x = true → q x = true) {a : α} (hp : p a = false) (hq : q a = true) : ∀ {l : List α}, a ∈ l → (l.filter p).length < (l.filter q).length
  | x :: l, hm => by
    rcases List.mem_cons.mp hm with rfl | hm
    · rw [List.filter_cons_of_neg (by simp [hp]), List.filter_cons_of_pos hq, List.length_cons]
      exact Nat.lt_succ_of_le (filter_sub h l)
    · have ih := filter_more h hp hq hm
      cases hx : p x with
      | true => rw [List.filter_cons_of_pos hx, List.filter_cons_of_pos (h x hx), List.length_cons, List.length_cons]; omega
      | false =>
        rw [List.filter_cons_of_neg (by simp [hx])]
        cases hy : q x with
        | true => rw [List.filter_cons_of_pos hy, List.length_cons]; omega
        | false => rw [List.filter_cons_of_neg (by simp [hy])]; exact ih
theorem rkP_lt {ps : List (Int × Int)} {p q : Int × Int} (hp : p ∈ ps) : ltP p q = decide (rkP ps p < rkP ps q) := by
  cases h : ltP p q with
  | true =>
    have := filter_more (p := fun z => ltP z p) (q := fun z => ltP z q) (fun x hx => ltP_tr2 hx h) (ltP_irr p) h hp
    exact (decide_eq_true (by unfold rkP; omega)).symm
  | false =>
    have := filter_sub (p := fun z => ltP z q) (q := fun z => ltP z p) (fun x hx => ltP_tr hx h) ps
    exact (decide_eq_false (by unfold rkP; omega)).symm
/-- the pair that a value stands for -/
def prV (H : Hp) : Value → Int × Int
  | .ref r => match H r with
    | some (.tup [.int x, .int y]) => (x, y)
    | _ => (0, 0)
  | _ => (0, 0)
def toV : Value → V
  | .ref r => .ref r
  | _ => .non
section
variable {X : Cx}
/-- sorted(xs), xs a list of pairs of ints -/
theorem call_sorted_pairsL : CallR X (.builtin "sorted") (fun us H Q => ∃ a xs ps, us = [.ref a] ∧ SqL X.K H a xs ∧ PL H xs ps ∧ xs.length ≤ sizeLine ∧
    ∀ D ys qs, H D = none → PL (upd H D (.lst ys)) ys qs → qs.Perm ps → qs.Pairwise (fun p q => ltP q p = false) → Q (.ref D) (upd H D (.lst ys))) := by
  intro pins s σ H us vs Q I r h
  obtain ⟨a, xs, ps, rfl, hq, hP, hzx, q⟩ := h
  obtain ⟨u, rfl, rx⟩ := r.one
  cases (show u = Value.ref a from rx)
  obtain ⟨its, rv, pl, hz⟩ := I.list hq
  have l1 := rv.length
  have l2 := hP.length
  -- the tuples of the items, at every heap that keeps this one
  have tup : ∀ i, i < its.length → ∃ (r : Addr) (t1 t2 : Tok), its.getD i Value.none = .ref r ∧ H r = some (.tup [.int (ps.getD i (0, 0)).1, .int (ps.getD i (0, 0)).2]) ∧ IsTup s.heap r #[.int (ps.getD i (0, 0)).1 t1, .int (ps.getD i (0, 0)).2 t2] := fun i hi => by
    have hx : xs[i]? = some xs[i] := List.getElem?_eq_getElem (by omega)
    obtain ⟨p, r, e1, e2, e3⟩ := hP.get hx
    obtain ⟨u, e4, r4⟩ := rv.get hx
    rw [e2] at r4
    cases (show u = Value.ref r from r4)
    obtain ⟨_, ti, rt, it⟩ := (show ObjOk X.prog X.w H s.heap r (.tup [.int p.1, .int p.2]) from I.hok r _ e3)
    obtain ⟨u1, u2, rfl, r1, r2⟩ := rt.two
    obtain ⟨t1, rfl⟩ := (show ∃ t, u1 = Value.int p.1 t from r1)
    obtain ⟨t2, rfl⟩ := (show ∃ t, u2 = Value.int p.2 t from r2)
    have ep : ps.getD i (0, 0) = p := by rw [List.getD_eq_getElem?_getD, e1]; rfl
    refine ⟨r, t1, t2, by rw [List.getD_eq_getElem?_getD, e4]; rfl, by rw [ep]; exact e3, by rw [ep]; exact it⟩
  have tupv : ∀ v ∈ its, ∃ (r : Addr) (t1 t2 : Tok), v = .ref r ∧ prV H v ∈ ps ∧ H r = some (.tup [.int (prV H v).1, .int (prV H v).2]) ∧ IsTup s.heap r #[.int (prV H v).1 t1, .int (prV H v).2 t2] := fun v hv => by
    obtain ⟨i, e⟩ := List.getElem?_of_mem hv
    have hi : i < its.length := (List.getElem?_eq_some_iff.mp e).1
    obtain ⟨r, t1, t2, e1, e2, e3⟩ := tup i hi
    rw [List.getD_eq_getElem?_getD, e] at e1
    have e1 : v = .ref r := e1
    have ep : prV H v = ps.getD i (0, 0) := by
      rw [e1]
      unfold prV
      dsimp only
      rw [e2]
    have hm : ps.getD i (0, 0) ∈ ps := by
      have := List.getElem?_eq_getElem (l := ps) (i := i) (by omega)
      rw [List.getD_eq_getElem?_getD, this]
      exact List.getElem_mem _
    exact ⟨r, t1, t2, e1, by rw [ep]; exact hm, by rw [ep]; exact e2, by rw [ep]; exact e3⟩
  have hmap : its.map (prV H) = ps := by
    refine List.ext_getElem? fun i => ?_
    rw [List.getElem?_map]
    rcases Nat.lt_or_ge i its.length with hi | hi
    · obtain ⟨r, t1, t2, e1, e2, _⟩ := tup i hi
      have ei := List.getElem?_eq_getElem hi
      have ep := List.getElem?_eq_getElem (l := ps) (i := i) (by omega)
      rw [List.getD_eq_getElem?_getD, ei] at e1
      have e1 : its[i] = .ref r := e1
      rw [ei, ep, e1]
      rw [List.getD_eq_getElem?_getD, ep] at e2
      have e2 : H r = some (.tup [.int ps[i].1, .int ps[i].2]) := e2
      show some (prV H (.ref r)) = _
      unfold prV
      dsimp only
      rw [e2]
    · rw [List.getElem?_eq_none hi, List.getElem?_eq_none (by omega)]
      rfl
  refine sorted_big (G := fun out => out.toList.Perm its ∧ (out.toList.map (prV H)).Pairwise (fun p q => ltP q p = false)) pl.isList (by omega) (fun h2 s' kp E' => ?_) (fun h2 => ?_) fun out h' D c hos ho hD kp e => ?_
  · have kt : ∀ {r : Addr} {zs : Array Value}, IsTup s.heap r zs → IsTup s'.heap r zs := fun ⟨o, e, c⟩ => ⟨o, kp _ _ e, c⟩
    have firsts : KatTups s'.heap its ((List.range its.length).map fun i => match (its.getD i Value.none) with | .ref r => (match s'.heap.get? r with | some o => (match o.data with | .seq zs _ => (zs[0]?).getD Value.none | _ => Value.none) | none => Value.none) | _ => Value.none) := by
      have all : ∀ (l : List Nat), (∀ i ∈ l, i < its.length) → KatTups s'.heap (l.map fun i => its.getD i Value.none) (l.map fun i => match (its.getD i Value.none) with | .ref r => (match s'.heap.get? r with | some o => (match o.data with | .seq zs _ => (zs[0]?).getD Value.none | _ => Value.none) | none => Value.none) | _ => Value.none) := by
        intro l
        induction l with
        | nil => intro _; exact KatTups.nil
        | cons i l ih =>
          intro hl
          obtain ⟨r, t1, t2, e1, _, it⟩ := tup i (hl i List.mem_cons_self)
          obtain ⟨o, eo, co, n, d⟩ := kt it
          rw [List.map_cons, List.map_cons, e1]
          refine KatTups.cons eo co d ?_ (ih fun j hj => hl j (List.mem_cons_of_mem _ hj))
          dsimp only
          rw [eo]
          dsimp only
          rw [d]
          rfl
      have z := all (List.range its.length) fun i hi => List.mem_range.mp hi
      rw [map_range_getD] at z
      exact z
    refine ⟨tuples' true, fun x => rkP ps (prV H x.1), fun Q hQ => ?_, ask_of fun x y Q E'' hx hy hq => ?_, fun arr hp hs => ?_⟩
    · refine kat_kind (T := .type "int") firsts (by simp; omega) (fun v hv => ?_) rfl hQ
      obtain ⟨i, hi, rfl⟩ := List.mem_map.mp hv
      obtain ⟨r, t1, t2, e1, _, it⟩ := tup i (List.mem_range.mp hi)
      obtain ⟨o, eo, co, n, d⟩ := kt it
      rw [e1]
      dsimp only
      rw [eo]
      dsimp only
      rw [d]
      exact Looks.of_pure rfl
    · have hx' : x.1 ∈ its := (mem_zip_self (by rw [← pairsOf_toList]; exact Array.mem_toList_iff.mpr hx)).2
      have hy' : y.1 ∈ its := (mem_zip_self (by rw [← pairsOf_toList]; exact Array.mem_toList_iff.mpr hy)).2
      obtain ⟨r, t1, t2, e1, m1, _, it⟩ := tupv x.1 hx'
      obtain ⟨r', t3, t4, e2, _, _, it'⟩ := tupv y.1 hy'
      rw [← rkP_lt m1] at hq
      generalize hpx : prV H x.1 = px at it hq
      generalize hpy : prV H y.1 = py at it' hq
      rw [e1, e2]
      exact lt_pairs (kt it) (kt it') hq
    · have hl : arr.toList.Perm (its.zip its) := by rw [← pairsOf_toList]; exact Array.perm_iff_toList_perm.mp hp
      have hmem : ∀ p ∈ arr.toList, p.1 = p.2 ∧ p.1 ∈ its := fun p hp' => mem_zip_self (hl.mem_iff.mp hp')
      have e2 : (arr.map (·.2)).toList = arr.toList.map (·.2) := Array.toList_map
      have hsz : arr.size = its.length := by rw [hp.size_eq, pairsOf_size]
      refine ⟨?_, ?_⟩
      · rw [e2]
        have := hl.map (·.2)
        rwa [List.map_snd_zip (Nat.le_refl _)] at this
      · rw [e2, List.map_map, List.pairwise_iff_getElem]
        intro i j hi hj hij
        have hi' : i < arr.size := by simpa using hi
        have hj' : j < arr.size := by simpa using hj
        have z := hs i j (Nat.zero_le _) (Nat.le_of_lt hij) (by omega)
        rw [Ts.Kx_at hi', Ts.Kx_at hj'] at z
        have mi := hmem arr[i] (by simp)
        have mj := hmem arr[j] (by simp)
        obtain ⟨_, _, _, _, m1, _⟩ := tupv _ mi.2
        obtain ⟨_, _, _, _, m2, _⟩ := tupv _ mj.2
        have : ltP (prV H arr[j].1) (prV H arr[i].1) = false := by
          rw [rkP_lt m2]
          exact decide_eq_false (by omega)
        rw [mi.1, mj.1] at this
        simpa using this
  · refine ⟨List.Perm.refl _, ?_⟩
    match its, h2 with
    | [], _ => exact List.Pairwise.nil
    | [_], _ => exact List.pairwise_singleton _ _
    | _ :: _ :: _, h2 => exact absurd h2 (by simp)
  · obtain ⟨g1, g3⟩ := ho
    have hmem : ∀ v ∈ out.toList, v ∈ its := fun v hv => g1.mem_iff.mp hv
    have hn : H D = none := I.hok.fresh hD
    have vz : Vals (out.toList.map toV) (out.toList.map id) := Paired.map_of fun v hv => by
      obtain ⟨r, _, _, e1, _⟩ := tupv v (hmem v hv)
      rw [e1]; rfl
    rw [List.map_id] at vz
    have hlen : (out.toList.map toV).length ≤ sizeLine := by
      rw [List.length_map, Array.length_toList, hos]; omega
    have e : h'.get? D = some (seqObj "list" (List.toArray out.toList) c) := by rw [Array.toArray_toList]; exact e
    refine ⟨.ref D, upd H D (.lst (out.toList.map toV)), I.laid (t' := s.toks) kp hD ⟨hlen, _, c, vz, e⟩, rfl, q D _ (out.toList.map (prV H)) hn (Paired.map_of fun v hv => ?_) ?_ g3⟩
    · obtain ⟨r, _, _, e1, _, e3, _⟩ := tupv v (hmem v hv)
      exact ⟨r, by rw [e1]; rfl, sameT_new hn _ _ e3⟩
    · have := g1.map (prV H)
      rwa [hmap] at this
end
end L2

set_option Elab.async false
set_option maxRecDepth 100000
set_option maxHeartbeats 4000000
set_option linter.all false
namespace My
open PySem L2
def top (i : Nat) : Stmt := PySem.Challenge.pw_rowjudge_k09_whole_deeds.main.body.getD i (.Pass ⟨0, 0, 0, 0⟩)
abbrev s_tidy : Stmt := top 1
abbrev s_holds : Stmt := top 2
abbrev s_either : Stmt := top 3
abbrev s_both : Stmt := top 4
abbrev s_without : Stmt := top 5
abbrev s_gaps : Stmt := top 6
abbrev s_law_cell : Stmt := top 8
abbrev s_law_start : Stmt := top 9
abbrev s_law_thing : Stmt := top 10
abbrev s_law_whole : Stmt := top 11
abbrev s_law_apart : Stmt := top 12
abbrev s_law_in : Stmt := top 13
abbrev s_law_deed : Stmt := top 14
abbrev s_law_truth : Stmt := top 15
abbrev s_law : Stmt := top 16
theorem sc_tidy : FnScope ["pairs", "spans", "low", "high"] ["pairs"] (defScope s_tidy) := ⟨rfl, rfl, rfl, by decide +kernel, rfl, by decide +kernel, by decide +kernel⟩
theorem sc_holds : FnScope ["spans", "number", "low", "high"] ["spans", "number"] (defScope s_holds) := ⟨rfl, rfl, rfl, by decide +kernel, rfl, by decide +kernel, by decide +kernel⟩
theorem sc_either : FnScope ["ones", "others"] ["ones", "others"] (defScope s_either) := ⟨rfl, rfl, rfl, by decide +kernel, rfl, by decide +kernel, by decide +kernel⟩
theorem sc_both : FnScope ["ones", "others", "shared", "at_one", "at_other", "one", "other", "low", "high"] ["ones", "others"] (defScope s_both) := ⟨rfl, rfl, rfl, by decide +kernel, rfl, by decide +kernel, by decide +kernel⟩
theorem sc_without : FnScope ["ones", "others"] ["ones", "others"] (defScope s_without) := ⟨rfl, rfl, rfl, by decide +kernel, rfl, by decide +kernel, by decide +kernel⟩
theorem sc_gaps : FnScope ["spans", "low", "high", "free", "start", "first", "last", "end"] ["spans", "low", "high"] (defScope s_gaps) := ⟨rfl, rfl, rfl, by decide +kernel, rfl, by decide +kernel, by decide +kernel⟩
theorem sc_law_cell : FnScope ["script", "k"] ["script", "k"] (defScope s_law_cell) := ⟨rfl, rfl, rfl, by decide +kernel, rfl, by decide +kernel, by decide +kernel⟩
theorem sc_law_start : FnScope ["cell"] ["cell"] (defScope s_law_start) := ⟨rfl, rfl, rfl, by decide +kernel, rfl, by decide +kernel, by decide +kernel⟩
theorem sc_law_thing : FnScope ["cell", "base", "mixed", "mid", "told", "low", "high"] ["cell", "base"] (defScope s_law_thing) := ⟨rfl, rfl, rfl, by decide +kernel, rfl, by decide +kernel, by decide +kernel⟩
theorem sc_law_whole : FnScope ["found"] ["found"] (defScope s_law_whole) := ⟨rfl, rfl, rfl, by decide +kernel, rfl, by decide +kernel, by decide +kernel⟩
theorem sc_law_apart : FnScope ["found", "k"] ["found"] (defScope s_law_apart) := ⟨rfl, rfl, rfl, by decide +kernel, rfl, by decide +kernel, by decide +kernel⟩
theorem sc_law_in : FnScope ["spans", "number", "pair"] ["spans", "number"] (defScope s_law_in) := ⟨rfl, rfl, rfl, by decide +kernel, rfl, by decide +kernel, by decide +kernel⟩
theorem sc_law_deed : FnScope ["cell", "kept", "thing"] ["cell", "kept", "thing"] (defScope s_law_deed) := ⟨rfl, rfl, rfl, by decide +kernel, rfl, by decide +kernel, by decide +kernel⟩
theorem sc_law_truth : FnScope ["cell", "was", "within"] ["cell", "was", "within"] (defScope s_law_truth) := ⟨rfl, rfl, rfl, by decide +kernel, rfl, by decide +kernel, by decide +kernel⟩
theorem sc_law : FnScope ["script", "base", "probes", "truth", "told", "copies", "cell", "thing", "found", "k"] ["script"] (defScope s_law) := ⟨rfl, rfl, rfl, by decide +kernel, rfl, by decide +kernel, by decide +kernel⟩
structure Bl (K : PySem.W.Frag) (mg : Str → Option Value) : Prop where
  sorted_ : mg "sorted" = none
  max_ : mg "max" = none
  min_ : mg "min" = none
  len_ : mg "len" = none
  isinstance_ : mg "isinstance" = none
  int_ : mg "int" = none
  bool_ : mg "bool" = none
  range_ : mg "range" = none
  list_ : mg "list" = none
  tuple_ : mg "tuple" = none
theorem cut_map (ns : List Int) (lo hi : Option Int) : ∃ ms : List Int, cutV (ns.map V.int) lo hi = ms.map V.int ∧ ms.length ≤ ns.length := by
  unfold cutV
  refine ⟨(ns.drop (HT.sIx (ns.map V.int).length 0 lo)).take (HT.sIx (ns.map V.int).length (ns.map V.int).length hi - HT.sIx (ns.map V.int).length 0 lo), ?_, ?_⟩
  · rw [List.map_take, List.map_drop]
  · rw [List.length_take, List.length_drop]; omega
theorem p10 (n : Nat) : (0 : Int) < 10 ^ n := Int.pow_pos (by decide)
theorem in_t {n : Int} {p : Int × Int} (c : decide (p.1 ≤ n) = true) (d : decide (n ≤ p.2) = true) : inR n p = true := by unfold inR; rw [c, d]; rfl
theorem in_f1 {n : Int} {p : Int × Int} (c : ¬ decide (p.1 ≤ n) = true) : inR n p = false := by unfold inR; rw [Bool.eq_false_iff.mpr c]; rfl
theorem in_f2 {n : Int} {p : Int × Int} (d : ¬ decide (n ≤ p.2) = true) : inR n p = false := by unfold inR; rw [Bool.eq_false_iff.mpr d, Bool.and_false]
theorem getI {xs : List V} {i : Nat} {x : V} (e : xs[i]? = some x) : atI xs (0 + (i : Int)) = some x := by
  rw [Int.zero_add]; exact atI_nat e
theorem z0 (a b : Int) : atI [V.int a, V.int b] 0 = some (V.int a) := rfl
theorem z1 (a b : Int) : atI [V.int a, V.int b] 1 = some (V.int b) := rfl
theorem ret_r1 {H : Hp} {r : Addr} {o : HO} {b : Addr} {u : HO} (h : H r = some u) (n : H b = none) : upd H b o r = some u := by rw [upd_ne (ne_of_none h n)]; exact h
theorem ixN_last {n : Nat} (h : 0 < n) : ixN n (-1) = some (n - 1) := by
  unfold ixN
  rw [if_neg (by decide), if_pos (by omega)]
  congr 1
  omega
theorem set_last {α : Type} (l : List α) (x y : α) : (l ++ [x]).set ((l ++ [x]).length - 1) y = l ++ [y] := by
  have e : (l ++ [x]).length - 1 = l.length := by simp
  rw [e, List.set_append_right _ _ (Nat.le_refl _), Nat.sub_self]
  rfl
theorem take_snoc {α : Type} {l : List α} {i : Nat} {x : α} (e : l[i]? = some x) : l.take (i + 1) = l.take i ++ [x] := by rw [List.take_add_one, e]; rfl
/-- the pairs ahead of place i are not above it -/
theorem sorted_le {qs : List (Int × Int)} (h : qs.Pairwise fun p q => ltP q p = false) {i : Nat} {p : Int × Int} (e : qs[i]? = some p) : ∀ q ∈ qs.take i, q.1 ≤ p.1 := fun q hq => by
  obtain ⟨hi, rfl⟩ := List.getElem?_eq_some_iff.mp e
  obtain ⟨j, hj, rfl⟩ := List.mem_take_iff_getElem.mp hq
  have z := List.pairwise_iff_getElem.mp h j i (by omega) hi (by omega)
  simp only [ltP, Bool.or_eq_false_iff, decide_eq_false_iff_not] at z
  omega
theorem get_map {ns : List Int} {i : Nat} {c : Int} (e : ns[i]? = some c) : (ns.map V.int)[i]? = some (.int c) := by rw [List.getElem?_map, e]; rfl
theorem of_map {ns : List Int} {i : Nat} {x : V} (e : (ns.map V.int)[i]? = some x) : ∃ c, x = .int c ∧ ns[i]? = some c := by
  rw [List.getElem?_map] at e
  cases q : ns[i]? with
  | none => rw [q] at e; cases e
  | some c => rw [q] at e; cases e; exact ⟨c, rfl, rfl⟩
/-- what a deed leaves in -/
def dF (c : Int) (a b : Bool) : Bool := if c % 4 < 2 then a || b else if c % 4 = 2 then a && b else a && !b
def CpA (N : Addr → Prop) (H : Hp) (x y : V) : Prop := ∃ (a b : Addr) (us : List V) (R : List (Int × Int)), x = .ref a ∧ y = .ref b ∧ N a ∧ N b ∧ H a = some (.lst us) ∧ H b = some (.lst us) ∧ PL H us R
theorem CpA.same {N : Addr → Prop} {H H' : Hp} {x y : V} (h : CpA N H x y) (s : Same H H') : CpA N H' x y := by
  obtain ⟨a, b, us, R, h1, h2, h3, h4, h5, h6, h7⟩ := h
  exact ⟨a, b, us, R, h1, h2, h3, h4, s _ _ h5, s _ _ h6, h7.mono s.tups⟩
theorem CpA.upd {N : Addr → Prop} {H : Hp} {x y : V} {t : Addr} {ys : List V} {o : HO} (h : CpA N H x y) (n : ¬ N t) (e : H t = some (.lst ys)) : CpA N (upd H t o) x y := by
  obtain ⟨a, b, us, R, h1, h2, h3, h4, h5, h6, h7⟩ := h
  refine ⟨a, b, us, R, h1, h2, h3, h4, (upd_ne (fun (z : a = t) => n (z ▸ h3))).trans h5, (upd_ne (fun (z : b = t) => n (z ▸ h4))).trans h6, h7.mono fun r o' hr => (upd_ne fun z => ?_).trans hr⟩
  rw [z, e] at hr
  cases hr
theorem deq_lst {K : PySem.W.Frag} {H : Hp} {n : Nat} {a b : Addr} {xs ys : List V} (ha : SqL K H a xs) (hb : SqL K H b ys) (hl : xs.length = ys.length) (h : ∀ (j : Nat) (x y : V), xs[j]? = some x → ys[j]? = some y → DEq K H n x y true) : DEq K H (n + 1) (.ref a) (.ref b) true := by
  by_cases e : a = b
  · subst e; exact .same a
  · have := DEq.lst (f := fun _ => true) e ha hb hl h
    rw [show (List.range xs.length).all (fun _ => true) = true by simp] at this
    exact this
theorem CpA.deq {K : PySem.W.Frag} {N : Addr → Prop} {H : Hp} {x y : V} (h : CpA N H x y) : DEq K H 60 x y true := by
  obtain ⟨a, b, us, R, rfl, rfl, _, _, h5, h6, h7⟩ := h
  refine deq_lst (n := 59) (SqL.of h5) (SqL.of h6) rfl fun j x y e1 e2 => ?_
  rw [e1] at e2
  cases e2
  obtain ⟨_, r, _, rfl, _⟩ := h7.get e1
  exact .same r
theorem Paired.at_ {α β : Type} {R : α → β → Prop} : ∀ {xs : List α} {ys : List β} {j : Nat} {x : α} {y : β}, Paired R xs ys → xs[j]? = some x → ys[j]? = some y → R x y
  | _, _, 0, _, _, .cons h _, e1, e2 => by cases e1; cases e2; exact h
  | _, _, j + 1, _, _, .cons _ t, e1, e2 => Paired.at_ t (by simpa using e1) (by simpa using e2)
def sp_tidy (K : PySem.W.Frag) : Sp := fun vs H Q _ => ∃ (a : Addr) (xs : List V) (ps : List (Int × Int)), vs = [.ref a] ∧ SqL K H a xs ∧ PL H xs ps ∧ xs.length ≤ 500 ∧
  ∀ (r : Addr) (H' : Hp) (ys : List V) (R : List (Int × Int)), Same H H' → H r = none → H' r = some (.lst ys) → PL H' ys R → TidI R ps → ys.length ≤ xs.length → Q (.ref r) H'
def sp_holds (K : PySem.W.Frag) : Sp := fun vs H Q _ => ∃ (a : Addr) (xs : List V) (ps : List (Int × Int)) (n : Int), vs = [.ref a, .int n] ∧ SqL K H a xs ∧ PL H xs ps ∧ Q (.bl (inP ps n)) H
def sp_both (K : PySem.W.Frag) : Sp := fun vs H Q _ => ∃ (a b : Addr) (xs ys : List V) (A B : List (Int × Int)), vs = [.ref a, .ref b] ∧ SqL K H a xs ∧ SqL K H b ys ∧ PL H xs A ∧ PL H ys B ∧ Apart A ∧ Apart B ∧ xs.length + ys.length ≤ 900 ∧
  ∀ (r : Addr) (H' : Hp) (zs : List V) (R : List (Int × Int)), Same H H' → H r = none → H' r = some (.lst zs) → PL H' zs R → Apart R → (∀ n, inP R n = (inP A n && inP B n)) → zs.length ≤ xs.length + ys.length → Q (.ref r) H'
def sp_gaps (K : PySem.W.Frag) : Sp := fun vs H Q _ => ∃ (a : Addr) (xs : List V) (T : List (Int × Int)) (lo hi : Int), vs = [.ref a, .int lo, .int hi] ∧ SqL K H a xs ∧ PL H xs T ∧ Apart T ∧ xs.length ≤ 450 ∧
  ∀ (r : Addr) (H' : Hp) (zs : List V) (F : List (Int × Int)), Same H H' → H r = none → H' r = some (.lst zs) → PL H' zs F → Apart F → (∀ n, inP F n = (decide (lo ≤ n) && decide (n ≤ hi) && !inP T n)) → zs.length ≤ xs.length + 1 → Q (.ref r) H'
def sp_law_cell (K : PySem.W.Frag) : Sp := fun vs H Q _ => ∃ (a : Addr) (ns : List Int) (k : Int), vs = [.ref a, .int k] ∧ SqL K H a (ns.map V.int) ∧ 0 ≤ k ∧ ∀ r : Int, Q (.int r) H
def sp_law_start (K : PySem.W.Frag) : Sp := fun vs H Q _ => ∃ c : Int, vs = [.int c] ∧ ∀ r : Int, Q (.int r) H
def sp_law_thing (K : PySem.W.Frag) : Sp := fun vs H Q _ => ∃ (c b : Int), vs = [.int c, .int b] ∧ ∀ (r : Addr) (H' : Hp) (ys : List V) (B : List (Int × Int)), Same H H' → H r = none → H' r = some (.lst ys) → PL H' ys B → Apart B → ys.length ≤ 2 → Q (.ref r) H'
def sp_law_whole (K : PySem.W.Frag) : Sp := fun vs H Q _ => ∃ i : Int, vs = [.int i] ∧ Q (.bl true) H
def sp_law_in (K : PySem.W.Frag) : Sp := fun vs H Q _ => ∃ (a : Addr) (xs : List V) (ps : List (Int × Int)) (n : Int), vs = [.ref a, .int n] ∧ SqL K H a xs ∧ PL H xs ps ∧ Q (.bl (inP ps n)) H
def sp_law_truth (K : PySem.W.Frag) : Sp := fun vs H Q _ => ∃ (c : Int) (a b : Bool), vs = [.int c, .bl a, .bl b] ∧ Q (.bl (dF c a b)) H
def sp_either (K : PySem.W.Frag) : Sp := fun vs H Q _ => ∃ (a b : Addr) (xs ys : List V) (A B : List (Int × Int)), vs = [.ref a, .ref b] ∧ H a = some (.lst xs) ∧ H b = some (.lst ys) ∧ PL H xs A ∧ PL H ys B ∧ xs.length + ys.length ≤ 500 ∧
  ∀ (r : Addr) (H' : Hp) (zs : List V) (R : List (Int × Int)), Same H H' → H r = none → H' r = some (.lst zs) → PL H' zs R → Apart R → (∀ n, inP R n = (inP A n || inP B n)) → zs.length ≤ xs.length + ys.length → Q (.ref r) H'
def sp_without (K : PySem.W.Frag) : Sp := fun vs H Q _ => ∃ (a b : Addr) (xs ys : List V) (A B : List (Int × Int)), vs = [.ref a, .ref b] ∧ SqL K H a xs ∧ SqL K H b ys ∧ PL H xs A ∧ PL H ys B ∧ Apart A ∧ Apart B ∧ xs.length ≤ 450 ∧ ys.length ≤ 449 ∧
  ∀ (r : Addr) (H' : Hp) (zs : List V) (R : List (Int × Int)), Same H H' → H r = none → H' r = some (.lst zs) → PL H' zs R → Apart R → (∀ n, inP R n = (inP A n && !inP B n)) → zs.length ≤ xs.length + (ys.length + 1) → Q (.ref r) H'
def sp_law_apart (K : PySem.W.Frag) : Sp := fun vs H Q _ => ∃ (a : Addr) (xs : List V) (R : List (Int × Int)), vs = [.ref a] ∧ H a = some (.lst xs) ∧ PL H xs R ∧ Apart R ∧ xs.length ≤ 1000 ∧ Q (.bl true) H
def sp_law_deed (K : PySem.W.Frag) : Sp := fun vs H Q _ => ∃ (c : Int) (a b : Addr) (xs ys : List V) (A B : List (Int × Int)), vs = [.int c, .ref a, .ref b] ∧ H a = some (.lst xs) ∧ H b = some (.lst ys) ∧ PL H xs A ∧ PL H ys B ∧ Apart A ∧ Apart B ∧ xs.length ≤ 300 ∧ ys.length ≤ 2 ∧
  ∀ (r : Addr) (H' : Hp) (zs : List V) (R : List (Int × Int)), Same H H' → H r = none → H' r = some (.lst zs) → PL H' zs R → Apart R → (∀ n, inP R n = dF c (inP A n) (inP B n)) → zs.length ≤ xs.length + 3 → Q (.ref r) H'
def sp_law (K : PySem.W.Frag) : Sp := fun vs H Q _ => ∃ (a : Addr) (ns : List Int), vs = [.ref a] ∧ SqL K H a (ns.map V.int) ∧ ns.length ≤ 63 ∧ ∀ H', Q (.bl true) H'
section
variable {P : Program} {w : World} {K : PySem.W.Frag} {mg : Str → Option Value} {base : Heap} {f : Addr} {fd : FuncData}
theorem ok_tidy (F : Fun K "tidy" "tidy" s_tidy f fd) (bl : Bl K mg)  : FnOk P w K mg base CX0 1 f fd ["pairs"] (sp_tidy K) := by
  refine F.ok sc_tidy (fun vs H Q E h => ?_) (fun cdv A outer s H vs Q E hr h => ?_)
  · obtain ⟨a, xs, ps, rfl, hS, hP, h64, q⟩ := h
    rfl
  obtain ⟨a, xs, ps, rfl, hS, hP, h64, q⟩ := h
  refine ⟨_, (pss_cons (ps_set (i := 1) sc_tidy.nd rfl (Or.inl rfl) (pe_lst pa_nil))
     (pss_cons (ps_for PassesOwn.never rfl (pi_list (pe_callB call_sorted_pairsL rfl bl.sorted_ PyProof.Rows.boot_sorted (pa_cons (pv 0) pa_nil))) (pg_tup rfl (pgs_cons (pg_name (i := 2) sc_tidy.nd rfl (Or.inl rfl)) (pgs_cons (pg_name (i := 3) sc_tidy.nd rfl (Or.inl rfl)) pgs_nil)))
     (pss_cons (ps_if (pt_cmpR op_gt (pv 2) (pv 3) (nomark _))
     (pss_one ps_continue)
     pss_nil)
     (pss_one (ps_if (PW.pt (pw_and (pt_truth (pv 1) (by intro _; rfl)) (pw_and1 (pt_cmpR op_le (pv 2) (pe_op op_add (pe_ix ix_tup (pe_ix ix_list (pv 1) (pe_un un_neg pe_int) (fun _ _ => rfl)) pe_int (fun _ _ => rfl)) pe_int) (nomark _)))))
     (pss_one (ps_asg (pe_tup (pa_cons (pe_ix ix_tup (pe_ix ix_list (pv 1) (pe_un un_neg pe_int) (fun _ _ => rfl)) pe_int (fun _ _ => rfl)) (pa_cons (pe_callB (call_max2 rfl) rfl bl.max_ PyProof.Rows.boot_max (pa_cons (pe_ix ix_tup (pe_ix ix_list (pv 1) (pe_un un_neg pe_int) (fun _ _ => rfl)) pe_int (fun _ _ => rfl)) (pa_cons (pv 3) pa_nil))) pa_nil))) (pg_sub (pv 1) (pe_un un_neg pe_int) set_list)))
     (pss_one (ps_expr (pe_bm PySem.F.plainAttrs_list PySem.F.slot_list_append PySem.F.type_list_append mt_append (pv 1) (pa_cons (pe_tup (pa_cons (pv 2) (pa_cons (pv 3) pa_nil))) pa_nil))))))))
     (pss_one (ps_ret (pv 1))))), ?_⟩
  refine ⟨(by show 0 ≤ sizeLine; decide), fun sp hsp => ?_⟩
  have s0 : Same H (upd H sp (.lst [])) := same_new hsp _
  refine ⟨_, rfl, a, xs, ps, rfl, s0.seq hS, hP.mono s0.tups, Nat.le_trans h64 (by decide), fun D zs qs hD hZ hperm hsort => ?_⟩
  have eD : H D = none := s0.free hD
  have nDs : sp ≠ D := ne_of_none upd_same hD
  have hlen : zs.length = xs.length := by rw [hZ.length, hperm.length_eq, ← hP.length]
  refine ⟨D, rfl, ⟨_, SqL.of upd_same⟩, for_list (xs := zs) (fun i σ H' => ∃ (c2 c3 : Option V) (ys : List V) (R : List (Int × Int)), σ = [some (.ref a), some (.ref sp), c2, c3] ∧ Same H H' ∧ H' D = some (.lst zs) ∧ H' sp = some (.lst ys) ∧ PL H' ys R ∧ PL H' zs qs ∧ TidI R (qs.take i) ∧ ys.length ≤ i)
    ⟨none, none, [], [], rfl, s0.trans (same_new hD _), upd_same, ret_r1 upd_same hD, .nil, hZ, TidI.nil, Nat.zero_le _⟩
    (fun i σ H' _ h => by obtain ⟨_, _, _, _, _, _, e, _⟩ := h; exact SqL.of e) (fun i x σ H' e h => ?_) (fun σ H' h => ?_)⟩
  · obtain ⟨c2, c3, ys, R, rfl, sm, eZ, eY, hY, hZ', ti, hl⟩ := h
    obtain ⟨p, r, e1, rfl, hr'⟩ := hZ'.get e
    have hle := sorted_le hsort e1
    have hi : i < zs.length := (List.getElem?_eq_some_iff.mp e).1
    refine ⟨r, _, rfl, SqT.of hr', rfl, _, _, rfl, _, _, rfl, rfl, ?_⟩
    refine ⟨_, rfl, _, rfl, _, _, rfl, rfl, _, rfl, ?_⟩
    refine ite2 (fun c => ?_) (fun c => ?_)
    · have c' : p.2 < p.1 := dec_t c
      exact ⟨_, _, ys, R, rfl, sm, eZ, eY, hY, hZ', by rw [take_snoc e1]; exact ti.skip c', by omega⟩
    have c' : p.1 ≤ p.2 := Int.not_lt.mp (dec_f c)
    -- behind: the pair is put at the end
    have put : (∀ r0 ∈ R, r0.2 + 2 ≤ p.1) → ∀ t, H' t = none → ∃ (c2 c3 : Option V) (ys2 : List V) (R2 : List (Int × Int)), [some (V.ref a), some (V.ref sp), some (V.int p.1), some (V.int p.2)] = [some (.ref a), some (.ref sp), c2, c3] ∧ Same H (upd (upd H' t (.tup [.int p.1, .int p.2])) sp (.lst (ys ++ [.ref t]))) ∧ upd (upd H' t (.tup [.int p.1, .int p.2])) sp (.lst (ys ++ [.ref t])) D = some (.lst zs) ∧
        upd (upd H' t (.tup [.int p.1, .int p.2])) sp (.lst (ys ++ [.ref t])) sp = some (.lst ys2) ∧ PL (upd (upd H' t (.tup [.int p.1, .int p.2])) sp (.lst (ys ++ [.ref t]))) ys2 R2 ∧ PL (upd (upd H' t (.tup [.int p.1, .int p.2])) sp (.lst (ys ++ [.ref t]))) zs qs ∧ TidI R2 (qs.take (i + 1)) ∧ ys2.length ≤ i + 1 := fun hgap t ht => by
      have e3 : upd H' t (.tup [.int p.1, .int p.2]) sp = some (.lst ys) := ret_r1 eY ht
      have st1 : SameT H' (upd (upd H' t (.tup [.int p.1, .int p.2])) sp (.lst (ys ++ [.ref t]))) := (sameT_new ht).trans (sameT_lst e3)
      refine ⟨_, _, ys ++ [.ref t], R ++ [p], rfl, (sm.trans (same_new ht _)).upd hsp, by rw [upd_ne nDs.symm]; exact ret_r1 eZ ht, upd_same, (hY.mono st1).snoc (sameT_lst e3 _ _ upd_same), hZ'.mono st1, by rw [take_snoc e1]; exact ti.add c' hgap, ?_⟩
      rw [List.length_append, List.length_singleton]; omega
    refine ⟨_, rfl, !ys.isEmpty, .inl ⟨ys, SqL.of eY, rfl⟩, ?_⟩
    by_cases hne : ys = []
    · have hR : R = [] := by
        have := hY.length
        rw [hne] at this
        exact List.eq_nil_of_length_eq_zero this.symm
      have eE : (!ys.isEmpty) = false := by rw [hne]; rfl
      rw [eE]
      refine iteF (iteF ?_)
      refine ⟨_, rfl, .inl ⟨rfl, _, SqL.of eY⟩, _, rfl, _, rfl, (by show 2 ≤ sizeLine; decide), fun t ht => ?_⟩
      refine ⟨sp, ys, _, rfl, rfl, ret_r1 eY ht, small1000 (by omega), ?_⟩
      exact put (by rw [hR]; intro r0 h0; cases h0) t ht
    · obtain ⟨ys', rl, R', l, rfl, rfl, hY2, hrl⟩ := PL.last hY hne
      have eE : (!(ys' ++ [V.ref rl]).isEmpty) = true := by cases ys' <;> rfl
      rw [eE]
      refine iteT ?_
      refine ⟨_, rfl, _, rfl, _, rfl, sp, _, _, _, rfl, rfl, SqL.of eY, atI_last _ _, rl, _, _, _, rfl, rfl, SqT.of hrl, z1 _ _, _, _, rfl, rfl, _, _, rfl, rfl, _, rfl, ?_⟩
      refine ite2 (fun d => ?_) (fun d => ?_)
      · have d' : p.1 ≤ l.2 + 1 := dec_t d
        have hl1 : l.1 ≤ p.1 := by
          obtain ⟨q0, hq0, e0⟩ := ti.low l (by simp)
          rw [e0]; exact hle q0 hq0
        refine ⟨_, rfl, _, rfl, sp, _, _, _, rfl, rfl, SqL.of eY, atI_last _ _, rl, _, _, _, rfl, rfl, SqT.of hrl, z0 _ _, _, rfl, _, rfl, sp, _, _, _, rfl, rfl, SqL.of eY, atI_last _ _, rl, _, _, _, rfl, rfl, SqT.of hrl, z1 _ _, _, rfl, _, _, rfl, (by show 2 ≤ sizeLine; decide), fun t ht => ?_⟩
        have e3 : upd H' t (.tup [.int l.1, .int (if p.2 > l.2 then p.2 else l.2)]) sp = some (.lst (ys' ++ [.ref rl])) := ret_r1 eY ht
        refine ⟨_, rfl, _, rfl, sp, _, _, _, rfl, rfl, e3, ixN_last (by simp), ?_⟩
        rw [set_last]
        have st1 : SameT H' (upd (upd H' t (.tup [.int l.1, .int (if p.2 > l.2 then p.2 else l.2)])) sp (.lst (ys' ++ [.ref t]))) := (sameT_new ht).trans (sameT_lst e3)
        refine ⟨_, _, ys' ++ [.ref t], R' ++ [(l.1, if p.2 > l.2 then p.2 else l.2)], rfl, (sm.trans (same_new ht _)).upd hsp, by rw [upd_ne nDs.symm]; exact ret_r1 eZ ht, upd_same, (hY2.mono st1).snoc (sameT_lst e3 _ _ upd_same), hZ'.mono st1, ?_, ?_⟩
        · rw [take_snoc e1]
          exact ti.join hl1 d' c' (by split <;> omega)
        · rw [List.length_append, List.length_singleton] at hl ⊢; omega
      · have d' : ¬ p.1 ≤ l.2 + 1 := dec_f d
        refine ⟨_, rfl, .inl ⟨rfl, _, SqL.of eY⟩, _, rfl, _, rfl, (by show 2 ≤ sizeLine; decide), fun t ht => ?_⟩
        refine ⟨sp, _, _, rfl, rfl, ret_r1 eY ht, small1000 (by omega), ?_⟩
        exact put (ti.ap.last (by omega)) t ht
  · obtain ⟨c2, c3, ys, R, rfl, sm, eZ, eY, hY, hZ', ti, hl⟩ := h
    rw [hZ'.length, List.take_length] at ti
    exact ⟨_, rfl, q sp H' ys R sm hsp eY hY (ti.perm hperm) (by omega)⟩
theorem ok_holds (F : Fun K "holds" "holds" s_holds f fd) (bl : Bl K mg)  : FnOk P w K mg base CX0 1 f fd ["spans", "number"] (sp_holds K) := by
  refine F.ok sc_holds (fun vs H Q E h => ?_) (fun cdv A outer s H vs Q E hr h => ?_)
  · obtain ⟨a, xs, ps, n, rfl, hS, hP, q⟩ := h
    rfl
  obtain ⟨a, xs, ps, n, rfl, hS, hP, q⟩ := h
  refine ⟨_, (pss_cons (ps_for PassesOwn.never rfl (pi_list (pv 0)) (pg_tup rfl (pgs_cons (pg_name (i := 2) sc_holds.nd rfl (Or.inl rfl)) (pgs_cons (pg_name (i := 3) sc_holds.nd rfl (Or.inl rfl)) pgs_nil)))
     (pss_one (ps_if (pt_chain op_le op_le (pv 2) (pv 1) (pv 3))
     (pss_one (ps_ret pe_bl))
     pss_nil)))
     (pss_one (ps_ret pe_bl))), ?_⟩
  refine ⟨_, rfl, a, rfl, ⟨_, hS⟩, for_list (xs := xs) (fun i σ H' => (∃ c2 c3, σ = [some (.ref a), some (.int n), c2, c3]) ∧ H' = H ∧ (ps.take i).any (inR n) = false) ⟨⟨_, _, rfl⟩, rfl, rfl⟩ (fun i σ H' _ h => by obtain ⟨_, e, _⟩ := h; rw [e]; exact hS) (fun i x σ H' e h => ?_) (fun σ H' h => ?_)⟩
  · obtain ⟨⟨c2, c3, rfl⟩, e0, hn⟩ := h
    rw [e0]
    obtain ⟨p, r, e1, rfl, hr'⟩ := hP.get e
    refine ⟨r, _, rfl, SqT.of hr', rfl, _, _, rfl, _, _, rfl, rfl, ?_⟩
    refine ⟨_, rfl, _, rfl, _, _, rfl, rfl, _, rfl, ?_⟩
    refine ite2 (fun c => ?_) (fun c => ?_)
    · refine ⟨_, rfl, _, _, rfl, rfl, _, rfl, ?_⟩
      refine ite2 (fun d => ?_) (fun d => ?_)
      · have z2 : inP ps n = true := any_of_get e1 (in_t c d)
        rw [z2] at q; exact q
      · exact ⟨⟨_, _, rfl⟩, rfl, any_take_succ e1 hn (in_f2 d)⟩
    · exact ⟨_, rfl, iteF ⟨⟨_, _, rfl⟩, rfl, any_take_succ e1 hn (in_f1 c)⟩⟩
  · obtain ⟨⟨c2, c3, rfl⟩, e0, hn⟩ := h
    rw [e0]
    have z : inP ps n = false := by
      rw [hP.length, List.take_length] at hn
      exact hn
    rw [z] at q; exact q
theorem ok_both (F : Fun K "both" "both" s_both f fd) (bl : Bl K mg)  : FnOk P w K mg base CX0 1 f fd ["ones", "others"] (sp_both K) := by
  refine F.ok sc_both (fun vs H Q E h => ?_) (fun cdv A outer s H vs Q E hr h => ?_)
  · obtain ⟨a, b, xs, ys, A0, B0, rfl, hA, hB, PA, PB, aA, aB, hl, q⟩ := h
    rfl
  obtain ⟨a, b, xs, ys, A0, B0, rfl, hA, hB, PA, PB, aA, aB, hl, q⟩ := h
  refine ⟨_, (pss_cons (ps_set (i := 2) sc_both.nd rfl (Or.inl rfl) (pe_lst pa_nil))
     (pss_cons (ps_set (i := 3) sc_both.nd rfl (Or.inl rfl) pe_int)
     (pss_cons (ps_set (i := 4) sc_both.nd rfl (Or.inl rfl) pe_int)
     (pss_cons (ps_while PassesOwn.never (PW.pt (pw_and (pt_cmpR op_lt (pv 3) (pe_callB call_len_seq rfl bl.len_ PySem.boot_len (pa_cons (pv 0) pa_nil)) (nomark _)) (pw_and1 (pt_cmpR op_lt (pv 4) (pe_callB call_len_seq rfl bl.len_ PySem.boot_len (pa_cons (pv 1) pa_nil)) (nomark _)))))
     (pss_cons (ps_set (i := 5) sc_both.nd rfl (Or.inl rfl) (pe_ix ix_list (pv 0) (pv 3) (fun _ _ => rfl)))
     (pss_cons (ps_set (i := 6) sc_both.nd rfl (Or.inl rfl) (pe_ix ix_list (pv 1) (pv 4) (fun _ _ => rfl)))
     (pss_cons (ps_set (i := 7) sc_both.nd rfl (Or.inl rfl) (pe_callB (call_max2 rfl) rfl bl.max_ PyProof.Rows.boot_max (pa_cons (pe_ix ix_tup (pv 5) pe_int (fun _ _ => rfl)) (pa_cons (pe_ix ix_tup (pv 6) pe_int (fun _ _ => rfl)) pa_nil))))
     (pss_cons (ps_set (i := 8) sc_both.nd rfl (Or.inl rfl) (pe_callB (call_min2 rfl) rfl bl.min_ PyProof.Rows.boot_min (pa_cons (pe_ix ix_tup (pv 5) pe_int (fun _ _ => rfl)) (pa_cons (pe_ix ix_tup (pv 6) pe_int (fun _ _ => rfl)) pa_nil))))
     (pss_cut (ps_if (pt_cmpR op_le (pv 7) (pv 8) (nomark _))
     (pss_one (ps_expr (pe_bm PySem.F.plainAttrs_list PySem.F.slot_list_append PySem.F.type_list_append mt_append (pv 2) (pa_cons (pe_tup (pa_cons (pv 7) (pa_cons (pv 8) pa_nil))) pa_nil))))
     pss_nil)
     (pss_one (ps_if (pt_cmpR op_lt (pe_ix ix_tup (pv 5) pe_int (fun _ _ => rfl)) (pe_ix ix_tup (pv 6) pe_int (fun _ _ => rfl)) (nomark _))
     (pss_one (ps_aug (i := 3) sc_both.nd rfl (Or.inl rfl) pe_int ip_add))
     (pss_one (ps_aug (i := 4) sc_both.nd rfl (Or.inl rfl) pe_int ip_add))))))))))
     (pss_one (ps_ret (pv 2))))))), ?_⟩
  refine ⟨(by show 0 ≤ sizeLine; decide), fun sh hsh => ?_⟩
  have s0 : Same H (upd H sh (.lst [])) := same_new hsh _
  have lA := PA.length
  have lB := PB.length
  refine ⟨fun m σ H' => ∃ (i j : Nat) (c5 c6 c7 c8 : Option V) (zs : List V) (S : List (Int × Int)), σ = [some (.ref a), some (.ref b), some (.ref sh), some (.int i), some (.int j), c5, c6, c7, c8] ∧ Same H H' ∧ H' sh = some (.lst zs) ∧ PL H' zs S ∧ BothI S (A0.drop i) (B0.drop j) A0 B0 ∧ i ≤ A0.length ∧ j ≤ B0.length ∧ zs.length ≤ i + j ∧ m = (A0.length - i) + (B0.length - j),
    ⟨_, 0, 0, none, none, none, none, [], [], rfl, s0, upd_same, .nil, BothI.start aA aB, Nat.zero_le _, Nat.zero_le _, Nat.zero_le _, rfl⟩, ?_⟩
  rintro m σ H' ⟨i, j, c5, c6, c7, c8, zs, S, rfl, sm, eS, hP, bi, hi, hj, hz, hm⟩
  have hA' := sm.seq hA
  have hB' := sm.seq hB
  have PA' := PA.mono sm.tups
  have PB' := PB.mono sm.tups
  have done : (i = A0.length ∨ j = B0.length) → Q (.ref sh) H' := fun e => q sh H' zs S sm hsh eS hP bi.ap (bi.fin (by
    rcases e with e | e
    · exact .inl (by rw [e]; exact List.drop_length)
    · exact .inr (by rw [e]; exact List.drop_length))) (by omega)
  refine ⟨_, rfl, _, rfl, a, _, rfl, .inl (hA'), _, _, rfl, rfl, _, rfl, ?_⟩
  refine ite2 (fun c => ?_) (fun c => ?_)
  · have ci : i < A0.length := by have : (i : Int) < ((xs.length : Nat) : Int) := dec_t c; omega
    refine ⟨_, rfl, _, rfl, b, _, rfl, .inl (hB'), _, _, rfl, rfl, _, rfl, ?_⟩
    refine ite2 (fun d => ?_) (fun d => ?_)
    · have cj : j < B0.length := by have : (j : Int) < ((ys.length : Nat) : Int) := dec_t d; omega
      have ex : xs[i]? = some xs[i] := List.getElem?_eq_getElem (by omega)
      have ey : ys[j]? = some ys[j] := List.getElem?_eq_getElem (by omega)
      obtain ⟨pa, ra, f1, f2, f3⟩ := PA'.get ex
      obtain ⟨pb, rb, g1, g2, g3⟩ := PB'.get ey
      have va : atI xs (i : Int) = some (.ref ra) := by rw [← f2]; exact atI_nat ex
      have vb : atI ys (j : Int) = some (.ref rb) := by rw [← g2]; exact atI_nat ey
      have dA : A0.drop i = pa :: A0.drop (i + 1) := by
        obtain ⟨h1, h2⟩ := List.getElem?_eq_some_iff.mp f1
        rw [List.drop_eq_getElem_cons h1, h2]
      have dB : B0.drop j = pb :: B0.drop (j + 1) := by
        obtain ⟨h1, h2⟩ := List.getElem?_eq_some_iff.mp g1
        rw [List.drop_eq_getElem_cons h1, h2]
      rw [dA, dB] at bi
      have hc : ((if pb.1 > pa.1 then pb.1 else pa.1), (if pb.2 < pa.2 then pb.2 else pa.2)).1 = max pa.1 pb.1 ∧ ((if pb.1 > pa.1 then pb.1 else pa.1), (if pb.2 < pa.2 then pb.2 else pa.2)).2 = min pa.2 pb.2 := by
        constructor
        · show (if pb.1 > pa.1 then pb.1 else pa.1) = _; split <;> omega
        · show (if pb.2 < pa.2 then pb.2 else pa.2) = _; split <;> omega
      generalize hcl : (if pb.1 > pa.1 then pb.1 else pa.1) = cl at hc
      generalize hch : (if pb.2 < pa.2 then pb.2 else pa.2) = ch at hc
      refine ⟨_, fun σ' H2 w => w, ?_⟩
      refine ⟨_, rfl, _, rfl, a, _, _, _, rfl, rfl, hA', va, ?_⟩
      refine ⟨_, rfl, _, rfl, b, _, _, _, rfl, rfl, hB', vb, ?_⟩
      refine ⟨_, rfl, ra, _, _, _, rfl, rfl, SqT.of f3, z0 _ _, _, rfl, rb, _, _, _, rfl, rfl, SqT.of g3, z0 _ _, _, _, rfl, ?_⟩
      rw [hcl]
      refine ⟨_, rfl, ra, _, _, _, rfl, rfl, SqT.of f3, z1 _ _, _, rfl, rb, _, _, _, rfl, rfl, SqT.of g3, z1 _ _, _, _, rfl, ?_⟩
      rw [hch]
      refine ⟨fun σ' H2 => σ' = [some (.ref a), some (.ref b), some (.ref sh), some (.int i), some (.int j), some (.ref ra), some (.ref rb), some (.int cl), some (.int ch)] ∧ Same H H2 ∧ H2 ra = some (.tup [.int pa.1, .int pa.2]) ∧ H2 rb = some (.tup [.int pb.1, .int pb.2]) ∧ ∃ zs2 S2, H2 sh = some (.lst zs2) ∧ PL H2 zs2 S2 ∧ zs2.length ≤ i + j + 1 ∧
        ((cl ≤ ch ∧ S2 = S ++ [(cl, ch)]) ∨ (¬ cl ≤ ch ∧ S2 = S)), ?_, ?_⟩
      · refine ⟨_, rfl, _, rfl, _, _, rfl, rfl, _, rfl, ?_⟩
        refine ite2 (fun e => ?_) (fun e => ?_)
        · refine ⟨_, rfl, .inl ⟨rfl, _, SqL.of eS⟩, _, rfl, _, rfl, (by show 2 ≤ sizeLine; decide), fun t ht => ?_⟩
          have e3 : upd H' t (.tup [.int cl, .int ch]) sh = some (.lst zs) := ret_r1 eS ht
          refine ⟨sh, zs, _, rfl, rfl, e3, small1000 (by omega), ?_⟩
          have st1 : SameT H' (upd (upd H' t (.tup [.int cl, .int ch])) sh (.lst (zs ++ [.ref t]))) := (sameT_new ht).trans (sameT_lst e3)
          exact ⟨rfl, (sm.trans (same_new ht _)).upd hsh, st1 _ _ f3, st1 _ _ g3, zs ++ [.ref t], S ++ [(cl, ch)], upd_same, (hP.mono st1).snoc (sameT_lst e3 _ _ upd_same), by rw [List.length_append, List.length_singleton]; omega, .inl ⟨dec_t e, rfl⟩⟩
        · exact ⟨rfl, sm, f3, g3, zs, S, eS, hP, by omega, .inr ⟨dec_f e, rfl⟩⟩
      rintro σ2 H2 ⟨rfl, sm2, f4, g4, zs2, S2, eS2, hP2, hz2, hor⟩
      refine ⟨_, rfl, ra, _, _, _, rfl, rfl, SqT.of f4, z1 _ _, _, rfl, rb, _, _, _, rfl, rfl, SqT.of g4, z1 _ _, _, _, rfl, rfl, _, rfl, ?_⟩
      refine ite2 (fun e => ?_) (fun e => ?_)
      · refine ⟨_, rfl, _, _, rfl, rfl, ?_⟩
        have bl2 := bi.left (dec_t e) hc
        rw [← dB] at bl2
        refine ⟨_, ?_, i + 1, j, _, _, _, _, zs2, S2, rfl, sm2, eS2, hP2, ?_, ci, hj, by omega, rfl⟩
        · omega
        · rcases hor with ⟨h1, h2⟩ | ⟨h1, h2⟩
          · rw [h2]; exact bl2.1 h1
          · rw [h2]; exact bl2.2 h1
      · refine ⟨_, rfl, _, _, rfl, rfl, ?_⟩
        have bl2 := bi.right (dec_f e) hc
        rw [← dA] at bl2
        refine ⟨_, ?_, i, j + 1, _, _, _, _, zs2, S2, rfl, sm2, eS2, hP2, ?_, hi, cj, by omega, rfl⟩
        · omega
        · rcases hor with ⟨h1, h2⟩ | ⟨h1, h2⟩
          · rw [h2]; exact bl2.1 h1
          · rw [h2]; exact bl2.2 h1
    · have cj : j = B0.length := by have : ¬ (j : Int) < ((ys.length : Nat) : Int) := dec_f d; omega
      exact ⟨_, rfl, done (.inr cj)⟩
  · have ci : i = A0.length := by have : ¬ (i : Int) < ((xs.length : Nat) : Int) := dec_f c; omega
    exact iteF ⟨_, rfl, done (.inl ci)⟩
theorem ok_gaps (F : Fun K "gaps" "gaps" s_gaps f fd) (bl : Bl K mg)  : FnOk P w K mg base CX0 1 f fd ["spans", "low", "high"] (sp_gaps K) := by
  refine F.ok sc_gaps (fun vs H Q E h => ?_) (fun cdv A outer s H vs Q E hr h => ?_)
  · obtain ⟨a, xs, T0, lo, hi, rfl, hS, hP, ap, hl, q⟩ := h
    rfl
  obtain ⟨a, xs, T0, lo, hi, rfl, hS, hP, ap, hl, q⟩ := h
  refine ⟨_, (pss_cons (ps_set (i := 3) sc_gaps.nd rfl (Or.inl rfl) (pe_lst pa_nil))
     (pss_cons (ps_set (i := 4) sc_gaps.nd rfl (Or.inl rfl) (pv 1))
     (pss_cons (ps_for PassesOwn.never rfl (pi_list (pv 0)) (pg_tup rfl (pgs_cons (pg_name (i := 5) sc_gaps.nd rfl (Or.inl rfl)) (pgs_cons (pg_name (i := 6) sc_gaps.nd rfl (Or.inl rfl)) pgs_nil)))
     (pss_cons (ps_set (i := 7) sc_gaps.nd rfl (Or.inl rfl) (pe_callB (call_min2 rfl) rfl bl.min_ PyProof.Rows.boot_min (pa_cons (pe_op op_sub (pv 5) pe_int) (pa_cons (pv 2) pa_nil))))
     (pss_cut (ps_if (pt_cmpR op_le (pv 4) (pv 7) (nomark _))
     (pss_one (ps_expr (pe_bm PySem.F.plainAttrs_list PySem.F.slot_list_append PySem.F.type_list_append mt_append (pv 3) (pa_cons (pe_tup (pa_cons (pv 4) (pa_cons (pv 7) pa_nil))) pa_nil))))
     pss_nil)
     (pss_one (ps_set (i := 4) sc_gaps.nd rfl (Or.inl rfl) (pe_callB (call_max2 rfl) rfl bl.max_ PyProof.Rows.boot_max (pa_cons (pv 4) (pa_cons (pe_op op_add (pv 6) pe_int) pa_nil))))))))
     (pss_cons (ps_if (pt_cmpR op_le (pv 4) (pv 2) (nomark _))
     (pss_one (ps_expr (pe_bm PySem.F.plainAttrs_list PySem.F.slot_list_append PySem.F.type_list_append mt_append (pv 3) (pa_cons (pe_tup (pa_cons (pv 4) (pa_cons (pv 2) pa_nil))) pa_nil))))
     pss_nil)
     (pss_one (ps_ret (pv 3))))))), ?_⟩
  refine ⟨(by show 0 ≤ sizeLine; decide), fun fr hfr => ?_⟩
  have s0 : Same H (upd H fr (.lst [])) := same_new hfr _
  refine ⟨_, rfl, ?_⟩
  refine ⟨_, rfl, a, rfl, ⟨_, s0.seq hS⟩, for_list (xs := xs) (fun i σ H' => ∃ (st : Int) (c5 c6 c7 : Option V) (zs : List V) (F : List (Int × Int)), σ = [some (.ref a), some (.int lo), some (.int hi), some (.ref fr), some (.int st), c5, c6, c7] ∧ Same H H' ∧ H' fr = some (.lst zs) ∧ PL H' zs F ∧ GapI F (T0.take i) lo hi st ∧ zs.length ≤ i)
    ⟨lo, none, none, none, [], [], rfl, s0, upd_same, .nil, GapI.start lo hi, Nat.zero_le _⟩
    (fun i σ H' _ h => by obtain ⟨_, _, _, _, _, _, _, sm, _⟩ := h; exact sm.seq hS) (fun i x σ H' e h => ?_) (fun σ H' h => ?_)⟩
  · obtain ⟨st, c5, c6, c7, zs, F0, rfl, sm, eF, hF, gi, hz⟩ := h
    obtain ⟨p, r, e1, rfl, hr'⟩ := (hP.mono sm.tups).get e
    have hi' : i < xs.length := (List.getElem?_eq_some_iff.mp e).1
    refine ⟨r, _, rfl, SqT.of hr', rfl, _, _, rfl, _, _, rfl, rfl, ?_⟩
    refine ⟨_, rfl, _, _, rfl, rfl, _, rfl, _, _, rfl, ?_⟩
    have tk := take_snoc e1
    have ap' : Apart (T0.take i ++ [p]) := by rw [← tk]; exact ap.take _
    generalize he : (if hi < p.1 - 1 then hi else p.1 - 1) = en
    have he' : en = min (p.1 - 1) hi := by rw [← he]; split <;> omega
    have hs' : (if p.2 + 1 > st then p.2 + 1 else st) = max st (p.2 + 1) := by split <;> omega
    have gt := gi.turn (st' := if p.2 + 1 > st then p.2 + 1 else st) (e := en) ap' he' hs'
    refine ⟨fun σ' H2 => σ' = [some (.ref a), some (.int lo), some (.int hi), some (.ref fr), some (.int st), some (.int p.1), some (.int p.2), some (.int en)] ∧ Same H H2 ∧ ∃ zs2 F2, H2 fr = some (.lst zs2) ∧ PL H2 zs2 F2 ∧ zs2.length ≤ i + 1 ∧ GapI F2 (T0.take i ++ [p]) lo hi (if p.2 + 1 > st then p.2 + 1 else st), ?_, ?_⟩
    · refine ⟨_, rfl, _, rfl, _, _, rfl, rfl, _, rfl, ?_⟩
      refine ite2 (fun c => ?_) (fun c => ?_)
      · refine ⟨_, rfl, .inl ⟨rfl, _, SqL.of eF⟩, _, rfl, _, rfl, (by show 2 ≤ sizeLine; decide), fun t ht => ?_⟩
        have e3 : upd H' t (.tup [.int st, .int en]) fr = some (.lst zs) := ret_r1 eF ht
        refine ⟨fr, zs, _, rfl, rfl, e3, small1000 (by omega), ?_⟩
        have st1 : SameT H' (upd (upd H' t (.tup [.int st, .int en])) fr (.lst (zs ++ [.ref t]))) := (sameT_new ht).trans (sameT_lst e3)
        exact ⟨rfl, (sm.trans (same_new ht _)).upd hfr, zs ++ [.ref t], F0 ++ [(st, en)], upd_same, (hF.mono st1).snoc (sameT_lst e3 _ _ upd_same), by rw [List.length_append, List.length_singleton]; omega, gt.1 (dec_t c)⟩
      · exact ⟨rfl, sm, zs, F0, eF, hF, by omega, gt.2 (dec_f c)⟩
    rintro σ2 H2 ⟨rfl, sm2, zs2, F2, eF2, hF2, hz2, g2⟩
    refine ⟨_, rfl, _, rfl, _, _, rfl, rfl, _, _, rfl, ?_⟩
    exact ⟨_, _, _, _, zs2, F2, rfl, sm2, eF2, hF2, by rw [tk]; exact g2, hz2⟩
  · obtain ⟨st, c5, c6, c7, zs, F0, rfl, sm, eF, hF, gi, hz⟩ := h
    rw [hP.length, List.take_length] at gi
    have gf := gi.fin
    refine ⟨_, rfl, _, rfl, _, _, rfl, rfl, _, rfl, ?_⟩
    refine ite2 (fun c => ?_) (fun c => ?_)
    · refine ⟨_, rfl, .inl ⟨rfl, _, SqL.of eF⟩, _, rfl, _, rfl, (by show 2 ≤ sizeLine; decide), fun t ht => ?_⟩
      have e3 : upd H' t (.tup [.int st, .int hi]) fr = some (.lst zs) := ret_r1 eF ht
      refine ⟨fr, zs, _, rfl, rfl, e3, small1000 (by omega), ?_⟩
      have st1 : SameT H' (upd (upd H' t (.tup [.int st, .int hi])) fr (.lst (zs ++ [.ref t]))) := (sameT_new ht).trans (sameT_lst e3)
      have g1 := gf.1 (dec_t c)
      exact ⟨_, rfl, q fr _ (zs ++ [.ref t]) (F0 ++ [(st, hi)]) ((sm.trans (same_new ht _)).upd hfr) hfr upd_same ((hF.mono st1).snoc (sameT_lst e3 _ _ upd_same)) g1.1 g1.2 (by rw [List.length_append, List.length_singleton]; omega)⟩
    · have g1 := gf.2 (dec_f c)
      exact ⟨_, rfl, q fr H' zs F0 sm hfr eF hF g1.1 g1.2 (by omega)⟩
theorem ok_law_cell (F : Fun K "_law_cell" "_law_cell" s_law_cell f fd) (bl : Bl K mg)  : FnOk P w K mg base CX0 1 f fd ["script", "k"] (sp_law_cell K) := by
  refine F.ok sc_law_cell (fun vs H Q E h => ?_) (fun cdv A outer s H vs Q E hr h => ?_)
  · obtain ⟨a, ns, k, rfl, hS, h0, q⟩ := h
    rfl
  obtain ⟨a, ns, k, rfl, hS, h0, q⟩ := h
  refine ⟨_, (pss_cons (ps_if (pt_cmpR op_lt (pv 1) (pe_callB call_len_seq rfl bl.len_ PySem.boot_len (pa_cons (pv 0) pa_nil)) (nomark _))
     (pss_one (ps_ret (pe_ix ix_list (pv 0) (pv 1) (fun _ _ => rfl))))
     pss_nil)
     (pss_one (ps_ret pe_int))), ?_⟩
  refine ⟨_, rfl, _, rfl, a, _, rfl, .inl hS, _, _, rfl, rfl, _, rfl, ?_⟩
  refine ite2 (fun c => ?_) (fun c => ?_)
  · have c' : k < (((ns.map V.int).length : Nat) : Int) := dec_t c
    rw [List.length_map] at c'
    obtain ⟨v, hv⟩ := atI_int h0 c'
    exact ⟨_, rfl, _, rfl, a, _, _, _, rfl, rfl, hS, hv, q v⟩
  · exact q 0
theorem ok_law_start (F : Fun K "_law_start" "_law_start" s_law_start f fd) (bl : Bl K mg)  : FnOk P w K mg base CX0 1 f fd ["cell"] (sp_law_start K) := by
  refine F.ok sc_law_start (fun vs H Q E h => ?_) (fun cdv A outer s H vs Q E hr h => ?_)
  · obtain ⟨c, rfl, q⟩ := h
    rfl
  obtain ⟨c, rfl, q⟩ := h
  refine ⟨_, (pss_one (ps_ret (pe_op op_sub (pe_op op_mod (pv 0) (pe_op op_mul pe_int (pe_op op_pow pe_int pe_int))) (pe_op op_pow pe_int pe_int)))), ?_⟩
  exact ⟨_, rfl, _, _, rfl, rfl, ⟨by decide, by decide, by decide⟩, _, _, rfl, rfl, .inl ⟨by decide, by decide⟩, _, _, rfl, rfl, Int.mul_pos (by decide) (p10 _), _, _, rfl, rfl, ⟨by decide, by decide, by decide⟩, _, _, rfl, rfl, q _⟩
theorem ok_law_thing (F : Fun K "_law_thing" "_law_thing" s_law_thing f fd) (bl : Bl K mg)  : FnOk P w K mg base CX0 1 f fd ["cell", "base"] (sp_law_thing K) := by
  refine F.ok sc_law_thing (fun vs H Q E h => ?_) (fun cdv A outer s H vs Q E hr h => ?_)
  · obtain ⟨c, b, rfl, q⟩ := h
    rfl
  obtain ⟨c, b, rfl, q⟩ := h
  refine ⟨_, (pss_cut (ps_set (i := 2) sc_law_thing.nd rfl (Or.inl rfl) (pe_op op_mod (pe_op op_mul (pv 0) pe_int) pe_int))
     (pss_cons (ps_if (pt_cmpR op_eq (pe_op op_mod (pv 0) pe_int) pe_int (nomark _))
     (pss_cons (ps_set (i := 3) sc_law_thing.nd rfl (Or.inl rfl) (pe_op op_add (pe_op op_add (pv 1) pe_int) (pe_op op_mod (pe_op op_fdiv (pv 2) pe_int) pe_int)))
     (pss_cons (ps_set (i := 4) sc_law_thing.nd rfl (Or.inl rfl) (pe_lst (pa_cons (pe_tup (pa_cons (pe_op op_add (pe_op op_sub (pv 1) pe_int) (pe_op op_mod (pv 2) pe_int)) (pa_cons (pv 3) pa_nil))) pa_nil)))
     (pss_cons (ps_expr (pe_bm PySem.F.plainAttrs_list PySem.F.slot_list_append PySem.F.type_list_append mt_append (pv 4) (pa_cons (pe_tup (pa_cons (pe_op op_add (pe_op op_add (pv 3) pe_int) (pe_op op_mod (pe_op op_fdiv (pv 2) pe_int) pe_int)) (pa_cons (pe_op op_add (pe_op op_add (pv 1) pe_int) (pe_op op_mod (pe_op op_fdiv (pv 2) pe_int) pe_int)) pa_nil))) pa_nil)))
     (pss_one (ps_ret (pv 4))))))
     pss_nil)
     (pss_cut (ps_set (i := 5) sc_law_thing.nd rfl (Or.inl rfl) (pe_op op_add (pv 1) (pe_op op_mod (pv 2) pe_int)))
     (pss_cut (ps_set (i := 6) sc_law_thing.nd rfl (Or.inl rfl) (pe_op op_add (pv 5) (pe_op op_mod (pe_op op_fdiv (pv 2) pe_int) pe_int)))
     (pss_cut (ps_if (pt_cmpR op_eq (pe_op op_mod (pe_op op_fdiv (pv 0) pe_int) pe_int) pe_int (nomark _))
     (pss_one (ps_set (i := 6) sc_law_thing.nd rfl (Or.inl rfl) (pe_op op_add (pv 5) (pe_op op_mod (pe_op op_fdiv (pv 0) pe_int) (pe_op op_pow pe_int pe_int)))))
     pss_nil)
     (pss_cut (ps_set (i := 4) sc_law_thing.nd rfl (Or.inl rfl) (pe_lst (pa_cons (pe_tup (pa_cons (pv 5) (pa_cons (pv 6) pa_nil))) pa_nil)))
     (pss_cut (ps_if (pt_cmpR op_eq (pe_op op_mod (pe_op op_fdiv (pv 0) pe_int) pe_int) pe_int (nomark _))
     (pss_cons (ps_set (i := 5) sc_law_thing.nd rfl (Or.inl rfl) (pe_op op_add (pe_op op_add (pv 6) pe_int) (pe_op op_mod (pe_op op_fdiv (pv 2) pe_int) pe_int)))
     (pss_one (ps_expr (pe_bm PySem.F.plainAttrs_list PySem.F.slot_list_append PySem.F.type_list_append mt_append (pv 4) (pa_cons (pe_tup (pa_cons (pv 5) (pa_cons (pe_op op_add (pv 5) (pe_op op_mod (pe_op op_fdiv (pv 2) pe_int) pe_int)) pa_nil))) pa_nil)))))
     pss_nil)
     (pss_one (ps_ret (pv 4)))))))))), ?_⟩
  have sz2 : 2 ≤ sizeLine := by decide
  have sz1 : 1 ≤ sizeLine := by decide
  refine ⟨fun σ' H' => H' = H ∧ ∃ m : Int, σ' = [some (.int c), some (.int b), some (.int m), none, none, none, none], ⟨_, rfl, _, _, rfl, rfl, .inr ⟨by decide, by decide⟩, _, _, rfl, rfl, (by show (0 : Int) < 2147483647; decide), rfl, _, rfl⟩, ?_⟩
  rintro σ1 H1 ⟨e_, m, rfl⟩
  subst e_
  have ap1 : ∀ {p : Int × Int}, p.1 ≤ p.2 → Apart [p] := fun {p} h => ⟨fun q hq => by rw [List.mem_singleton.mp hq]; exact h, List.pairwise_singleton _ _⟩
  refine ⟨_, rfl, _, _, rfl, rfl, (by show (0 : Int) < 4; decide), rfl, _, rfl, ite2 (fun g => ?_) (fun g => ?_)⟩
  · refine ⟨_, rfl, _, _, rfl, rfl, _, rfl, _, _, rfl, rfl, ⟨by decide, by decide⟩, _, _, rfl, rfl, (by show (0 : Int) < 26; decide), _, _, rfl, rfl, ?_⟩
    refine ⟨_, rfl, _, _, rfl, rfl, _, rfl, _, _, rfl, rfl, (by show (0 : Int) < 11; decide), _, _, rfl, rfl, _, rfl, sz2, fun t1 ht1 => ⟨sz1, fun l hl => ?_⟩⟩
    have u1 := same_new ht1 (.tup [.int (b - 3 + m % 11), .int (b + 12 + m / 341 % 26)])
    have et1 : upd H1 t1 (.tup [.int (b - 3 + m % 11), .int (b + 12 + m / 341 % 26)]) t1 = some (.tup [.int (b - 3 + m % 11), .int (b + 12 + m / 341 % 26)]) := upd_same
    generalize upd H1 t1 (.tup [.int (b - 3 + m % 11), .int (b + 12 + m / 341 % 26)]) = HA at u1 et1 hl ⊢
    have u2 := same_new hl (.lst [.ref t1])
    have el : upd HA l (.lst [.ref t1]) l = some (.lst [.ref t1]) := upd_same
    generalize upd HA l (.lst [.ref t1]) = HB at u2 el ⊢
    refine ⟨_, rfl, .inl ⟨rfl, _, SqL.of el⟩, _, rfl, _, _, rfl, rfl, _, rfl, _, _, rfl, rfl, ⟨by decide, by decide⟩, _, _, rfl, rfl, (by show (0 : Int) < 3; decide), _, _, rfl, rfl, _, rfl, _, _, rfl, rfl, _, rfl, _, _, rfl, rfl, ⟨by decide, by decide⟩, _, _, rfl, rfl, (by show (0 : Int) < 31; decide), _, _, rfl, rfl, sz2, fun t2 ht2 => ?_⟩
    have u3 := same_new ht2 (.tup [.int (b + 12 + m / 341 % 26 + 2 + m / 8866 % 3), .int (b + 45 + m / 11 % 31)])
    have et2 : upd HB t2 (.tup [.int (b + 12 + m / 341 % 26 + 2 + m / 8866 % 3), .int (b + 45 + m / 11 % 31)]) t2 = some (.tup [.int (b + 12 + m / 341 % 26 + 2 + m / 8866 % 3), .int (b + 45 + m / 11 % 31)]) := upd_same
    generalize upd HB t2 (.tup [.int (b + 12 + m / 341 % 26 + 2 + m / 8866 % 3), .int (b + 45 + m / 11 % 31)]) = HC at u3 et2 ⊢
    have el3 := u3 _ _ el
    refine ⟨l, _, _, rfl, rfl, el3, small1000 (by simp), _, rfl, q l _ _ [(b - 3 + m % 11, b + 12 + m / 341 % 26), (b + 12 + m / 341 % 26 + 2 + m / 8866 % 3, b + 45 + m / 11 % 31)] ((u1.trans (u2.trans u3)).upd (u1.free hl)) (u1.free hl) upd_same ?_ ?_ (by simp)⟩
    · have st : SameT HC (upd HC l (.lst ([V.ref t1] ++ [V.ref t2]))) := sameT_lst el3
      exact ((show PL _ [] [] from .nil).snoc (st _ _ ((u2.trans u3) _ _ et1))).snoc (st _ _ et2)
    · refine (ap1 (p := (b - 3 + m % 11, b + 12 + m / 341 % 26)) (by show b - 3 + m % 11 ≤ b + 12 + m / 341 % 26; omega)).snoc (p := (b + 12 + m / 341 % 26 + 2 + m / 8866 % 3, b + 45 + m / 11 % 31)) (by show b + 12 + m / 341 % 26 + 2 + m / 8866 % 3 ≤ b + 45 + m / 11 % 31; omega) fun r hr => ?_
      rw [List.mem_singleton.mp hr]
      show b + 12 + m / 341 % 26 + 2 ≤ b + 12 + m / 341 % 26 + 2 + m / 8866 % 3
      omega
  refine ⟨fun σ' H' => H' = H1 ∧ ∃ lo : Int, σ' = [some (.int c), some (.int b), some (.int m), none, none, some (.int lo), none], ⟨_, rfl, _, rfl, _, _, rfl, rfl, (by show (0 : Int) < 53; decide), _, _, rfl, rfl, rfl, _, rfl⟩, ?_⟩
  rintro σ2 H2 ⟨e_, lo, rfl⟩
  subst e_
  refine ⟨fun σ' H' => H' = H2 ∧ ∃ hi : Int, lo ≤ hi ∧ σ' = [some (.int c), some (.int b), some (.int m), none, none, some (.int lo), some (.int hi)], ⟨_, rfl, _, rfl, _, _, rfl, rfl, ⟨by decide, by decide⟩, _, _, rfl, rfl, (by show (0 : Int) < 12; decide), _, _, rfl, rfl, rfl, _, ?_, rfl⟩, ?_⟩
  · omega
  rintro σ3 H3 ⟨e_, hi, hlh, rfl⟩
  subst e_
  refine ⟨fun σ' H' => H' = H3 ∧ ∃ hi : Int, lo ≤ hi ∧ σ' = [some (.int c), some (.int b), some (.int m), none, none, some (.int lo), some (.int hi)], ⟨_, rfl, _, _, rfl, rfl, ⟨by decide, by decide⟩, _, _, rfl, rfl, (by show (0 : Int) < 5; decide), rfl, _, rfl, ite2 (fun g => ?_) (fun g => ?_)⟩, ?_⟩
  · refine ⟨_, rfl, _, rfl, _, _, rfl, rfl, ⟨by decide, by decide⟩, _, _, rfl, rfl, ⟨by decide, by decide, by decide⟩, _, _, rfl, rfl, p10 _, _, _, rfl, rfl, rfl, _, ?_, rfl⟩
    have := Int.emod_nonneg (c / 20) (Int.ne_of_gt (p10 54))
    show lo ≤ lo + c / 20 % 10 ^ 54
    omega
  · exact ⟨rfl, hi, hlh, rfl⟩
  rintro σ4 H4 ⟨e_, hi2, hlh2, rfl⟩
  subst e_
  refine ⟨fun σ' H' => Same H4 H' ∧ ∃ l t : Addr, H4 l = none ∧ H' l = some (.lst [.ref t]) ∧ H' t = some (.tup [.int lo, .int hi2]) ∧ σ' = [some (.int c), some (.int b), some (.int m), none, some (.ref l), some (.int lo), some (.int hi2)], ⟨_, rfl, _, rfl, sz2, fun t1 ht1 => ⟨sz1, fun l hl => ?_⟩⟩, ?_⟩
  · have u1 := same_new ht1 (.tup [.int lo, .int hi2])
    have et1 : upd H4 t1 (.tup [.int lo, .int hi2]) t1 = some (.tup [.int lo, .int hi2]) := upd_same
    have u2 := same_new hl (.lst [.ref t1])
    exact ⟨u1.trans u2, l, t1, u1.free hl, upd_same, u2 _ _ et1, rfl⟩
  rintro σ5 H5 ⟨s5, l, t, nl, el, et, rfl⟩
  refine ⟨fun σ' H' => Same H4 H' ∧ ∃ (ys : List V) (B : List (Int × Int)) (c5 : Option V), H' l = some (.lst ys) ∧ PL H' ys B ∧ Apart B ∧ ys.length ≤ 2 ∧ σ' = [some (.int c), some (.int b), some (.int m), none, some (.ref l), c5, some (.int hi2)], ⟨_, rfl, _, _, rfl, rfl, ⟨by decide, by decide⟩, _, _, rfl, rfl, (by show (0 : Int) < 5; decide), rfl, _, rfl, ite2 (fun g => ?_) (fun g => ?_)⟩, ?_⟩
  · refine ⟨_, rfl, _, _, rfl, rfl, _, rfl, _, _, rfl, rfl, ⟨by decide, by decide⟩, _, _, rfl, rfl, (by show (0 : Int) < 4; decide), _, _, rfl, rfl, ?_⟩
    refine ⟨_, rfl, .inl ⟨rfl, _, SqL.of el⟩, _, rfl, _, rfl, _, rfl, _, _, rfl, rfl, ⟨by decide, by decide⟩, _, _, rfl, rfl, (by show (0 : Int) < 7; decide), _, _, rfl, rfl, sz2, fun t2 ht2 => ?_⟩
    have u3 := same_new ht2 (.tup [.int (hi2 + 2 + m / 640 % 4), .int (hi2 + 2 + m / 640 % 4 + m / 2560 % 7)])
    have et2 : upd H5 t2 (.tup [.int (hi2 + 2 + m / 640 % 4), .int (hi2 + 2 + m / 640 % 4 + m / 2560 % 7)]) t2 = some (.tup [.int (hi2 + 2 + m / 640 % 4), .int (hi2 + 2 + m / 640 % 4 + m / 2560 % 7)]) := upd_same
    generalize upd H5 t2 (.tup [.int (hi2 + 2 + m / 640 % 4), .int (hi2 + 2 + m / 640 % 4 + m / 2560 % 7)]) = HC at u3 et2 ⊢
    have el3 := u3 _ _ el
    have st : SameT HC (upd HC l (.lst ([V.ref t] ++ [V.ref t2]))) := sameT_lst el3
    refine ⟨l, _, _, rfl, rfl, el3, small1000 (by simp), (s5.trans u3).upd nl, _, [(lo, hi2), (hi2 + 2 + m / 640 % 4, hi2 + 2 + m / 640 % 4 + m / 2560 % 7)], _, upd_same, ((show PL _ [] [] from .nil).snoc (st _ _ (u3 _ _ et))).snoc (st _ _ et2), ?_, by simp, rfl⟩
    refine (ap1 (p := (lo, hi2)) hlh2).snoc (p := (hi2 + 2 + m / 640 % 4, hi2 + 2 + m / 640 % 4 + m / 2560 % 7)) (by show hi2 + 2 + m / 640 % 4 ≤ hi2 + 2 + m / 640 % 4 + m / 2560 % 7; omega) fun r hr => ?_
    rw [List.mem_singleton.mp hr]
    show hi2 + 2 ≤ hi2 + 2 + m / 640 % 4
    omega
  · exact ⟨s5, [.ref t], [(lo, hi2)], _, el, (show PL _ [] [] from .nil).snoc et, ap1 (p := (lo, hi2)) hlh2, by simp, rfl⟩
  rintro σ6 H6 ⟨s6, ys, B, c5, el6, hP6, ap6, hl6, rfl⟩
  exact ⟨_, rfl, q l H6 ys B s6 nl el6 hP6 ap6 hl6⟩
theorem ok_law_whole (F : Fun K "_law_whole" "_law_whole" s_law_whole f fd) (bl : Bl K mg)  : FnOk P w K mg base CX0 1 f fd ["found"] (sp_law_whole K) := by
  refine F.ok sc_law_whole (fun vs H Q E h => ?_) (fun cdv A outer s H vs Q E hr h => ?_)
  · obtain ⟨i, rfl, q⟩ := h
    rfl
  obtain ⟨i, rfl, q⟩ := h
  refine ⟨_, (pss_one (ps_ret (pe_and (pe_callB call_isinst rfl bl.isinstance_ PyProof.Rows.boot_isinstance (pa_cons (pv 0) (pa_cons (pe_bltn (v := .ty "int") rfl bl.int_ PyProof.Rows.boot_int rfl) pa_nil))) (pe_one (pe_not (pe_callB call_isinst rfl bl.isinstance_ PyProof.Rows.boot_isinstance (pa_cons (pv 0) (pa_cons (pe_bltn (v := .ty "bool") rfl bl.bool_ PyProof.Rows.boot_bool rfl) pa_nil)))))))), ?_⟩
  refine ⟨_, rfl, _, "int", _, true, rfl, .int _, (by first | rfl | with_unfolding_all rfl | decide +kernel), _, rfl, iteT ?_⟩
  exact ⟨_, rfl, _, "bool", _, false, rfl, .int _, (by first | rfl | with_unfolding_all rfl | decide +kernel), _, rfl, q⟩
theorem ok_law_in (F : Fun K "_law_in" "_law_in" s_law_in f fd) (bl : Bl K mg)  : FnOk P w K mg base CX0 1 f fd ["spans", "number"] (sp_law_in K) := by
  refine F.ok sc_law_in (fun vs H Q E h => ?_) (fun cdv A outer s H vs Q E hr h => ?_)
  · obtain ⟨a, xs, ps, n, rfl, hS, hP, q⟩ := h
    rfl
  obtain ⟨a, xs, ps, n, rfl, hS, hP, q⟩ := h
  refine ⟨_, (pss_cons (ps_for PassesOwn.never rfl (pi_list (pv 0)) (pg_name (i := 2) sc_law_in.nd rfl (Or.inl rfl))
     (pss_one (ps_if (PW.pt (pw_and (pt_cmpR op_le (pe_ix ix_tup (pv 2) pe_int (fun _ _ => rfl)) (pv 1) (nomark _)) (pw_and1 (pt_cmpR op_le (pv 1) (pe_ix ix_tup (pv 2) pe_int (fun _ _ => rfl)) (nomark _)))))
     (pss_one (ps_ret pe_bl))
     pss_nil)))
     (pss_one (ps_ret pe_bl))), ?_⟩
  refine ⟨_, rfl, a, rfl, ⟨_, hS⟩, for_list (xs := xs) (fun i σ H' => (∃ c2, σ = [some (.ref a), some (.int n), c2]) ∧ H' = H ∧ (ps.take i).any (inR n) = false) ⟨⟨_, rfl⟩, rfl, rfl⟩ (fun i σ H' _ h => by obtain ⟨_, e, _⟩ := h; rw [e]; exact hS) (fun i x σ H' e h => ?_) (fun σ H' h => ?_)⟩
  · obtain ⟨⟨c2, rfl⟩, e0, hn⟩ := h
    rw [e0]
    obtain ⟨p, r, e1, rfl, hr'⟩ := hP.get e
    have z0 : atI [V.int p.1, V.int p.2] 0 = some (V.int p.1) := rfl
    have z1 : atI [V.int p.1, V.int p.2] 1 = some (V.int p.2) := rfl
    refine ⟨_, rfl, r, _, _, _, rfl, rfl, SqT.of hr', z0, _, rfl, _, _, rfl, rfl, _, rfl, ?_⟩
    refine ite2 (fun c => ?_) (fun c => ?_)
    · refine ⟨_, rfl, _, rfl, r, _, _, _, rfl, rfl, SqT.of hr', z1, _, _, rfl, rfl, _, rfl, ?_⟩
      refine ite2 (fun d => ?_) (fun d => ?_)
      · have z2 : inP ps n = true := any_of_get e1 (in_t c d)
        rw [z2] at q; exact q
      · exact ⟨⟨_, rfl⟩, rfl, any_take_succ e1 hn (in_f2 d)⟩
    · exact iteF ⟨⟨_, rfl⟩, rfl, any_take_succ e1 hn (in_f1 c)⟩
  · obtain ⟨⟨c2, rfl⟩, e0, hn⟩ := h
    rw [e0]
    have z : inP ps n = false := by
      rw [hP.length, List.take_length] at hn
      exact hn
    rw [z] at q; exact q
theorem ok_law_truth (F : Fun K "_law_truth" "_law_truth" s_law_truth f fd) (bl : Bl K mg)  : FnOk P w K mg base CX0 1 f fd ["cell", "was", "within"] (sp_law_truth K) := by
  refine F.ok sc_law_truth (fun vs H Q E h => ?_) (fun cdv A outer s H vs Q E hr h => ?_)
  · obtain ⟨c, a, b, rfl, q⟩ := h
    rfl
  obtain ⟨c, a, b, rfl, q⟩ := h
  refine ⟨_, (pss_cons (ps_if (pt_cmpR op_lt (pe_op op_mod (pv 0) pe_int) pe_int (nomark _))
     (pss_one (ps_ret (pe_or (pv 1) (pe_one (pv 2)))))
     pss_nil)
     (pss_cons (ps_if (pt_cmpR op_eq (pe_op op_mod (pv 0) pe_int) pe_int (nomark _))
     (pss_one (ps_ret (pe_and (pv 1) (pe_one (pv 2)))))
     pss_nil)
     (pss_one (ps_ret (pe_and (pv 1) (pe_one (pe_not (pv 2)))))))), ?_⟩
  unfold dF at q
  refine ⟨_, rfl, _, _, rfl, rfl, (by show (0 : Int) < 4; decide), _, _, rfl, rfl, _, rfl, ite2 (fun g => ?_) (fun g => ?_)⟩
  · rw [if_pos (show c % 4 < 2 from dec_t g)] at q
    refine ⟨_, rfl, _, rfl, ?_⟩
    cases a with
    | true => exact iteT q
    | false => exact iteF ⟨_, rfl, q⟩
  rw [if_neg (show ¬ c % 4 < 2 from dec_f g)] at q
  refine ⟨_, rfl, _, _, rfl, rfl, (by show (0 : Int) < 4; decide), rfl, _, rfl, ite2 (fun g2 => ?_) (fun g2 => ?_)⟩
  · rw [if_pos (show c % 4 = 2 by have := dec_t g2; injection this)] at q
    refine ⟨_, rfl, _, rfl, ?_⟩
    cases a with
    | true => exact iteT ⟨_, rfl, q⟩
    | false => exact iteF q
  · rw [if_neg (fun z : c % 4 = 2 => dec_f g2 (by show V.int (c % 4) = _; rw [z]))] at q
    refine ⟨_, rfl, _, rfl, ?_⟩
    cases a with
    | true => exact iteT ⟨_, rfl, _, rfl, q⟩
    | false => exact iteF q
theorem ok_either (F : Fun K "either" "either" s_either f fd) (bl : Bl K mg) (c_tidy : Callee P w K mg base 1 "tidy" ["pairs"] (sp_tidy K)) : FnOk P w K mg base CX0 2 f fd ["ones", "others"] (sp_either K) := by
  refine F.ok sc_either (fun vs H Q E h => ?_) (fun cdv A outer s H vs Q E hr h => ?_)
  · obtain ⟨a, b, xs, ys, A0, B0, rfl, hA, hB, PA, PB, h64, q⟩ := h
    rfl
  obtain ⟨a, b, xs, ys, A0, B0, rfl, hA, hB, PA, PB, h64, q⟩ := h
  refine ⟨_, (pss_one (ps_ret (pe_fn c_tidy hr rfl (pa_cons (pe_op op_cat (pv 0) (pv 1)) pa_nil)))), ?_⟩
  refine ⟨_, rfl, _, rfl, a, b, xs, ys, rfl, rfl, hA, hB, Nat.le_of_lt (small1000 (by omega)), fun c hc => ?_⟩
  have s1 : Same H (upd H c (.lst (xs ++ ys))) := same_new hc _
  refine ⟨c, xs ++ ys, A0 ++ B0, rfl, SqL.of upd_same, PL.app (PA.mono s1.tups) (PB.mono s1.tups), by rw [List.length_append]; exact h64, fun r H' zs R s2 hr' e P ti l => ?_⟩
  refine q r H' zs R (s1.trans s2) (s1.free hr') e P ti.ap (fun n => ?_) (by rw [List.length_append] at l; exact l)
  rw [ti.mem n]; unfold inP; rw [List.any_append]
theorem ok_without (F : Fun K "without" "without" s_without f fd) (bl : Bl K mg) (c_both : Callee P w K mg base 1 "both" ["ones", "others"] (sp_both K)) (c_gaps : Callee P w K mg base 1 "gaps" ["spans", "low", "high"] (sp_gaps K)) : FnOk P w K mg base CX0 2 f fd ["ones", "others"] (sp_without K) := by
  refine F.ok sc_without (fun vs H Q E h => ?_) (fun cdv A outer s H vs Q E hr h => ?_)
  · obtain ⟨a, b, xs, ys, A0, B0, rfl, hA, hB, PA, PB, aA, aB, hl1, hl2, q⟩ := h
    rfl
  obtain ⟨a, b, xs, ys, A0, B0, rfl, hA, hB, PA, PB, aA, aB, hl1, hl2, q⟩ := h
  refine ⟨_, (pss_cons (ps_if (pt_not (pt_truth (pv 0) (by intro _; rfl)))
     (pss_one (ps_ret (pe_lst pa_nil)))
     pss_nil)
     (pss_one (ps_ret (pe_fn c_both hr rfl (pa_cons (pv 0) (pa_cons (pe_fn c_gaps hr rfl (pa_cons (pv 1) (pa_cons (pe_ix ix_tup (pe_ix ix_list (pv 0) pe_int (fun _ _ => rfl)) pe_int (fun _ _ => rfl)) (pa_cons (pe_ix ix_tup (pe_ix ix_list (pv 0) (pe_un un_neg pe_int) (fun _ _ => rfl)) pe_int (fun _ _ => rfl)) pa_nil)))) pa_nil)))))), ?_⟩
  refine ⟨_, rfl, !xs.isEmpty, .inl ⟨xs, hA, rfl⟩, ?_⟩
  by_cases hne : xs = []
  · have eE : (!xs.isEmpty) = false := by rw [hne]; rfl
    rw [eE]
    refine ⟨(by show 0 ≤ sizeLine; decide), fun r hr' => ?_⟩
    have eA : A0 = [] := by
      have := PA.length
      rw [hne] at this
      exact List.eq_nil_of_length_eq_zero this.symm
    exact q r _ [] [] (same_new hr' _) hr' upd_same .nil Apart.nil (fun n => by rw [eA]; rfl) (Nat.zero_le _)
  · have eE : (!xs.isEmpty) = true := by cases xs with | nil => exact absurd rfl hne | cons _ _ => rfl
    rw [eE]
    refine iteF ?_
    obtain ⟨xs', rl, A', l, ex, eA, PA2, hrl⟩ := PL.last PA hne
    obtain ⟨p0, r0, f1, f2, f3⟩ := PA.get (i := 0) (x := xs[0]'(by cases xs with | nil => exact absurd rfl hne | cons _ _ => simp)) (List.getElem?_eq_getElem _)
    have v0 : atI xs 0 = some (.ref r0) := by rw [← f2]; exact atI_nat (j := 0) (List.getElem?_eq_getElem _)
    have vl : atI xs (-1) = some (.ref rl) := by rw [ex]; exact atI_last _ _
    refine ⟨_, rfl, _, rfl, _, rfl, a, _, _, _, rfl, rfl, hA, v0, r0, _, _, _, rfl, rfl, SqT.of f3, z0 _ _, _, rfl, _, rfl, a, _, _, _, rfl, rfl, hA, vl, rl, _, _, _, rfl, rfl, SqT.of hrl, z1 _ _, ?_⟩
    refine ⟨b, ys, B0, p0.1, l.2, rfl, hB, PB, aB, by omega, fun r1 H1 zs F1 s1 hr1 e1 P1 ap1 mem1 l1 => ?_⟩
    refine ⟨a, r1, xs, zs, A0, F1, rfl, s1.seq hA, SqL.of e1, PA.mono s1.tups, P1, aA, ap1, by omega, fun r2 H2 ws R s2 hr2 e2 P2 ap2 mem2 l2 => ?_⟩
    refine q r2 H2 ws R (s1.trans s2) (s1.free hr2) e2 P2 ap2 (fun n => ?_) (by omega)
    rw [mem2 n, mem1 n]
    cases z : inP A0 n with
    | false => rfl
    | true =>
      obtain ⟨A1, rfl⟩ : ∃ A1, A0 = p0 :: A1 := by
        cases A0 with
        | nil => cases f1
        | cons y ys => cases f1; exact ⟨ys, rfl⟩
      have en := aA.ends (M := A') (z := l) eA z
      rw [decide_eq_true en.1, decide_eq_true en.2]
      rfl
theorem ok_law_apart (F : Fun K "_law_apart" "_law_apart" s_law_apart f fd) (bl : Bl K mg) (c__law_whole : Callee P w K mg base 1 "_law_whole" ["found"] (sp_law_whole K)) : FnOk P w K mg base CX0 2 f fd ["found"] (sp_law_apart K) := by
  refine F.ok sc_law_apart (fun vs H Q E h => ?_) (fun cdv A outer s H vs Q E hr h => ?_)
  · obtain ⟨a, xs, R, rfl, hA, hP, ap, hl, q⟩ := h
    rfl
  obtain ⟨a, xs, R, rfl, hA, hP, ap, hl, q⟩ := h
  refine ⟨_, (pss_cons (ps_if (pt_not (pt_val (pe_callB call_isinst rfl bl.isinstance_ PyProof.Rows.boot_isinstance (pa_cons (pv 0) (pa_cons (pe_bltn (v := .ty "list") rfl bl.list_ PyProof.Rows.boot_list rfl) pa_nil)))))
     (pss_one (ps_ret pe_bl))
     pss_nil)
     (pss_cons (ps_for PassesOwn.never rfl (pi_range1 rfl bl.range_ (pa_cons (pe_callB call_len_seq rfl bl.len_ PySem.boot_len (pa_cons (pv 0) pa_nil)) pa_nil)) (pg_name (i := 1) sc_law_apart.nd rfl (Or.inl rfl))
     (pss_cons (ps_if (PW.pt (pw_or (pt_not (pt_val (pe_callB call_isinst rfl bl.isinstance_ PyProof.Rows.boot_isinstance (pa_cons (pe_ix ix_list (pv 0) (pv 1) (fun _ _ => rfl)) (pa_cons (pe_bltn (v := .ty "tuple") rfl bl.tuple_ PyProof.Rows.boot_tuple rfl) pa_nil))))) (pw_or1 (pt_cmpR op_ne (pe_callB call_len_seq rfl bl.len_ PySem.boot_len (pa_cons (pe_ix ix_list (pv 0) (pv 1) (fun _ _ => rfl)) pa_nil)) pe_int (nomark _)))))
     (pss_one (ps_ret pe_bl))
     pss_nil)
     (pss_cons (ps_if (PW.pt (pw_or (pt_not (pt_val (pe_fn c__law_whole hr rfl (pa_cons (pe_ix ix_tup (pe_ix ix_list (pv 0) (pv 1) (fun _ _ => rfl)) pe_int (fun _ _ => rfl)) pa_nil)))) (pw_or1 (pt_not (pt_val (pe_fn c__law_whole hr rfl (pa_cons (pe_ix ix_tup (pe_ix ix_list (pv 0) (pv 1) (fun _ _ => rfl)) pe_int (fun _ _ => rfl)) pa_nil)))))))
     (pss_one (ps_ret pe_bl))
     pss_nil)
     (pss_cons (ps_if (pt_cmpR op_gt (pe_ix ix_tup (pe_ix ix_list (pv 0) (pv 1) (fun _ _ => rfl)) pe_int (fun _ _ => rfl)) (pe_ix ix_tup (pe_ix ix_list (pv 0) (pv 1) (fun _ _ => rfl)) pe_int (fun _ _ => rfl)) (nomark _))
     (pss_one (ps_ret pe_bl))
     pss_nil)
     (pss_one (ps_if (PW.pt (pw_and (pt_cmpR op_gt (pv 1) pe_int (nomark _)) (pw_and1 (pt_cmpR op_lt (pe_ix ix_tup (pe_ix ix_list (pv 0) (pv 1) (fun _ _ => rfl)) pe_int (fun _ _ => rfl)) (pe_op op_add (pe_ix ix_tup (pe_ix ix_list (pv 0) (pe_op op_sub (pv 1) pe_int) (fun _ _ => rfl)) pe_int (fun _ _ => rfl)) pe_int) (nomark _)))))
     (pss_one (ps_ret pe_bl))
     pss_nil))))))
     (pss_one (ps_ret pe_bl)))), ?_⟩
  have hS : SqL K H a xs := SqL.of hA
  refine ⟨_, rfl, _, "list", _, true, rfl, .lst hA, (by first | rfl | with_unfolding_all rfl | decide +kernel), _, rfl, iteF ?_⟩
  refine ⟨_, rfl, a, _, rfl, .inl hS, _, rfl, by omega, by omega, for_range (fun i σ H' => (∃ c1, σ = [some (.ref a), c1]) ∧ H' = H) ⟨⟨_, rfl⟩, rfl⟩ (fun i σ H' hi h => ?_) (fun σ H' h => ?_)⟩
  · obtain ⟨⟨c1, rfl⟩, e0⟩ := h
    rw [e0]
    have hi' : i < xs.length := by simpa using hi
    have ex : xs[i]? = some xs[i] := List.getElem?_eq_getElem hi'
    obtain ⟨p, r, e1, e2, hr'⟩ := hP.get ex
    have hv : atI xs (0 + (i : Int)) = some (.ref r) := by rw [← e2]; exact getI ex
    have hp := ap.le p (List.mem_of_getElem? e1)
    refine ⟨_, rfl, _, rfl, a, _, _, _, rfl, rfl, hS, hv, _, "tuple", _, true, rfl, .tup hr', (by first | rfl | with_unfolding_all rfl | decide +kernel), _, rfl, iteF ?_⟩
    refine ⟨_, rfl, _, rfl, a, _, _, _, rfl, rfl, hS, hv, r, _, rfl, .inr (SqT.of hr'), rfl, _, rfl, iteNS rfl ?_⟩
    refine ⟨_, rfl, _, rfl, a, _, _, _, rfl, rfl, hS, hv, r, _, _, _, rfl, rfl, SqT.of hr', z0 _ _, _, rfl, _, rfl, iteF ?_⟩
    refine ⟨_, rfl, _, rfl, a, _, _, _, rfl, rfl, hS, hv, r, _, _, _, rfl, rfl, SqT.of hr', z1 _ _, _, rfl, _, rfl, iteF ?_⟩
    refine ⟨_, rfl, _, rfl, a, _, _, _, rfl, rfl, hS, hv, r, _, _, _, rfl, rfl, SqT.of hr', z0 _ _, _, rfl, _, rfl, a, _, _, _, rfl, rfl, hS, hv, r, _, _, _, rfl, rfl, SqT.of hr', z1 _ _, _, _, rfl, rfl, _, rfl, ?_⟩
    refine ite2 (fun c => absurd (show p.2 < p.1 from dec_t c) (by omega)) (fun _ => ?_)
    refine ⟨_, rfl, _, _, rfl, rfl, _, rfl, ?_⟩
    refine ite2 (fun c => ?_) (fun c => iteF ⟨⟨_, rfl⟩, rfl⟩)
    have hk : 0 < i := by have : (0 : Int) < 0 + (i : Int) := dec_t c; omega
    have ex2 : xs[i - 1]? = some xs[i - 1] := List.getElem?_eq_getElem (by omega)
    obtain ⟨p2, r2, e3, e4, hr2⟩ := hP.get ex2
    have hv2 : atI xs (0 + (i : Int) - 1) = some (.ref r2) := by
      rw [← e4, show (0 : Int) + (i : Int) - 1 = ((i - 1 : Nat) : Int) by omega]
      exact atI_nat ex2
    refine ⟨_, rfl, _, rfl, a, _, _, _, rfl, rfl, hS, hv, r, _, _, _, rfl, rfl, SqT.of hr', z0 _ _, _, rfl, _, rfl, _, _, rfl, rfl, a, _, _, _, rfl, rfl, hS, hv2, r2, _, _, _, rfl, rfl, SqT.of hr2, z1 _ _, _, _, rfl, rfl, _, _, rfl, rfl, _, rfl, ?_⟩
    refine ite2 (fun d => ?_) (fun _ => ⟨⟨_, rfl⟩, rfl⟩)
    obtain ⟨h1, z1'⟩ := List.getElem?_eq_some_iff.mp e1
    obtain ⟨h2, z2'⟩ := List.getElem?_eq_some_iff.mp e3
    have g := List.pairwise_iff_getElem.mp ap.gap (i - 1) i h2 h1 (by omega)
    rw [z1', z2'] at g
    exact absurd (show p.1 < p2.2 + 2 from dec_t d) (by omega)
  · obtain ⟨⟨c1, rfl⟩, e0⟩ := h
    rw [e0]; exact q
theorem ok_law_deed (F : Fun K "_law_deed" "_law_deed" s_law_deed f fd) (bl : Bl K mg) (c_without : Callee P w K mg base 2 "without" ["ones", "others"] (sp_without K)) (c_either : Callee P w K mg base 2 "either" ["ones", "others"] (sp_either K)) (c_both : Callee P w K mg base 2 "both" ["ones", "others"] (sp_both K)) : FnOk P w K mg base CX0 3 f fd ["cell", "kept", "thing"] (sp_law_deed K) := by
  refine F.ok sc_law_deed (fun vs H Q E h => ?_) (fun cdv A outer s H vs Q E hr h => ?_)
  · obtain ⟨c, a, b, xs, ys, A0, B0, rfl, hA, hB, PA, PB, aA, aB, hl1, hl2, q⟩ := h
    rfl
  obtain ⟨c, a, b, xs, ys, A0, B0, rfl, hA, hB, PA, PB, aA, aB, hl1, hl2, q⟩ := h
  refine ⟨_, (pss_cons (ps_if (pt_cmpR op_eq (pe_op op_mod (pv 0) pe_int) pe_int (nomark _))
     (pss_one (ps_ret (pe_fn c_either hr rfl (pa_cons (pv 1) (pa_cons (pv 2) pa_nil)))))
     pss_nil)
     (pss_cons (ps_if (pt_cmpR op_eq (pe_op op_mod (pv 0) pe_int) pe_int (nomark _))
     (pss_one (ps_ret (pe_fn c_either hr rfl (pa_cons (pv 2) (pa_cons (pv 1) pa_nil)))))
     pss_nil)
     (pss_cons (ps_if (pt_cmpR op_eq (pe_op op_mod (pv 0) pe_int) pe_int (nomark _))
     (pss_one (ps_ret (pe_fn c_both hr rfl (pa_cons (pv 1) (pa_cons (pv 2) pa_nil)))))
     pss_nil)
     (pss_one (ps_ret (pe_fn c_without hr rfl (pa_cons (pv 1) (pa_cons (pv 2) pa_nil)))))))), ?_⟩
  refine ⟨_, rfl, _, _, rfl, rfl, (by show (0 : Int) < 4; decide), rfl, _, rfl, ite2 (fun g => ?_) (fun g => ?_)⟩
  · have g' : c % 4 = 0 := by have := dec_t g; injection this
    refine ⟨_, rfl, _, rfl, a, b, xs, ys, A0, B0, rfl, hA, hB, PA, PB, by omega, fun r H' zs R s nr er hP ap hin hl => q r H' zs R s nr er hP ap (fun n => ?_) (by omega)⟩
    rw [hin n]; unfold dF; rw [if_pos (by omega)]
  refine ⟨_, rfl, _, _, rfl, rfl, (by show (0 : Int) < 4; decide), rfl, _, rfl, ite2 (fun g2 => ?_) (fun g2 => ?_)⟩
  · have g' : c % 4 = 1 := by have := dec_t g2; injection this
    refine ⟨_, rfl, _, rfl, b, a, ys, xs, B0, A0, rfl, hB, hA, PB, PA, by omega, fun r H' zs R s nr er hP ap hin hl => q r H' zs R s nr er hP ap (fun n => ?_) (by omega)⟩
    rw [hin n, Bool.or_comm]; unfold dF; rw [if_pos (by omega)]
  have n0 : c % 4 ≠ 0 := fun z => dec_f g (by show V.int (c % 4) = _; rw [z])
  have n1 : c % 4 ≠ 1 := fun z => dec_f g2 (by show V.int (c % 4) = _; rw [z])
  refine ⟨_, rfl, _, _, rfl, rfl, (by show (0 : Int) < 4; decide), rfl, _, rfl, ite2 (fun g3 => ?_) (fun g3 => ?_)⟩
  · have g' : c % 4 = 2 := by have := dec_t g3; injection this
    refine ⟨_, rfl, _, rfl, a, b, xs, ys, A0, B0, rfl, SqL.of hA, SqL.of hB, PA, PB, aA, aB, by omega, fun r H' zs R s nr er hP ap hin hl => q r H' zs R s nr er hP ap (fun n => ?_) (by omega)⟩
    rw [hin n]; unfold dF; rw [if_neg (by omega), if_pos g']
  · have n2 : c % 4 ≠ 2 := fun z => dec_f g3 (by show V.int (c % 4) = _; rw [z])
    refine ⟨_, rfl, _, rfl, a, b, xs, ys, A0, B0, rfl, SqL.of hA, SqL.of hB, PA, PB, aA, aB, by omega, by omega, fun r H' zs R s nr er hP ap hin hl => q r H' zs R s nr er hP ap (fun n => ?_) (by omega)⟩
    rw [hin n]; unfold dF; rw [if_neg (by omega), if_neg n2]
theorem ok_law (F : Fun K "law" "law" s_law f fd) (bl : Bl K mg) (c__law_start : Callee P w K mg base 3 "_law_start" ["cell"] (sp_law_start K)) (c__law_cell : Callee P w K mg base 3 "_law_cell" ["script", "k"] (sp_law_cell K)) (c__law_thing : Callee P w K mg base 3 "_law_thing" ["cell", "base"] (sp_law_thing K)) (c__law_deed : Callee P w K mg base 3 "_law_deed" ["cell", "kept", "thing"] (sp_law_deed K)) (c_holds : Callee P w K mg base 3 "holds" ["spans", "number"] (sp_holds K)) (c__law_apart : Callee P w K mg base 3 "_law_apart" ["found"] (sp_law_apart K)) (c__law_truth : Callee P w K mg base 3 "_law_truth" ["cell", "was", "within"] (sp_law_truth K)) (c__law_in : Callee P w K mg base 3 "_law_in" ["spans", "number"] (sp_law_in K)) : FnOk P w K mg base CX0 4 f fd ["script"] (sp_law K) := by
  refine F.ok sc_law (fun vs H Q E h => ?_) (fun cdv A outer s H vs Q E hr h => ?_)
  · obtain ⟨a, ns, rfl, hS, h63, q⟩ := h
    rfl
  obtain ⟨a, ns, rfl, hS, h63, q⟩ := h
  refine ⟨_, (pss_cut (ps_set (i := 1) sc_law.nd rfl (Or.inr rfl) (pe_fn c__law_start hr rfl (pa_cons (pe_fn c__law_cell hr rfl (pa_cons (pv 0) (pa_cons pe_int pa_nil))) pa_nil)))
     (pss_cut (ps_set (i := 2) sc_law.nd rfl (Or.inr rfl) (pe_op op_cat (pe_comp (pi_range1 rfl bl.range_ (pa_cons pe_int pa_nil)) (cmpOk_free (N := ["k", "base"]) (fr := [1]) (cl := [("base", s.heap.objs.size + 1)]) rfl rfl (by decide +kernel) (by decide +kernel) rfl (by decide +kernel) rfl rfl rfl (List.forall_mem_cons.mpr ⟨rfl, List.forall_mem_nil _⟩) rfl) rfl (fun _ _ _ _ => pif_nil) (fun _ _ _ _ => (pe_op op_add (pe_op op_sub (pv 1) pe_int) (pv 0)))) (pe_lst (pa_cons (pe_op op_add (pv 1) (pe_op op_mod (pe_fn c__law_cell hr rfl (pa_cons (pv 0) (pa_cons pe_int pa_nil))) (pe_op op_pow pe_int pe_int))) pa_nil))))
     (pss_cut (ps_set (i := 3) sc_law.nd rfl (Or.inr rfl) (pe_comp (pi_list (pv 2)) (cmpOk_plain rfl (by decide +kernel) (by decide +kernel) (by decide +kernel) rfl) rfl (fun _ _ _ _ => pif_nil) (fun _ _ _ _ => pe_bl)))
     (pss_cut (ps_set (i := 4) sc_law.nd rfl (Or.inl rfl) (pe_lst (pa_cons (pe_lst pa_nil) pa_nil)))
     (pss_cut (ps_set (i := 5) sc_law.nd rfl (Or.inl rfl) (pe_lst (pa_cons (pe_lst pa_nil) pa_nil)))
     (pss_cut (ps_for PassesOwn.never rfl (pi_list (pe_slice sl_list (pv 0) (po_some pe_int) (po_some pe_int))) (pg_name (i := 6) sc_law.nd rfl (Or.inr rfl))
     (pss_cut (ps_set (i := 7) sc_law.nd rfl (Or.inr rfl) (pe_fn c__law_thing hr rfl (pa_cons (pv 6) (pa_cons (pv 1) pa_nil))))
     (pss_cut (ps_set (i := 8) sc_law.nd rfl (Or.inl rfl) (pe_fn c__law_deed hr rfl (pa_cons (pv 6) (pa_cons (pe_ix ix_list (pv 4) (pe_un un_neg pe_int) (fun _ _ => rfl)) (pa_cons (pe_callTy call_list_of rfl bl.list_ PyProof.Rows.boot_list (pa_cons (pv 7) pa_nil)) pa_nil)))))
     (pss_cut (ps_if (pt_not (pt_val (pe_fn c__law_apart hr rfl (pa_cons (pv 8) pa_nil))))
     (pss_one (ps_ret pe_bl))
     pss_nil)
     (pss_cut (ps_set (i := 3) sc_law.nd rfl (Or.inr rfl) (pe_comp (pi_range1 rfl bl.range_ (pa_cons pe_int pa_nil)) (cmpOk_free (N := ["k", "probes", "truth", "cell", "thing"]) (fr := [2, 3, 6, 7]) (cl := [("truth", s.heap.objs.size + 1 + 1 + 1), ("thing", s.heap.objs.size + 1 + 1 + 1 + 1 + 1), ("probes", s.heap.objs.size + 1 + 1), ("cell", s.heap.objs.size + 1 + 1 + 1 + 1)]) rfl rfl (by decide +kernel) (by decide +kernel) rfl (by decide +kernel) rfl rfl rfl (List.forall_mem_cons.mpr ⟨rfl, List.forall_mem_cons.mpr ⟨rfl, List.forall_mem_cons.mpr ⟨rfl, List.forall_mem_cons.mpr ⟨rfl, List.forall_mem_nil _⟩⟩⟩⟩) rfl) rfl (fun _ _ _ _ => pif_nil) (fun _ _ _ _ => (pe_fn c__law_truth hr rfl (pa_cons (pv 3) (pa_cons (pe_ix (ix_listK (K := K) rfl) (pv 2) (pv 0) (fun _ _ => rfl)) (pa_cons (pe_fn c__law_in hr rfl (pa_cons (pv 4) (pa_cons (pe_ix (ix_listK (K := K) rfl) (pv 1) (pv 0) (fun _ _ => rfl)) pa_nil))) pa_nil)))))))
     (pss_cut (ps_expr (pe_bm PySem.F.plainAttrs_list PySem.F.slot_list_append PySem.F.type_list_append mt_append (pv 4) (pa_cons (pv 8) pa_nil)))
     (pss_one (ps_expr (pe_bm PySem.F.plainAttrs_list PySem.F.slot_list_append PySem.F.type_list_append mt_append (pv 5) (pa_cons (pe_callTy call_list_of rfl bl.list_ PyProof.Rows.boot_list (pa_cons (pv 8) pa_nil)) pa_nil))))))))))
     (pss_cut (ps_for PassesOwn.never rfl (pi_range1 rfl bl.range_ (pa_cons pe_int pa_nil)) (pg_name (i := 9) sc_law.nd rfl (Or.inl rfl))
     (pss_cut (ps_set (i := 8) sc_law.nd rfl (Or.inl rfl) (pe_fn c_holds hr rfl (pa_cons (pe_ix ix_list (pv 4) (pe_un un_neg pe_int) (fun _ _ => rfl)) (pa_cons (pe_ix ix_list (pv 2) (pv 9) (fun _ _ => rfl)) pa_nil))))
     (pss_one (ps_if (PW.pt (pw_or (pt_not (pt_val (pe_callB call_isinst rfl bl.isinstance_ PyProof.Rows.boot_isinstance (pa_cons (pv 8) (pa_cons (pe_bltn (v := .ty "bool") rfl bl.bool_ PyProof.Rows.boot_bool rfl) pa_nil))))) (pw_or (pt_cmpR op_ne (pv 8) (pe_ix ix_list (pv 3) (pv 9) (fun _ _ => rfl)) (nomark _)) (pw_or1 (pt_cmpR op_ne (pe_fn c__law_in hr rfl (pa_cons (pe_ix ix_list (pv 5) (pe_un un_neg pe_int) (fun _ _ => rfl)) (pa_cons (pe_ix ix_list (pv 2) (pv 9) (fun _ _ => rfl)) pa_nil))) (pv 8) (nomark _))))))
     (pss_one (ps_ret pe_bl))
     pss_nil))))
     (pss_one (ps_ret (pe_cmpR (op_eqDL hr) (pv 4) (pv 5) (nomark _))))))))))), ?_⟩
  have sz1 : 1 ≤ sizeLine := by decide
  obtain ⟨ms, em, lm⟩ := cut_map ns (some 2) (some 122)
  refine ⟨fun σ' H' => H' = H ∧ ∃ b : Int, σ' = [some (.ref a), some (.int b), none, none, none, none, none, none, none, none], ⟨_, rfl, a, ns, 0, rfl, hS, Int.le_refl _, fun v0 => ⟨v0, rfl, fun st => ⟨rfl, st, rfl⟩⟩⟩, ?_⟩
  rintro σ1 H1 ⟨e_, b, rfl⟩
  subst e_
  refine ⟨fun σ' H' => Same H1 H' ∧ ∃ (pr : Addr) (pb : List Int), H' pr = some (.lst (pb.map V.int)) ∧ pb.length = 65 ∧ σ' = [some (.ref a), some (.int b), some (.ref pr), none, none, none, none, none, none, none], ?_, ?_⟩
  · refine ⟨_, rfl, (by decide), (by decide), comp_range (fun D i ys H' => Same H1 H' ∧ H' D = some (.lst ys) ∧ ∃ us : List Int, ys = us.map V.int ∧ us.length = i) (fun D hD => ⟨same_new hD _, upd_same, [], rfl, rfl⟩) (fun D i ys H' hD hi h => ?_) (fun D ys H' hD h => ?_)⟩
    · obtain ⟨sm, eD, us, rfl, hul⟩ := h
      have hi' : i < 64 := hi
      refine ⟨_, rfl, _, _, rfl, rfl, _, rfl, _, _, rfl, rfl, CYes.mk hi eD (small1000 (by rw [List.length_map]; omega)) ⟨sm.upd hD, upd_same, us ++ [b - 1 + (0 + (i : Int))], ?_, ?_⟩⟩
      · rw [List.map_append]; rfl
      · rw [List.length_append, hul]; rfl
    · obtain ⟨sm, eD, us, rfl, hul⟩ := h
      have hul : us.length = 64 := hul
      refine ⟨_, rfl, _, rfl, a, ns, 1, rfl, sm.seq hS, by decide, fun v1 => ⟨_, _, rfl, rfl, ⟨by decide, by decide, by decide⟩, _, _, rfl, rfl, p10 _, _, _, rfl, rfl, sz1, fun l hl => ?_⟩⟩
      have u := same_new hl (.lst [V.int (b + v1 % 10 ^ 54)])
      refine ⟨D, l, _, _, rfl, rfl, u _ _ eD, upd_same, Nat.le_trans (show (us.map V.int).length + 1 ≤ 100 by rw [List.length_map]; omega) (by decide), fun p hp => ?_⟩
      refine ⟨(sm.trans u).trans (same_new hp _), p, us ++ [b + v1 % 10 ^ 54], ?_, ?_, rfl⟩
      · rw [upd_same, List.map_append]; rfl
      · rw [List.length_append, hul]; rfl
  rintro σ2 H2 ⟨s2, pr, pb, epr, hpl, rfl⟩
  have hpm : (pb.map V.int).length = pb.length := List.length_map _
  refine ⟨fun σ' H' => Same H2 H' ∧ ∃ (tr : Addr) (tb : List Bool), H' tr = some (.lst (tb.map V.bl)) ∧ tb.length = 65 ∧ (∀ x ∈ tb, x = false) ∧ σ' = [some (.ref a), some (.int b), some (.ref pr), some (.ref tr), none, none, none, none, none, none], ?_, ?_⟩
  · refine ⟨_, rfl, pr, rfl, ⟨_, SqL.of epr⟩, comp_list (xs := pb.map V.int) (fun D i ys H' => Same H2 H' ∧ H' D = some (.lst ys) ∧ ∃ tb : List Bool, ys = tb.map V.bl ∧ tb.length = i ∧ ∀ x ∈ tb, x = false) (fun D hD => ⟨same_new hD _, upd_same, [], rfl, rfl, fun x hx => by cases hx⟩) (fun D i ys H' hD _ h => SqL.of (h.1 _ _ epr)) (fun D i y ys H' hD e h => ?_) (fun D ys H' hD h => ?_)⟩
    · obtain ⟨sm, eD, tb, rfl, htl, hf⟩ := h
      have hi : i < (pb.map V.int).length := (List.getElem?_eq_some_iff.mp e).1
      refine CYes.mk hi eD (small1000 (by rw [List.length_map]; omega)) ⟨sm.upd hD, upd_same, tb ++ [false], ?_, ?_, fun x hx => ?_⟩
      · rw [List.map_append]; rfl
      · rw [List.length_append, htl]; rfl
      · rcases List.mem_append.mp hx with hx | hx
        · exact hf x hx
        · exact List.mem_singleton.mp hx
    · obtain ⟨sm, eD, tb, rfl, htl, hf⟩ := h
      exact ⟨sm, D, tb, eD, by omega, hf, rfl⟩
  rintro σ3 H3 ⟨s3, tr, tb, etr, htl, htf, rfl⟩
  have epr3 := s3 _ _ epr
  have hS3 := (s2.trans s3).seq hS
  refine ⟨fun σ' H' => Same H3 H' ∧ ∃ tl_ l0 : Addr, H3 tl_ = none ∧ H3 l0 = none ∧ l0 ≠ tl_ ∧ H' l0 = some (.lst []) ∧ H' tl_ = some (.lst [.ref l0]) ∧ σ' = [some (.ref a), some (.int b), some (.ref pr), some (.ref tr), some (.ref tl_), none, none, none, none, none], ⟨Nat.zero_le _, fun l0 h0 => ⟨sz1, fun tl_ htl_ => ?_⟩⟩, ?_⟩
  · have u1 := same_new h0 (.lst [])
    have e0 : upd H3 l0 (.lst []) l0 = some (.lst []) := upd_same
    have u2 := same_new htl_ (.lst [.ref l0])
    exact ⟨u1.trans u2, tl_, l0, u1.free htl_, h0, (fun z => by rw [← z, e0] at htl_; cases htl_), u2 _ _ e0, upd_same, rfl⟩
  rintro σ4 H4 ⟨s4, tl_, l0, ntl, nl0, ne0, el0, etl, rfl⟩
  refine ⟨fun σ' H' => Same H4 H' ∧ ∃ cp l1 : Addr, H4 cp = none ∧ l1 ≠ cp ∧ l1 ≠ tl_ ∧ H' l1 = some (.lst []) ∧ H' cp = some (.lst [.ref l1]) ∧ σ' = [some (.ref a), some (.int b), some (.ref pr), some (.ref tr), some (.ref tl_), some (.ref cp), none, none, none, none], ⟨Nat.zero_le _, fun l0 h0 => ⟨sz1, fun cp hcp => ?_⟩⟩, ?_⟩
  · have u1 := same_new h0 (.lst [])
    have e0 : upd H4 l0 (.lst []) l0 = some (.lst []) := upd_same
    have u2 := same_new hcp (.lst [.ref l0])
    exact ⟨u1.trans u2, cp, l0, u1.free hcp, (fun z => by rw [← z, e0] at hcp; cases hcp), (fun z => by rw [z, etl] at h0; cases h0), u2 _ _ e0, upd_same, rfl⟩
  rintro σ5 H5 ⟨s5, cp, l1, ncp, ne1, ne2, el1, ecp, rfl⟩
  have s35 := s4.trans s5
  have hct : cp ≠ tl_ := fun z => by rw [z, etl] at ncp; cases ncp
  have hc0 : l0 ≠ cp := fun z => by rw [← z, el0] at ncp; cases ncp
  have ncp3 : H3 cp = none := s4.free ncp
  have ntr : tr ≠ tl_ := fun z => by rw [z, ntl] at etr; cases etr
  have ntr2 : tr ≠ cp := fun z => by rw [z, ncp3] at etr; cases etr
  -- the deeds
  refine ⟨fun σ' H' => Same H3 H' ∧ ∃ (ts cs : List V) (r r' tra : Addr) (us : List V) (R : List (Int × Int)) (tb : List Bool) (c6 c7 c8 : Option V), H' tl_ = some (.lst (ts ++ [.ref r])) ∧ H' cp = some (.lst (cs ++ [.ref r'])) ∧ Paired (CpA (fun x => x ≠ tl_ ∧ x ≠ cp) H') (ts ++ [.ref r]) (cs ++ [.ref r']) ∧ H' r = some (.lst us) ∧ H' r' = some (.lst us) ∧ PL H' us R ∧ H' tra = some (.lst (tb.map V.bl)) ∧ tb.length = 65 ∧ (∀ (k : Nat) (n : Int), pb[k]? = some n → tb[k]? = some (inP R n)) ∧ σ' = [some (.ref a), some (.int b), some (.ref pr), some (.ref tra), some (.ref tl_), some (.ref cp), c6, c7, c8, none], ?_, ?_⟩
  · refine ⟨_, rfl, _, rfl, _, rfl, a, _, rfl, s35.seq hS3, fun c1 hc1 => ?_⟩
    rw [em]
    have u1 := same_new hc1 (.lst (ms.map V.int))
    have ec1 : upd H5 c1 (.lst (ms.map V.int)) c1 = some (.lst (ms.map V.int)) := upd_same
    generalize upd H5 c1 (.lst (ms.map V.int)) = H6 at u1 ec1 ⊢
    have s36 := s35.trans u1
    have nc1t : c1 ≠ tl_ := fun z => by rw [z, s5 _ _ etl] at hc1; cases hc1
    have nc1c : c1 ≠ cp := fun z => by rw [z, ecp] at hc1; cases hc1
    have ml : (ms.map V.int).length = ms.length := List.length_map _
    refine ⟨c1, rfl, ⟨_, SqL.of ec1⟩, for_list (xs := ms.map V.int) (fun i σ H' => Same H3 H' ∧ H' c1 = some (.lst (ms.map V.int)) ∧ ∃ (ts cs : List V) (r r' tra : Addr) (us : List V) (R : List (Int × Int)) (tb : List Bool) (c6 c7 c8 : Option V), H' tl_ = some (.lst (ts ++ [.ref r])) ∧ H' cp = some (.lst (cs ++ [.ref r'])) ∧ Paired (CpA (fun x => x ≠ tl_ ∧ x ≠ cp) H') (ts ++ [.ref r]) (cs ++ [.ref r']) ∧ H' r = some (.lst us) ∧ H' r' = some (.lst us) ∧ PL H' us R ∧ Apart R ∧ us.length ≤ 3 * i ∧ ts.length = i ∧ H' tra = some (.lst (tb.map V.bl)) ∧ tb.length = 65 ∧ (∀ (k : Nat) (n : Int), pb[k]? = some n → tb[k]? = some (inP R n)) ∧ σ = [some (.ref a), some (.int b), some (.ref pr), some (.ref tra), some (.ref tl_), some (.ref cp), c6, c7, c8, none])
      ⟨s36, ec1, [], [], l0, l1, tr, [], [], tb, _, _, _, (s5.trans u1) _ _ etl, u1 _ _ ecp, .cons ⟨l0, l1, [], [], rfl, rfl, ⟨ne0, hc0⟩, ⟨ne2, ne1⟩, (s5.trans u1) _ _ el0, u1 _ _ el1, .nil⟩ .nil, (s5.trans u1) _ _ el0, u1 _ _ el1, .nil, ⟨(fun p hp => by cases hp), List.Pairwise.nil⟩, Nat.zero_le _, rfl, s36 _ _ etr, htl, fun k n e => ?_, rfl⟩
      (fun i σ H' _ h => SqL.of h.2.1) (fun i y σ H' e h => ?_) (fun σ H' h => ?_)⟩
    · have hk : k < tb.length := by have := (List.getElem?_eq_some_iff.mp e).1; omega
      rw [List.getElem?_eq_getElem hk, htf _ (List.getElem_mem hk)]
      rfl
    · obtain ⟨sm, ec, ts, cs, r, r', tra, us, R, tb, c6, c7, c8, et, ecp', hcp, er, er', PR, ap, hul, htsl, etra, htl, htb, rfl⟩ := h
      obtain ⟨c, rfl, ecc⟩ := of_map e
      have hi : i < ms.length := (List.getElem?_eq_some_iff.mp ecc).1
      -- thing
      refine ⟨fun σ' H'' => Same H' H'' ∧ ∃ (th : Addr) (ys : List V) (B : List (Int × Int)), H'' th = some (.lst ys) ∧ PL H'' ys B ∧ Apart B ∧ ys.length ≤ 2 ∧ σ' = [some (.ref a), some (.int b), some (.ref pr), some (.ref tra), some (.ref tl_), some (.ref cp), some (.int c), some (.ref th), c8, none], ⟨_, rfl, _, rfl, c, b, rfl, fun th H'' ys B s nr e hP ap hl => ⟨s, th, ys, B, e, hP, ap, hl, rfl⟩⟩, ?_⟩
      rintro σa Ha ⟨sa, th, ys, B, eth, PB, apB, hyl, rfl⟩
      -- found
      refine ⟨fun σ' H'' => Same Ha H'' ∧ ∃ (fo : Addr) (zs : List V) (R' : List (Int × Int)), Ha fo = none ∧ H'' fo = some (.lst zs) ∧ PL H'' zs R' ∧ Apart R' ∧ (∀ n, inP R' n = dF c (inP R n) (inP B n)) ∧ zs.length ≤ us.length + 3 ∧ σ' = [some (.ref a), some (.int b), some (.ref pr), some (.ref tra), some (.ref tl_), some (.ref cp), some (.int c), some (.ref th), some (.ref fo), none], ?_, ?_⟩
      · refine ⟨_, rfl, _, rfl, _, rfl, tl_, _, _, _, rfl, rfl, SqL.of (sa _ _ et), atI_last _ _, _, rfl, th, _, rfl, .inl (SqL.of eth), fun l2 hl2 => ?_⟩
        have u := same_new hl2 (.lst ys)
        exact ⟨c, r, l2, us, ys, R, B, rfl, u _ _ (sa _ _ er), upd_same, PR.mono (sa.trans u).tups, PB.mono u.tups, ap, apB, by omega, hyl, fun fo H'' zs R' s nf ef hP ap' hin hl => ⟨u.trans s, fo, zs, R', u.free nf, ef, hP, ap', hin, hl, rfl⟩⟩
      rintro σb Hb ⟨sb, fo, zs, R', nfo, efo, PF, apF, hin, hzl, rfl⟩
      refine ⟨fun σ' H'' => H'' = Hb ∧ σ' = [some (.ref a), some (.int b), some (.ref pr), some (.ref tra), some (.ref tl_), some (.ref cp), some (.int c), some (.ref th), some (.ref fo), none], ⟨_, rfl, fo, zs, R', rfl, efo, PF, apF, by omega, _, rfl, iteF ⟨rfl, rfl⟩⟩, ?_⟩
      rintro σc Hc ⟨e_, rfl⟩
      subst e_
      have sac := sa.trans sb
      have etra2 := sac _ _ etra
      have epr2 := (sm.trans sac) _ _ epr3
      -- truth
      refine ⟨fun σ' H'' => Same Hc H'' ∧ ∃ (tr2 : Addr) (tb2 : List Bool), Hc tr2 = none ∧ H'' tr2 = some (.lst (tb2.map V.bl)) ∧ tb2.length = 65 ∧ (∀ (k : Nat) (n : Int), pb[k]? = some n → tb2[k]? = some (inP R' n)) ∧ σ' = [some (.ref a), some (.int b), some (.ref pr), some (.ref tr2), some (.ref tl_), some (.ref cp), some (.int c), some (.ref th), some (.ref fo), none], ?_, ?_⟩
      · refine ⟨_, rfl, (by decide), (by decide), comp_range (fun D k ys H'' => Same Hc H'' ∧ H'' D = some (.lst ys) ∧ ∃ tb2 : List Bool, ys = tb2.map V.bl ∧ tb2.length = k ∧ ∀ (j : Nat) (n : Int), j < k → pb[j]? = some n → tb2[j]? = some (inP R' n)) (fun D hD => ⟨same_new hD _, upd_same, [], rfl, rfl, fun j n hj => by omega⟩) (fun D k zs' H'' hD hk h => ?_) (fun D zs' H'' hD h => ?_)⟩
        · obtain ⟨sn, eD, tb2, rfl, htl2, hb2⟩ := h
          have hk' : k < 65 := hk
          rw [show (0 : Int) + (k : Int) = (k : Int) by omega]
          have en := List.getElem?_eq_getElem (l := pb) (i := k) (by omega)
          generalize pb[k] = n at en
          have etk := htb k n en
          refine ⟨_, rfl, _, rfl, _, rfl, tra, _, _, _, rfl, rfl, SqL.of (sn _ _ etra2), atI_nat (v := .bl (inP R n)) (by rw [List.getElem?_map, etk]; rfl), _, rfl, _, rfl, _, rfl, pr, _, _, _, rfl, rfl, SqL.of (sn _ _ epr2), atI_nat (get_map en), th, ys, B, n, rfl, SqL.of ((sb.trans sn) _ _ eth), PB.mono (sb.trans sn).tups, c, inP R n, inP B n, rfl, CYes.mk hk eD (small1000 (by rw [List.length_map]; omega)) ⟨sn.upd hD, upd_same, tb2 ++ [dF c (inP R n) (inP B n)], ?_, ?_, fun j n' hj en' => ?_⟩⟩
          · rw [List.map_append]; rfl
          · rw [List.length_append, htl2]; rfl
          · by_cases hjk : j < k
            · rw [List.getElem?_append_left (by omega)]
              exact hb2 j n' hjk en'
            · have hjk : j = k := by omega
              subst hjk
              rw [en] at en'
              cases en'
              rw [List.getElem?_append_right (by omega), htl2, Nat.sub_self, ← hin n]
              rfl
        · obtain ⟨sn, eD, tb2, rfl, htl2, hb2⟩ := h
          have htl2 : tb2.length = 65 := htl2
          exact ⟨sn, D, tb2, hD, eD, htl2, fun k n e => hb2 k n (show k < 65 by have := (List.getElem?_eq_some_iff.mp e).1; omega) e, rfl⟩
      rintro σd Hd ⟨sd, tr2, tb2, ntr2', etr2, htl2, htb2, rfl⟩
      have sad := sac.trans sd
      have etd := sad _ _ et
      have ecd := sad _ _ ecp'
      have efod := sd _ _ efo
      have nft : fo ≠ tl_ := fun z => by rw [z, sa _ _ et] at nfo; cases nfo
      have nfc : fo ≠ cp := fun z => by rw [z, sa _ _ ecp'] at nfo; cases nfo
      have n2t : tr2 ≠ tl_ := fun z => by rw [z, sac _ _ et] at ntr2'; cases ntr2'
      have n2c : tr2 ≠ cp := fun z => by rw [z, sac _ _ ecp'] at ntr2'; cases ntr2'
      have hcpd : Paired (CpA (fun x => x ≠ tl_ ∧ x ≠ cp) Hd) (ts ++ [.ref r]) (cs ++ [.ref r']) := Paired.mapP hcp fun _ _ p => p.same sad
      refine ⟨fun σ' H'' => Same H3 H'' ∧ H'' c1 = some (.lst (ms.map V.int)) ∧ H'' tl_ = some (.lst ((ts ++ [.ref r]) ++ [.ref fo])) ∧ H'' cp = some (.lst (cs ++ [.ref r'])) ∧ Paired (CpA (fun x => x ≠ tl_ ∧ x ≠ cp) H'') (ts ++ [.ref r]) (cs ++ [.ref r']) ∧ H'' fo = some (.lst zs) ∧ PL H'' zs R' ∧ H'' tr2 = some (.lst (tb2.map V.bl)) ∧ σ' = [some (.ref a), some (.int b), some (.ref pr), some (.ref tr2), some (.ref tl_), some (.ref cp), some (.int c), some (.ref th), some (.ref fo), none], ⟨_, rfl, .inl ⟨rfl, _, SqL.of etd⟩, _, rfl, tl_, _, _, rfl, rfl, etd, small1000 (by rw [List.length_append, htsl]; simp; omega), (sm.trans sad).upd ntl, (upd_ne nc1t).trans (sad _ _ ec), upd_same, (upd_ne hct).trans ecd, Paired.mapP hcpd (fun _ _ p => p.upd (fun z => z.1 rfl) etd), (upd_ne nft).trans efod, (PF.mono sd.tups).mono (sameT_lst etd), (upd_ne n2t).trans etr2, rfl⟩, ?_⟩
      rintro σe He ⟨se, ece, ete, ecpe, hpe, efoe, PFe, etre, rfl⟩
      refine ⟨_, rfl, .inl ⟨rfl, _, SqL.of ecpe⟩, _, rfl, fo, _, rfl, .inl (SqL.of efoe), fun l3 hl3 => ?_⟩
      have u := same_new hl3 (.lst zs)
      have el3 : upd He l3 (.lst zs) l3 = some (.lst zs) := upd_same
      have n3t : l3 ≠ tl_ := fun z => by rw [z, ete] at hl3; cases hl3
      have n3c : l3 ≠ cp := fun z => by rw [z, ecpe] at hl3; cases hl3
      generalize upd He l3 (.lst zs) = Hf at u el3 ⊢
      have ecpf := u _ _ ecpe
      have hlcs : cs.length = ts.length := by have := Paired.length hpe; simp at this; exact this.symm
      refine ⟨cp, _, _, rfl, rfl, ecpf, small1000 (by rw [List.length_append, hlcs, htsl]; simp; omega), (se.trans u).upd ncp3, (upd_ne nc1c).trans (u _ _ ece), ts ++ [.ref r], cs ++ [.ref r'], fo, l3, tr2, zs, R', tb2, _, _, _, (upd_ne hct.symm).trans (u _ _ ete), upd_same, Paired.snoc (Paired.mapP hpe fun _ _ p => (p.same u).upd (fun z => z.2 rfl) ecpf) ⟨fo, l3, zs, R', rfl, rfl, ⟨nft, nfc⟩, ⟨n3t, n3c⟩, (upd_ne nfc).trans (u _ _ efoe), (upd_ne n3c).trans el3, (PFe.mono u.tups).mono (sameT_lst ecpf)⟩, (upd_ne nfc).trans (u _ _ efoe), (upd_ne n3c).trans el3, (PFe.mono u.tups).mono (sameT_lst ecpf), apF, by omega, by rw [List.length_append, htsl]; rfl, (upd_ne n2c).trans (u _ _ etre), htl2, htb2, rfl⟩
    · obtain ⟨sm, ec, ts, cs, r, r', tra, us, R, tb, c6, c7, c8, et, ecp', hcp, er, er', PR, ap, hul, htsl, etra, htl, htb, rfl⟩ := h
      exact ⟨sm, ts, cs, r, r', tra, us, R, tb, _, _, _, et, ecp', hcp, er, er', PR, etra, htl, htb, rfl⟩
  rintro σ7 H7 ⟨s7, ts, cs, r, r', tra, us, R, tb, c6, c7, c8, et, ecp', hcp, er, er', PR, etra, htl, htb, rfl⟩
  have epr7 := s7 _ _ epr3
  refine ⟨fun σ' H' => H' = H7 ∧ ∃ c8 c9 : Option V, σ' = [some (.ref a), some (.int b), some (.ref pr), some (.ref tra), some (.ref tl_), some (.ref cp), c6, c7, c8, c9], ?_, ?_⟩
  · refine ⟨_, rfl, (by decide), (by decide), for_range (fun k σ H' => H' = H7 ∧ ∃ c8 c9 : Option V, σ = [some (.ref a), some (.int b), some (.ref pr), some (.ref tra), some (.ref tl_), some (.ref cp), c6, c7, c8, c9]) ⟨rfl, _, _, rfl⟩ (fun k σ H' hk h => ?_) (fun σ H' h => h)⟩
    obtain ⟨e_, c8, c9, rfl⟩ := h
    subst e_
    have hk' : k < 65 := hk
    rw [show (0 : Int) + (k : Int) = (k : Int) by omega]
    have en := List.getElem?_eq_getElem (l := pb) (i := k) (by omega)
    generalize pb[k] = n at en
    have ixp : atI (pb.map V.int) (k : Int) = some (.int n) := atI_nat (get_map en)
    have ixt : atI (tb.map V.bl) (k : Int) = some (.bl (inP R n)) := atI_nat (by rw [List.getElem?_map, htb k n en]; rfl)
    refine ⟨fun σ' H'' => H'' = H' ∧ σ' = [some (.ref a), some (.int b), some (.ref pr), some (.ref tra), some (.ref tl_), some (.ref cp), c6, c7, some (.bl (inP R n)), some (.int (k : Int))], ⟨_, rfl, _, rfl, tl_, _, _, _, rfl, rfl, SqL.of et, atI_last _ _, _, rfl, _, rfl, pr, _, _, _, rfl, rfl, SqL.of epr7, ixp, r, us, R, n, rfl, SqL.of er, PR, rfl, rfl⟩, ?_⟩
    rintro σa Ha ⟨e_, rfl⟩
    subst e_
    refine ⟨_, rfl, _, "bool", _, true, rfl, .bl _, (by first | rfl | with_unfolding_all rfl | decide +kernel), _, rfl, iteF ⟨_, rfl, _, rfl, _, rfl, tra, _, _, _, rfl, rfl, SqL.of etra, ixt, rfl, _, rfl, iteNS rfl ⟨_, rfl, _, rfl, cp, _, _, _, rfl, rfl, SqL.of ecp', atI_last _ _, _, rfl, _, rfl, pr, _, _, _, rfl, rfl, SqL.of epr7, ixp, r', us, R, n, rfl, SqL.of er', PR, _, rfl, rfl, _, rfl, iteNS rfl ⟨rfl, _, _, rfl⟩⟩⟩⟩
  rintro σ8 H8 ⟨e_, c8', c9', rfl⟩
  subst e_
  refine ⟨_, rfl, _, rfl, tl_, cp, _, _, rfl, rfl, SqL.of et, SqL.of ecp', .inr ⟨Paired.length hcp, fun _ => true, fun j x y e1 e2 => (Paired.at_ hcp e1 e2).deq, ?_⟩⟩
  rw [show (List.range (ts ++ [V.ref r]).length).all (fun _ => true) = true by simp]
  exact q _
end
theorem ls1 {P : List Value → Prop} (h : ∀ a, P [a]) : ∀ us : List Value, us.length = 1 → P us
  | [_], _ => h _
theorem ls2 {P : List Value → Prop} (h : ∀ a b, P [a, b]) : ∀ us : List Value, us.length = 2 → P us
  | [_, _], _ => h _ _
theorem ls3 {P : List Value → Prop} (h : ∀ a b c, P [a, b, c]) : ∀ us : List Value, us.length = 3 → P us
  | [_, _, _], _ => h _ _ _
theorem all_mk {l : PySem.W.OpenLaw} {w : World} {K : PySem.W.Frag} {h : Heap} {mg : Str → Option Value} {fa f0 f1 f2 f3 f4 f5 f6 f7 f8 f9 f10 f11 f12 f13 f14 : Addr} (X : K.In h) (G : h.Ns mainGlobals mg) (hfa : mg "law" = some (.ref fa))
    {od0 an0 od1 an1 od2 an2 od3 an3 od4 an4 od5 an5 od6 an6 od7 an7 od8 an8 od9 an9 od10 an10 od11 an11 od12 an12 od13 an13 od14 an14 : Option Addr} {sl0 sl1 sl2 sl3 sl4 sl5 sl6 sl7 sl8 sl9 sl10 sl11 sl12 sl13 sl14 : Array (Option Value)} {oc0 kV0 dc0 pm0 cd0 ct0 oc1 kV1 dc1 pm1 cd1 ct1 oc2 kV2 dc2 pm2 cd2 ct2 oc3 kV3 dc3 pm3 cd3 ct3 oc4 kV4 dc4 pm4 cd4 ct4 oc5 kV5 dc5 pm5 cd5 ct5 oc6 kV6 dc6 pm6 cd6 ct6 oc7 kV7 dc7 pm7 cd7 ct7 oc8 kV8 dc8 pm8 cd8 ct8 oc9 kV9 dc9 pm9 cd9 ct9 oc10 kV10 dc10 pm10 cd10 ct10 oc11 kV11 dc11 pm11 cd11 ct11 oc12 kV12 dc12 pm12 cd12 ct12 oc13 kV13 dc13 pm13 cd13 ct13 oc14 kV14 dc14 pm14 cd14 ct14 : Value}
    (a0 : PySem.W.nsIn K mainGlobals "tidy" = some (some (.ref f0))) (l0 : K.lookup f0 = some ⟨oc0, od0, .func (PySem.W.fnOf "tidy" "tidy" (defArgs s_tidy) (defBody s_tidy) (defScope s_tidy) .none kV0 dc0 pm0 an0 cd0 ct0), sl0⟩) (c0 : PySem.W.codeIn K cd0 "tidy" = true) (k0 : PySem.W.keepIn K (.ref f0) = true)
    (a1 : PySem.W.nsIn K mainGlobals "holds" = some (some (.ref f1))) (l1 : K.lookup f1 = some ⟨oc1, od1, .func (PySem.W.fnOf "holds" "holds" (defArgs s_holds) (defBody s_holds) (defScope s_holds) .none kV1 dc1 pm1 an1 cd1 ct1), sl1⟩) (c1 : PySem.W.codeIn K cd1 "holds" = true) (k1 : PySem.W.keepIn K (.ref f1) = true)
    (a2 : PySem.W.nsIn K mainGlobals "either" = some (some (.ref f2))) (l2 : K.lookup f2 = some ⟨oc2, od2, .func (PySem.W.fnOf "either" "either" (defArgs s_either) (defBody s_either) (defScope s_either) .none kV2 dc2 pm2 an2 cd2 ct2), sl2⟩) (c2 : PySem.W.codeIn K cd2 "either" = true) (k2 : PySem.W.keepIn K (.ref f2) = true)
    (a3 : PySem.W.nsIn K mainGlobals "both" = some (some (.ref f3))) (l3 : K.lookup f3 = some ⟨oc3, od3, .func (PySem.W.fnOf "both" "both" (defArgs s_both) (defBody s_both) (defScope s_both) .none kV3 dc3 pm3 an3 cd3 ct3), sl3⟩) (c3 : PySem.W.codeIn K cd3 "both" = true) (k3 : PySem.W.keepIn K (.ref f3) = true)
    (a4 : PySem.W.nsIn K mainGlobals "without" = some (some (.ref f4))) (l4 : K.lookup f4 = some ⟨oc4, od4, .func (PySem.W.fnOf "without" "without" (defArgs s_without) (defBody s_without) (defScope s_without) .none kV4 dc4 pm4 an4 cd4 ct4), sl4⟩) (c4 : PySem.W.codeIn K cd4 "without" = true) (k4 : PySem.W.keepIn K (.ref f4) = true)
    (a5 : PySem.W.nsIn K mainGlobals "gaps" = some (some (.ref f5))) (l5 : K.lookup f5 = some ⟨oc5, od5, .func (PySem.W.fnOf "gaps" "gaps" (defArgs s_gaps) (defBody s_gaps) (defScope s_gaps) .none kV5 dc5 pm5 an5 cd5 ct5), sl5⟩) (c5 : PySem.W.codeIn K cd5 "gaps" = true) (k5 : PySem.W.keepIn K (.ref f5) = true)
    (a6 : PySem.W.nsIn K mainGlobals "_law_cell" = some (some (.ref f6))) (l6 : K.lookup f6 = some ⟨oc6, od6, .func (PySem.W.fnOf "_law_cell" "_law_cell" (defArgs s_law_cell) (defBody s_law_cell) (defScope s_law_cell) .none kV6 dc6 pm6 an6 cd6 ct6), sl6⟩) (c6 : PySem.W.codeIn K cd6 "_law_cell" = true) (k6 : PySem.W.keepIn K (.ref f6) = true)
    (a7 : PySem.W.nsIn K mainGlobals "_law_start" = some (some (.ref f7))) (l7 : K.lookup f7 = some ⟨oc7, od7, .func (PySem.W.fnOf "_law_start" "_law_start" (defArgs s_law_start) (defBody s_law_start) (defScope s_law_start) .none kV7 dc7 pm7 an7 cd7 ct7), sl7⟩) (c7 : PySem.W.codeIn K cd7 "_law_start" = true) (k7 : PySem.W.keepIn K (.ref f7) = true)
    (a8 : PySem.W.nsIn K mainGlobals "_law_thing" = some (some (.ref f8))) (l8 : K.lookup f8 = some ⟨oc8, od8, .func (PySem.W.fnOf "_law_thing" "_law_thing" (defArgs s_law_thing) (defBody s_law_thing) (defScope s_law_thing) .none kV8 dc8 pm8 an8 cd8 ct8), sl8⟩) (c8 : PySem.W.codeIn K cd8 "_law_thing" = true) (k8 : PySem.W.keepIn K (.ref f8) = true)
    (a9 : PySem.W.nsIn K mainGlobals "_law_whole" = some (some (.ref f9))) (l9 : K.lookup f9 = some ⟨oc9, od9, .func (PySem.W.fnOf "_law_whole" "_law_whole" (defArgs s_law_whole) (defBody s_law_whole) (defScope s_law_whole) .none kV9 dc9 pm9 an9 cd9 ct9), sl9⟩) (c9 : PySem.W.codeIn K cd9 "_law_whole" = true) (k9 : PySem.W.keepIn K (.ref f9) = true)
    (a10 : PySem.W.nsIn K mainGlobals "_law_apart" = some (some (.ref f10))) (l10 : K.lookup f10 = some ⟨oc10, od10, .func (PySem.W.fnOf "_law_apart" "_law_apart" (defArgs s_law_apart) (defBody s_law_apart) (defScope s_law_apart) .none kV10 dc10 pm10 an10 cd10 ct10), sl10⟩) (c10 : PySem.W.codeIn K cd10 "_law_apart" = true) (k10 : PySem.W.keepIn K (.ref f10) = true)
    (a11 : PySem.W.nsIn K mainGlobals "_law_in" = some (some (.ref f11))) (l11 : K.lookup f11 = some ⟨oc11, od11, .func (PySem.W.fnOf "_law_in" "_law_in" (defArgs s_law_in) (defBody s_law_in) (defScope s_law_in) .none kV11 dc11 pm11 an11 cd11 ct11), sl11⟩) (c11 : PySem.W.codeIn K cd11 "_law_in" = true) (k11 : PySem.W.keepIn K (.ref f11) = true)
    (a12 : PySem.W.nsIn K mainGlobals "_law_deed" = some (some (.ref f12))) (l12 : K.lookup f12 = some ⟨oc12, od12, .func (PySem.W.fnOf "_law_deed" "_law_deed" (defArgs s_law_deed) (defBody s_law_deed) (defScope s_law_deed) .none kV12 dc12 pm12 an12 cd12 ct12), sl12⟩) (c12 : PySem.W.codeIn K cd12 "_law_deed" = true) (k12 : PySem.W.keepIn K (.ref f12) = true)
    (a13 : PySem.W.nsIn K mainGlobals "_law_truth" = some (some (.ref f13))) (l13 : K.lookup f13 = some ⟨oc13, od13, .func (PySem.W.fnOf "_law_truth" "_law_truth" (defArgs s_law_truth) (defBody s_law_truth) (defScope s_law_truth) .none kV13 dc13 pm13 an13 cd13 ct13), sl13⟩) (c13 : PySem.W.codeIn K cd13 "_law_truth" = true) (k13 : PySem.W.keepIn K (.ref f13) = true)
    (a14 : PySem.W.nsIn K mainGlobals "law" = some (some (.ref f14))) (l14 : K.lookup f14 = some ⟨oc14, od14, .func (PySem.W.fnOf "law" "law" (defArgs s_law) (defBody s_law) (defScope s_law) .none kV14 dc14 pm14 an14 cd14 ct14), sl14⟩) (c14 : PySem.W.codeIn K cd14 "law" = true) (k14 : PySem.W.keepIn K (.ref f14) = true)
    (z0 : PySem.W.nsIn K mainGlobals "sorted" = some none)
    (z1 : PySem.W.nsIn K mainGlobals "max" = some none)
    (z2 : PySem.W.nsIn K mainGlobals "min" = some none)
    (z3 : PySem.W.nsIn K mainGlobals "len" = some none)
    (z4 : PySem.W.nsIn K mainGlobals "isinstance" = some none)
    (z5 : PySem.W.nsIn K mainGlobals "int" = some none)
    (z6 : PySem.W.nsIn K mainGlobals "bool" = some none)
    (z7 : PySem.W.nsIn K mainGlobals "range" = some none)
    (z8 : PySem.W.nsIn K mainGlobals "list" = some none)
    (z9 : PySem.W.nsIn K mainGlobals "tuple" = some none)
    : ∃ fd : FuncData, (∀ (s : Shared) (v : Value), BindsTo s fd ⟨[v], []⟩ [("script", v)]) ∧ ∀ base : Heap, K.In base → base.Ns mainGlobals mg → FnOk l.prog w K mg base CX0 4 fa fd ["script"] (sp_law K) := by
  have e := hfa.symm.trans (PySem.W.mg_of X G a14)
  cases e
  have F0 := fun_mk (st := s_tidy) l0 c0 k0
  have b0 := F0.binds (ps := ["pairs"]) fun _ _ _ _ _ _ us hl => ls1 (P := fun us => bindArgs _ { pos := us } = pure (List.zip _ us)) (fun _ => rfl) us hl
  have F1 := fun_mk (st := s_holds) l1 c1 k1
  have b1 := F1.binds (ps := ["spans", "number"]) fun _ _ _ _ _ _ us hl => ls2 (P := fun us => bindArgs _ { pos := us } = pure (List.zip _ us)) (fun _ _ => rfl) us hl
  have F2 := fun_mk (st := s_either) l2 c2 k2
  have b2 := F2.binds (ps := ["ones", "others"]) fun _ _ _ _ _ _ us hl => ls2 (P := fun us => bindArgs _ { pos := us } = pure (List.zip _ us)) (fun _ _ => rfl) us hl
  have F3 := fun_mk (st := s_both) l3 c3 k3
  have b3 := F3.binds (ps := ["ones", "others"]) fun _ _ _ _ _ _ us hl => ls2 (P := fun us => bindArgs _ { pos := us } = pure (List.zip _ us)) (fun _ _ => rfl) us hl
  have F4 := fun_mk (st := s_without) l4 c4 k4
  have b4 := F4.binds (ps := ["ones", "others"]) fun _ _ _ _ _ _ us hl => ls2 (P := fun us => bindArgs _ { pos := us } = pure (List.zip _ us)) (fun _ _ => rfl) us hl
  have F5 := fun_mk (st := s_gaps) l5 c5 k5
  have b5 := F5.binds (ps := ["spans", "low", "high"]) fun _ _ _ _ _ _ us hl => ls3 (P := fun us => bindArgs _ { pos := us } = pure (List.zip _ us)) (fun _ _ _ => rfl) us hl
  have F6 := fun_mk (st := s_law_cell) l6 c6 k6
  have b6 := F6.binds (ps := ["script", "k"]) fun _ _ _ _ _ _ us hl => ls2 (P := fun us => bindArgs _ { pos := us } = pure (List.zip _ us)) (fun _ _ => rfl) us hl
  have F7 := fun_mk (st := s_law_start) l7 c7 k7
  have b7 := F7.binds (ps := ["cell"]) fun _ _ _ _ _ _ us hl => ls1 (P := fun us => bindArgs _ { pos := us } = pure (List.zip _ us)) (fun _ => rfl) us hl
  have F8 := fun_mk (st := s_law_thing) l8 c8 k8
  have b8 := F8.binds (ps := ["cell", "base"]) fun _ _ _ _ _ _ us hl => ls2 (P := fun us => bindArgs _ { pos := us } = pure (List.zip _ us)) (fun _ _ => rfl) us hl
  have F9 := fun_mk (st := s_law_whole) l9 c9 k9
  have b9 := F9.binds (ps := ["found"]) fun _ _ _ _ _ _ us hl => ls1 (P := fun us => bindArgs _ { pos := us } = pure (List.zip _ us)) (fun _ => rfl) us hl
  have F10 := fun_mk (st := s_law_apart) l10 c10 k10
  have b10 := F10.binds (ps := ["found"]) fun _ _ _ _ _ _ us hl => ls1 (P := fun us => bindArgs _ { pos := us } = pure (List.zip _ us)) (fun _ => rfl) us hl
  have F11 := fun_mk (st := s_law_in) l11 c11 k11
  have b11 := F11.binds (ps := ["spans", "number"]) fun _ _ _ _ _ _ us hl => ls2 (P := fun us => bindArgs _ { pos := us } = pure (List.zip _ us)) (fun _ _ => rfl) us hl
  have F12 := fun_mk (st := s_law_deed) l12 c12 k12
  have b12 := F12.binds (ps := ["cell", "kept", "thing"]) fun _ _ _ _ _ _ us hl => ls3 (P := fun us => bindArgs _ { pos := us } = pure (List.zip _ us)) (fun _ _ _ => rfl) us hl
  have F13 := fun_mk (st := s_law_truth) l13 c13 k13
  have b13 := F13.binds (ps := ["cell", "was", "within"]) fun _ _ _ _ _ _ us hl => ls3 (P := fun us => bindArgs _ { pos := us } = pure (List.zip _ us)) (fun _ _ _ => rfl) us hl
  have F14 := fun_mk (st := s_law) l14 c14 k14
  have b14 := F14.binds (ps := ["script"]) fun _ _ _ _ _ _ us hl => ls1 (P := fun us => bindArgs _ { pos := us } = pure (List.zip _ us)) (fun _ => rfl) us hl
  have bl : Bl K mg := ⟨PySem.W.mg_none_of X G z0, PySem.W.mg_none_of X G z1, PySem.W.mg_none_of X G z2, PySem.W.mg_none_of X G z3, PySem.W.mg_none_of X G z4, PySem.W.mg_none_of X G z5, PySem.W.mg_none_of X G z6, PySem.W.mg_none_of X G z7, PySem.W.mg_none_of X G z8, PySem.W.mg_none_of X G z9⟩
  refine ⟨PySem.W.fnOf "law" "law" (defArgs s_law) (defBody s_law) (defScope s_law) .none kV14 dc14 pm14 an14 cd14 ct14, fun s v => .of_eq rfl, fun base _ _ => ?_⟩
  have O0 := ok_tidy (P := l.prog) (w := w) (base := base) F0 bl 
  have C_tidy : Callee l.prog w K mg base 1 "tidy" ["pairs"] (sp_tidy K) := ⟨_, _, O0, b0, k0, PySem.W.mg_of X G a0⟩
  have O1 := ok_holds (P := l.prog) (w := w) (base := base) F1 bl 
  have C_holds : Callee l.prog w K mg base 1 "holds" ["spans", "number"] (sp_holds K) := ⟨_, _, O1, b1, k1, PySem.W.mg_of X G a1⟩
  have O3 := ok_both (P := l.prog) (w := w) (base := base) F3 bl 
  have C_both : Callee l.prog w K mg base 1 "both" ["ones", "others"] (sp_both K) := ⟨_, _, O3, b3, k3, PySem.W.mg_of X G a3⟩
  have O5 := ok_gaps (P := l.prog) (w := w) (base := base) F5 bl 
  have C_gaps : Callee l.prog w K mg base 1 "gaps" ["spans", "low", "high"] (sp_gaps K) := ⟨_, _, O5, b5, k5, PySem.W.mg_of X G a5⟩
  have O6 := ok_law_cell (P := l.prog) (w := w) (base := base) F6 bl 
  have C_law_cell : Callee l.prog w K mg base 1 "_law_cell" ["script", "k"] (sp_law_cell K) := ⟨_, _, O6, b6, k6, PySem.W.mg_of X G a6⟩
  have O7 := ok_law_start (P := l.prog) (w := w) (base := base) F7 bl 
  have C_law_start : Callee l.prog w K mg base 1 "_law_start" ["cell"] (sp_law_start K) := ⟨_, _, O7, b7, k7, PySem.W.mg_of X G a7⟩
  have O8 := ok_law_thing (P := l.prog) (w := w) (base := base) F8 bl 
  have C_law_thing : Callee l.prog w K mg base 1 "_law_thing" ["cell", "base"] (sp_law_thing K) := ⟨_, _, O8, b8, k8, PySem.W.mg_of X G a8⟩
  have O9 := ok_law_whole (P := l.prog) (w := w) (base := base) F9 bl 
  have C_law_whole : Callee l.prog w K mg base 1 "_law_whole" ["found"] (sp_law_whole K) := ⟨_, _, O9, b9, k9, PySem.W.mg_of X G a9⟩
  have O11 := ok_law_in (P := l.prog) (w := w) (base := base) F11 bl 
  have C_law_in : Callee l.prog w K mg base 1 "_law_in" ["spans", "number"] (sp_law_in K) := ⟨_, _, O11, b11, k11, PySem.W.mg_of X G a11⟩
  have O13 := ok_law_truth (P := l.prog) (w := w) (base := base) F13 bl 
  have C_law_truth : Callee l.prog w K mg base 1 "_law_truth" ["cell", "was", "within"] (sp_law_truth K) := ⟨_, _, O13, b13, k13, PySem.W.mg_of X G a13⟩
  have O2 := ok_either (P := l.prog) (w := w) (base := base) F2 bl (C_tidy.mono (by decide))
  have C_either : Callee l.prog w K mg base 2 "either" ["ones", "others"] (sp_either K) := ⟨_, _, O2, b2, k2, PySem.W.mg_of X G a2⟩
  have O4 := ok_without (P := l.prog) (w := w) (base := base) F4 bl (C_both.mono (by decide)) (C_gaps.mono (by decide))
  have C_without : Callee l.prog w K mg base 2 "without" ["ones", "others"] (sp_without K) := ⟨_, _, O4, b4, k4, PySem.W.mg_of X G a4⟩
  have O10 := ok_law_apart (P := l.prog) (w := w) (base := base) F10 bl (C_law_whole.mono (by decide))
  have C_law_apart : Callee l.prog w K mg base 2 "_law_apart" ["found"] (sp_law_apart K) := ⟨_, _, O10, b10, k10, PySem.W.mg_of X G a10⟩
  have O12 := ok_law_deed (P := l.prog) (w := w) (base := base) F12 bl (C_without.mono (by decide)) (C_either.mono (by decide)) (C_both.mono (by decide))
  have C_law_deed : Callee l.prog w K mg base 3 "_law_deed" ["cell", "kept", "thing"] (sp_law_deed K) := ⟨_, _, O12, b12, k12, PySem.W.mg_of X G a12⟩
  exact ok_law F14 bl (C_law_start.mono (by decide)) (C_law_cell.mono (by decide)) (C_law_thing.mono (by decide)) (C_law_deed.mono (by decide)) (C_holds.mono (by decide)) (C_law_apart.mono (by decide)) (C_law_truth.mono (by decide)) (C_law_in.mono (by decide))
theorem walk {l : PySem.W.OpenLaw} {q : Program} {loose : List Str} {XP : (Str → Option Value) → Heap → Prop} {YP : World → Heap → Prop} {d : DefRec} {K : Params → PySem.W.Frag} (hn : l.most = some 63) (hdf : d.params.defaults = [])
    (hY : ∀ (w : World) (h : Heap), YP w h → (K w.params).In h)
    (F : ∀ (w : World) (mg : Str → Option Value) (fa : Addr) (h : Heap), (K w.params).In h → h.Ns mainGlobals mg → mg d.name = some (.ref fa) →
      ∃ fd : FuncData, (∀ (s : Shared) (u : Value), BindsTo s fd ⟨[u], []⟩ [("script", u)]) ∧ ∀ base : Heap, (K w.params).In base → base.Ns mainGlobals mg → FnOk l.prog w (K w.params) mg base CX0 4 fa fd ["script"] (sp_law (K w.params))) :
    PySem.W.WalkO q loose XP YP l.row.toRowW d [] (fun f vs => PySem.call f vs) :=
  L2.walk_of (n := 63) (k := 4) (x := "script") (CX := fun _ => CX0) (sp := fun w => sp_law (K w.params)) hn (by decide) hdf ⟨rfl, by decide, by decide⟩ hY F (fun _ _ a ns hl _ hS => ⟨a, ns, rfl, hS, hl, fun _ => rfl⟩) fun _ _ _ _ _ z => z
end My
open PySem PySem.W PyProof.Rows
set_option maxRecDepth 100000 in
set_option maxHeartbeats 0 in
theorem PySem.Challenge.cw_rowjudge_k09_whole_deeds_holds : PySem.Challenge.rw_rowjudge_k09_whole_deeds.Holds := by
  w_on; o_law; k_head; (case hw => w_witness2)
  k_fill
  refine My.walk (l := PySem.Challenge.rw_rowjudge_k09_whole_deeds) rfl rfl (fun w h Y => PySem.W.kIn_of Y) ?F
  case F =>
    intro w mg fa h KX G hmg
    refine' My.all_mk KX G hmg ?a0 ?l0 ?c0 ?k0 ?a1 ?l1 ?c1 ?k1 ?a2 ?l2 ?c2 ?k2 ?a3 ?l3 ?c3 ?k3 ?a4 ?l4 ?c4 ?k4 ?a5 ?l5 ?c5 ?k5 ?a6 ?l6 ?c6 ?k6 ?a7 ?l7 ?c7 ?k7 ?a8 ?l8 ?c8 ?k8 ?a9 ?l9 ?c9 ?k9 ?a10 ?l10 ?c10 ?k10 ?a11 ?l11 ?c11 ?k11 ?a12 ?l12 ?c12 ?k12 ?a13 ?l13 ?c13 ?k13 ?a14 ?l14 ?c14 ?k14 ?z0 ?z1 ?z2 ?z3 ?z4 ?z5 ?z6 ?z7 ?z8 ?z9 
    (case a0 => k_is); (case l0 => k_is); (case c0 => k_is); (case k0 => k_is)
    (case a1 => k_is); (case l1 => k_is); (case c1 => k_is); (case k1 => k_is)
    (case a2 => k_is); (case l2 => k_is); (case c2 => k_is); (case k2 => k_is)
    (case a3 => k_is); (case l3 => k_is); (case c3 => k_is); (case k3 => k_is)
    (case a4 => k_is); (case l4 => k_is); (case c4 => k_is); (case k4 => k_is)
    (case a5 => k_is); (case l5 => k_is); (case c5 => k_is); (case k5 => k_is)
    (case a6 => k_is); (case l6 => k_is); (case c6 => k_is); (case k6 => k_is)
    (case a7 => k_is); (case l7 => k_is); (case c7 => k_is); (case k7 => k_is)
    (case a8 => k_is); (case l8 => k_is); (case c8 => k_is); (case k8 => k_is)
    (case a9 => k_is); (case l9 => k_is); (case c9 => k_is); (case k9 => k_is)
    (case a10 => k_is); (case l10 => k_is); (case c10 => k_is); (case k10 => k_is)
    (case a11 => k_is); (case l11 => k_is); (case c11 => k_is); (case k11 => k_is)
    (case a12 => k_is); (case l12 => k_is); (case c12 => k_is); (case k12 => k_is)
    (case a13 => k_is); (case l13 => k_is); (case c13 => k_is); (case k13 => k_is)
    (case a14 => k_is); (case l14 => k_is); (case c14 => k_is); (case k14 => k_is)
    (case z0 => k_is)
    (case z1 => k_is)
    (case z2 => k_is)
    (case z3 => k_is)
    (case z4 => k_is)
    (case z5 => k_is)
    (case z6 => k_is)
    (case z7 => k_is)
    (case z8 => k_is)
    (case z9 => k_is)


