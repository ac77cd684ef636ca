import PyProof.Rows.All
import Wide.All
import OpenK.AllK
import Wide.FinOn
import Lean
import PyProof.EqAt
import PyProof.EqKinds
import PyProof.TupleCall
import KE.KIntText
import KE.KTryMore
import KE.KIsAll
import PyProof.ZipIter
import PySem.Challenge.RW_rowjudge_k08_whole_walk
set_option Elab.async false
set_option linter.all false
set_option maxRecDepth 100000
/-! THE HAND LAYER, for ints, bools, texts, own classes, LISTS and tuples (index, slices, in, append, pop ..), calls, loops. Paste it whole ahead of your own text; what your proof does not reach may be deleted. -/
namespace L2
open PySem PySem.Spec PyProof.Rows

/-- a key: an int or a str -/
abbrev Key := Sum Int Str
def keyIs : Key → Value → Bool
  | .inl k, v => Value.isInt k v
  | .inr x, v => Value.isStrOf x v
def keyH (w : World) : Key → Int
  | .inl k => hashInt k
  | .inr x => hashStr w x
theorem keyIs_shape : ∀ {k : Key} {v : Value}, keyIs k v = true → (∃ i t, k = Sum.inl i ∧ v = Value.int i t) ∨ (∃ x t, k = Sum.inr x ∧ v = Value.str x t)
  | .inl i, v, h => by
    obtain ⟨t, e⟩ := Value.isInt_shape (k := i) (v := v) h
    exact .inl ⟨i, t, rfl, e⟩
  | .inr x, v, h => by
    obtain ⟨t, e⟩ := Value.isStrOf_shape (x := x) (v := v) h
    exact .inr ⟨x, t, rfl, e⟩
theorem key_ll (a b : Int) : decide ((Sum.inl a : Key) = Sum.inl b) = (a == b) := by
  by_cases e : a = b
  · subst e; simp
  · have h : ¬ (Sum.inl a : Key) = Sum.inl b := fun q => e (Sum.inl.inj q)
    rw [decide_eq_false h]
    exact (beq_eq_false_iff_ne.mpr e).symm
theorem key_rr (a b : Str) : decide ((Sum.inr a : Key) = Sum.inr b) = decide (a = b) := by
  by_cases e : a = b
  · subst e; simp
  · have h : ¬ (Sum.inr a : Key) = Sum.inr b := fun q => e (Sum.inr.inj q)
    rw [decide_eq_false h, decide_eq_false e]
theorem key_lr (a : Int) (b : Str) : decide ((Sum.inl a : Key) = Sum.inr b) = false := decide_eq_false (fun q => nomatch q)
theorem key_rl (a : Str) (b : Int) : decide ((Sum.inr a : Key) = Sum.inl b) = false := decide_eq_false (fun q => nomatch q)

def mixKind (prog : Program) (w : World) : PySem.KeyKind prog w Key where
  is := keyIs
  hash := keyH w
  inj := fun v a b ha hb => by
    rcases keyIs_shape ha with ⟨i, t, rfl, rfl⟩ | ⟨x, t, rfl, rfl⟩
    · rcases keyIs_shape hb with ⟨j, u, rfl, e⟩ | ⟨y, u, rfl, e⟩
      · injection e with e1 _; rw [e1]
      · exact nomatch e
    · rcases keyIs_shape hb with ⟨j, u, rfl, e⟩ | ⟨y, u, rfl, e⟩
      · exact nomatch e
      · injection e with e1 _; rw [e1]
  byValue := fun k v h => by
    rcases keyIs_shape h with ⟨i, t, rfl, rfl⟩ | ⟨x, t, rfl, rfl⟩ <;> rfl
  pyHash := fun hv h => by
    rcases keyIs_shape hv with ⟨i, t, rfl, rfl⟩ | ⟨x, t, rfl, rfl⟩
    · exact wpAny_pyHash_int h
    · exact wpAny_pyHash_str h
  eqBool := fun hu hv h => by
    rcases keyIs_shape hu with ⟨i, t, rfl, rfl⟩ | ⟨x, t, rfl, rfl⟩
    · rcases keyIs_shape hv with ⟨j, u, rfl, rfl⟩ | ⟨y, u, rfl, rfl⟩
      · rw [key_ll] at h; exact wpAny_eqBool_int h
      · rw [key_lr] at h; exact SeqAt.EqAt.int_str i t y u _ _ _ _ h
    · rcases keyIs_shape hv with ⟨j, u, rfl, rfl⟩ | ⟨y, u, rfl, rfl⟩
      · rw [key_rl] at h; exact SeqAt.EqAt.str_int x t j u _ _ _ _ h
      · rw [key_rr] at h; exact wpAny_eqBool_str h
  «strs» := fun k x t v h => by
    rcases keyIs_shape h with ⟨i, u, rfl, e⟩ | ⟨y, u, rfl, e⟩
    · exact nomatch e
    · injection e with e1 _
      subst e1
      cases v <;> rfl

end L2

namespace L2
open PySem PySem.Spec PyProof.Rows

/-- a value, without the heap -/
inductive V where
  | non | bl (b : Bool) | int (i : Int) | str (x : Str) | byt (b : Array UInt8) | flt (b : UInt64) | ref (a : Addr) | ty (n : String)
  deriving DecidableEq

def RelV : V → Value → Prop
  | .non, u => u = Value.none
  | .bl b, u => u = Value.bool b
  | .int i, u => ∃ t, u = Value.int i t
  | .str x, u => ∃ t, u = Value.str x t
  | .byt b, u => ∃ t, u = Value.bytes b t
  | .flt b, u => ∃ t, u = Value.float b t
  | .ref a, u => u = Value.ref a
  | .ty n, u => u = Value.type n

abbrev Vals : List V → List Value → Prop := Paired RelV
theorem Vals.length {xs : List V} {us : List Value} (r : Vals xs us) : xs.length = us.length := Paired.length r
theorem Vals.get : ∀ {xs : List V} {us : List Value} {i : Nat} {x : V}, Vals xs us → xs[i]? = some x → ∃ u, us[i]? = some u ∧ RelV x u
  | _, _, _, _, .nil, e => by simp at e
  | _, _, 0, _, .cons r _, e => by simp at e; subst e; exact ⟨_, rfl, r⟩
  | _, _, i + 1, x, .cons _ t, e => by
    obtain ⟨u, h1, h2⟩ := Vals.get (i := i) (x := x) t (by simpa using e)
    exact ⟨u, by simpa using h1, h2⟩
theorem Vals.set {x : V} {u : Value} (r : RelV x u) : ∀ {xs : List V} {us : List Value} (i : Nat), Vals xs us → Vals (xs.set i x) (us.set i u)
  | _, _, _, .nil => .nil
  | _, _, 0, .cons _ t => .cons r t
  | _, _, i + 1, .cons q t => .cons q (Vals.set r i t)
theorem Vals.append : ∀ {xs ys : List V} {us ws : List Value}, Vals xs us → Vals ys ws → Vals (xs ++ ys) (us ++ ws)
  | _, _, _, _, .nil, s => s
  | _, _, _, _, .cons r t, s => .cons r (Vals.append t s)
theorem Vals.take : ∀ {xs : List V} {us : List Value} (n : Nat), Vals xs us → Vals (xs.take n) (us.take n)
  | _, _, 0, _ => .nil
  | _, _, _ + 1, .nil => .nil
  | _, _, n + 1, .cons r t => .cons r (Vals.take n t)
theorem Vals.drop : ∀ {xs : List V} {us : List Value} (n : Nat), Vals xs us → Vals (xs.drop n) (us.drop n)
  | _, _, 0, r => r
  | _, _, _ + 1, .nil => .nil
  | _, _, n + 1, .cons _ t => Vals.drop n t
def RelO : Option V → Option Value → Prop
  | some v, some u => RelV v u
  | none, none => True
  | _, _ => False
def KV {κ : Type} : List (κ × V) → List (κ × Value) → Prop := Paired fun (p : κ × V) (q : κ × Value) => p.1 = q.1 ∧ RelV p.2 q.2

/-- a key of a dict (00_mix): an int or a text -/
def kV : Key → V
  | .inl i => .int i
  | .inr x => .str x

/-- what stands at a tracked address -/
inductive HO where
  /-- a list -/
  | lst (xs : List V)
  /-- a tuple (never changes) -/
  | tup (xs : List V)
  /-- a dict whose keys are ints and texts; one whose keys are tuples of ints and texts (the empty one is both) -/
  | dK (kvs : List (Key × V)) | dT (kvs : List (List Key × V))
  /-- a set of ints: its members, its size -/
  | set (S : Int → Bool) (n : Nat)
  /-- an instance of the class at C, its dict at dx, its attributes -/
  | ins (C dx : Addr) (fs : List (Str × V))
  /-- the dict of the instance at x -/
  | own (x : Addr)
  /-- the dict of an exception -/
  | xd (fs : List (Str × V))
  /-- a bound method, f of x -/
  | met (f x : Addr)
  /-- a range object lo, lo + 1, .. below hi -/
  | rng (lo hi : Int)
  /-- a thing that is known to the object (the script; a dict while a loop walks it): read, never written while it is so -/
  | frz (o : Obj) (u : HO)
  /-- a code object's table -/
  | tbl (ps : Array Value)
  /-- any other thing, by what is true of its one object (a def of one's own: SetO a S n := HO.ext fun h => ..) -/
  | ext (φ : Heap → Prop)

abbrev Hp := Addr → Option HO
def upd (H : Hp) (a : Addr) (o : HO) : Hp := fun b => if b = a then some o else H b
theorem upd_same {H : Hp} {a : Addr} {o : HO} : upd H a o a = some o := by unfold upd; rw [if_pos rfl]
theorem upd_ne {H : Hp} {a b : Addr} {o : HO} (h : b ≠ a) : upd H a o b = H b := by unfold upd; rw [if_neg h]
theorem upd_upd {H : Hp} {a : Addr} {o u : HO} : upd (upd H a o) a u = upd H a u := by
  funext b; unfold upd; split <;> rfl
/-- two objects of different content stand apart -/
theorem ne_of {H : Hp} {a b : Addr} {o u : HO} (h : H a = some o) (h' : H b = some u) (d : o ≠ u) : a ≠ b := by
  intro e; subst e; rw [h] at h'; exact d (Option.some.inj h')
theorem ne_of_none {H : Hp} {a b : Addr} {o : HO} (h : H a = some o) (h' : H b = none) : a ≠ b := by
  intro e; subst e; rw [h] at h'; cases h'

section
variable (P : Program) (w : World)
def ObjOk (H : Hp) (h : Heap) (a : Addr) : HO → Prop
  | .lst xs => xs.length ≤ sizeLine ∧ ∃ (its : List Value) (n : Nat), Vals xs its ∧ h.get? a = some { cls := .type "list", data := .seq its.toArray n }
  | .tup xs => xs.length ≤ sizeLine ∧ ∃ its : List Value, Vals xs its ∧ IsTup h a its.toArray
  | .dK kvs => kvs.length ≤ sizeLine ∧ (a == sysModules) = false ∧ ∃ vs, KV kvs vs ∧ h.DictOf (mixKind P w) a vs
  | .dT kvs => kvs.length ≤ sizeLine ∧ (a == sysModules) = false ∧ ∃ xs : List (List Key × Addr × Value),
      Paired (fun (p : List Key × V) (q : List Key × Addr × Value) => p.1 = q.1 ∧ H q.2.1 = some (.tup (p.1.map kV)) ∧ RelV p.2 q.2.2) kvs xs ∧
      ∃ o es ep, h.get? a = some o ∧ o.ExactDict ∧ o.data = .dict es ep ∧ es.toList = xs.map (entryOfKey (tupleKind (mixKind P w))) ∧ (xs.map (·.1)).Nodup
  | .set S n => h.SetOf (intKind P w) a S n
  | .ins C dx fs => H dx = some (.own a) ∧ fs.length ≤ 1000 ∧ dx ≠ a ∧ h.get? a = some (PySem.W.instObj C dx) ∧
      ∃ mA, h.Ns1 dx mA ∧ (∀ f, RelO (fs.lookup f) (mA f)) ∧ PySem.Within mA (fs.map (·.1))
  | .own _ => ∃ o, h.get? a = some o
  | .xd fs => ∃ mA, h.Ns1 a mA ∧ ∀ f, RelO (fs.lookup f) (mA f)
  | .rng lo hi => ∃ t u v, h.get? a = some { cls := .type "range", data := .fields #[.int lo t, .int hi u, .int 1 v] }
  | .frz o u => h.get? a = some o ∧ ObjOk H h a u
  | .tbl ps => h.get? a = some { cls := .none, data := .fields ps }
  | .met f x => h.get? a = some (PySem.W.methodObj (.ref f) (.ref x))
  | .ext φ => φ h ∧ (∃ o, h.get? a = some o) ∧ ∀ h1 h2 : Heap, φ h1 → (∀ o, h1.get? a = some o → h2.get? a = some o) → φ h2
/-- the abstract heap is held -/
def HOk (H : Hp) (h : Heap) : Prop := ∀ a o, H a = some o → ObjOk P w H h a o
end

section
variable {P : Program} {w : World} {H H' : Hp} {h h' : Heap} {a : Addr} {o : HO}
theorem ObjOk.lt (x : ObjOk P w H h a o) : a < h.objs.size := by
  cases o with
  | lst xs => obtain ⟨_, _, _, _, e⟩ := x; exact Heap.lt_size e
  | tup xs => obtain ⟨_, _, _, p⟩ := x; exact p.lt
  | dK kvs => obtain ⟨_, _, _, _, o, _, _, e, _⟩ := x; exact Heap.lt_size e
  | dT kvs => obtain ⟨_, _, _, _, o, _, _, e, _⟩ := x; exact Heap.lt_size e
  | set S n => obtain ⟨o, _, _, _, e, _⟩ := x; exact Heap.lt_size e
  | ins C dx fs => obtain ⟨_, _, _, e, _⟩ := x; exact Heap.lt_size e
  | own y => obtain ⟨_, e⟩ := x; exact Heap.lt_size e
  | xd fs => obtain ⟨_, ⟨_, _, _, e, _⟩, _⟩ := x; exact Heap.lt_size e
  | rng lo hi => obtain ⟨_, _, _, e⟩ := x; exact Heap.lt_size e
  | frz ob u => obtain ⟨e, _⟩ := x; exact Heap.lt_size e
  | tbl ps => exact Heap.lt_size (show h.get? a = some _ from x)
  | met f y => exact Heap.lt_size (show h.get? a = some _ from x)
  | ext φ => obtain ⟨_, ⟨_, e⟩, _⟩ := x; exact Heap.lt_size e
theorem Paired.mapP {α β : Type} {F G : α → β → Prop} : ∀ {l₁ : List α} {l₂ : List β}, Paired F l₁ l₂ → (∀ a b, F a b → G a b) → Paired G l₁ l₂
  | _, _, .nil, _ => .nil
  | _, _, .cons r t, f => .cons (f _ _ r) (Paired.mapP t f)
/-- what an object's description leans on: its own object, its own dict, the tuples -/
theorem ObjOk.stay (x : ObjOk P w H h a o) (k : ∀ b u, (b = a ∨ H b = some (.own a)) → h.get? b = some u → h'.get? b = some u)
    (ho : ∀ b, H b = some (.own a) → H' b = some (.own a)) (ht : ∀ b xs, H b = some (.tup xs) → H' b = some (.tup xs)) : ObjOk P w H' h' a o := by
  induction o with
  | lst xs => obtain ⟨z, its, n, r, e⟩ := x; exact ⟨z, its, n, r, k _ _ (.inl rfl) e⟩
  | tup xs => obtain ⟨z, its, r, ob, e, c⟩ := x; exact ⟨z, its, r, ob, k _ _ (.inl rfl) e, c⟩
  | dK kvs => obtain ⟨z, y, vs, r, ob, es, ep, e, c⟩ := x; exact ⟨z, y, vs, r, ob, es, ep, k _ _ (.inl rfl) e, c⟩
  | dT kvs =>
    obtain ⟨z, y, xs, r, ob, es, ep, e, c⟩ := x
    exact ⟨z, y, xs, Paired.mapP r fun p q z => ⟨z.1, ht _ _ z.2.1, z.2.2⟩, ob, es, ep, k _ _ (.inl rfl) e, c⟩
  | set S n => obtain ⟨ob, es, ep, t, e, c⟩ := x; exact ⟨ob, es, ep, t, k _ _ (.inl rfl) e, c⟩
  | ins C dx fs =>
    obtain ⟨d, z, ne, e, mA, ⟨od, es, ep, e2, c⟩, r⟩ := x
    exact ⟨ho _ d, z, ne, k _ _ (.inl rfl) e, mA, ⟨od, es, ep, k _ _ (.inr d) e2, c⟩, r⟩
  | own y => obtain ⟨ob, e⟩ := x; exact ⟨ob, k _ _ (.inl rfl) e⟩
  | xd fs => obtain ⟨mA, ⟨od, es, ep, e, c⟩, r⟩ := x; exact ⟨mA, ⟨od, es, ep, k _ _ (.inl rfl) e, c⟩, r⟩
  | rng lo hi => obtain ⟨t, u, v, e⟩ := x; exact ⟨t, u, v, k _ _ (.inl rfl) e⟩
  | frz ob u ih => obtain ⟨e, q⟩ := x; exact ⟨k _ _ (.inl rfl) e, ih q⟩
  | tbl ps =>
    have e : h.get? a = some { cls := .none, data := .fields ps } := x
    show h'.get? a = some { cls := .none, data := .fields ps }
    exact k a _ (.inl rfl) e
  | met f y =>
    have e : h.get? a = some (PySem.W.methodObj (.ref f) (.ref y)) := x
    show h'.get? a = some (PySem.W.methodObj (.ref f) (.ref y))
    exact k a _ (.inl rfl) e
  | ext φ => obtain ⟨p, ⟨o, e⟩, st⟩ := x; exact ⟨st _ _ p fun o q => k _ _ (.inl rfl) q, ⟨o, k _ _ (.inl rfl) e⟩, st⟩
theorem HOk.lt (x : HOk P w H h) (e : H a = some o) : a < h.objs.size := (x a o e).lt
theorem HOk.fresh (x : HOk P w H h) (e : h.objs.size ≤ a) : H a = none := by
  cases q : H a with
  | none => rfl
  | some u => exact absurd (Nat.lt_of_lt_of_le (x.lt q) e) (Nat.lt_irrefl _)
/-- every object of the heap is kept -/
theorem HOk.kept (x : HOk P w H h) (k : ∀ b u, h.get? b = some u → h'.get? b = some u) : HOk P w H h' := fun a o e =>
  (x a o e).stay (fun b u _ q => k b u q) (fun _ q => q) fun _ _ q => q
/-- a new object is laid and tracked -/
theorem HOk.laid (x : HOk P w H h) (k : ∀ b u, h.get? b = some u → h'.get? b = some u) (hp : h.objs.size ≤ a) (new : ObjOk P w (upd H a o) h' a o) : HOk P w (upd H a o) h' := fun b u e => by
  have hn := x.fresh hp
  by_cases hb : b = a
  · subst hb; rw [upd_same] at e; cases e; exact new
  · rw [upd_ne hb] at e
    exact (x b u e).stay (fun c v _ q => k c v q) (fun c q => by rw [upd_ne (ne_of_none q hn)]; exact q) fun c xs q => by rw [upd_ne (ne_of_none q hn)]; exact q
end

/-- what may be read as u: it is u, or a known u -/
def Rd (H : Hp) (a : Addr) (u : HO) : Prop := H a = some u ∨ ∃ o, H a = some (.frz o u)
theorem Rd.ok {P : Program} {w : World} {H : Hp} {h : Heap} {a : Addr} {u : HO} (r : Rd H a u) (x : HOk P w H h) : ObjOk P w H h a u := by
  rcases r with r | ⟨o, r⟩
  · exact x a u r
  · obtain ⟨_, q⟩ := x a _ r
    exact q
/-- what may be written -/
def Mut : Option HO → Prop
  | some (.lst _) => True
  | some (.dK _) => True
  | some (.dT _) => True
  | some (.set _ _) => True
  | some (.ins _ _ _) => True
  | some (.ext _) => True
  | _ => False
section
variable {P : Program} {w : World} {H : Hp} {h h' : Heap} {x e : Addr} {o' : HO}
/-- the object at e is changed: x itself, or the dict of the instance x -/
theorem HOk.write (ok : HOk P w H h) (mu : Mut (H x)) (he : e = x ∨ H e = some (.own x)) (k : ∀ b u, b ≠ e → h.get? b = some u → h'.get? b = some u) (heo : ∃ u, h'.get? e = some u)
    (new : ObjOk P w (upd H x o') h' x o') : HOk P w (upd H x o') h' := fun b u q => by
  have nown : ∀ c y, H c = some (.own y) → c ≠ x := fun c y r z => by subst z; rw [r] at mu; exact mu
  have ntup : ∀ c xs, H c = some (.tup xs) → c ≠ x := fun c xs r z => by subst z; rw [r] at mu; exact mu
  by_cases hb : b = x
  · subst hb; rw [upd_same] at q; cases q; exact new
  · rw [upd_ne hb] at q
    by_cases hbe : b = e
    · have q' : H b = some (.own x) := by
        rcases he with z | z
        · exact absurd (hbe.trans z) hb
        · rw [hbe]; exact z
      rw [q] at q'; cases q'
      obtain ⟨v, hv⟩ := heo
      exact ⟨v, by rw [hbe]; exact hv⟩
    · refine (ok b u q).stay (fun c v hc r => k c v ?_ r) (fun c r => by rw [upd_ne (nown c b r)]; exact r) fun c xs r => by rw [upd_ne (ntup c xs r)]; exact r
      rcases hc with rfl | hc
      · exact hbe
      · rintro rfl
        rcases he with z | z
        · exact nown c b hc z
        · rw [hc] at z; cases z; exact hb rfl
end

/-! ### kept unless tracked; of the frames at fs (the callers') the slots may change (an exception that passes writes there); of the records at ex (iterators) nothing is said -/
structure Un (fs ex : List Addr) (H H' : Hp) (h h' : Heap) : Prop where
  keep : ∀ b o, h.get? b = some o → H b = none → b ∉ fs → b ∉ ex → h'.get? b = some o
  slot : ∀ b o, h.get? b = some o → H b = none → b ∈ fs → b ∉ ex → ∃ sl, h'.get? b = some { o with slots := sl }
  free : ∀ b o, h.get? b = some o → H b = none → b ∉ ex → H' b = none
  there : ∀ b o, h.get? b = some o → b ∉ ex → ∃ o', h'.get? b = some o'
  tups : ∀ b xs, H b = some (.tup xs) → H' b = some (.tup xs)
  frzs : ∀ b o u, H b = some (.frz o u) → H' b = some (.frz o u)
  tbls : ∀ b ps, H b = some (.tbl ps) → ∃ more, H' b = some (.tbl (ps ++ more))
section
variable {fs fs' ex ex' : List Addr} {H H1 H2 : Hp} {h h1 h2 h' : Heap} {a x e : Addr} {o : HO}
theorem Un.any (u : Un fs ex H H1 h h1) {b : Addr} {ob : Obj} (q : h.get? b = some ob) (n : H b = none) (hx : b ∉ ex) : ∃ sl, h1.get? b = some { ob with slots := sl } := by
  by_cases hb : b ∈ fs
  · exact u.slot b ob q n hb hx
  · exact ⟨ob.slots, u.keep b ob q n hb hx⟩
theorem Un.kept (k : ∀ b u, h.get? b = some u → h'.get? b = some u) : Un fs ex H H h h' :=
  ⟨fun b ob q _ _ _ => k b ob q, fun b ob q _ _ _ => ⟨ob.slots, k b ob q⟩, fun _ _ _ n _ => n, fun b ob q _ => ⟨ob, k b ob q⟩, fun _ _ q => q, fun _ _ _ q => q, fun _ ps q => ⟨#[], by rw [q]; simp⟩⟩
theorem Un.refl : Un fs ex H H h h := Un.kept fun _ _ q => q
theorem Un.laid (k : ∀ b u, h.get? b = some u → h'.get? b = some u) (hp : h.objs.size ≤ a) (hn : H a = none) : Un fs ex H (upd H a o) h h' where
  keep := fun b u q _ _ _ => k b u q
  slot := fun b u q _ _ _ => ⟨u.slots, k b u q⟩
  free := fun b u q n _ => by rw [upd_ne (Nat.ne_of_lt (Nat.lt_of_lt_of_le (Heap.lt_size q) hp))]; exact n
  there := fun b u q _ => ⟨u, k b u q⟩
  tups := fun b xs q => by rw [upd_ne (ne_of_none q hn)]; exact q
  frzs := fun b u xs q => by rw [upd_ne (ne_of_none q hn)]; exact q
  tbls := fun b ps q => ⟨#[], by rw [upd_ne (ne_of_none q hn), q]; simp⟩
theorem Un.write (mu : Mut (H x)) (he : e = x ∨ H e = some (.own x)) (k : ∀ b u, b ≠ e → h.get? b = some u → h'.get? b = some u) (heo : ∃ u, h'.get? e = some u) : Un fs ex H (upd H x o) h h' := by
  have hx : ∀ b, H b = none → b ≠ x := fun b n z => by subst z; rw [n] at mu; exact mu
  have hb : ∀ b, H b = none → b ≠ e := fun b n z => by
    subst z
    rcases he with r | r
    · exact hx b n r
    · rw [n] at r; cases r
  have hm : ∀ b u, H b = some u → ¬ Mut (some u) → b ≠ x := fun b u q nm z => by subst z; rw [q] at mu; exact nm mu
  refine ⟨fun b u q n _ _ => k b u (hb b n) q, fun b u q n _ _ => ⟨u.slots, k b u (hb b n) q⟩, fun b u q n _ => by rw [upd_ne (hx b n)]; exact n, fun b u q _ => ?_,
    fun b xs q => by rw [upd_ne (hm b _ q fun z => z)]; exact q, fun b u xs q => by rw [upd_ne (hm b _ q fun z => z)]; exact q, fun b ps q => ⟨#[], by rw [upd_ne (hm b _ q fun z => z), q]; simp⟩⟩
  by_cases hbe : b = e
  · subst hbe; exact heo
  · exact ⟨u, k b u hbe q⟩
end

/-! ### the heap without what is tracked -/
def trk (h : Heap) (H : Hp) : List Addr := (List.range h.objs.size).filter fun a => (H a).isSome
def hidT (h : Heap) (H : Hp) : Heap := PySem.W.hideAll h (trk h H)
theorem hidT_size (h : Heap) (H : Hp) : (hidT h H).objs.size = h.objs.size := PySem.W.hideAll_size _ _
theorem hidT_get {h : Heap} {H : Hp} {b : Addr} {o : Obj} (e : h.get? b = some o) (n : H b = none) : (hidT h H).get? b = some o :=
  PySem.W.hideAll_get _ e fun hm => by
    have q : (H b).isSome = true := (List.mem_filter.mp hm).2
    rw [n] at q; simp at q
theorem of_hidT {h : Heap} {H : Hp} {b : Addr} {o : Obj} (e : (hidT h H).get? b = some o) : h.get? b = some o ∧ H b = none := by
  have e' : h.get? b = some o := PySem.W.of_hideAll (trk h H) e
  refine ⟨e', ?_⟩
  cases q : H b with
  | none => rfl
  | some x =>
    have hm : b ∈ trk h H := List.mem_filter.mpr ⟨List.mem_range.mpr (Heap.lt_size e'), by simp [q]⟩
    have z : (hidT h H).get? b = none := PySem.W.hideAll_none (trk h H) hm
    rw [z] at e; cases e

/-! ### OpenK's ledger, filled with every new object but one -/
def allNews (g h : Heap) (L : Addr) : List (Addr × Obj) := (List.range h.objs.size).filterMap fun a => if a = L ∨ (g.get? a).isSome = true then none else (h.get? a).map fun o => (a, o)
def rest (g h : Heap) (L d : Addr) : List (Addr × Obj) := (allNews g h L).filter fun p => decide (p.1 ≠ d)
end L2

namespace L2
open PySem PySem.Spec PyProof.Rows

/-- the module's facts, over the base: the heap at the law's entry without what is tracked there -/
structure Mod (K : PySem.W.Frag) (mg : Str → Option Value) (base : Heap) : Prop where
  kin : K.In base
  glob : base.Ns mainGlobals mg
  blt : ∃ mb, base.Ns builtinsNs mb ∧ ∀ x : Str, x ≠ "__name__" → mb x = bootBuiltins x
  nolimit : base.NoLimit

/-- the context: a def's body (or a comprehension's block) running. base: fixed through the whole law; s₀, H₀: the entry; outer: the frames whose slots others may change (a def's callers); stack: all frames that run;
   ex: iterators that were made ahead of the entry and are walked here (a comprehension's); fn: the names whose cells were made at the entry (a def: all; a comprehension's block: its own); calm: not within an except suite; pn: pins that every state bears; xe: what is wanted of an exception that leaves the code -/
structure Cx where
  prog : Program
  w : World
  K : PySem.W.Frag
  mg : Str → Option Value
  base : Heap
  A : Around
  N : List Str
  s₀ : Shared
  H₀ : Hp
  env : Env
  outer : List Env
  stack : List Env
  ex : List Addr
  fn : Str → Bool
  calm : Bool
  pn : List (Addr × Obj)
  xe : Value → Shared → Prop
/-- the callers' frames -/
def frs (l : List Env) : List Addr := l.filterMap (·.frame)
abbrev Cx.fs (X : Cx) : List Addr := frs X.outer

def Vis (sc : Scope) (x : Str) : Prop := sc.names.lookup x = some .local ∨ sc.names.lookup x = some .cell ∨ sc.names.lookup x = some .free
def Loc (sc : Scope) (x : Str) : Prop := sc.names.lookup x = some .local ∨ sc.names.lookup x = some .cell
def Look (env : Env) (h : Heap) (m : Str → Option Value) (x : Str) (u : Value) : Prop :=
  (env.kindOf x = some .local ∧ m x = some u) ∨ ((env.kindOf x = some .cell ∨ env.kindOf x = some .free) ∧ ∃ c, env.cells.lookup x = some c ∧ h.IsCell c (some u))

structure Cx.Ok (X : Cx) : Prop where
  mod : Mod X.K X.mg X.base
  kind : X.env.scope.kind = .function
  glob : X.env.globals = mainGlobals
  blt : X.env.builtins = builtinsNs
  above : X.s₀.heap.objs.size ≤ X.env.locals
  inj : ∀ x y c, X.env.cells.lookup x = some c → X.env.cells.lookup y = some c → x = y
  has : ∀ x, (X.env.kindOf x = some .cell ∨ X.env.kindOf x = some .free) → ∃ c, X.env.cells.lookup x = some c
  cab : ∀ x c, X.fn x = true → X.env.cells.lookup x = some c → X.s₀.heap.objs.size ≤ c
  hd : X.calm = true → X.A.handled = none
  frames : X.A.frames = some X.stack
  stk : X.stack = X.outer ∨ (X.stack = X.env :: X.outer ∧ X.env.frame = some X.env.locals)
  exf : ∀ b ∈ X.ex, b ≠ X.env.locals ∧ ∀ x c, X.env.cells.lookup x = some c → c ≠ b
  bs : ∀ b o, X.base.get? b = some o → X.s₀.heap.get? b = some o ∧ X.H₀ b = none
  bsz : X.base.objs.size ≤ X.s₀.heap.objs.size
  noex : ∀ b o, X.base.get? b = some o → b ∉ X.ex
  exfs : ∀ b ∈ X.ex, b ∉ X.fs
  funs : X.s₀.heap.FunFrames X.base X.outer
  frf : ∀ b ∈ X.fs, X.H₀ b = none

structure Inv (X : Cx) (pins : List (Addr × Obj)) (σ : List (Option V)) (H : Hp) (s : Shared) : Prop where
  ok : X.Ok
  os : s.os = X.s₀.os
  bare : AllBare s.gens
  base : Un X.fs X.ex X.H₀ H X.s₀.heap s.heap
  loc : ∃ m, s.heap.Ns X.env.locals m ∧ ∀ (i : Nat) (x : Str) (v : V), X.N[i]? = some x → σ[i]? = some (some v) → Vis X.env.scope x → ∃ u, RelV v u ∧ Look X.env s.heap m x u
  cell : ∀ x c, X.env.cells.lookup x = some c → ∃ v, s.heap.IsCell c v
  free : H X.env.locals = none
  freeC : ∀ x c, X.env.cells.lookup x = some c → H c = none
  pin : ∀ p ∈ X.pn ++ pins, s.heap.get? p.1 = some p.2 ∧ H p.1 = none ∧ p.1 ≠ X.env.locals ∧ p.1 ∉ X.fs ∧ ∀ v, p.2.data ≠ .cell v
  hok : HOk X.prog X.w H s.heap
  len : σ.length = X.N.length

section
variable {X : Cx} {pins : List (Addr × Obj)} {σ : List (Option V)} {H H' : Hp} {s : Shared} {h' : Heap}

theorem Cx.Ok.nofr (ok : X.Ok) {b : Addr} {o : Obj} (e : X.base.get? b = some o) : b ∉ X.fs := fun hb => by
  have := (ok.funs.mem hb).1
  rw [e] at this; cases this
theorem Inv.bs (I : Inv X pins σ H s) : ∀ b o, X.base.get? b = some o → s.heap.get? b = some o ∧ H b = none := fun b o e =>
  ⟨I.base.keep b o (I.ok.bs b o e).1 (I.ok.bs b o e).2 (I.ok.nofr e) (I.ok.noex b o e), I.base.free b o (I.ok.bs b o e).1 (I.ok.bs b o e).2 (I.ok.noex b o e)⟩
theorem Inv.bk (I : Inv X pins σ H s) : ∀ b o, X.base.get? b = some o → s.heap.get? b = some o := fun b o e => (I.bs b o e).1
theorem Inv.mod (I : Inv X pins σ H s) : Mod X.K X.mg X.base := I.ok.mod
theorem Inv.kIn (I : Inv X pins σ H s) : X.K.In s.heap := I.ok.mod.kin.keeps I.bk
theorem Inv.lt (I : Inv X pins σ H s) : X.env.locals < s.heap.objs.size := let ⟨_, hn, _⟩ := I.loc; hn.lt
theorem Inv.sz (I : Inv X pins σ H s) : X.s₀.heap.objs.size ≤ s.heap.objs.size := Nat.le_trans I.ok.above (Nat.le_of_lt I.lt)
theorem Inv.nofs (I : Inv X pins σ H s) {a : Addr} (h : s.heap.objs.size ≤ a) : a ∉ X.fs := fun hb => by
  obtain ⟨_, o, ho, _⟩ := I.ok.funs.mem hb
  exact absurd (Nat.lt_of_lt_of_le (Heap.lt_size ho) (Nat.le_trans I.sz h)) (Nat.lt_irrefl _)
theorem Inv.cne (I : Inv X pins σ H s) : ∀ x c, X.env.cells.lookup x = some c → c ≠ X.env.locals := fun x c e z => by
  obtain ⟨v, o, ho, hd⟩ := I.cell x c e
  obtain ⟨m, ⟨o', es, ep, ho', hd', _⟩, _⟩ := I.loc
  rw [z, ho'] at ho; cases ho; rw [hd'] at hd; cases hd
theorem Inv.funs (I : Inv X pins σ H s) : s.heap.FunFrames X.base X.outer := by
  have all : ∀ (l : List Env), (∀ b ∈ frs l, b ∈ X.fs) → X.s₀.heap.FunFrames X.base l → s.heap.FunFrames X.base l := by
    intro l
    induction l with
    | nil => intro _ _; trivial
    | cons env r ih =>
      intro hs hl
      obtain ⟨hk, ⟨L, o, hf, hn, ho, hd⟩, hr⟩ := hl
      have hL : L ∈ X.fs := hs L (by unfold frs; rw [List.filterMap_cons, hf]; exact List.mem_cons_self)
      obtain ⟨sl, e⟩ := I.base.slot L o ho (I.ok.frf L hL) hL fun z => I.ok.exfs L z hL
      exact ⟨hk, ⟨L, _, hf, hn, e, hd⟩, ih (fun b hb => hs b (by unfold frs; rw [List.filterMap_cons, hf]; exact List.mem_cons_of_mem _ hb)) hr⟩
  exact all X.outer (fun _ hb => hb) I.ok.funs

/-- the frames that run, for a call -/
theorem Inv.stack (I : Inv X pins σ H s) : s.heap.FunFrames X.base X.stack := by
  rcases I.ok.stk with e | ⟨e, hf⟩
  · rw [e]; exact I.funs
  · rw [e]
    obtain ⟨m, hn, _⟩ := I.loc
    refine .cons (by rw [I.ok.kind]; decide) hf hn ?_ I.funs
    exact Heap.get?_none_of_le (Nat.le_trans I.ok.bsz I.ok.above)
theorem Inv.stkSub (I : Inv X pins σ H s) : ∀ b ∈ frs X.stack, b ∈ X.env.locals :: X.fs := fun b hb => by
  rcases I.ok.stk with e | ⟨e, hf⟩
  · rw [e] at hb; exact List.mem_cons_of_mem _ hb
  · rw [e] at hb
    unfold frs at hb
    rw [List.filterMap_cons, hf] at hb
    exact hb
theorem Inv.stkFree (I : Inv X pins σ H s) : ∀ b ∈ frs X.stack, H b = none := fun b hb => by
  rcases List.mem_cons.mp (I.stkSub b hb) with e | hb
  · rw [e]; exact I.free
  · obtain ⟨_, o, ho, _⟩ := I.ok.funs.mem hb
    exact I.base.free b o ho (I.ok.frf b hb) fun z => I.ok.exfs b z hb

/-- THE STEP: the untracked objects but the frame and the records at ch are kept (the callers' frames up to slots), the frame's map is kept, the new abstract heap is held -/
theorem Inv.step {g' : Array GenState} {t' : Nat} {d' : Drawn} {ch : List Addr} (I : Inv X pins σ H s)
    (hch : ∀ b ∈ ch, (b ∈ X.ex ∨ X.s₀.heap.objs.size ≤ b) ∧ b ≠ X.env.locals ∧ (∀ x c, X.env.cells.lookup x = some c → c ≠ b) ∧ ∀ p ∈ X.pn ++ pins, p.1 ≠ b)
    (keep : ∀ b o, b ≠ X.env.locals → b ∉ X.fs → b ∉ ch → s.heap.get? b = some o → H b = none → h'.get? b = some o)
    (slot : ∀ b o, b ≠ X.env.locals → b ∈ X.fs → b ∉ ch → s.heap.get? b = some o → H b = none → ∃ sl, h'.get? b = some { o with slots := sl }) (free : ∀ b o, b ∉ ch → s.heap.get? b = some o → H b = none → H' b = none)
    (there : ∀ b o, b ∉ ch → s.heap.get? b = some o → ∃ o', h'.get? b = some o')
    (tups : ∀ b xs, H b = some (.tup xs) → H' b = some (.tup xs)) (frzs : ∀ b o u, H b = some (.frz o u) → H' b = some (.frz o u)) (tbls : ∀ b ps, H b = some (.tbl ps) → ∃ more, H' b = some (.tbl (ps ++ more)))
    (ns : ∀ m, s.heap.Ns X.env.locals m → h'.Ns X.env.locals m) (hok : HOk X.prog X.w H' h') (hg : AllBare g') :
    Inv X pins σ H' { s with heap := h', gens := g', drawn := d', toks := t' } := by
  have neL : ∀ b o, X.s₀.heap.get? b = some o → b ≠ X.env.locals := fun b o e => Nat.ne_of_lt (Nat.lt_of_lt_of_le (Heap.lt_size e) I.ok.above)
  have neC : ∀ b o, X.s₀.heap.get? b = some o → b ∉ X.ex → b ∉ ch := fun b o e hx hb => by
    rcases (hch b hb).1 with z | z
    · exact hx z
    · exact absurd (Nat.lt_of_lt_of_le (Heap.lt_size e) z) (Nat.lt_irrefl _)
  have cellK : ∀ x c, X.env.cells.lookup x = some c → ∀ v, s.heap.IsCell c v → h'.IsCell c v := fun x c e v ⟨o, ho, hd⟩ => by
    have nch : c ∉ ch := fun z => (hch c z).2.2.1 x c e rfl
    by_cases hc : c ∈ X.fs
    · obtain ⟨sl, q⟩ := slot c o (I.cne x c e) hc nch ho (I.freeC x c e)
      exact ⟨_, q, hd⟩
    · exact ⟨o, keep c o (I.cne x c e) hc nch ho (I.freeC x c e), hd⟩
  refine ⟨I.ok, I.os, hg, ⟨fun b o e n hb hx => ?_, fun b o e n hb hx => ?_, fun b o e n hx => ?_, fun b o e hx => ?_, fun b xs e => tups b xs (I.base.tups b xs e), fun b o xs e => frzs b o xs (I.base.frzs b o xs e), fun b ps e => ?_⟩, ?_, fun x c e => ?_, ?_, fun x c e => ?_, fun p hp => ?_, hok, I.len⟩
  · exact keep b o (neL b o e) hb (neC b o e hx) (I.base.keep b o e n hb hx) (I.base.free b o e n hx)
  · obtain ⟨sl, e1⟩ := I.base.slot b o e n hb hx
    obtain ⟨sl', e2⟩ := slot b _ (neL b o e) hb (neC b o e hx) e1 (I.base.free b o e n hx)
    exact ⟨sl', e2⟩
  · obtain ⟨o', e1⟩ := I.base.there b o e hx
    exact free b o' (neC b o e hx) e1 (I.base.free b o e n hx)
  · obtain ⟨o', e1⟩ := I.base.there b o e hx
    exact there b o' (neC b o e hx) e1
  · obtain ⟨m1, e1⟩ := I.base.tbls b ps e
    obtain ⟨m2, e2⟩ := tbls b _ e1
    exact ⟨m1 ++ m2, by rw [e2, Array.append_assoc]⟩
  · obtain ⟨m, hn, hl⟩ := I.loc
    refine ⟨m, ns m hn, fun i x v e1 e2 e3 => ?_⟩
    obtain ⟨u, r, l⟩ := hl i x v e1 e2 e3
    refine ⟨u, r, ?_⟩
    rcases l with l | ⟨k, c, e, z⟩
    · exact .inl l
    · exact .inr ⟨k, c, e, cellK x c e _ z⟩
  · obtain ⟨v, z⟩ := I.cell x c e
    exact ⟨v, cellK x c e v z⟩
  · obtain ⟨m, ⟨o, _, _, ho, _⟩, _⟩ := I.loc
    exact free _ o (fun z => (hch _ z).2.1 rfl) ho I.free
  · obtain ⟨v, o, ho, hd⟩ := I.cell x c e
    exact free c o (fun z => (hch c z).2.2.1 x c e rfl) ho (I.freeC x c e)
  · obtain ⟨e, n, ne, nf, d⟩ := I.pin p hp
    have nch : p.1 ∉ ch := fun z => (hch p.1 z).2.2.2 p hp rfl
    exact ⟨keep p.1 p.2 ne nf nch e n, free p.1 p.2 nch e n, ne, nf, d⟩
/-- .. where the frame's own object is kept too -/
theorem Inv.un {t' : Nat} (I : Inv X pins σ H s) (u : Un X.fs [] H H' s.heap h') (hok : HOk X.prog X.w H' h') : Inv X pins σ H' { s with heap := h', toks := t' } := by
  obtain ⟨m, ⟨o, es, ep, ho, r⟩, _⟩ := id I.loc
  obtain ⟨sl, hL⟩ := u.any ho I.free (by simp)
  exact I.step (g' := s.gens) (d' := s.drawn) (ch := []) (fun _ z => nomatch z) (fun b o _ hb _ e n => u.keep b o e n hb (by simp)) (fun b o _ hb _ e n => u.slot b o e n hb (by simp)) (fun b o _ e n => u.free b o e n (by simp)) (fun b o _ e => u.there b o e (by simp)) u.tups u.frzs u.tbls (fun m' hm => by
    obtain ⟨o', es', ep', ho', r'⟩ := hm
    rw [ho] at ho'; cases ho'
    exact ⟨_, es', ep', hL, r'⟩) hok I.bare
/-- behind a call (or a comprehension's block): the slots of this frame may have changed too, the records at ch may have turned -/
theorem Inv.call {g' : Array GenState} {t' : Nat} {d' : Drawn} {ch : List Addr} (I : Inv X pins σ H s) (u : Un (frs X.stack) ch H H' s.heap h') (hok : HOk X.prog X.w H' h') (hg : AllBare g')
    (hch : ∀ b ∈ ch, (b ∈ X.ex ∨ X.s₀.heap.objs.size ≤ b) ∧ b ≠ X.env.locals ∧ (∀ x c, X.env.cells.lookup x = some c → c ≠ b) ∧ ∀ p ∈ X.pn ++ pins, p.1 ≠ b) :
    Inv X pins σ H' { s with heap := h', gens := g', drawn := d', toks := t' } := by
  obtain ⟨m, ⟨o, es, ep, ho, r⟩, _⟩ := id I.loc
  obtain ⟨sl, hL⟩ := u.any ho I.free fun z => (hch _ z).2.1 rfl
  exact I.step (ch := ch) hch (fun b o hL hb hc e n => u.keep b o e n (fun z => (List.mem_cons.mp (I.stkSub b z)).elim hL hb) hc) (fun b o _ _ hc e n => u.any e n hc) (fun b o hc e n => u.free b o e n hc) (fun b o hc e => u.there b o e hc) u.tups u.frzs u.tbls (fun m' hm => by
    obtain ⟨o', es', ep', ho', r'⟩ := hm
    rw [ho] at ho'; cases ho'
    exact ⟨_, es', ep', hL, r'⟩) hok hg
/-- an untracked record of ours (an iterator) has turned -/
theorem Inv.turned {t' : Nat} {it : Addr} (I : Inv X pins σ H s) (k : ∀ b o, b ≠ it → s.heap.get? b = some o → h'.get? b = some o) (hn : H it = none) (hL : it ≠ X.env.locals)
    (h1 : it ∈ X.ex ∨ X.s₀.heap.objs.size ≤ it) (h2 : ∀ x c, X.env.cells.lookup x = some c → c ≠ it) (h3 : ∀ p ∈ X.pn ++ pins, p.1 ≠ it) : Inv X pins σ H { s with heap := h', toks := t' } := by
  have nit : ∀ b u, H b = some u → b ≠ it := fun b u e z => by rw [z, hn] at e; cases e
  refine I.step (g' := s.gens) (d' := s.drawn) (ch := [it]) (fun b hb => ?_) (fun b o _ _ hc e _ => k b o (fun z => hc (by simp [z])) e) (fun b o _ _ hc e _ => ⟨o.slots, k b o (fun z => hc (by simp [z])) e⟩) (fun _ _ _ _ n => n)
    (fun b o hc e => ⟨o, k b o (fun z => hc (by simp [z])) e⟩) (fun _ _ e => e) (fun _ _ _ e => e) (fun b ps e => ⟨#[], by rw [e]; simp⟩) (fun m hm => ?_) (fun b u e => ?_) I.bare
  · have e : b = it := by simpa using hb
    subst e
    exact ⟨h1, hL, h2, h3⟩
  · obtain ⟨o, es, ep, ho, r⟩ := hm
    exact ⟨o, es, ep, k _ o (Ne.symm hL) ho, r⟩
  · refine (I.hok b u e).stay (fun c v hc q => k c v ?_ q) (fun _ q => q) fun _ _ q => q
    rcases hc with z | z
    · rw [z]; exact nit b u e
    · exact nit c _ z
theorem Inv.tok (I : Inv X pins σ H s) (t : Nat) : Inv X pins σ H { s with toks := t } := I.un (h' := s.heap) (t' := t) Un.refl I.hok
/-- all objects kept -/
theorem Inv.kept {t' : Nat} (I : Inv X pins σ H s) (k : ∀ b u, s.heap.get? b = some u → h'.get? b = some u) : Inv X pins σ H { s with heap := h', toks := t' } := I.un (Un.kept k) (I.hok.kept k)
/-- a new object laid and tracked -/
theorem Inv.laid {a : Addr} {o : HO} {t' : Nat} (I : Inv X pins σ H s) (k : ∀ b u, s.heap.get? b = some u → h'.get? b = some u) (hp : s.heap.objs.size ≤ a) (new : ObjOk X.prog X.w (upd H a o) h' a o) :
    Inv X pins σ (upd H a o) { s with heap := h', toks := t' } := I.un (Un.laid k hp (I.hok.fresh hp)) (I.hok.laid k hp new)
/-- an object written -/
theorem Inv.write {x e : Addr} {o : HO} {t' : Nat} (I : Inv X pins σ H s) (mu : Mut (H x)) (he : e = x ∨ H e = some (.own x)) (k : ∀ b u, b ≠ e → s.heap.get? b = some u → h'.get? b = some u) (heo : ∃ u, h'.get? e = some u)
    (new : ObjOk X.prog X.w (upd H x o) h' x o) : Inv X pins σ (upd H x o) { s with heap := h', toks := t' } := I.un (Un.write mu he k heo) (I.hok.write mu he k heo new)
theorem Inv.pins_of {pins' : List (Addr × Obj)} (I : Inv X pins σ H s) (h : ∀ p ∈ pins', s.heap.get? p.1 = some p.2 ∧ H p.1 = none ∧ p.1 ≠ X.env.locals ∧ p.1 ∉ X.fs ∧ ∀ v, p.2.data ≠ .cell v) : Inv X pins' σ H s :=
  ⟨I.ok, I.os, I.bare, I.base, I.loc, I.cell, I.free, I.freeC, fun p hp => (List.mem_append.mp hp).elim (fun z => I.pin p (List.mem_append_left _ z)) (h p), I.hok, I.len⟩

theorem nodup_ix {N : List Str} (hN : N.Nodup) {i j : Nat} {x : Str} (a : N[i]? = some x) (b : N[j]? = some x) : i = j := by
  obtain ⟨h1, e1⟩ := List.getElem?_eq_some_iff.mp a
  obtain ⟨h2, e2⟩ := List.getElem?_eq_some_iff.mp b
  exact (List.getElem_inj hN).mp (e1.trans e2.symm)

/-- a name is stored; what changed -/
theorem store_ok2 {M : Model} {A : Around} {E : Value → Shared → Prop} {i : Nat} {x : Str} {v : V} {u : Value} {Q : Unit → Shared → Prop} (I : Inv X pins σ H s) (hN : X.N.Nodup) (hi : X.N[i]? = some x) (hx : Loc X.env.scope x) (r : RelV v u)
    (h : ∀ s', Inv X pins (σ.set i (some v)) H s' → (∃ a, Heap.SameBut a s.heap s'.heap ∧ (a = X.env.locals ∨ X.env.cells.lookup x = some a)) → Q () s') (hf : X.fn x = true ∨ X.env.scope.names.lookup x = some .local := by first | exact .inl rfl | exact .inr rfl | assumption) : wpAny M A (storeName X.env x u) Q E s := by
  obtain ⟨m, hn, hl⟩ := id I.loc
  have hcls : (X.env.scope.kind == .class || (X.env.scope.kind == .module && X.env.locals != X.env.globals)) = false := by rw [I.ok.kind]; rfl
  have hiσ : i < σ.length := by rw [I.len]; exact (List.getElem?_eq_some_iff.mp hi).1
  have cne := I.cne
  have tracked : ∀ {a : Addr} {h' : Heap}, (∃ o, s.heap.get? a = some o ∧ H a = none) → Heap.SameBut a s.heap h' → HOk X.prog X.w H h' := fun {a h'} ha hs b ob e => by
    obtain ⟨_, _, hfree⟩ := ha
    refine (I.hok b ob e).stay (fun c w' hc q => (hs.2 c ?_).trans q) (fun _ q => q) fun _ _ q => q
    rintro rfl
    rcases hc with rfl | hc
    · rw [hfree] at e; cases e
    · rw [hfree] at hc; cases hc
  rcases hx with hk | hk
  · refine wpAny_storeName_local hk hn (fun h' hn' hs => ?_) hcls
    obtain ⟨oL, _, _, hoL, _⟩ := id hn
    refine h _ ⟨I.ok, I.os, I.bare, ⟨fun b o e n hb hx => ?_, fun b o e n hb hx => ?_, I.base.free, fun b o e hx => ?_, I.base.tups, I.base.frzs, I.base.tbls⟩, ⟨_, hn', fun j y v' e1 e2 e3 => ?_⟩, fun y c e => ?_, I.free, I.freeC, fun p hp => ?_, tracked ⟨oL, hoL, I.free⟩ hs, by simpa using I.len⟩ ⟨_, hs, .inl rfl⟩
    · exact (hs.2 b (Nat.ne_of_lt (Nat.lt_of_lt_of_le (Heap.lt_size e) I.ok.above))).trans (I.base.keep b o e n hb hx)
    · obtain ⟨sl, e1⟩ := I.base.slot b o e n hb hx
      exact ⟨sl, (hs.2 b (Nat.ne_of_lt (Nat.lt_of_lt_of_le (Heap.lt_size e) I.ok.above))).trans e1⟩
    · obtain ⟨o', e1⟩ := I.base.there b o e hx
      exact ⟨o', (hs.2 b (Nat.ne_of_lt (Nat.lt_of_lt_of_le (Heap.lt_size e) I.ok.above))).trans e1⟩
    · by_cases hj : j = i
      · subst hj
        rw [hi] at e1; cases e1
        rw [List.getElem?_set_self hiσ] at e2
        cases e2
        exact ⟨u, r, .inl ⟨hk, by simp⟩⟩
      · rw [List.getElem?_set_ne (Ne.symm hj)] at e2
        obtain ⟨u', r', q⟩ := hl j y v' e1 e2 e3
        refine ⟨u', r', ?_⟩
        rcases q with ⟨k, e⟩ | ⟨k, c, e, z⟩
        · refine .inl ⟨k, ?_⟩
          have : y ≠ x := fun e => hj (nodup_ix hN e1 (e ▸ hi))
          simp [this, e]
        · exact .inr ⟨k, c, e, z.sameBut hs (cne y c e)⟩
    · obtain ⟨w', z⟩ := I.cell y c e
      exact ⟨w', z.sameBut hs (cne y c e)⟩
    · obtain ⟨e, n, ne, nf, d⟩ := I.pin p hp
      exact ⟨(hs.2 p.1 ne).trans e, n, ne, nf, d⟩
  · have hfn : X.fn x = true := by
      rcases hf with z | z
      · exact z
      · rw [z] at hk; cases hk
    obtain ⟨c, hc⟩ := I.ok.has x (.inl hk)
    obtain ⟨w', z⟩ := I.cell x c hc
    refine wpAny_storeName_cell I.ok.kind hk hc z (fun h' hc' hs => ?_)
    obtain ⟨oc, hoc, hocd⟩ := id z
    refine h { s with heap := h' } ⟨I.ok, I.os, I.bare, ⟨fun b o e n hb hx => ?_, fun b o e n hb hx => ?_, I.base.free, fun b o e hx => ?_, I.base.tups, I.base.frzs, I.base.tbls⟩, ⟨m, hn.sameBut hs (Ne.symm (cne x c hc)), fun j y v' e1 e2 e3 => ?_⟩, fun y c' e => ?_, I.free, I.freeC, fun p hp => ?_, tracked ⟨oc, hoc, I.freeC x c hc⟩ hs, by simpa using I.len⟩ ⟨c, hs, .inr hc⟩
    · exact (hs.2 b (Nat.ne_of_lt (Nat.lt_of_lt_of_le (Heap.lt_size e) (I.ok.cab x c hfn hc)))).trans (I.base.keep b o e n hb hx)
    · obtain ⟨sl, e1⟩ := I.base.slot b o e n hb hx
      exact ⟨sl, (hs.2 b (Nat.ne_of_lt (Nat.lt_of_lt_of_le (Heap.lt_size e) (I.ok.cab x c hfn hc)))).trans e1⟩
    · obtain ⟨o', e1⟩ := I.base.there b o e hx
      exact ⟨o', (hs.2 b (Nat.ne_of_lt (Nat.lt_of_lt_of_le (Heap.lt_size e) (I.ok.cab x c hfn hc)))).trans e1⟩
    · by_cases hj : j = i
      · subst hj
        rw [hi] at e1; cases e1
        rw [List.getElem?_set_self hiσ] at e2
        cases e2
        exact ⟨u, r, .inr ⟨.inl hk, c, hc, hc'⟩⟩
      · rw [List.getElem?_set_ne (Ne.symm hj)] at e2
        obtain ⟨u', r', q⟩ := hl j y v' e1 e2 e3
        refine ⟨u', r', ?_⟩
        rcases q with q | ⟨k, c', e, z'⟩
        · exact .inl q
        · refine .inr ⟨k, c', e, z'.sameBut hs ?_⟩
          rintro rfl
          exact hj (nodup_ix hN e1 (I.ok.inj _ _ _ e hc ▸ hi))
    · by_cases hcc : c' = c
      · subst hcc; exact ⟨_, hc'⟩
      · obtain ⟨w2, z2⟩ := I.cell y c' e
        exact ⟨w2, z2.sameBut hs hcc⟩
    · obtain ⟨e, n, ne, nf, d⟩ := I.pin p hp
      refine ⟨(hs.2 p.1 ?_).trans e, n, ne, nf, d⟩
      intro q
      rw [q, hoc] at e
      have q' : oc = p.2 := Option.some.inj e
      exact d w' (by rw [← q']; exact hocd)
theorem store_ok {M : Model} {A : Around} {E : Value → Shared → Prop} {i : Nat} {x : Str} {v : V} {u : Value} {Q : Unit → Shared → Prop} (I : Inv X pins σ H s) (hN : X.N.Nodup) (hi : X.N[i]? = some x) (hx : Loc X.env.scope x) (r : RelV v u)
    (h : ∀ s', Inv X pins (σ.set i (some v)) H s' → Q () s') (hf : X.fn x = true ∨ X.env.scope.names.lookup x = some .local := by first | exact .inl rfl | exact .inr rfl | assumption) : wpAny M A (storeName X.env x u) Q E s :=
  store_ok2 I hN hi hx r (fun s' I' _ => h s' I') hf
/-- behind a call or a block, the state as it is -/
theorem Inv.call' {s' : Shared} {ch : List Addr} (I : Inv X pins σ H s) (ho : s'.os = s.os) (u : Un (frs X.stack) ch H H' s.heap s'.heap) (hok : HOk X.prog X.w H' s'.heap) (hg : AllBare s'.gens)
    (hch : ∀ b ∈ ch, (b ∈ X.ex ∨ X.s₀.heap.objs.size ≤ b) ∧ b ≠ X.env.locals ∧ (∀ x c, X.env.cells.lookup x = some c → c ≠ b) ∧ ∀ p ∈ X.pn ++ pins, p.1 ≠ b) : Inv X pins σ H' s' := by
  obtain ⟨h', g', d', t', o'⟩ := s'
  have e : o' = s.os := ho
  subst e
  exact I.call (g' := g') (t' := t') (d' := d') u hok hg hch
end

/-! ### the judgements -/
/-- an exception: its class, its own dict's address (where it has one), the abstract heap behind it -/
abbrev XK := Value → Option Addr → Hp → Prop
abbrev St := List (Option V)
abbrev VK := V → Hp → Prop
/-- an expression's reading; a test's; an argument list's -/
abbrev TE := St → Hp → VK → Prop
abbrev TT := St → Hp → (Bool → Hp → Prop) → Prop
abbrev TA := St → Hp → (List V → Hp → Prop) → Prop
/-- what is wanted behind a statement -/
structure Ends where
  nx : St → Hp → Prop
  rt : VK
  bk : St → Hp → Prop := fun _ _ => False
  ct : St → Hp → Prop := fun _ _ => False
abbrev TS := Ends → St → Hp → Prop

def EP (X : Cx) (pins : List (Addr × Obj)) (σ : St) (Q : VK) (u : Value) (s' : Shared) : Prop := ∃ v H', Inv X pins σ H' s' ∧ RelV v u ∧ Q v H'
def TP (X : Cx) (pins : List (Addr × Obj)) (σ : St) (Q : Bool → Hp → Prop) (b : Bool) (s' : Shared) : Prop := ∃ H', Inv X pins σ H' s' ∧ Q b H'
def AP (X : Cx) (pins : List (Addr × Obj)) (σ : St) (Q : List V → Hp → Prop) (us : List Value) (s' : Shared) : Prop := ∃ vs H', Inv X pins σ H' s' ∧ Vals vs us ∧ Q vs H'
def SP (X : Cx) (pins : List (Addr × Obj)) (D : Ends) (f : Flow) (s' : Shared) : Prop :=
  match f with
  | .next => ∃ σ' H', Inv X pins σ' H' s' ∧ D.nx σ' H'
  | .brk => ∃ σ' H', Inv X pins σ' H' s' ∧ D.bk σ' H'
  | .cont => ∃ σ' H', Inv X pins σ' H' s' ∧ D.ct σ' H'
  | .ret u => ∃ v σ' H', Inv X pins σ' H' s' ∧ RelV v u ∧ D.rt v H'

def PE (X : Cx) (e : Expr) (t : TE) : Prop :=
  ∀ (pins : List (Addr × Obj)) (s : Shared) (σ : St) (H : Hp) (Q : VK), Inv X pins σ H s → t σ H Q → wpAny (model X.prog X.w) X.A (eval e X.env) (EP X pins σ Q) X.xe s
def PT (X : Cx) (e : Expr) (t : TT) : Prop :=
  ∀ (pins : List (Addr × Obj)) (s : Shared) (σ : St) (H : Hp) (Q : Bool → Hp → Prop), Inv X pins σ H s → t σ H Q → wpAny (model X.prog X.w) X.A (isTrue e X.env (eval e X.env)) (TP X pins σ Q) X.xe s
/-- a test whatever its 'whole' is (and, or) -/
def PW (X : Cx) (e : Expr) (t : TT) : Prop :=
  ∀ (whole : Sem Value) (pins : List (Addr × Obj)) (s : Shared) (σ : St) (H : Hp) (Q : Bool → Hp → Prop), Inv X pins σ H s → t σ H Q → wpAny (model X.prog X.w) X.A (isTrue e X.env whole) (TP X pins σ Q) X.xe s
theorem PW.pt {X : Cx} {e : Expr} {t : TT} (h : PW X e t) : PT X e t := h _
/-- an argument list (no star), from the left -/
def PA (X : Cx) (es : List Expr) (t : TA) : Prop :=
  ∀ (pos : Pos) (pins : List (Addr × Obj)) (s : Shared) (σ : St) (H : Hp) (Q : List V → Hp → Prop), Inv X pins σ H s → t σ H Q → wpAny (model X.prog X.w) X.A (spliced (backTo pos (starEach es X.env))) (AP X pins σ Q) X.xe s
def PS (X : Cx) (st : Stmt) (t : TS) : Prop :=
  ∀ (pins : List (Addr × Obj)) (s : Shared) (σ : St) (H : Hp) (D : Ends), Inv X pins σ H s → t D σ H → wpAny (model X.prog X.w) X.A (exec st X.env) (SP X pins D) X.xe s
def PSs (X : Cx) (st : List Stmt) (t : TS) : Prop :=
  ∀ (pins : List (Addr × Obj)) (s : Shared) (σ : St) (H : Hp) (D : Ends), Inv X pins σ H s → t D σ H → wpAny (model X.prog X.w) X.A (execs st X.env) (SP X pins D) X.xe s
/-- weaken the end -/
theorem thn {α : Type} {t : Sem α} {Q Q' : α → Shared → Prop} {M : Model} {A : Around} {E : Value → Shared → Prop} {s : Shared} (h : wpAny M A t Q E s) (hQ : ∀ a s, Q a s → Q' a s) : wpAny M A t Q' E s := wpAny_mono h hQ fun _ _ x => x
end L2

namespace L2
open PySem PySem.Spec PyProof.Rows
section
variable {X : Cx}

/-! ### names and constants -/
def tVar (i : Nat) : TE := fun σ H Q => ∃ v, σ[i]? = some (some v) ∧ Q v H
def tC (v : V) : TE := fun _ H Q => Q v H
theorem pe_var {i : Nat} {x : Str} {pos : Pos} (hN : X.N[i]? = some x) (hv : Vis X.env.scope x) (hd : (x == ("__debug__" : Str)) = false := by decide) (hcd : (x == ("__classdict__" : Str)) = false := by decide) : PE X (.Name x pos) (tVar i) := by
  intro pins s σ H Q I h
  obtain ⟨v, e, h⟩ := h
  obtain ⟨m, hn, hl⟩ := I.loc
  obtain ⟨u, r, l⟩ := hl i x v hN e hv
  have fin : EP X pins σ Q u s := ⟨v, H, I, r, h⟩
  rcases l with ⟨hk, hm⟩ | ⟨hk, c, hc, hcell⟩
  · exact wpAny_Name (wpAny_loadName_local I.ok.kind hk hn hm fin) hd
  · rcases hk with hk | hk
    · exact wpAny_Name (wpAny_loadName_cell I.ok.kind hk hc hcell fin) hd
    · exact wpAny_Name (wpAny_loadName_free I.ok.kind hk hc hcell fin hcd) hd
theorem pe_int {i j pos} : PE X (.Constant (.int i) j pos) (tC (.int i)) := fun _ _ _ H _ I h => wpAny_Constant_int ⟨.int i, H, I.tok _, ⟨_, rfl⟩, h⟩
theorem pe_bl {b j pos} : PE X (.Constant (.bool b) j pos) (tC (.bl b)) := fun _ _ _ H _ I h => Constant_bool ⟨.bl b, H, I, rfl, h⟩
/-- a global name of the def -/
def Gl (X : Cx) (x : Str) : Prop := X.env.kindOf x = some .globalImplicit
theorem ld_glob {E : Value → Shared → Prop} {pins : List (Addr × Obj)} {s : Shared} {σ : St} {H : Hp} {x : Str} {u : Value} {pos : Pos} {Q : Value → Shared → Prop} (I : Inv X pins σ H s) (hg : Gl X x) (hm : X.mg x = some u) (h : Q u s)
    (hd : (x == ("__debug__" : Str)) = false := by decide) : wpAny (model X.prog X.w) X.A (eval (.Name x pos) X.env) Q E s :=
  Calls.Name_function_global I.ok.kind hg (Calls.loadGlobal_global (by rw [I.ok.glob]; exact I.mod.glob.keeps I.bk) hm h) hd
theorem ld_blt {E : Value → Shared → Prop} {pins : List (Addr × Obj)} {s : Shared} {σ : St} {H : Hp} {x : Str} {u : Value} {pos : Pos} {Q : Value → Shared → Prop} (I : Inv X pins σ H s) (hg : Gl X x) (hm : X.mg x = none) (hv : bootBuiltins x = some u) (h : Q u s)
    (hn : x ≠ "__name__" := by decide) (hd : (x == ("__debug__" : Str)) = false := by decide) : wpAny (model X.prog X.w) X.A (eval (.Name x pos) X.env) Q E s := by
  obtain ⟨mb, h1, h2⟩ := I.mod.blt
  exact Calls.Name_function_global I.ok.kind hg (Calls.loadGlobal_builtin (by rw [I.ok.glob]; exact I.mod.glob.keeps I.bk) hm (by rw [I.ok.blt]; exact h1.keeps I.bk) ((h2 x hn).trans hv) h) hd
theorem pe_bltn {x : Str} {v : V} {u : Value} {pos : Pos} (hg : Gl X x) (hm : X.mg x = none) (hv : bootBuiltins x = some u) (r : RelV v u) (hn : x ≠ "__name__" := by decide) (hd : (x == ("__debug__" : Str)) = false := by decide) : PE X (.Name x pos) (tC v) :=
  fun _ _ _ H _ I h => ld_blt I hg hm hv ⟨v, H, I, r, h⟩ hn hd

/-! ### arithmetic -/
/-- two ints -/
def t2I (ta tb : TE) (k : Int → Int → Hp → Prop) : St → Hp → Prop := fun σ H => ta σ H fun x H1 => tb σ H1 fun y H2 => ∃ i j, x = .int i ∧ y = .int j ∧ k i j H2
def tAdd (ta tb : TE) : TE := fun σ H Q => t2I ta tb (fun i j H2 => Q (.int (i + j)) H2) σ H
def tSub (ta tb : TE) : TE := fun σ H Q => t2I ta tb (fun i j H2 => Q (.int (i - j)) H2) σ H
/-- the left factor below 2^64 -/
def tMul (ta tb : TE) : TE := fun σ H Q => t2I ta tb (fun i j H2 => (-(2 ^ 64) < i ∧ i < 2 ^ 64) ∧ Q (.int (i * j)) H2) σ H
variable {a b : Expr} {ta tb : TE} {pos : Pos}
/-! ### comparisons -/
def PC (X : Cx) (op : CmpOp) (a b : Expr) (t : TE) : Prop :=
  ∀ (pins : List (Addr × Obj)) (s : Shared) (σ : St) (H : Hp) (Q : VK), Inv X pins σ H s → t σ H Q →
    wpAny (model X.prog X.w) X.A (eval a X.env) (fun v s₁ => wpAny (model X.prog X.w) X.A (eval b X.env) (fun u s₂ => wpAny (model X.prog X.w) X.A (compareOp op v u) (EP X pins σ Q) X.xe s₂) X.xe s₁) X.xe s
def tCmp (p : Int → Int → Bool) (ta tb : TE) : TE := fun σ H Q => t2I ta tb (fun i j H2 => Q (.bl (p i j)) H2) σ H
abbrev tLt : TE → TE → TE := tCmp fun i j => decide (i < j)
abbrev tLe : TE → TE → TE := tCmp fun i j => decide (i ≤ j)
abbrev tGt : TE → TE → TE := tCmp fun i j => decide (j < i)
abbrev tGe : TE → TE → TE := tCmp fun i j => decide (j ≤ i)
abbrev tEqI : TE → TE → TE := tCmp fun i j => decide (i = j)
abbrev tNeI : TE → TE → TE := tCmp fun i j => !decide (i = j)
/-- is None -/
def tIsN (ta : TE) : TE := fun σ H Q => ta σ H fun x H1 => Q (.bl (decide (x = .non))) H1
def tNotN (ta : TE) : TE := fun σ H Q => ta σ H fun x H1 => Q (.bl (!decide (x = .non))) H1
/-- a comparison as a value, as a test -/
def tB (t : TE) : TT := fun σ H Q => t σ H fun x H1 => ∃ c, x = .bl c ∧ Q c H1
/-- an expression whose value is a bool, as a test -/
theorem pt_val {e : Expr} {t : TE} (h : PE X e t) (he : ∀ whole, isTrue e X.env whole = (do let v ← whole; standAt e.pos; holding [v] (truthy v)) := by intro _; rfl) : PT X e (tB t) := by
  intro pins s σ H Q I hw
  refine isTrue_plain (thn (h pins s σ H _ I hw) fun v s1 ⟨x, H1, I1, r1, q1⟩ => ?_) (he _)
  obtain ⟨d, rfl, q⟩ := q1
  cases r1
  exact wpAny_truthy_bool ⟨H1, I1, q⟩

/-! ### and, or, not -/
variable {tA tB' : TT} {rest : List Expr}
def tAnd (t u : TT) : TT := fun σ H Q => t σ H fun c H1 => if c = true then u σ H1 Q else Q false H1
def tOr (t u : TT) : TT := fun σ H Q => t σ H fun c H1 => if c = true then Q true H1 else u σ H1 Q
def tNot (t : TT) : TT := fun σ H Q => t σ H fun c H1 => Q (!c) H1
theorem pw_and1 (ha : PT X a tA) : PW X (.BoolOp .And [a] pos) tA := by
  intro wh pins s σ H Q I h
  refine isTrue_and (thn (ha pins s σ H Q I h) fun c s1 e => ?_)
  cases c with
  | true => exact isTrue_and_nil e
  | false => exact e
theorem pw_or1 (ha : PT X a tA) : PW X (.BoolOp .Or [a] pos) tA := by
  intro wh pins s σ H Q I h
  refine isTrue_or (thn (ha pins s σ H Q I h) fun c s1 e => ?_)
  cases c with
  | false => exact isTrue_or_nil e
  | true => exact e
theorem pw_and (ha : PT X a tA) (hb : PW X (.BoolOp .And (b :: rest) pos) tB') : PW X (.BoolOp .And (a :: b :: rest) pos) (tAnd tA tB') := by
  intro wh pins s σ H Q I h
  refine isTrue_and (thn (ha pins s σ H _ I h) fun c s1 ⟨H1, I1, q1⟩ => ?_)
  cases c with
  | true => exact hb wh pins s1 σ H1 Q I1 q1
  | false => exact ⟨H1, I1, q1⟩
theorem pw_or (ha : PT X a tA) (hb : PW X (.BoolOp .Or (b :: rest) pos) tB') : PW X (.BoolOp .Or (a :: b :: rest) pos) (tOr tA tB') := by
  intro wh pins s σ H Q I h
  refine isTrue_or (thn (ha pins s σ H _ I h) fun c s1 ⟨H1, I1, q1⟩ => ?_)
  cases c with
  | true => exact ⟨H1, I1, q1⟩
  | false => exact hb wh pins s1 σ H1 Q I1 q1
theorem pt_not (ha : PT X a tA) : PT X (.UnaryOp .Not a pos) (tNot tA) := by
  intro pins s σ H Q I h
  exact isTrue_not (ha pins s σ H (fun c H1 => Q (!c) H1) I h)
/-- .. as values (bools) -/
def tAndV (ta tb : TE) : TE := fun σ H Q => ta σ H fun x H1 => ∃ c, x = .bl c ∧ if c = true then tb σ H1 Q else Q (.bl false) H1
def tOrV (ta tb : TE) : TE := fun σ H Q => ta σ H fun x H1 => ∃ c, x = .bl c ∧ if c = true then Q (.bl true) H1 else tb σ H1 Q
def tNotV (ta : TE) : TE := fun σ H Q => ta σ H fun x H1 => ∃ c, x = .bl c ∧ Q (.bl (!c)) H1
theorem pe_one {op} {t : TE} (h : PE X a t) : PE X (.BoolOp op [a] pos) t := fun pins s σ H Q I hw => BoolOp_one (h pins s σ H Q I hw)
theorem pe_and (ha : PE X a ta) (hb : PE X (.BoolOp .And (b :: rest) pos) tb) : PE X (.BoolOp .And (a :: b :: rest) pos) (tAndV ta tb) := by
  intro pins s σ H Q I h
  refine BoolOp_and (thn (ha pins s σ H _ I h) fun v s1 ⟨x, H1, I1, r1, q1⟩ => ?_)
  obtain ⟨c, rfl, q1⟩ := q1
  cases r1
  refine wpAny_truthy_bool ?_
  cases c with
  | true => exact hb pins s1 σ H1 Q I1 q1
  | false => exact ⟨.bl false, H1, I1, rfl, q1⟩
theorem pe_not (ha : PE X a ta) : PE X (.UnaryOp .Not a pos) (tNotV ta) := by
  intro pins s σ H Q I h
  refine UnaryOp_ (thn (ha pins s σ H _ I h) fun v s1 ⟨x, H1, I1, r1, q1⟩ => ?_)
  obtain ⟨c, rfl, q1⟩ := q1
  cases r1
  exact not_of (wpAny_truthy_bool ⟨.bl (!c), H1, I1, rfl, q1⟩)
/-- a if t else b -/
def tIf (t : TT) (ta tb : TE) : TE := fun σ H Q => t σ H fun c H1 => if c = true then ta σ H1 Q else tb σ H1 Q
end
end L2

namespace L2
open PySem PySem.Spec PyProof.Rows

/-! ### a list, a tuple that is read: tracked, frozen, or an object of the module -/
def SqL (K : PySem.W.Frag) (H : Hp) (a : Addr) (xs : List V) : Prop :=
  Rd H a (.lst xs) ∨
    ∃ (o : Obj) (its : Array Value) (n : Nat), K.lookup a = some o ∧ o.cls = .type "list" ∧ o.dict = none ∧ o.data = .seq its n ∧ its.size ≤ sizeLine ∧ Vals xs its.toList
def SqT (K : PySem.W.Frag) (H : Hp) (a : Addr) (xs : List V) : Prop :=
  Rd H a (.tup xs) ∨
    ∃ (o : Obj) (its : Array Value) (n : Nat), K.lookup a = some o ∧ o.cls = .type "tuple" ∧ o.data = .seq its n ∧ its.size ≤ sizeLine ∧ Vals xs its.toList
def absV : Value → Option V
  | .none => some .non
  | .bool b => some (.bl b)
  | .int i _ => some (.int i)
  | .str x _ => some (.str x)
  | .bytes b _ => some (.byt b)
  | .float b _ => some (.flt b)
  | .ref a => some (.ref a)
  | .type n => some (.ty n)
  | _ => none
theorem RelV.abs {x : V} {u : Value} (r : RelV x u) : absV u = some x := by
  cases x with
  | non => cases r; rfl
  | bl _ => cases r; rfl
  | int _ => obtain ⟨t, rfl⟩ := r; rfl
  | str _ => obtain ⟨t, rfl⟩ := r; rfl
  | byt _ => obtain ⟨t, rfl⟩ := r; rfl
  | flt _ => obtain ⟨t, rfl⟩ := r; rfl
  | ref _ => cases r; rfl
  | ty _ => cases r; rfl
theorem RelV.inj {x y : V} {u : Value} (r : RelV x u) (q : RelV y u) : x = y := Option.some.inj (r.abs.symm.trans q.abs)
theorem Vals.inj : ∀ {xs ys : List V} {us : List Value}, Vals xs us → Vals ys us → xs = ys
  | _, _, _, .nil, .nil => rfl
  | _, _, _, .cons r t, .cons r' t' => by rw [r.inj r', Vals.inj t t']
section
variable {X : Cx} {pins : List (Addr × Obj)} {σ : St} {H : Hp} {s : Shared} {a : Addr} {xs ys : List V}
theorem SqL.of {K : PySem.W.Frag} (h : H a = some (.lst xs)) : SqL K H a xs := .inl (.inl h)
theorem SqT.of {K : PySem.W.Frag} (h : H a = some (.tup xs)) : SqT K H a xs := .inl (.inl h)
theorem Inv.list (I : Inv X pins σ H s) (h : SqL X.K H a xs) : ∃ its : List Value, Vals xs its ∧ PlainL s.heap a its.toArray ∧ xs.length ≤ sizeLine := by
  rcases h with h | ⟨o, its, n, hk, hc, hd, hs, hz, r⟩
  · obtain ⟨z, its, n, r, e⟩ := h.ok I.hok
    exact ⟨its, r, ⟨_, n, e, rfl, rfl, rfl⟩, z⟩
  · refine ⟨its.toList, r, ⟨o, n, I.kIn a o hk, hc, hd, by simpa using hs⟩, ?_⟩
    have e := r.length
    simp only [Array.length_toList] at e
    omega
theorem Inv.tuple (I : Inv X pins σ H s) (h : SqT X.K H a xs) : ∃ its : List Value, Vals xs its ∧ IsTup s.heap a its.toArray ∧ xs.length ≤ sizeLine := by
  rcases h with h | ⟨o, its, n, hk, hc, hs, hz, r⟩
  · obtain ⟨z, its, r, p⟩ := h.ok I.hok
    exact ⟨its, r, p, z⟩
  · refine ⟨its.toList, r, ⟨o, I.kIn a o hk, hc, n, by simpa using hs⟩, ?_⟩
    have e := r.length
    simp only [Array.length_toList] at e
    omega
theorem Inv.list_inj (I : Inv X pins σ H s) (h : SqL X.K H a xs) (h' : SqL X.K H a ys) : xs = ys := by
  obtain ⟨its, r, ⟨o, n, e, _, _, d⟩, _⟩ := I.list h
  obtain ⟨its', r', ⟨o', n', e', _, _, d'⟩, _⟩ := I.list h'
  rw [e] at e'; cases e'
  rw [d] at d'
  injection d' with d1 _
  have : its = its' := by simpa using congrArg Array.toList d1
  subst this
  exact r.inj r'
theorem Inv.tuple_inj (I : Inv X pins σ H s) (h : SqT X.K H a xs) (h' : SqT X.K H a ys) : xs = ys := by
  obtain ⟨its, r, ⟨o, e, _, n, d⟩, _⟩ := I.tuple h
  obtain ⟨its', r', ⟨o', e', _, n', d'⟩, _⟩ := I.tuple h'
  rw [e] at e'; cases e'
  rw [d] at d'
  injection d' with d1 _
  have : its = its' := by simpa using congrArg Array.toList d1
  subst this
  exact r.inj r'
end

/-! ### another wish about exceptions -/
abbrev Cx.wish (X : Cx) (E : Value → Shared → Prop) : Cx := { X with xe := E }
/-- no exception leaves -/
abbrev Cx.nox (X : Cx) : Cx := X.wish fun _ _ => False
theorem Cx.Ok.wish {X : Cx} (ok : X.Ok) (E : Value → Shared → Prop) : (X.wish E).Ok :=
  ⟨ok.mod, ok.kind, ok.glob, ok.blt, ok.above, ok.inj, ok.has, ok.cab, ok.hd, ok.frames, ok.stk, ok.exf, ok.bs, ok.bsz, ok.noex, ok.exfs, ok.funs, ok.frf⟩
theorem Cx.Ok.unwish {X : Cx} {E : Value → Shared → Prop} (ok : (X.wish E).Ok) : X.Ok :=
  ⟨ok.mod, ok.kind, ok.glob, ok.blt, ok.above, ok.inj, ok.has, ok.cab, ok.hd, ok.frames, ok.stk, ok.exf, ok.bs, ok.bsz, ok.noex, ok.exfs, ok.funs, ok.frf⟩
section
variable {X : Cx} {pins : List (Addr × Obj)} {σ : St} {H : Hp} {s : Shared} {E : Value → Shared → Prop}
theorem Inv.wish (I : Inv X pins σ H s) (E : Value → Shared → Prop) : Inv (X.wish E) pins σ H s := ⟨I.ok.wish E, I.os, I.bare, I.base, I.loc, I.cell, I.free, I.freeC, I.pin, I.hok, I.len⟩
theorem Inv.unwish (I : Inv (X.wish E) pins σ H s) : Inv X pins σ H s := ⟨I.ok.unwish, I.os, I.bare, I.base, I.loc, I.cell, I.free, I.freeC, I.pin, I.hok, I.len⟩
theorem SP.unwish {D : Ends} {f : Flow} {s' : Shared} (h : SP (X.wish E) pins D f s') : SP X pins D f s' := by
  cases f with
  | next => obtain ⟨σ', H', I, q⟩ := h; exact ⟨σ', H', I.unwish, q⟩
  | brk => obtain ⟨σ', H', I, q⟩ := h; exact ⟨σ', H', I.unwish, q⟩
  | cont => obtain ⟨σ', H', I, q⟩ := h; exact ⟨σ', H', I.unwish, q⟩
  | ret u => obtain ⟨v, σ', H', I, r, q⟩ := h; exact ⟨v, σ', H', I.unwish, r, q⟩
theorem PSs.nox {st : List Stmt} {t : TS} (h : PSs X.nox st t) : PSs X st t := fun pins s σ H D I hw =>
  wpAny_mono (h pins s σ H D (I.wish _) hw) (fun _ _ q => q.unwish) fun _ _ z => False.elim z
end

/-! ### blocks and small statements -/
section
variable {X : Cx} {st : Stmt} {rest : List Stmt} {t u : TS} {e : Expr} {te : TE} {pos : Pos}
def tNext : TS := fun D σ H => D.nx σ H
def tSeq (t u : TS) : TS := fun D σ H => t { D with nx := u D } σ H
theorem pss_nil : PSs X [] tNext := fun _ _ σ H _ I h => wpAny_execs_nil ⟨σ, H, I, h⟩
theorem pss_cons (h1 : PS X st t) (h2 : PSs X rest u) : PSs X (st :: rest) (tSeq t u) := by
  intro pins s σ H D I h
  refine wpAny_execs_cons (thn (h1 pins s σ H { D with nx := u D } I h) fun f s1 q => ?_)
  cases f with
  | next =>
    obtain ⟨σ', H', I', q⟩ := q
    exact h2 pins s1 σ' H' D I' q
  | ret v => exact q
  | brk => exact q
  | cont => exact q
theorem pss_one (h1 : PS X st t) : PSs X [st] t := by
  intro pins s σ H D I h
  refine wpAny_execs_cons (thn (h1 pins s σ H D I h) fun f s1 q => ?_)
  cases f with
  | next => exact wpAny_execs_nil q
  | ret v => exact q
  | brk => exact q
  | cont => exact q
def tBreak : TS := fun D σ H => D.bk σ H
def tCont : TS := fun D σ H => D.ct σ H
theorem ps_continue : PS X (.Continue pos) tCont := fun _ _ σ H _ I h => wpAny_Continue ⟨σ, H, I, h⟩
/-- in a def's body nothing is shown -/
theorem Inv.quiet {pins : List (Addr × Obj)} {σ : St} {H : Hp} {s : Shared} (I : Inv X pins σ H s) : interactive X.env = false := by simp [interactive, I.ok.kind]
/-- an expression whose value is dropped -/
def tDrop (te : TE) : TS := fun D σ H => te σ H fun _ H1 => D.nx σ H1
theorem ps_expr (he : PE X e te) (hs : swapsWith e none pos.line X.env = pure false := by rfl) : PS X (.Expr e pos) (tDrop te) := by
  intro pins s σ H D I h
  exact wpAny_Expr_any (thn (he pins s σ H _ I h) fun v s1 ⟨x, H1, I1, r1, q1⟩ => ⟨σ, H1, I1, q1⟩) I.quiet hs
def tRet (te : TE) : TS := fun D σ H => te σ H D.rt
theorem ps_ret (he : PE X e te) : PS X (.Return (some e) pos) (tRet te) := by
  intro pins s σ H D I h
  exact wpAny_Return_some (thn (he pins s σ H _ I h) fun v s1 ⟨x, H1, I1, r1, q1⟩ => ⟨x, σ, H1, I1, r1, q1⟩)
def tRetN : TS := fun D _ H => D.rt .non H
def tIfS (c : TT) (t u : TS) : TS := fun D σ H => c σ H fun b H1 => if b = true then t D σ H1 else u D σ H1
theorem ps_if {c : Expr} {a b : List Stmt} {tc : TT} (hc : PT X c tc) (ha : PSs X a t) (hb : PSs X b u) : PS X (.If c a b pos) (tIfS tc t u) := by
  intro pins s σ H D I h
  refine wpAny_If (thn (hc pins s σ H _ I h) fun d s1 ⟨H1, I1, q1⟩ => ?_)
  cases d with
  | true => exact ha pins s1 σ H1 D I1 q1
  | false => exact hb pins s1 σ H1 D I1 q1
/-- code that the proof never comes to -/
def tNever : TS := fun _ _ _ => False
end

/-! ### targets -/
abbrev TG := V → St → Hp → (St → Hp → Prop) → Prop
abbrev TGs := List V → St → Hp → (St → Hp → Prop) → Prop
def PG (X : Cx) (target : Expr) (t : TG) : Prop :=
  ∀ (pins : List (Addr × Obj)) (s : Shared) (σ : St) (H : Hp) (v : V) (u : Value) (Q : St → Hp → Prop), Inv X pins σ H s → RelV v u → t v σ H Q →
    wpAny (model X.prog X.w) X.A (assign target X.env u) (fun _ s' => ∃ σ' H', Inv X pins σ' H' s' ∧ Q σ' H') X.xe s
/-- several targets, one after another -/
def PGs (X : Cx) (ts : List Expr) (t : TGs) : Prop :=
  ∀ (pins : List (Addr × Obj)) (s : Shared) (σ : St) (H : Hp) (vs : List V) (us : List Value) (Q : St → Hp → Prop), Inv X pins σ H s → Vals vs us → t vs σ H Q →
    wpAny (model X.prog X.w) X.A (assignInOrder ((assignEach ts X.env).map (·.2)) us) (fun _ s' => ∃ σ' H', Inv X pins σ' H' s' ∧ Q σ' H') X.xe s
/-- o[i] = v, by values -/
abbrev TSet := V → V → V → Hp → (Hp → Prop) → Prop
def PSet (X : Cx) (t : TSet) : Prop :=
  ∀ (pins : List (Addr × Obj)) (s : Shared) (σ : St) (H : Hp) (o i v : V) (ov iv u : Value) (Q : Hp → Prop), Inv X pins σ H s → RelV o ov → RelV i iv → RelV v u → t o i v H Q →
    wpAny (model X.prog X.w) X.A (setItem ov iv u) (fun _ s' => ∃ H', Inv X pins σ H' s' ∧ Q H') X.xe s
/-- a op= b, by values -/
abbrev TIp := V → V → Hp → VK → Prop
def PIp (X : Cx) (op : Operator) (t : TIp) : Prop :=
  ∀ (pins : List (Addr × Obj)) (s : Shared) (σ : St) (H : Hp) (x y : V) (v u : Value) (Q : VK), Inv X pins σ H s → RelV x v → RelV y u → t x y H Q →
    wpAny (model X.prog X.w) X.A (inplaceOp op v u) (EP X pins σ Q) X.xe s
section
variable {X : Cx} {pos : Pos}
def gName (i : Nat) : TG := fun v σ H Q => Q (σ.set i (some v)) H
theorem pg_name {i : Nat} {x : Str} (hN : X.N.Nodup) (hi : X.N[i]? = some x) (hx : Loc X.env.scope x) (hf : X.fn x = true ∨ X.env.scope.names.lookup x = some .local := by first | exact .inl rfl | exact .inr rfl | assumption) : PG X (.Name x pos) (gName i) := by
  intro pins s σ H v u Q I r h
  exact wpAny_assign_Name (store_ok I hN hi hx r (fun s' I' => ⟨_, H, I', h⟩) hf)
def gNil : TGs := fun vs σ H Q => vs = [] ∧ Q σ H
def gCons (t : TG) (u : TGs) : TGs := fun vs σ H Q => ∃ v r, vs = v :: r ∧ t v σ H fun σ' H' => u r σ' H' Q
theorem pgs_nil : PGs X [] gNil := by
  intro pins s σ H vs us Q I r h
  obtain ⟨e, h⟩ := h
  subst e
  cases r
  exact assignInOrder_nil ⟨σ, H, I, h⟩
theorem pgs_cons {e : Expr} {es : List Expr} {t : TG} {u : TGs} (h1 : PG X e t) (h2 : PGs X es u)
    (hs : (assignEach (e :: es) X.env).map (·.2) = assign e X.env :: (assignEach es X.env).map (·.2) := by rfl) : PGs X (e :: es) (gCons t u) := by
  intro pins s σ H vs us Q I r h
  obtain ⟨v, vr, e1, h⟩ := h
  subst e1
  cases r with
  | cons r rr =>
    rw [hs]
    refine assignInOrder_cons (thn (h1 pins s σ H _ _ _ I r h) fun _ s1 ⟨σ1, H1, I1, q1⟩ => ?_)
    exact h2 pins s1 σ1 H1 _ _ Q I1 rr q1
/-- (a, b, ..) = a tuple of that length -/
def gTup (K : PySem.W.Frag) (n : Nat) (t : TGs) : TG := fun v σ H Q => ∃ a xs, v = .ref a ∧ SqT K H a xs ∧ xs.length = n ∧ t xs σ H Q
theorem pg_tup {es : List Expr} {k : Nat} {t : TGs} {n : Nat} (hc : X.calm = true) (h : PGs X es t)
    (hn : (assignEach es X.env).length = n := by rfl) (hst : (assignEach es X.env).findIdx? (·.1) = none := by rfl) : PG X (.Tuple es k pos) (gTup X.K n t) := by
  intro pins s σ H v u Q I r hw
  obtain ⟨a, xs, e1, hq, hl, hw⟩ := hw
  subst e1
  cases r
  obtain ⟨its, rv, ht, hz⟩ := I.tuple hq
  refine assign_Tuple_tuple (I.ok.hd hc) ht (by simp [hn, ← hl, rv.length]) hst fun h' hx => ?_
  have I1 : Inv X pins σ H { s with heap := h' } := I.kept (t' := s.toks) fun b o e => hx b o (Nat.ne_of_lt (Heap.lt_size e)) e
  exact h pins _ σ H xs _ Q I1 (by simpa using rv) hw
/-- o[i] = .. -/
def gSub (to ti : TE) (t : TSet) : TG := fun v σ H Q => to σ H fun o H1 => ti σ H1 fun i H2 => t o i v H2 fun H3 => Q σ H3
theorem pg_sub {o i : Expr} {to ti : TE} {t : TSet} (ho : PE X o to) (hi : PE X i ti) (hs : PSet X t)
    (ha : ∀ v, assign (.Subscript o i pos) X.env v = (do
      let ov ← holding [v] (eval o X.env)
      let iv ← holding [v, ov] (eval i X.env)
      standAt pos
      holding [v, ov, iv] (setItem ov iv v)
      release [v, ov, iv] []) := by intro _; rfl) : PG X (.Subscript o i pos) (gSub to ti t) := by
  intro pins s σ H v u Q I r h
  rw [ha]
  refine wpAny_bind (wpAny_holding (thn (ho pins s σ H _ I h) fun ov s1 ⟨x, H1, I1, r1, q1⟩ => ?_))
  refine wpAny_bind (wpAny_holding (thn (hi pins s1 σ H1 _ I1 q1) fun iv s2 ⟨y, H2, I2, r2, q2⟩ => ?_))
  refine wpAny_bind (wpAny_standAt (wpAny_bind (wpAny_holding (thn (hs pins s2 σ H2 x y v ov iv u _ I2 r1 r2 r q2) fun _ s3 ⟨H3, I3, q3⟩ => ?_))))
  exact wpAny_release ⟨σ, H3, I3, q3⟩
/-- target = value -/
def tAsg (te : TE) (g : TG) : TS := fun D σ H => te σ H fun x H1 => g x σ H1 D.nx
theorem ps_asg {tg e : Expr} {te : TE} {g : TG} (he : PE X e te) (hg : PG X tg g) (hs : swapsWithSole [tg] e pos.line X.env = pure false := by rfl) (hw : swappedStores [tg] e X.env = pure none := by rfl)
    (h1 : (assignEach [tg] X.env).map (·.2) = [assign tg X.env] := by rfl) : PS X (.Assign [tg] e pos) (tAsg te g) := by
  intro pins s σ H D I h
  refine wpAny_Assign_stores (thn (he pins s σ H _ I h) fun v s1 ⟨x, H1, I1, r1, q1⟩ => ?_) hs hw
  rw [h1]
  exact thn (hg pins s1 σ H1 x v _ I1 r1 q1) fun _ s2 q => q
/-- name = value -/
theorem ps_set {i : Nat} {x : Str} {e : Expr} {te : TE} {pos' : Pos} (hN : X.N.Nodup) (hi : X.N[i]? = some x) (hx : Loc X.env.scope x) (he : PE X e te) (hs : swapsWith e (some (.Name x pos')) pos.line X.env = pure false := by rfl) (hf : X.fn x = true ∨ X.env.scope.names.lookup x = some .local := by first | exact .inl rfl | exact .inr rfl | assumption) :
    PS X (.Assign [.Name x pos'] e pos) (tAsg te (gName i)) := by
  intro pins s σ H D I h
  refine wpAny_Assign_Name (thn (he pins s σ H _ I h) fun v s1 ⟨y, H1, I1, r1, q1⟩ => ?_) hs
  exact store_ok I1 hN hi hx r1 (fun s2 I2 => ⟨_, H1, I2, q1⟩) hf
/-- a, b = x, y with plain local names: stored from the right; the pair itself is not tracked (the opening rows as in PyProof/Rows/TupAssign.lean:23) -/
def tPar (i j : Nat) (ta : TA) : TS := fun D σ H => ta σ H fun vs H1 => ∃ v w, vs = [v, w] ∧ D.nx ((σ.set i (some v)).set j (some w)) H1
/-- name op= e -/
def tAug (i : Nat) (te : TE) (ti : TIp) : TS := fun D σ H => ∃ x, σ[i]? = some (some x) ∧ te σ H fun y H1 => ti x y H1 fun z H2 => D.nx (σ.set i (some z)) H2
theorem ps_aug {i : Nat} {x : Str} {e : Expr} {te : TE} {op : Operator} {ti : TIp} {pos' : Pos} (hN : X.N.Nodup) (hi : X.N[i]? = some x) (hx : Loc X.env.scope x) (he : PE X e te) (ho : PIp X op ti) (hf : X.fn x = true ∨ X.env.scope.names.lookup x = some .local := by first | exact .inl rfl | exact .inr rfl | assumption) :
    PS X (.AugAssign (.Name x pos') op e pos) (tAug i te ti) := by
  intro pins s σ H D I h
  obtain ⟨v, e1, h⟩ := h
  obtain ⟨m, hn, hl⟩ := I.loc
  have vis : Vis X.env.scope x := by rcases hx with k | k; exact .inl k; exact .inr (.inl k)
  obtain ⟨u, r, l⟩ := hl i x v hi e1 vis
  refine wpAny_AugAssign_Name ?_
  have go : wpAny (model X.prog X.w) X.A (eval e X.env) (fun w s₂ => wpAny (model X.prog X.w) X.A (inplaceOp op u w) (fun r s₃ => wpAny (model X.prog X.w) X.A (storeName X.env x r) (fun _ => SP X pins D .next) X.xe s₃) X.xe s₂) X.xe s := by
    refine thn (he pins s σ H _ I h) fun w s1 ⟨y, H1, I1, r1, q1⟩ => ?_
    refine thn (ho pins s1 σ H1 v y u w _ I1 r r1 q1) fun z s2 ⟨zv, H2, I2, r2, q2⟩ => ?_
    exact store_ok I2 hN hi hx r2 (fun s3 I3 => ⟨_, H2, I3, q2⟩) hf
  rcases l with ⟨hk, hm⟩ | ⟨hk, c, hc, hcell⟩
  · exact wpAny_loadName_local I.ok.kind hk hn hm go
  · rcases hk with hk | hk
    · exact wpAny_loadName_cell I.ok.kind hk hc hcell go
    · rcases hx with k | k
      · have : X.env.scope.names.lookup x = some .free := hk
        rw [k] at this; cases this
      · have : X.env.scope.names.lookup x = some .free := hk
        rw [k] at this; cases this
/-- o[i] op= e -/
def tAugS (to ti te : TE) (tget : V → V → Hp → VK → Prop) (tip : TIp) (tset : TSet) : TS := fun D σ H => to σ H fun o H1 => ti σ H1 fun i H2 => tget o i H2 fun x H3 => te σ H3 fun y H4 => tip x y H4 fun z H5 => tset o i z H5 fun H6 => D.nx σ H6
/-- o[i], by values -/
def PGet (X : Cx) (t : V → V → Hp → VK → Prop) : Prop :=
  ∀ (pins : List (Addr × Obj)) (s : Shared) (σ : St) (H : Hp) (o i : V) (ov iv : Value) (Q : VK), Inv X pins σ H s → RelV o ov → RelV i iv → t o i H Q →
    wpAny (model X.prog X.w) X.A (getItem ov iv) (EP X pins σ Q) X.xe s
/-- ints -/
def ipI (f : Int → Int → Int) : TIp := fun x y H Q => ∃ i j, x = .int i ∧ y = .int j ∧ Q (.int (f i j)) H
theorem ip_add : PIp X .Add (ipI fun i j => i + j) := by
  intro pins s σ H x y v u Q I r1 r2 h
  obtain ⟨i, j, e1, e2, q⟩ := h
  subst e1; subst e2
  obtain ⟨t, rfl⟩ := r1
  obtain ⟨t', rfl⟩ := r2
  exact iadd_int ⟨.int _, H, I.tok _, ⟨_, rfl⟩, q⟩
end

/-! ### while -/
section
variable {X : Cx} {pos : Pos}
/-- the invariant W with its measure -/
def tWhile (c : TT) (tb : TS) : TS := fun D σ H => ∃ W : Nat → St → Hp → Prop, (∃ m, W m σ H) ∧ ∀ m σ H, W m σ H →
  c σ H fun b H1 => if b = true then ∃ N : St → Hp → Prop, (∀ σ' H', N σ' H' → ∃ m', m' < m ∧ W m' σ' H') ∧ tb { D with nx := N, ct := N, bk := D.nx } σ H1 else D.nx σ H1
theorem ps_while {c : Expr} {body : List Stmt} {tc : TT} {tb : TS} (hp : PassesOwn (model X.prog X.w) X.A X.env X.xe) (hc : PT X c tc) (hb : PSs X body tb) : PS X (.While c body [] pos) (tWhile tc tb) := by
  intro pins s σ H D I h
  obtain ⟨W, ⟨m0, w0⟩, turn⟩ := h
  refine wpAny_While (codeAny_whileLoop (fun n s' => ∃ σ' H', Inv X pins σ' H' s' ∧ W n σ' H') ?_ m0 ⟨σ, H, I, w0⟩)
  rintro n s1 ⟨σ1, H1, I1, w1⟩
  refine wpAny_passesOwn hp (thn (hc pins s1 σ1 H1 _ I1 (turn n σ1 H1 w1)) fun b s2 ⟨H2, I2, q2⟩ => ?_)
  cases b with
  | true =>
    obtain ⟨N, hN, q2⟩ := q2
    rw [if_pos rfl]
    refine wpAny_passesOwn hp (thn (hb pins s2 σ1 H2 _ I2 q2) fun f s3 q3 => ?_)
    cases f with
    | next =>
      obtain ⟨σ3, H3, I3, n3⟩ := q3
      obtain ⟨m', hm, w3⟩ := hN σ3 H3 n3
      exact ⟨m', hm, σ3, H3, I3, w3⟩
    | cont =>
      obtain ⟨σ3, H3, I3, n3⟩ := q3
      obtain ⟨m', hm, w3⟩ := hN σ3 H3 n3
      exact ⟨m', hm, σ3, H3, I3, w3⟩
    | brk => exact q3
    | ret v => exact q3
  | false =>
    rw [if_neg Bool.false_ne_true]
    exact wpAny_execs_nil ⟨σ1, H2, I2, q2⟩
end

/-! ### what a loop or a comprehension walks -/
/-- at turn i: it yields x (the heap may grow), or it stops -/
structure It where
  go : Nat → Hp → Prop
  yld : Nat → Hp → V → Hp → Prop
  stop : Nat → Hp → Prop
/-- the iterator's own objects may turn: they are not the frame's, not pinned, younger than the entry (or a comprehension's own) -/
def FpOk (X : Cx) (pins : List (Addr × Obj)) (H : Hp) (b : Addr) : Prop :=
  H b = none ∧ b ≠ X.env.locals ∧ b ∉ X.fs ∧ (b ∈ X.ex ∨ X.s₀.heap.objs.size ≤ b) ∧ (∀ x c, X.env.cells.lookup x = some c → c ≠ b) ∧ ∀ p ∈ X.pn ++ pins, p.1 ≠ b
theorem Inv.fpOk {X : Cx} {pins : List (Addr × Obj)} {σ : St} {H H' : Hp} {s : Shared} {b : Addr} (I : Inv X pins σ H s) (hb : s.heap.objs.size ≤ b) (hn : H' b = none) : FpOk X pins H' b := by
  refine ⟨hn, Nat.ne_of_gt (Nat.lt_of_lt_of_le I.lt hb), I.nofs hb, .inr (Nat.le_trans I.sz hb), fun x c e z => ?_, fun p hp z => ?_⟩
  · obtain ⟨v, q⟩ := I.cell x c e
    exact absurd (Nat.lt_of_lt_of_le q.lt (by rw [z]; exact hb)) (Nat.lt_irrefl _)
  · exact absurd (Nat.lt_of_lt_of_le (Heap.lt_size (I.pin p hp).1) (by rw [z]; exact hb)) (Nat.lt_irrefl _)
structure Turn (P : Program) (w : World) (K : PySem.W.Frag) (tg : Expr) (J : It) (fp : List Addr) (it : Addr) (tn : Nat → Heap → Prop) : Prop where
  mem : it ∈ fp
  obj : ∀ i h, tn i h → ∀ b ∈ fp, ∃ o, h.get? b = some o ∧ ∀ v, o.data ≠ .cell v
  keep : ∀ i h h', tn i h → (∀ b ∈ fp, ∀ o, h.get? b = some o → h'.get? b = some o) → tn i h'
  item : ∀ (X : Cx), X.prog = P → X.w = w → X.K = K → X.calm = true → ∀ (i : Nat) (pins : List (Addr × Obj)) (s : Shared) (σ : St) (H : Hp) (E : Value → Shared → Prop), Inv X pins σ H s → (∀ b ∈ fp, FpOk X pins H b) → tn i s.heap → J.go i H →
    wpAny (model P w) X.A (pyNext (.ref it)) (fun r s1 => ∃ u, r = some u ∧
      wpAny (model P w) X.A (letOwnedTupleGo tg (.ref it) u) (fun _ s2 => ∃ x H', Inv X pins σ H' s2 ∧ RelV x u ∧ J.yld i H x H' ∧ tn (i + 1) s2.heap ∧ ∀ b ∈ fp, H' b = none) E s1) E s
  done : ∀ (X : Cx), X.prog = P → X.w = w → X.K = K → X.calm = true → ∀ (i : Nat) (pins : List (Addr × Obj)) (s : Shared) (σ : St) (H : Hp) (E : Value → Shared → Prop), Inv X pins σ H s → (∀ b ∈ fp, FpOk X pins H b) → tn i s.heap → J.stop i H →
    wpAny (model P w) X.A (pyNext (.ref it)) (fun r s1 => r = none ∧ Inv X pins σ H s1) E s
  self : ∀ (A : Around) (i : Nat) (s : Shared) (Q : Value → Shared → Prop) (E : Value → Shared → Prop), tn i s.heap → Q (.ref it) s → wpAny (model P w) A (pyIter (.ref it)) Q E s
abbrev TI := St → Hp → (It → Hp → Prop) → Prop
/-- an iterator has come -/
def PIE (X : Cx) (pins : List (Addr × Obj)) (σ : St) (tg : Expr) (R : It → Hp → Prop) (itv : Value) (s2 : Shared) : Prop :=
  ∃ (it : Addr) (fp : List Addr) (tn : Nat → Heap → Prop) (J : It) (H' : Hp), itv = .ref it ∧ Inv X pins σ H' s2 ∧ Turn X.prog X.w X.K tg J fp it tn ∧ tn 0 s2.heap ∧ (∀ b ∈ fp, FpOk X pins H' b) ∧ R J H'
def PI (X : Cx) (tg iter : Expr) (wi : TI) : Prop :=
  ∀ (pins : List (Addr × Obj)) (s : Shared) (σ : St) (H : Hp) (R : It → Hp → Prop), Inv X pins σ H s → wi σ H R →
    wpAny (model X.prog X.w) X.A (eval iter X.env) (fun v s1 => wpAny (model X.prog X.w) X.A (pyIter v) (PIE X pins σ tg R) X.xe s1) X.xe s

/-- the step ahead of the store is nothing for an iterator that keeps no tuple -/
theorem go_of {M : Model} {A : Around} {E : Value → Shared → Prop} {s : Shared} {tg : Expr} {it : Addr} {u : Value} {o : Obj} {n : String} {vs : Array Value} {Q : Unit → Shared → Prop} (ho : s.heap.get? it = some o) (hc : o.cls = .type n) (hd : o.data = .fields vs)
    (hn : ["enumerate", "zip", "dict_itemiterator", "dict_reverseitemiterator", "odict_iterator", "itertools.zip_longest", "itertools.pairwise"].contains n = false) (hQ : Q () s) : wpAny M A (letOwnedTupleGo tg (.ref it) u) Q E s := by
  unfold letOwnedTupleGo
  cases tg <;> first
    | exact wpAny_pure hQ
    | (cases u <;> first
        | exact wpAny_pure hQ
        | (refine wpAny_bind (wpAny_load ho ?_)
           rw [hc, hd]
           show wpAny M A (if (["enumerate", "zip", "dict_itemiterator", "dict_reverseitemiterator", "odict_iterator", "itertools.zip_longest", "itertools.pairwise"].contains n && vs[0]? == some (rawInt _)) = true then _ else _) Q E s
           rw [if_neg (by intro h; rw [hn, Bool.false_and] at h; cases h)]
           exact wpAny_pure hQ))

/-- the list at a, as it stands at each turn (a loop may append to it) -/
def Itl (K : PySem.W.Frag) (a : Addr) : It :=
  ⟨fun i H => ∃ xs x, SqL K H a xs ∧ xs[i]? = some x, fun i H x H' => H' = H ∧ ∀ xs, SqL K H a xs → xs[i]? = some x, fun i H => ∃ xs, SqL K H a xs ∧ xs.length ≤ i⟩
def Itt (K : PySem.W.Frag) (a : Addr) : It :=
  ⟨fun i H => ∃ xs x, SqT K H a xs ∧ xs[i]? = some x, fun i H x H' => H' = H ∧ ∀ xs, SqT K H a xs → xs[i]? = some x, fun i H => ∃ xs, SqT K H a xs ∧ xs.length ≤ i⟩
/-- lo, lo + 1, .. (n of them) -/
def Itr (lo : Int) (n : Nat) : It := ⟨fun i _ => i < n, fun i H x H' => H' = H ∧ x = .int (lo + i), fun i _ => n ≤ i⟩
theorem turn_list {P : Program} {w : World} {K : PySem.W.Frag} {tg : Expr} (a it : Addr) : Turn P w K tg (Itl K a) [it] it (fun i h => h.IsListIter it a i) where
  mem := by simp
  obj := fun i h st b hb => by
    have e : b = it := by simpa using hb
    subst e
    obtain ⟨o, e, c, d⟩ := st
    exact ⟨o, e, fun v z => by rw [d] at z; cases z⟩
  keep := fun i h h' st k => st.at fun o e => k it (by simp) o e
  item := by
    intro X hP hw hK hc i pins s σ H E I hf st hg
    subst hP hw hK
    obtain ⟨xs, x, hq, hx⟩ := hg
    obtain ⟨its, rv, p, hz⟩ := I.list hq
    obtain ⟨u, hu, ru⟩ := rv.get hx
    obtain ⟨f0, f1, f2, f3, f4, f5⟩ := hf it (by simp)
    refine wpAny_pyNext_list_item st p.isList (x := u) (by simpa using hu) fun h' st' sb => ?_
    have I1 : Inv X pins σ H { s with heap := h' } := I.turned (t' := s.toks) (fun b o hb e => (sb.2 b hb).trans e) f0 f1 f3 f4 f5
    obtain ⟨o, e, c, d⟩ := id st'
    exact ⟨u, rfl, go_of (s := { s with heap := h' }) e c d (by decide) ⟨x, H, I1, ru, ⟨rfl, fun ys hy => by rw [I.list_inj hy hq]; exact hx⟩, st', fun b hb => (hf b hb).1⟩⟩
  done := by
    intro X hP hw hK hc i pins s σ H E I hf st hg
    subst hP hw hK
    obtain ⟨xs, hq, hx⟩ := hg
    obtain ⟨its, rv, p, hz⟩ := I.list hq
    obtain ⟨f0, f1, f2, f3, f4, f5⟩ := hf it (by simp)
    have hl := rv.length
    exact wpAny_pyNext_list_end (I.ok.hd hc) st p.isList (by simp; omega) fun h' eb => ⟨rfl, I.turned (t' := s.toks) (fun b o hb e => eb b o hb e) f0 f1 f3 f4 f5⟩
  self := fun _ _ _ _ _ st h => wpAny_pyIter_listiter st h
theorem turn_range {P : Program} {w : World} {K : PySem.W.Frag} {tg : Expr} (it : Addr) (lo : Int) (n : Nat) : Turn P w K tg (Itr lo n) [it] it (fun i h => IsRangeIter h it (lo + (i : Nat) * 1) ((n : Int) - (i : Nat)) 1) where
  mem := by simp
  obj := fun i h st b hb => by
    have e : b = it := by simpa using hb
    subst e
    exact ⟨_, st, fun v z => by
      have z' : Data.fields _ = Data.cell v := z
      cases z'⟩
  keep := fun i h h' st k => k it (by simp) _ st
  item := by
    intro X hP hw hK hc i pins s σ H E I hf st hg
    subst hP hw hK
    obtain ⟨f0, f1, f2, f3, f4, f5⟩ := hf it (by simp)
    have W := Walks.range (prog := X.prog) (w := X.w) (I.ok.hd hc) it lo 1 n
    refine W.item i s _ _ hg st fun v h' tk hv st' kk => ?_
    obtain ⟨t, rfl⟩ := hv
    have I1 : Inv X pins σ H { s with heap := h', toks := tk } := I.turned (fun b o hb e => kk b o (by simpa using hb) e) f0 f1 f3 f4 f5
    refine ⟨_, rfl, go_of (s := { s with heap := h', toks := tk }) (n := "range_iterator") st' rfl rfl (by decide) ⟨.int (lo + i), H, I1, ⟨t, ?_⟩, ⟨rfl, rfl⟩, st', fun b hb => (hf b hb).1⟩⟩
    rw [Int.mul_one]
  done := by
    intro X hP hw hK hc i pins s σ H E I hf st hg
    subst hP hw hK
    obtain ⟨f0, f1, f2, f3, f4, f5⟩ := hf it (by simp)
    exact wpAny_pyNext_range_end (I.ok.hd hc) st (by have : n ≤ i := hg; omega) fun h' eb => ⟨rfl, I.turned (t' := s.toks) (fun b o hb e => eb b o hb e) f0 f1 f3 f4 f5⟩
  self := fun _ _ _ _ _ st h => wpAny_pyIter_rangeiter st h
end L2

namespace L2
open PySem PySem.Spec PyProof.Rows
section
variable {X : Cx} {tg : Expr}
def iList (K : PySem.W.Frag) (tl : TE) : TI := fun σ H R => tl σ H fun x H1 => ∃ a, x = .ref a ∧ (∃ xs, SqL K H1 a xs) ∧ R (Itl K a) H1
def iTup (K : PySem.W.Frag) (tl : TE) : TI := fun σ H R => tl σ H fun x H1 => ∃ a, x = .ref a ∧ (∃ xs, SqT K H1 a xs) ∧ R (Itt K a) H1
theorem pi_list {l : Expr} {tl : TE} (hl : PE X l tl) : PI X tg l (iList X.K tl) := by
  intro pins s σ H R I h
  refine thn (hl pins s σ H _ I h) fun v s1 ⟨x, H1, I1, r1, q1⟩ => ?_
  obtain ⟨a, e, ⟨xs, hq⟩, q⟩ := q1
  subst e
  cases r1
  obtain ⟨its, rv, p, hz⟩ := I1.list hq
  refine wpAny_pyIter_list p.isList ?_
  refine ⟨s1.heap.objs.size, [s1.heap.objs.size], _, _, H1, rfl, I1.kept (t' := s1.toks) fun b o e => Heap.get?_push_of_some _ e, turn_list a _, ⟨_, Heap.get?_push_size _ rfl, rfl, rfl⟩, fun b hb => ?_, q⟩
  have e : b = s1.heap.objs.size := by simpa using hb
  subst e
  exact I1.fpOk (Nat.le_refl _) (I1.hok.fresh (Nat.le_refl _))
/-- a range object just made, walked -/
theorem range_it {pins : List (Addr × Obj)} {σ : St} {H : Hp} {s : Shared} {R : It → Hp → Prop} {E : Value → Shared → Prop} {lo hi : Int} {t u v : Tok} {tk : Nat} (I : Inv X pins σ H s) (h1 : -(2 ^ 62) ≤ lo) (h2 : lo < 2 ^ 62) (h3 : -(2 ^ 62) ≤ hi) (h4 : hi < 2 ^ 62)
    (q : R (Itr lo (hi - lo).toNat) H) : wpAny (model X.prog X.w) X.A (pyIter (.ref s.heap.objs.size)) (PIE X pins σ tg R) E { s with heap := s.heap.push { cls := .type "range", data := .fields #[.int lo t, .int hi u, .int 1 v] }, toks := tk } := by
  refine wpAny_pyIter_range (IsRange.new ..) (small_one h1 h2 h3 h4) ?_
  have I1 : Inv X pins σ H { s with heap := s.heap.push { cls := .type "range", data := .fields #[.int lo t, .int hi u, .int 1 v] }, toks := tk } := I.kept fun b o e => Heap.get?_push_of_some _ e
  refine ⟨(s.heap.push { cls := .type "range", data := .fields #[.int lo t, .int hi u, .int 1 v] }).objs.size, [(s.heap.push { cls := .type "range", data := .fields #[.int lo t, .int hi u, .int 1 v] }).objs.size], _, _, H, rfl,
    I1.kept (t' := tk) fun b o e => Heap.get?_push_of_some _ e, turn_range _ lo (hi - lo).toNat, ?_, fun b hb => ?_, q⟩
  · have e1 : lo + ((0 : Nat) : Int) * 1 = lo := by simp
    have e2 : (((hi - lo).toNat : Nat) : Int) - ((0 : Nat) : Int) = Builtin.Range.rangeSize lo hi 1 := by rw [rangeSize_one]; split <;> omega
    show IsRangeIter _ _ (lo + ((0 : Nat) : Int) * 1) ((((hi - lo).toNat : Nat) : Int) - ((0 : Nat) : Int)) 1
    rw [e1, e2]
    exact Heap.get?_push_size _ rfl
  · have e : b = (s.heap.push { cls := .type "range", data := .fields #[.int lo t, .int hi u, .int 1 v] }).objs.size := by simpa using hb
    subst e
    exact I1.fpOk (Nat.le_refl _) (I1.hok.fresh (Nat.le_refl _))
def iRng1 (ta : TA) : TI := fun σ H R => ta σ H fun vs H1 => ∃ j : Int, vs = [.int j] ∧ -(2 ^ 62) ≤ j ∧ j < 2 ^ 62 ∧ R (Itr 0 j.toNat) H1
def iRng2 (ta : TA) : TI := fun σ H R => ta σ H fun vs H1 => ∃ i j : Int, vs = [.int i, .int j] ∧ (-(2 ^ 62) ≤ i ∧ i < 2 ^ 62 ∧ -(2 ^ 62) ≤ j ∧ j < 2 ^ 62) ∧ R (Itr i (j - i).toNat) H1
theorem pi_range1 {a : Expr} {ta : TA} {p pos : Pos} (hg : Gl X "range") (hm : X.mg "range" = none) (ha : PA X [a] ta) (hs : starEach [a] X.env = [(false, eval a X.env)] := by rfl) : PI X tg (.Call (.Name "range" p) [a] [] pos) (iRng1 ta) := by
  intro pins s σ H R I h
  refine Call_ (ld_blt I hg hm boot_range (PyProof.Rows.callWith_type1 (thn (ha pos pins s σ H _ I h) fun us s1 ⟨vs, H1, I1, r1, q1⟩ => ?_) hs rfl))
  obtain ⟨j, e, q1, q2, q⟩ := q1
  subst e
  cases r1 with
  | cons r rr =>
    cases rr
    obtain ⟨t, rfl⟩ := r
    exact call_range_1 (range_it I1 (by omega) (by omega) q1 q2 (by simpa using q))
/-! ### for -/
/-- W: the invariant by the turn and a measure; N: what the body is to reach -/
def tFor (wi : TI) (g : TG) (tb : TS) : TS := fun D σ H => wi σ H fun J H1 => ∃ W : Nat → Nat → St → Hp → Prop, (∃ m, W 0 m σ H1) ∧ ∀ i m σ H, W i m σ H →
  (J.stop i H ∧ D.nx σ H) ∨ (J.go i H ∧ ∃ N : St → Hp → Prop, (∀ σ' H', N σ' H' → ∃ m', m' < m ∧ W (i + 1) m' σ' H') ∧ ∀ x H', J.yld i H x H' → g x σ H' fun σ2 H2 => tb { D with nx := N, ct := N, bk := D.nx } σ2 H2)
/-- the records at fp as they stand -/
def pinsAt (fp : List Addr) (h : Heap) : List (Addr × Obj) := fp.filterMap fun b => (h.get? b).map fun o => (b, o)
theorem mem_pinsAt {fp : List Addr} {h : Heap} {b : Addr} {o : Obj} (hb : b ∈ fp) (e : h.get? b = some o) : (b, o) ∈ pinsAt fp h := List.mem_filterMap.mpr ⟨b, hb, by rw [e]; rfl⟩
theorem of_pinsAt {fp : List Addr} {h : Heap} {p : Addr × Obj} (hp : p ∈ pinsAt fp h) : p.1 ∈ fp ∧ h.get? p.1 = some p.2 := by
  obtain ⟨b, hb, e⟩ := List.mem_filterMap.mp hp
  cases q : h.get? b with
  | none => rw [q] at e; cases e
  | some o =>
    rw [q] at e
    have e' : (b, o) = p := Option.some.inj e
    subst e'
    exact ⟨hb, q⟩
theorem Inv.pinned {pins : List (Addr × Obj)} {σ : St} {H : Hp} {s : Shared} {fp : List Addr} (I : Inv X pins σ H s) (hf : ∀ b ∈ fp, FpOk X pins H b) (ho : ∀ b ∈ fp, ∃ o, s.heap.get? b = some o ∧ ∀ v, o.data ≠ .cell v) : Inv X (pins ++ pinsAt fp s.heap) σ H s :=
  I.pins_of fun p hp => (List.mem_append.mp hp).elim (fun z => I.pin p (List.mem_append_right _ z)) fun z => by
    obtain ⟨hb, e⟩ := of_pinsAt z
    obtain ⟨f0, f1, f2, _⟩ := hf p.1 hb
    obtain ⟨o, e', d⟩ := ho p.1 hb
    rw [e] at e'; cases e'
    exact ⟨e, f0, f1, f2, d⟩
theorem Inv.unpinned {pins pl : List (Addr × Obj)} {σ : St} {H : Hp} {s : Shared} (I : Inv X (pins ++ pl) σ H s) : Inv X pins σ H s := I.pins_of fun p hp => I.pin p (List.mem_append_right _ (List.mem_append_left _ hp))
theorem ps_for {iter : Expr} {body : List Stmt} {wi : TI} {g : TG} {tb : TS} {pos : Pos} (hp : PassesOwn (model X.prog X.w) X.A X.env X.xe) (hc : X.calm = true) (hi : PI X tg iter wi) (hg : PG X tg g) (hb : PSs X body tb)
    (hs : ∀ x, foldedSetIterable iter X.env x = pure x := by intro _; rfl) : PS X (.For tg iter body [] pos) (tFor wi g tb) := by
  intro pins s σ H D I h
  refine wpAny_For (thn (hi pins s σ H _ I h) fun v s1 h1 => thn h1 fun itv s2 h2 => ?_) hs
  obtain ⟨it, fp, tn, J, H2, e, I2, T, st2, f2, W, ⟨m0, w0⟩, turn⟩ := h2
  subst e
  -- what stays true of the iterator's objects through the loop
  have stat : ∀ {H' : Hp}, (∀ b ∈ fp, H' b = none) → ∀ b ∈ fp, FpOk X pins H' b := fun hn b hb => ⟨hn b hb, (f2 b hb).2⟩
  refine codeAny_forLoop_any (fun n s' => ∃ i σ' H', Inv X pins σ' H' s' ∧ tn i s'.heap ∧ (∀ b ∈ fp, H' b = none) ∧ W i n σ' H') ?_ m0 ⟨0, σ, H2, I2, st2, fun b hb => (f2 b hb).1, w0⟩
  rintro n s3 ⟨i, σ3, H3, I3, st3, fr3, w3⟩
  rcases turn i n σ3 H3 w3 with ⟨stop, qn⟩ | ⟨go, N, hN, step⟩
  · refine wpAny_passesOwn hp (thn (T.done X rfl rfl rfl hc i pins s3 σ3 H3 X.xe I3 (stat fr3) st3 stop) fun r s4 ⟨hr, I4⟩ => ?_)
    subst hr
    exact wpAny_execs_nil ⟨σ3, H3, I4, qn⟩
  · refine wpAny_passesOwn hp (thn (T.item X rfl rfl rfl hc i pins s3 σ3 H3 X.xe I3 (stat fr3) st3 go) fun r s4 ⟨u, hr, h4⟩ => ?_)
    subst hr
    refine wpAny_passesOwn hp (thn h4 fun _ s5 ⟨x, H5, I5, r5, y5, st5, fr5⟩ => ?_)
    have I5' := I5.pinned (stat fr5) (T.obj _ _ st5)
    refine wpAny_passesOwn hp (thn (hg _ s5 σ3 H5 x u _ I5' r5 (step x H5 y5)) fun _ s6 ⟨σ6, H6, I6, q6⟩ => ?_)
    refine wpAny_passesOwn hp (thn (hb _ s6 σ6 H6 _ I6 q6) fun f s7 q7 => ?_)
    have again : ∀ {σ7 : St} {H7 : Hp}, Inv X (pins ++ pinsAt fp s5.heap) σ7 H7 s7 → N σ7 H7 → ∃ m, m < n ∧ ∃ i σ' H', Inv X pins σ' H' s7 ∧ tn i s7.heap ∧ (∀ b ∈ fp, H' b = none) ∧ W i m σ' H' := fun {σ7 H7} I7 n7 => by
      obtain ⟨m', hm, w7⟩ := hN σ7 H7 n7
      refine ⟨m', hm, i + 1, σ7, H7, I7.unpinned, T.keep _ _ _ st5 fun b hb o e => (I7.pin (b, o) (List.mem_append_right _ (List.mem_append_right _ (mem_pinsAt hb e)))).1, fun b hb => ?_, w7⟩
      obtain ⟨o, e, d⟩ := T.obj _ _ st5 b hb
      exact (I7.pin (b, o) (List.mem_append_right _ (List.mem_append_right _ (mem_pinsAt hb e)))).2.1
    cases f with
    | next => obtain ⟨σ7, H7, I7, n7⟩ := q7; exact again I7 n7
    | cont => obtain ⟨σ7, H7, I7, n7⟩ := q7; exact again I7 n7
    | brk => obtain ⟨σ7, H7, I7, q7⟩ := q7; exact ⟨σ7, H7, I7.unpinned, q7⟩
    | ret v => obtain ⟨x7, σ7, H7, I7, r7, q7⟩ := q7; exact ⟨x7, σ7, H7, I7.unpinned, r7, q7⟩
end

/-! ### the forms one uses -/
/-- over a list that the body leaves as it is -/
theorem for_list {K : PySem.W.Frag} {a : Addr} {xs : List V} {g : TG} {tb : TS} {D : Ends} {σ : St} {H : Hp} (Pv : Nat → St → Hp → Prop) (h0 : Pv 0 σ H) (hl : ∀ i σ H, i ≤ xs.length → Pv i σ H → SqL K H a xs)
    (hs : ∀ i x σ H, xs[i]? = some x → Pv i σ H → g x σ H fun σ2 H2 => tb { D with nx := Pv (i + 1), ct := Pv (i + 1), bk := D.nx } σ2 H2) (hd : ∀ σ H, Pv xs.length σ H → D.nx σ H) :
    ∃ W : Nat → Nat → St → Hp → Prop, (∃ m, W 0 m σ H) ∧ ∀ i m σ H, W i m σ H →
      ((Itl K a).stop i H ∧ D.nx σ H) ∨ ((Itl K a).go i H ∧ ∃ N : St → Hp → Prop, (∀ σ' H', N σ' H' → ∃ m', m' < m ∧ W (i + 1) m' σ' H') ∧ ∀ x H', (Itl K a).yld i H x H' → g x σ H' fun σ2 H2 => tb { D with nx := N, ct := N, bk := D.nx } σ2 H2) := by
  refine ⟨fun i m σ H => m = xs.length - i ∧ i ≤ xs.length ∧ Pv i σ H, ⟨xs.length, by simp, Nat.zero_le _, h0⟩, ?_⟩
  rintro i m σ H ⟨rfl, hi, p⟩
  have q := hl i σ H hi p
  by_cases hlt : i < xs.length
  · refine .inr ⟨⟨xs, xs[i], q, by simp [hlt]⟩, Pv (i + 1), fun σ' H' p' => ⟨xs.length - (i + 1), by omega, rfl, hlt, p'⟩, fun x H' y => ?_⟩
    obtain ⟨e, y⟩ := y
    subst e
    exact hs i x σ _ (y xs q) p
  · have e : i = xs.length := by omega
    subst e
    exact .inl ⟨⟨xs, q, Nat.le_refl _⟩, hd σ H p⟩
theorem for_range {lo : Int} {n : Nat} {g : TG} {tb : TS} {D : Ends} {σ : St} {H : Hp} (Pv : Nat → St → Hp → Prop) (h0 : Pv 0 σ H)
    (hs : ∀ i σ H, i < n → Pv i σ H → g (.int (lo + i)) σ H fun σ2 H2 => tb { D with nx := Pv (i + 1), ct := Pv (i + 1), bk := D.nx } σ2 H2) (hd : ∀ σ H, Pv n σ H → D.nx σ H) :
    ∃ W : Nat → Nat → St → Hp → Prop, (∃ m, W 0 m σ H) ∧ ∀ i m σ H, W i m σ H →
      ((Itr lo n).stop i H ∧ D.nx σ H) ∨ ((Itr lo n).go i H ∧ ∃ N : St → Hp → Prop, (∀ σ' H', N σ' H' → ∃ m', m' < m ∧ W (i + 1) m' σ' H') ∧ ∀ x H', (Itr lo n).yld i H x H' → g x σ H' fun σ2 H2 => tb { D with nx := N, ct := N, bk := D.nx } σ2 H2) := by
  refine ⟨fun i m σ H => m = n - i ∧ i ≤ n ∧ Pv i σ H, ⟨n, by simp, Nat.zero_le _, h0⟩, ?_⟩
  rintro i m σ H ⟨rfl, hi, p⟩
  by_cases hlt : i < n
  · refine .inr ⟨hlt, Pv (i + 1), fun σ' H' p' => ⟨n - (i + 1), by omega, rfl, hlt, p'⟩, fun x H' y => ?_⟩
    obtain ⟨e, y⟩ := y
    subst e y
    exact hs i σ _ hlt p
  · have e : i = n := by omega
    subst e
    exact .inl ⟨Nat.le_refl _, hd σ H p⟩
end L2

namespace L2
open PySem PySem.Spec PyProof.Rows

abbrev R2 := V → V → Hp → VK → Prop
/-- a two-place operation on values: f is binaryOp op, inplaceOp op or compareOp op -/
def OpR (X : Cx) (f : Value → Value → Sem Value) (r : R2) : Prop :=
  ∀ (pins : List (Addr × Obj)) (s : Shared) (σ : St) (H : Hp) (x y : V) (v u : Value) (Q : VK), Inv X pins σ H s → RelV x v → RelV y u → r x y H Q →
    wpAny (model X.prog X.w) X.A (f v u) (EP X pins σ Q) X.xe s
/-- a one-place operation -/
def UnR (X : Cx) (f : Value → Sem Value) (r : V → Hp → VK → Prop) : Prop :=
  ∀ (pins : List (Addr × Obj)) (s : Shared) (σ : St) (H : Hp) (x : V) (v : Value) (Q : VK), Inv X pins σ H s → RelV x v → r x H Q →
    wpAny (model X.prog X.w) X.A (f v) (EP X pins σ Q) X.xe s
/-- a call of a value that is known (a builtin, a type) with values -/
def CallR (X : Cx) (f : Value) (r : List V → Hp → VK → Prop) : Prop :=
  ∀ (pins : List (Addr × Obj)) (s : Shared) (σ : St) (H : Hp) (xs : List V) (us : List Value) (Q : VK), Inv X pins σ H s → Vals xs us → r xs H Q →
    wpAny (model X.prog X.w) X.A (call f us) (EP X pins σ Q) X.xe s
/-- a value's truth -/
def TruR (X : Cx) (r : V → Hp → (Bool → Hp → Prop) → Prop) : Prop :=
  ∀ (pins : List (Addr × Obj)) (s : Shared) (σ : St) (H : Hp) (x : V) (v : Value) (Q : Bool → Hp → Prop), Inv X pins σ H s → RelV x v → r x H Q →
    wpAny (model X.prog X.w) X.A (truthy v) (TP X pins σ Q) X.xe s

def tOp (r : R2) (ta tb : TE) : TE := fun σ H Q => ta σ H fun x H1 => tb σ H1 fun y H2 => r x y H2 Q
def tUn (r : V → Hp → VK → Prop) (ta : TE) : TE := fun σ H Q => ta σ H fun x H1 => r x H1 Q
/-- ints in, under C, and a value out -/
def rI (C : Int → Int → Prop) (g : Int → Int → V) : R2 := fun x y H Q => ∃ i j, x = .int i ∧ y = .int j ∧ C i j ∧ Q (g i j) H
def rI0 (g : Int → Int → V) : R2 := fun x y H Q => ∃ i j, x = .int i ∧ y = .int j ∧ Q (g i j) H
def rU (g : Int → V) : V → Hp → VK → Prop := fun x H Q => ∃ i, x = .int i ∧ Q (g i) H

section
variable {X : Cx} {a b c : Expr} {ta tb tc : TE} {pos : Pos}

theorem binT (ha : PE X a ta) (hb : PE X b tb) {pins : List (Addr × Obj)} {s : Shared} {σ : St} {H : Hp} {R : V → V → Hp → Prop} (I : Inv X pins σ H s)
    (h : ta σ H fun x H1 => tb σ H1 fun y H2 => R x y H2) {Q : Value → Shared → Prop} {f : Value → Value → Sem Value}
    (hf : ∀ v u s2 x y H2, Inv X pins σ H2 s2 → RelV x v → RelV y u → R x y H2 → wpAny (model X.prog X.w) X.A (f v u) Q X.xe s2) :
    wpAny (model X.prog X.w) X.A (eval a X.env) (fun v s₁ => wpAny (model X.prog X.w) X.A (eval b X.env) (fun u s₂ => wpAny (model X.prog X.w) X.A (f v u) Q X.xe s₂) X.xe s₁) X.xe s := by
  refine thn (ha pins s σ H _ I h) fun v s1 ⟨x, H1, I1, r1, q1⟩ => ?_
  refine thn (hb pins s1 σ H1 _ I1 q1) fun u s2 ⟨y, H2, I2, r2, q2⟩ => ?_
  exact hf v u s2 x y H2 I2 r1 r2 q2

theorem pe_op {op : Operator} {r : R2} (ho : OpR X (binaryOp op) r) (ha : PE X a ta) (hb : PE X b tb) : PE X (.BinOp a op b pos) (tOp r ta tb) := by
  intro pins s σ H Q I h
  exact wpAny_BinOp (binT ha hb I h fun v u s2 x y H2 I2 rx ry q => ho pins s2 σ H2 x y v u Q I2 rx ry q)
theorem pe_un {op : UnaryOp} {r : V → Hp → VK → Prop} (ho : UnR X (unaryOp op) r) (ha : PE X a ta) : PE X (.UnaryOp op a pos) (tUn r ta) := by
  intro pins s σ H Q I h
  exact UnaryOp_ (thn (ha pins s σ H _ I h) fun v s1 ⟨x, H1, I1, r1, q1⟩ => ho pins s1 σ H1 x v Q I1 r1 q1)
/-! ### ints -/
theorem opI {f : Value → Value → Sem Value} {C : Int → Int → Prop} {g : Int → Int → Int}
    (rule : ∀ (i j : Int) (t u : Tok) (s : Shared) (Q : Value → Shared → Prop) (E : Value → Shared → Prop), C i j → Q (.int (g i j) s.toks) { s with toks := s.toks + 1 } → wpAny (model X.prog X.w) X.A (f (.int i t) (.int j u)) Q E s) :
    OpR X f (rI C fun i j => .int (g i j)) := by
  intro pins s σ H x y v u Q I rx ry h
  obtain ⟨i, j, rfl, rfl, hc, q⟩ := h
  obtain ⟨t, rfl⟩ := rx
  obtain ⟨t', rfl⟩ := ry
  exact rule i j t t' s _ _ hc ⟨.int (g i j), H, I.tok _, ⟨_, rfl⟩, q⟩
theorem opI0 {f : Value → Value → Sem Value} {g : Int → Int → Int}
    (rule : ∀ (i j : Int) (t u : Tok) (s : Shared) (Q : Value → Shared → Prop) (E : Value → Shared → Prop), Q (.int (g i j) s.toks) { s with toks := s.toks + 1 } → wpAny (model X.prog X.w) X.A (f (.int i t) (.int j u)) Q E s) :
    OpR X f (rI0 fun i j => .int (g i j)) := by
  intro pins s σ H x y v u Q I rx ry h
  obtain ⟨i, j, rfl, rfl, q⟩ := h
  obtain ⟨t, rfl⟩ := rx
  obtain ⟨t', rfl⟩ := ry
  exact rule i j t t' s _ _ ⟨.int (g i j), H, I.tok _, ⟨_, rfl⟩, q⟩
theorem opB0 {f : Value → Value → Sem Value} {g : Int → Int → Bool}
    (rule : ∀ (i j : Int) (t u : Tok) (s : Shared) (Q : Value → Shared → Prop) (E : Value → Shared → Prop), Q (.bool (g i j)) s → wpAny (model X.prog X.w) X.A (f (.int i t) (.int j u)) Q E s) :
    OpR X f (rI0 fun i j => .bl (g i j)) := by
  intro pins s σ H x y v u Q I rx ry h
  obtain ⟨i, j, rfl, rfl, q⟩ := h
  obtain ⟨t, rfl⟩ := rx
  obtain ⟨t', rfl⟩ := ry
  exact rule i j t t' s _ _ ⟨.bl (g i j), H, I, rfl, q⟩

def CDiv (i j : Int) : Prop := 0 < j ∧ j < 1073741824
def CDivN (i j : Int) : Prop := j ≠ 0 ∧ j.natAbs < 1073741824
def CPow (i j : Int) : Prop := 0 ≤ j ∧ j ≤ 1000000 ∧ i.natAbs < 2 ^ 64
def CMul (i j : Int) : Prop := (-(2 ^ 64) < i ∧ i < 2 ^ 64) ∨ (-(2 ^ 64) < j ∧ j < 2 ^ 64)
theorem CMul.ok {i j : Int} (h : CMul i j) : IntMulOk i j := by
  rcases h with ⟨h1, h2⟩ | ⟨h1, h2⟩
  · exact .of_left (intBits_le_64 h1 h2)
  · exact .of_right (intBits_le_64 h1 h2)
theorem op_add : OpR X (binaryOp .Add) (rI0 fun i j => .int (i + j)) := opI0 fun _ _ _ _ _ _ _ q => add_int q
theorem op_sub : OpR X (binaryOp .Sub) (rI0 fun i j => .int (i - j)) := opI0 fun _ _ _ _ _ _ _ q => sub_int q
theorem op_mul : OpR X (binaryOp .Mult) (rI CMul fun i j => .int (i * j)) := opI fun _ _ _ _ _ _ _ hc q => mul_int q hc.ok
/-- // by a positive divisor -/
theorem op_fdiv : OpR X (binaryOp .FloorDiv) (rI CDiv fun i j => .int (i / j)) := opI fun i j _ _ _ _ _ hc q => by
  have h1 : (0 : Int) < j := hc.1
  have h2 : j < 1073741824 := hc.2
  exact floordiv_int (by omega) (by rw [Int.fdiv_eq_ediv_of_nonneg i (by omega)]; exact q) (.inl (PyProof.noPylong_small (by omega)))
/-- % by a positive divisor of any size -/
theorem op_mod : OpR X (binaryOp .Mod) (rI (fun _ j => 0 < j) fun i j => .int (i % j)) := opI fun i j _ _ _ _ _ hc q => by
  have h1 : (0 : Int) < j := hc
  exact mod_int' (by omega) (by rw [Int.fmod_eq_emod_of_nonneg i (by omega)]; exact q)
theorem op_pow : OpR X (binaryOp .Pow) (rI CPow fun i j => .int (i ^ j.toNat)) := opI fun _ _ _ _ _ _ _ hc q => pow_int_small hc.1 hc.2.1 hc.2.2 q
theorem op_xor : OpR X (binaryOp .BitXor) (rI0 fun i j => .int (Builtin.bitXor i j)) := opI0 fun _ _ _ _ _ _ _ q => xor_int q

theorem unI {f : Value → Sem Value} {g : Int → Int}
    (rule : ∀ (i : Int) (t : Tok) (s : Shared) (Q : Value → Shared → Prop) (E : Value → Shared → Prop), Q (.int (g i) s.toks) { s with toks := s.toks + 1 } → wpAny (model X.prog X.w) X.A (f (.int i t)) Q E s) :
    UnR X f (rU fun i => .int (g i)) := by
  intro pins s σ H x v Q I rx h
  obtain ⟨i, rfl, q⟩ := h
  obtain ⟨t, rfl⟩ := rx
  exact rule i t s _ _ ⟨.int (g i), H, I.tok _, ⟨_, rfl⟩, q⟩
theorem un_neg : UnR X (unaryOp .USub) (rU fun i => .int (-i)) := unI fun _ _ _ _ _ q => neg_int q
/-! ### bools among ints: n += (a < b) -/
end

/-! ### comparisons -/
/-- the scalars that == tells apart as data does -/
def scal : V → V → Bool
  | .non, .non => true | .non, .int _ => true | .int _, .non => true | .non, .bl _ => true | .bl _, .non => true | .non, .str _ => true | .str _, .non => true
  | .int _, .int _ => true | .bl _, .bl _ => true | .str _, .str _ => true | .byt _, .byt _ => true
  | .int _, .str _ => true | .str _, .int _ => true | .bl _, .str _ => true | .str _, .bl _ => true
  | _, _ => false
def rEq : R2 := fun x y H Q => scal x y = true ∧ Q (.bl (decide (x = y))) H
def rNe : R2 := fun x y H Q => scal x y = true ∧ Q (.bl (!decide (x = y))) H

theorem dec_int {i j : Int} : decide (V.int i = V.int j) = (i == j) := by
  rw [Bool.eq_iff_iff]
  simp
theorem dec_bl {i j : Bool} : decide (V.bl i = V.bl j) = (i == j) := by
  rw [Bool.eq_iff_iff]
  simp
theorem dec_str {i j : Str} : decide (V.str i = V.str j) = (i == j) := by
  rw [Bool.eq_iff_iff]
  simp
theorem dec_byt {i j : Array UInt8} : decide (V.byt i = V.byt j) = (i.toList == j.toList) := by
  rw [Bool.eq_iff_iff]
  cases i
  cases j
  simp

section
variable {X : Cx} {a b c : Expr} {ta tb tc : TE} {pos : Pos}
theorem fin_bl {pins : List (Addr × Obj)} {σ : St} {H : Hp} {s : Shared} {Q : VK} {k k' : Bool} (I : Inv X pins σ H s) (q : Q (.bl k) H) (e : k = k') : EP X pins σ Q (.bool k') s := by
  subst e
  exact ⟨.bl k, H, I, rfl, q⟩
theorem op_eq : OpR X (compareOp .Eq) rEq := by
  intro pins s σ H x y v u Q I rx ry h
  obtain ⟨hs, q⟩ := h
  cases x with
  | non =>
    cases rx
    cases y with
    | non => cases ry; exact PySem.EqNone.eq_none_none (fin_bl I q (by simp))
    | bl j => cases ry; exact PySem.EqNone.eq_none_bool (fin_bl I q (by simp))
    | int j => obtain ⟨t', rfl⟩ := ry; exact PySem.EqNone.eq_none_int (fin_bl I q (by simp))
    | str j => obtain ⟨t', rfl⟩ := ry; exact PySem.EqNone.eq_none_str (fin_bl I q (by simp))
    | _ => exact absurd (show false = true from hs) Bool.false_ne_true
  | bl i =>
    cases rx
    cases y with
    | non => cases ry; exact PySem.EqNone.eq_bool_none (fin_bl I q (by simp))
    | bl j => cases ry; exact eq_bool (fin_bl I q dec_bl)
    | str j => obtain ⟨t', rfl⟩ := ry; exact PySem.EqMixed.eq_bool_str (fin_bl I q (by simp))
    | _ => exact absurd (show false = true from hs) Bool.false_ne_true
  | int i =>
    obtain ⟨t, rfl⟩ := rx
    cases y with
    | non => cases ry; exact PySem.EqNone.eq_int_none (fin_bl I q (by simp))
    | int j => obtain ⟨t', rfl⟩ := ry; exact eq_int (fin_bl I q dec_int)
    | str j => obtain ⟨t', rfl⟩ := ry; exact PySem.EqMixed.eq_int_str (fin_bl I q (by simp))
    | _ => exact absurd (show false = true from hs) Bool.false_ne_true
  | str i =>
    obtain ⟨t, rfl⟩ := rx
    cases y with
    | non => cases ry; exact PySem.EqNone.eq_str_none (fin_bl I q (by simp))
    | bl j => cases ry; exact PySem.EqMixed.eq_str_bool (fin_bl I q (by simp))
    | int j => obtain ⟨t', rfl⟩ := ry; exact PySem.EqMixed.eq_str_int (fin_bl I q (by simp))
    | str j => obtain ⟨t', rfl⟩ := ry; exact eq_str (fin_bl I q dec_str)
    | _ => exact absurd (show false = true from hs) Bool.false_ne_true
  | byt i =>
    obtain ⟨t, rfl⟩ := rx
    cases y with
    | byt j => obtain ⟨t', rfl⟩ := ry; exact PySem.W.eq_bytes (fin_bl I q dec_byt)
    | _ => exact absurd (show false = true from hs) Bool.false_ne_true
  | _ => cases y <;> exact absurd (show false = true from hs) Bool.false_ne_true
theorem op_ne : OpR X (compareOp .NotEq) rNe := by
  intro pins s σ H x y v u Q I rx ry h
  obtain ⟨hs, q⟩ := h
  cases x with
  | non =>
    cases rx
    cases y with
    | non => cases ry; exact PySem.EqNone.ne_none_none (fin_bl I q (by simp))
    | bl j => cases ry; exact PySem.EqNone.ne_none_bool (fin_bl I q (by simp))
    | int j => obtain ⟨t', rfl⟩ := ry; exact PySem.EqNone.ne_none_int (fin_bl I q (by simp))
    | str j => obtain ⟨t', rfl⟩ := ry; exact PySem.EqNone.ne_none_str (fin_bl I q (by simp))
    | _ => exact absurd (show false = true from hs) Bool.false_ne_true
  | bl i =>
    cases rx
    cases y with
    | non => cases ry; exact PySem.EqNone.ne_bool_none (fin_bl I q (by simp))
    | bl j => cases ry; exact ne_bool (fin_bl I q (congrArg not dec_bl))
    | str j => obtain ⟨t', rfl⟩ := ry; exact PySem.EqMixed.ne_bool_str (fin_bl I q (by simp))
    | _ => exact absurd (show false = true from hs) Bool.false_ne_true
  | int i =>
    obtain ⟨t, rfl⟩ := rx
    cases y with
    | non => cases ry; exact PySem.EqNone.ne_int_none (fin_bl I q (by simp))
    | int j => obtain ⟨t', rfl⟩ := ry; exact ne_int (fin_bl I q (congrArg not dec_int))
    | str j => obtain ⟨t', rfl⟩ := ry; exact PySem.EqMixed.ne_int_str (fin_bl I q (by simp))
    | _ => exact absurd (show false = true from hs) Bool.false_ne_true
  | str i =>
    obtain ⟨t, rfl⟩ := rx
    cases y with
    | non => cases ry; exact PySem.EqNone.ne_str_none (fin_bl I q (by simp))
    | bl j => cases ry; exact PySem.EqMixed.ne_str_bool (fin_bl I q (by simp))
    | int j => obtain ⟨t', rfl⟩ := ry; exact PySem.EqMixed.ne_str_int (fin_bl I q (by simp))
    | str j => obtain ⟨t', rfl⟩ := ry; exact ne_str (fin_bl I q (congrArg not dec_str))
    | _ => exact absurd (show false = true from hs) Bool.false_ne_true
  | byt i =>
    obtain ⟨t, rfl⟩ := rx
    cases y with
    | byt j => obtain ⟨t', rfl⟩ := ry; exact PySem.W.ne_bytes (fin_bl I q (congrArg not dec_byt))
    | _ => exact absurd (show false = true from hs) Bool.false_ne_true
  | _ => cases y <;> exact absurd (show false = true from hs) Bool.false_ne_true

theorem op_lt : OpR X (compareOp .Lt) (rI0 fun i j => .bl (decide (i < j))) := opB0 fun _ _ _ _ _ _ _ q => lt_int q
theorem op_le : OpR X (compareOp .LtE) (rI0 fun i j => .bl (decide (i ≤ j))) := opB0 fun _ _ _ _ _ _ _ q => le_int q
theorem op_gt : OpR X (compareOp .Gt) (rI0 fun i j => .bl (decide (j < i))) := opB0 fun _ _ _ _ _ _ _ q => gt_int q
/-- is, is not of two objects that are tracked lists or instances -/
def isObj : HO → Bool
  | .lst _ => true
  | .ins _ _ _ => true
  | _ => false
theorem nomark (b : Expr) {op : CmpOp} (h : op ≠ .In := by decide) (h2 : op ≠ .NotIn := by decide) : behindInMarks op b = false := by
  have e1 : (op == CmpOp.In) = false := by cases op <;> first | rfl | exact absurd rfl h
  have e2 : (op == CmpOp.NotIn) = false := by cases op <;> first | rfl | exact absurd rfl h2
  cases b <;> simp [behindInMarks, e1, e2]
/-- a comparison as a value; hm: nomark b, or (for in, not in) by with_unfolding_all rfl -/
theorem pe_cmpR {op : CmpOp} {r : R2} (ho : OpR X (compareOp op) r) (ha : PE X a ta) (hb : PE X b tb) (hm : behindInMarks op b = false) : PE X (.Compare a [op] [b] pos) (tOp r ta tb) := by
  intro pins s σ H Q I h
  exact wpAny_Compare1 (binT ha hb I h fun v u s2 x y H2 I2 rx ry q => ho pins s2 σ H2 x y v u Q I2 rx ry q) hm
/-- a reading of a value as a test -/
def tTest (t : TE) : TT := fun σ H Q => t σ H fun x H' => ∃ k, x = .bl k ∧ Q k H'
theorem pt_cmpR {op : CmpOp} {r : R2} (ho : OpR X (compareOp op) r) (ha : PE X a ta) (hb : PE X b tb) (hm : behindInMarks op b = false) : PT X (.Compare a [op] [b] pos) (tTest (tOp r ta tb)) := by
  intro pins s σ H Q I h
  refine wpAny_isTrue_Compare1 (thn (ha pins s σ H _ I h) fun v s1 ⟨x, H1, I1, r1, q1⟩ => thn (hb pins s1 σ H1 _ I1 q1) fun u s2 ⟨y, H2, I2, r2, q2⟩ =>
    thn (ho pins s2 σ H2 x y v u _ I2 r1 r2 q2) fun c s3 ⟨z, H3, I3, r3, k, e, q3⟩ => ?_) hm
  subst e
  cases r3
  exact wpAny_truthy_bool ⟨H3, I3, q3⟩
/-- a op1 b op2 c -/
def tChain (r r' : R2) (ta tb tc : TE) : TE := fun σ H Q => ta σ H fun x H1 => tb σ H1 fun y H2 => r x y H2 fun z H3 => ∃ k, z = .bl k ∧
  (if k = true then tc σ H3 fun w' H4 => r' y w' H4 Q else Q (.bl false) H3)
theorem pt_chain {op op' : CmpOp} {r r' : R2} (ho : OpR X (compareOp op) r) (ho' : OpR X (compareOp op') r') (ha : PE X a ta) (hb : PE X b tb) (hc : PE X c tc)
    (hm : lastMarks [op, op'] [b, c] = false := by with_unfolding_all rfl) : PT X (.Compare a [op, op'] [b, c] pos) (tTest (tChain r r' ta tb tc)) := by
  intro pins s σ H Q I h
  refine isTrue_chain (thn (ha pins s σ H _ I h) fun v s1 ⟨x, H1, I1, r1, q1⟩ => test_link (thn (hb pins s1 σ H1 _ I1 q1) fun u s2 ⟨y, H2, I2, r2, q2⟩ =>
    thn (ho pins s2 σ H2 x y v u _ I2 r1 r2 q2) fun d s3 ⟨z, H3, I3, r3, k, e, q3⟩ => ?_)) hm
  subst e
  cases r3
  refine wpAny_truthy_bool ?_
  cases k with
  | false =>
    obtain ⟨k', e', q'⟩ := q3
    cases e'
    exact ite_ff ⟨H3, I3, q'⟩
  | true =>
    refine ite_tt (test_last (thn (hc pins s3 σ H3 _ I3 q3) fun w' s4 ⟨z', H4, I4, r4, q4⟩ => thn (ho' pins s4 σ H4 y z' u w' _ I4 r2 r4 q4) fun d' s5 ⟨z2, H5, I5, r5, k2, e2, q5⟩ => ?_))
    subst e2
    cases r5
    exact wpAny_truthy_bool ⟨H5, I5, q5⟩

/-! ### truth -/
/-- a value's truth by the abstract heap -/
def TruV (K : PySem.W.Frag) (x : V) (H : Hp) (k : Bool) : Prop :=
  match x with
  | .non => k = false
  | .bl b => k = b
  | .int i => k = (i != 0)
  | .str y => y.length ≤ sizeLine ∧ k = ((y.length : Int) != 0)
  | .byt y => y.size ≤ sizeLine ∧ k = ((y.size : Int) != 0)
  | .ref p => (∃ xs, SqL K H p xs ∧ k = !xs.isEmpty) ∨ (∃ xs, SqT K H p xs ∧ k = !xs.isEmpty) ∨ ∃ kvs, H p = some (.dK kvs) ∧ k = !kvs.isEmpty
  | _ => False
theorem isEmpty_kv {κ : Type} {kvs : List (κ × V)} {vs : List (κ × Value)} (r : KV kvs vs) : (!vs.isEmpty) = !kvs.isEmpty := by
  cases r <;> rfl
theorem isEmpty_of {xs : List V} {its : List Value} (r : Vals xs its) : (!its.toArray.isEmpty) = !xs.isEmpty := by
  cases r <;> simp
theorem line63 : (sizeLine : Nat) < 2 ^ 63 := by rw [sizeLine_eq]; decide
theorem tru_ok : TruR X (fun x H Q => ∃ k, TruV X.K x H k ∧ Q k H) := by
  intro pins s σ H x v Q I rx h
  obtain ⟨k, e, q⟩ := h
  have hl := line63
  have hs : sizeLine = 16777216 := sizeLine_eq
  cases x with
  | non =>
    cases rx
    have e' : k = false := e
    subst e'
    exact truthy_none ⟨H, I, q⟩
  | bl b =>
    cases rx
    have e' : k = b := e
    subst e'
    exact wpAny_truthy_bool ⟨H, I, q⟩
  | int i =>
    obtain ⟨t, rfl⟩ := rx
    have e' : k = (i != 0) := e
    subst e'
    exact PySem.P.truthy_int ⟨H, I, q⟩
  | str y =>
    obtain ⟨t, rfl⟩ := rx
    obtain ⟨hy, e'⟩ : y.length ≤ sizeLine ∧ k = ((y.length : Int) != 0) := e
    subst e'
    exact PySem.P.truthy_str (by omega) ⟨H, I.tok _, q⟩
  | byt y =>
    obtain ⟨t, rfl⟩ := rx
    obtain ⟨hy, e'⟩ : y.size ≤ sizeLine ∧ k = ((y.size : Int) != 0) := e
    subst e'
    exact PySem.W.truthy_bytes (by omega) ⟨H, I.tok _, q⟩
  | ref p =>
    cases rx
    have e' : (∃ xs, SqL X.K H p xs ∧ k = !xs.isEmpty) ∨ (∃ xs, SqT X.K H p xs ∧ k = !xs.isEmpty) ∨ ∃ kvs, H p = some (.dK kvs) ∧ k = !kvs.isEmpty := e
    rcases e' with ⟨xs, hx, e'⟩ | ⟨xs, hx, e'⟩ | ⟨kvs, hx, e'⟩
    · subst e'
      obtain ⟨its, r, pl, hz⟩ := I.list hx
      have hlen := r.length
      exact wpAny_truthy_list pl.isList (by simp only [List.size_toArray]; omega) ⟨H, I.tok _, by rw [isEmpty_of r]; exact q⟩
    · subst e'
      obtain ⟨its, r, pl, hz⟩ := I.tuple hx
      have hlen := r.length
      exact truthy_tuple pl (by simp only [List.size_toArray]; omega) ⟨H, I.tok _, by rw [isEmpty_of r]; exact q⟩
    · subst e'
      obtain ⟨hz, hS, vs, r, m⟩ : kvs.length ≤ sizeLine ∧ (p == sysModules) = false ∧ ∃ vs, KV kvs vs ∧ s.heap.DictOf (mixKind X.prog X.w) p vs := I.hok p _ hx
      have hlen : kvs.length = vs.length := Paired.length r
      exact wpAny_truthy_dict hS m (by omega) ⟨H, I.tok _, by rw [isEmpty_kv r]; exact q⟩
  | _ => exact (show False from e).elim
/-- any expression whose test is its value's truth (a name, a call, a subscript, a field ..: he by fun _ => rfl) -/
theorem pt_truth (ha : PE X a ta) (he : ∀ whole, isTrue a X.env whole = (do let v ← whole; standAt a.pos; holding [v] (truthy v))) :
    PT X a (fun σ H Q => ta σ H fun x H' => ∃ k, TruV X.K x H' k ∧ Q k H') := by
  intro pins s σ H Q I h
  exact isTrue_plain (thn (ha pins s σ H _ I h) fun v s1 ⟨x, H1, I1, r1, q1⟩ => tru_ok pins s1 σ H1 x v Q I1 r1 q1) (he _)

/-! ### strs and bytes -/
theorem op_add_byt : OpR X (binaryOp .Add) (fun x y H Q => ∃ i j, x = .byt i ∧ y = .byt j ∧ i.size + j.size ≤ 16777216 ∧ Q (.byt (i ++ j)) H) := by
  intro pins s σ H x y v u Q I rx ry h
  obtain ⟨i, j, rfl, rfl, hz, q⟩ := h
  obtain ⟨t, rfl⟩ := rx
  obtain ⟨t', rfl⟩ := ry
  exact PySem.W.KBy.add_bytes hz (fun t' tk => ⟨.byt (i ++ j), H, I.tok _, ⟨_, rfl⟩, q⟩)

def PlainIxT (b : Expr) : Prop := ∀ o i, subscripted b false o i = operate [o, i] (getItem o i)
/-! ### scalar builtins, by CallR -/
theorem vals1 {x : V} {us : List Value} (r : Vals [x] us) : ∃ u, us = [u] ∧ RelV x u := by
  cases r with
  | cons r1 r2 => cases r2; exact ⟨_, rfl, r1⟩
theorem vals2 {x y : V} {us : List Value} (r : Vals [x, y] us) : ∃ u w', us = [u, w'] ∧ RelV x u ∧ RelV y w' := by
  cases r with
  | cons r1 r2 =>
    cases r2 with
    | cons r3 r4 => cases r4; exact ⟨_, _, rfl, r1, r3⟩
theorem call_max2 (hc : X.calm = true) : CallR X (.builtin "max") (fun xs H Q => ∃ i j, xs = [.int i, .int j] ∧ Q (.int (if j > i then j else i)) H) := by
  intro pins s σ H xs us Q I r h
  obtain ⟨i, j, rfl, q⟩ := h
  obtain ⟨u, w', rfl, ⟨t, rfl⟩, ⟨t', rfl⟩⟩ := vals2 r
  refine max_two_ints (I.ok.hd hc) fun h' tk k => ⟨_, H, I.kept k, ?_, q⟩
  by_cases hj : j > i
  · rw [if_pos hj, if_pos hj]; exact ⟨_, rfl⟩
  · rw [if_neg hj, if_neg hj]; exact ⟨_, rfl⟩
theorem call_min2 (hc : X.calm = true) : CallR X (.builtin "min") (fun xs H Q => ∃ i j, xs = [.int i, .int j] ∧ Q (.int (if j < i then j else i)) H) := by
  intro pins s σ H xs us Q I r h
  obtain ⟨i, j, rfl, q⟩ := h
  obtain ⟨u, w', rfl, ⟨t, rfl⟩, ⟨t', rfl⟩⟩ := vals2 r
  refine min_two_ints (I.ok.hd hc) fun h' tk k => ⟨_, H, I.kept k, ?_, q⟩
  by_cases hj : j < i
  · rw [if_pos hj, if_pos hj]; exact ⟨_, rfl⟩
  · rw [if_neg hj, if_neg hj]; exact ⟨_, rfl⟩
/-- len of a str, a bytes, a list, a tuple -/
def LenV (K : PySem.W.Frag) (x : V) (H : Hp) (n : Nat) : Prop :=
  match x with
  | .str y => y.length ≤ sizeLine ∧ n = y.length
  | .byt y => y.size ≤ sizeLine ∧ n = y.size
  | .ref p => (∃ xs, SqL K H p xs ∧ n = xs.length) ∨ ∃ xs, SqT K H p xs ∧ n = xs.length
  | _ => False
end
end L2

namespace L2
open PySem PySem.Spec PyProof.Rows

/-! ### an instance, its attributes a map -/
structure ObjM (h : Heap) (x dx C : Addr) (mA : Str → Option Value) : Prop where
  obj : h.get? x = some (PySem.W.instObj C dx)
  ns : h.Ns1 dx mA
  ne : dx ≠ x

theorem lookIn_ns {h : Heap} {dx : Addr} {mA : Str → Option Value} (n : h.Ns1 dx mA) : ∃ od, h.get? dx = some od ∧ ∀ name, PySem.W.lookIn name od = some (mA name) := by
  obtain ⟨o, es, ep, ho, hd, hk, _, hm⟩ := n
  refine ⟨o, ho, fun name => ?_⟩
  have e := hm name
  unfold nsFind findBy at e
  rw [← Array.find?_toList] at e
  unfold PySem.W.lookIn
  rw [hd]
  dsimp only
  split
  · rename_i y q
    rw [q] at e
    exact congrArg some e
  · rename_i q
    rw [q] at e
    have a : es.toList.any (·.refKey) = false := by
      rw [List.any_eq_false]
      intro y hy
      obtain ⟨z, t, hkey⟩ := hk y (Array.mem_toList_iff.mp hy)
      simp [DictEntry.refKey, hkey]
    have a' : ¬ es.toList.any (·.refKey) = true := by rw [a]; exact Bool.false_ne_true
    rw [if_neg a']
    exact congrArg some e

theorem ObjM.look {h : Heap} {x dx C : Addr} {mA : Str → Option Value} (I : ObjM h x dx C mA) : ∃ od, PySem.W.InstAt h x (PySem.W.instObj C dx) C (some od) ∧ ∀ name, PySem.W.lookIn name od = some (mA name) :=
  let ⟨od, ho, hl⟩ := lookIn_ns I.ns
  ⟨od, ⟨I.obj, rfl, rfl, ho⟩, hl⟩

section
variable {prog : Program} {w : World} {A : Around} {E : Value → Shared → Prop} {s : Shared} {K : PySem.W.Frag} {x dx C f : Addr} {mA : Str → Option Value} {name : Str} {v : Value}

end

/-! ### the attributes as a list of pairs -/
def putF (f : Str) (v : V) : List (Str × V) → List (Str × V)
  | [] => [(f, v)]
  | (g, x) :: r => if g = f then (g, v) :: r else (g, x) :: putF f v r
section
variable {P : Program} {w : World} {H H' : Hp} {h h' : Heap} {a C dx : Addr} {fs fs' : List (Str × V)}
theorem ins_get (hok : HOk P w H h) (e : H a = some (.ins C dx fs)) : ∃ mA, ObjM h a dx C mA ∧ (∀ f, RelO (fs.lookup f) (mA f)) ∧ PySem.Within mA (fs.map (·.1)) ∧ fs.length ≤ 1000 ∧ H dx = some (.own a) := by
  obtain ⟨d, z, ne, ob, mA, n, r, q⟩ := (show ObjOk P w H h a (.ins C dx fs) from hok a _ e)
  exact ⟨mA, ⟨ob, n, ne⟩, r, q, z, d⟩
end

/-! ### what of the text a class must have -/
structure Cls (K : PySem.W.Frag) (C : Addr) : Prop where
  pg : PySem.W.plainGet K C Str.empty = true
  hd : PySem.W.hasDictIn K C = true
  po : PySem.W.plainOver K C = true
  sa : PySem.W.findIn K (.ref C) "__setattr__" = some (some (.builtin "object.__setattr__"))
theorem Cls.get {K : PySem.W.Frag} {C : Addr} (c : Cls K C) (f : Str) : PySem.W.plainGet K C f = true := c.pg
/-- no class of it has the name -/
def NoAttr (K : PySem.W.Frag) (C : Addr) (f : Str) : Prop := PySem.W.findIn K (.ref C) f = some none
/-- a constant of the class -/
structure Con (K : PySem.W.Frag) (C : Addr) (f : Str) (v : V) (u : Value) : Prop where
  at_ : PySem.W.findIn K (.ref C) f = some (some u)
  rel : RelV v u
  get : PySem.W.specialIn K u "__get__" = some none
  cp : PySem.W.copiedNames.contains f = false
/-- a method: a plain def of the class or of one above it -/
structure Meth (K : PySem.W.Frag) (C : Addr) (m : Str) (f : Addr) : Prop where
  at_ : PySem.W.findIn K (.ref C) m = some (some (.ref f))
  fn : PySem.W.isFn K (.ref f) = true
  kp : PySem.W.keepIn K (.ref f) = true

section
variable {X : Cx} {pins : List (Addr × Obj)} {σ : St} {H : Hp} {s : Shared} {a C dx : Addr} {fs : List (Str × V)} {f : Str} {v : V} {A : Around} {E : Value → Shared → Prop}

end

/-! ### readings and rules -/
/-- e.f, an attribute of the instance -/
def tFld (K : PySem.W.Frag) (ta : TE) (f : Str) : TE := fun σ H Q => ta σ H fun x H1 => ∃ a C dx fs v, x = .ref a ∧ H1 a = some (.ins C dx fs) ∧ Cls K C ∧ NoAttr K C f ∧ fs.lookup f = some v ∧ Q v H1
/-- e.f, a constant of the class -/
def tCon (K : PySem.W.Frag) (ta : TE) (f : Str) : TE := fun σ H Q => ta σ H fun x H1 => ∃ a C dx fs v u, x = .ref a ∧ H1 a = some (.ins C dx fs) ∧ Cls K C ∧ Con K C f v u ∧ fs.lookup f = none ∧ Q v H1
/-- e.f = value -/
def sFld (K : PySem.W.Frag) (ta tv : TE) (f : Str) : TS := fun D σ H => tv σ H fun y H1 => ta σ H1 fun x H2 => ∃ a C dx fs, x = .ref a ∧ H2 a = some (.ins C dx fs) ∧ Cls K C ∧ NoAttr K C f ∧ fs.length < 1000 ∧
  D.nx σ (upd H2 a (.ins C dx (putF f y fs)))
/-- an augmented operator on two values -/
def InOp (X : Cx) (op : Operator) (rd : V → V → Hp → VK → Prop) : Prop :=
  ∀ (pins : List (Addr × Obj)) (s : Shared) (σ : St) (H : Hp) (x y : V) (u v : Value) (Q : VK), Inv X pins σ H s → RelV x u → RelV y v → rd x y H Q → wpAny (model X.prog X.w) X.A (inplaceOp op u v) (EP X pins σ Q) X.xe s
/-- e.f op= value -/
def sFldAug (K : PySem.W.Frag) (ta tv : TE) (rd : V → V → Hp → VK → Prop) (f : Str) : TS := fun D σ H => ta σ H fun x H1 => ∃ a C dx fs v, x = .ref a ∧ H1 a = some (.ins C dx fs) ∧ Cls K C ∧ NoAttr K C f ∧ fs.lookup f = some v ∧
  tv σ H1 fun y H2 => rd v y H2 fun z H3 => ∃ dx' fs', H3 a = some (.ins C dx' fs') ∧ fs'.length < 1000 ∧ D.nx σ (upd H3 a (.ins C dx' (putF f z fs')))

section
variable {X : Cx} {o e value : Expr} {f : Str} {pos pos' tpos : Pos} {ta tv : TE}
def rAdd : V → V → Hp → VK → Prop := fun x y H Q => ∃ i j, x = .int i ∧ y = .int j ∧ Q (.int (i + j)) H
def rSub : V → V → Hp → VK → Prop := fun x y H Q => ∃ i j, x = .int i ∧ y = .int j ∧ Q (.int (i - j)) H
end

/-! ### isinstance -/
section
variable {X : Cx} {pins : List (Addr × Obj)} {σ : St} {H : Hp} {s : Shared} {A : Around} {E : Value → Shared → Prop} {Q : Value → Shared → Prop} {c : Value} {b : Bool}
/-- the type of a value, as the fragment's deciders take it; for an instance its class -/
inductive TyOf (K : PySem.W.Frag) (H : Hp) : V → Value → Prop where
  | non : TyOf K H .non (.type "NoneType")
  | bl (x : Bool) : TyOf K H (.bl x) (.type "bool")
  | int (i : Int) : TyOf K H (.int i) (.type "int")
  | str (x : Str) : TyOf K H (.str x) (.type "str")
  | flt (x : UInt64) : TyOf K H (.flt x) (.type "float")
  | lst {a : Addr} {xs : List V} (e : H a = some (.lst xs)) : TyOf K H (.ref a) (.type "list")
  | frz {a : Addr} {o : Obj} {xs : List V} (e : H a = some (.frz o (.lst xs))) : TyOf K H (.ref a) (.type "list")
  | tup {a : Addr} {xs : List V} (e : H a = some (.tup xs)) : TyOf K H (.ref a) (.type "tuple")
  | dK {a : Addr} {kvs : List (Key × V)} (e : H a = some (.dK kvs)) : TyOf K H (.ref a) (.type "dict")
  | dT {a : Addr} {kvs : List (List Key × V)} (e : H a = some (.dT kvs)) : TyOf K H (.ref a) (.type "dict")
  | ins {a C dx : Addr} {fs : List (Str × V)} (e : H a = some (.ins C dx fs)) (cl : Cls K C) (ha : PySem.W.findIn K (.ref C) "__class__" = some (some (.builtin "object.__class__")))
      (hn : PySem.W.specialIn K (.builtin "object.__class__") "__get__" = some (some (.builtin "getset_descriptor.__get__"))) (htk : PySem.W.takesIn K (.builtin "object.__class__") = some true)
      (hm : PySem.W.mroIn K C (.type "object") = some true) : TyOf K H (.ref a) (.ref C)
/-- isinstance(x, c) for one class c, a built-in or an own one: kitOne's answer -/
theorem isinst_ok {x : V} {u t : Value} (I : Inv X pins σ H s) (rx : RelV x u) (ty : TyOf X.K H x t) (e : PySem.W.kitOne X.K t c = some b) (h : ∀ tk, Q (.bool b) { s with toks := tk }) :
    wpAny (model X.prog X.w) A (call (.builtin "isinstance") [u, c]) Q E s := by
  cases ty with
  | non => cases (show u = Value.none from rx); exact PySem.W.kia_one PySem.W.kitx_none I.kIn True.intro e (fun z => nomatch z) h
  | bl y => cases (show u = Value.bool y from rx); exact PySem.W.kia_one PySem.W.kitx_bool I.kIn True.intro e (fun z => nomatch z) h
  | int i => obtain ⟨t, q⟩ := (show ∃ t, u = Value.int i t from rx); cases q; exact PySem.W.kia_one PySem.W.kitx_int I.kIn True.intro e (fun z => nomatch z) h
  | str y => obtain ⟨t, q⟩ := (show ∃ t, u = Value.str y t from rx); cases q; exact PySem.W.kia_one PySem.W.kitx_str I.kIn True.intro e (fun z => nomatch z) h
  | flt y => obtain ⟨t, q⟩ := (show ∃ t, u = Value.float y t from rx); cases q; exact PySem.W.kia_one PySem.W.kitx_float I.kIn True.intro e (fun z => nomatch z) h
  | @lst a xs ea =>
    cases (show u = Value.ref a from rx)
    obtain ⟨_, _, n, _, h1⟩ := (show ObjOk X.prog X.w H s.heap a (.lst xs) from I.hok a _ ea)
    exact PySem.W.kia_one PySem.W.kitx_list I.kIn ⟨_, h1, rfl⟩ e (fun z => nomatch z) h
  | @frz a ob xs ea =>
    cases (show u = Value.ref a from rx)
    obtain ⟨_, _, _, n, _, h1⟩ := (show ObjOk X.prog X.w H s.heap a (.frz ob (.lst xs)) from I.hok a _ ea)
    exact PySem.W.kia_one PySem.W.kitx_list I.kIn ⟨_, h1, rfl⟩ e (fun z => nomatch z) h
  | @tup a xs ea =>
    cases (show u = Value.ref a from rx)
    obtain ⟨_, _, _, p⟩ := (show ObjOk X.prog X.w H s.heap a (.tup xs) from I.hok a _ ea)
    obtain ⟨o, h1, h2, _⟩ := p
    exact PySem.W.kia_one PySem.W.kitx_tuple I.kIn ⟨o, h1, h2⟩ e (fun z => nomatch z) h
  | @dK a kvs ea =>
    cases (show u = Value.ref a from rx)
    obtain ⟨_, _, vs, _, p⟩ := (show ObjOk X.prog X.w H s.heap a (.dK kvs) from I.hok a _ ea)
    obtain ⟨o, es, ep, h1, h2, _⟩ := p
    exact PySem.W.kia_one PySem.W.kitx_dict I.kIn ⟨o, h1, h2.1⟩ e (fun z => nomatch z) h
  | @dT a kvs ea =>
    cases (show u = Value.ref a from rx)
    obtain ⟨_, _, xs, _, o, es, ep, h1, h2, _⟩ := (show ObjOk X.prog X.w H s.heap a (.dT kvs) from I.hok a _ ea)
    exact PySem.W.kia_one PySem.W.kitx_dict I.kIn ⟨o, h1, h2.1⟩ e (fun z => nomatch z) h
  | @ins a C dx fs ea cl ha hn htk hm =>
    cases (show u = Value.ref a from rx)
    obtain ⟨mA, O, _⟩ := ins_get I.hok ea
    obtain ⟨od, J, _⟩ := O.look
    exact PySem.W.kia_one (PySem.W.kitx_own (cl.get _) cl.hd ha hn htk hm) I.kIn J e (fun z => nomatch z) h
end
end L2

namespace L2
open PySem PySem.Spec PyProof.Rows

/-! ### room -/
structure Room (k : Nat) (A : Around) : Prop where
  hd : A.handled = none
  dp : A.depth + 3 * k + 5 < recursionLimit
  un : A.units + 16 * k + 200 < cLine
theorem Room.mono {j k : Nat} {A : Around} (r : Room k A) (h : j ≤ k) : Room j A := ⟨r.hd, by have := r.dp; omega, by have := r.un; omega⟩
theorem Room.deeper {k : Nat} {A : Around} (r : Room (k + 1) A) (env : Env) : Room k (A.deeper env) :=
  ⟨r.hd, by have := r.dp; show A.depth + 1 + 3 * k + 5 < _; omega, by have := r.un; show A.units + 3 + 16 * k + 200 < _; omega⟩
theorem Room.depth {k : Nat} {A : Around} (r : Room k A) : A.depth < recursionLimit := by have := r.dp; omega
theorem Room.units {k : Nat} {A : Around} (r : Room k A) : A.units + 64 < cLine := by have := r.un; omega
/-! ### argument lists and displays -/
def tNil : TA := fun _ H Q => Q [] H
def tCons (ta : TE) (tr : TA) : TA := fun σ H Q => ta σ H fun x H1 => tr σ H1 fun xs H2 => Q (x :: xs) H2
section
variable {X : Cx} {e : Expr} {es : List Expr} {te : TE} {t : TA} {pos : Pos}
theorem pa_nil : PA X [] tNil := fun _ _ _ _ H Q I h => Calls.spliced_nil ⟨[], H, I, .nil, h⟩
theorem pa_cons (ha : PE X e te) (hr : PA X es t) (hs : starEach (e :: es) X.env = (false, eval e X.env) :: starEach es X.env := by rfl) : PA X (e :: es) (tCons te t) := by
  intro pos pins s σ H Q I h
  rw [hs]
  show wpAny _ _ (spliced ((false, eval e X.env) :: backTo pos (starEach es X.env))) _ _ s
  refine Calls.spliced_cons (thn (ha pins s σ H _ I h) fun u s1 ⟨x, H1, I1, r1, q1⟩ => ?_)
  exact thn (hr pos pins s1 σ H1 _ I1 q1) fun us s2 ⟨xs, H2, I2, r2, q2⟩ => ⟨x :: xs, H2, I2, .cons r1 r2, q2⟩

/-- a tuple, a list of written items -/
def tTup (t : TA) : TE := fun σ H Q => t σ H fun xs H1 => xs.length ≤ sizeLine ∧ ∀ p, H1 p = none → Q (.ref p) (upd H1 p (.tup xs))
def tLst (t : TA) : TE := fun σ H Q => t σ H fun xs H1 => xs.length ≤ sizeLine ∧ ∀ p, H1 p = none → Q (.ref p) (upd H1 p (.lst xs))
theorem pe_tup {x1} (h : PA X es t) : PE X (.Tuple es x1 pos) (tTup t) := by
  intro pins s σ H Q I hq
  refine wpAny_Tuple_spliced (thn (h pos pins s σ H _ I hq) fun us s1 ⟨xs, H1, I1, r, z, q⟩ => ⟨by rw [← r.length]; exact z, ?_⟩)
  have hf : H1 s1.heap.objs.size = none := I1.hok.fresh (Nat.le_refl _)
  refine ⟨.ref s1.heap.objs.size, upd H1 s1.heap.objs.size (.tup xs), I1.laid (t' := s1.toks) (fun b u e => Heap.get?_push_of_some _ e) (Nat.le_refl _) ?_, rfl, q _ hf⟩
  exact ⟨z, us, r, ⟨_, Heap.get?_push_size _ rfl, rfl, _, rfl⟩⟩
theorem pe_lst (h : PA X es t) : PE X (.List es pos) (tLst t) := by
  intro pins s σ H Q I hq
  refine wpAny_List_spliced (thn (h pos pins s σ H _ I hq) fun us s1 ⟨xs, H1, I1, r, z, q⟩ => ⟨by rw [← r.length]; exact z, ?_⟩)
  have hf : H1 s1.heap.objs.size = none := I1.hok.fresh (Nat.le_refl _)
  refine ⟨.ref s1.heap.objs.size, upd H1 s1.heap.objs.size (.lst xs), I1.laid (t' := s1.toks) (fun b u e => Heap.get?_push_of_some _ e) (Nat.le_refl _) ?_, rfl, q _ hf⟩
  exact ⟨z, us, 0, r, Heap.get?_push_size _ rfl⟩
end

/-! ### what a def promises -/
/-- a def's promise: the bound arguments in the parameters' order, the heap, the wanted end, the wanted exception -/
abbrev Sp := List V → Hp → VK → XK → Prop
/-- how an exception lies behind a call (file 08 gives it): the callers' frames, abstract heap and state ahead of the call, the wish, the exception, the state -/
abbrev CXT := List Env → Hp → Shared → XK → Value → Shared → Prop

/-- the state at a call -/
structure Env0 (P : Program) (w : World) (K : PySem.W.Frag) (mg : Str → Option Value) (base : Heap) (A : Around) (outer : List Env) (s : Shared) (H : Hp) : Prop where
  frames : A.frames = some outer
  mod : Mod K mg base
  bs : ∀ b o, base.get? b = some o → s.heap.get? b = some o ∧ H b = none
  bsz : base.objs.size ≤ s.heap.objs.size
  funs : s.heap.FunFrames base outer
  frf : ∀ b ∈ frs outer, H b = none
  hok : HOk P w H s.heap
  bare : AllBare s.gens
/-- a call's end -/
def CE (outer : List Env) (P : Program) (w : World) (H : Hp) (s : Shared) (Q : VK) (u : Value) (s' : Shared) : Prop :=
  ∃ v H', s'.os = s.os ∧ AllBare s'.gens ∧ Un (frs outer) [] H H' s.heap s'.heap ∧ HOk P w H' s'.heap ∧ RelV v u ∧ Q v H'
def CR (CX : CXT) (outer : List Env) (P : Program) (w : World) (H : Hp) (s : Shared) (Q : VK) (E : XK) (r : Result) (s' : Shared) : Prop :=
  match r with
  | .ok (.ret u) => CE outer P w H s Q u s'
  | .ok _ => False
  | .error e => CX outer H s E e s'
structure FnOk (P : Program) (w : World) (K : PySem.W.Frag) (mg : Str → Option Value) (base : Heap) (CX : CXT) (k : Nat) (f : Addr) (fd : FuncData) (ps : List Str) (sp : Sp) : Prop where
  len : ∀ vs H Q E, sp vs H Q E → vs.length = ps.length
  run : ∀ (A : Around) (outer : List Env) (s : Shared) (H : Hp) (args : Args) (us : List Value) (vs : List V) (Q : VK) (E : XK), Room k A → Env0 P w K mg base A outer s H → BindsTo s fd args (ps.zip us) → Vals vs us → sp vs H Q E →
    codeAny (model P w) A (.call (.ref f) args) (CR CX outer P w H s Q E) s
theorem FnOk.mono {P : Program} {w : World} {K : PySem.W.Frag} {mg : Str → Option Value} {base : Heap} {CX : CXT} {j k : Nat} {f : Addr} {fd : FuncData} {ps : List Str} {sp : Sp} (F : FnOk P w K mg base CX j f fd ps sp) (h : j ≤ k) :
    FnOk P w K mg base CX k f fd ps sp := ⟨F.len, fun A outer s H args us vs Q E hr => F.run A outer s H args us vs Q E (hr.mono h)⟩
section
variable {X : Cx} {pins : List (Addr × Obj)} {σ : St} {H : Hp} {s s' : Shared}
/-- from a body: what a callee wants -/
theorem Inv.env0 (I : Inv X pins σ H s) : Env0 X.prog X.w X.K X.mg X.base X.A X.stack s H :=
  ⟨I.ok.frames, I.ok.mod, I.bs, Nat.le_trans I.ok.bsz I.sz, I.stack, I.stkFree, I.hok, I.bare⟩
/-- behind a call -/
theorem Inv.after {Q : VK} {u : Value} (I : Inv X pins σ H s) (h : CE X.stack X.prog X.w H s Q u s') : EP X pins σ Q u s' := by
  obtain ⟨v, H', os, bare, un, hok, r, q⟩ := h
  obtain ⟨hh, g, d, t, os'⟩ := s'
  obtain rfl : os' = s.os := os
  exact ⟨v, H', I.call (h' := hh) (g' := g) (d' := d) (t' := t) (ch := []) un hok bare (fun b z => absurd z (by simp)), r, q⟩
end

/-! ### calls -/
/-- f(..): the written arguments, then the defaults dvs; E: what is wanted of an exception -/
def tCall (sp : Sp) (dvs : List V) (E : XK) (t : TA) : TE := fun σ H Q => t σ H fun vs H1 => sp (vs ++ dvs) H1 Q E
/-- o.m(..) of an instance of the class at C -/
def tMeth (C : Addr) (m : Str) (sp : Sp) (dvs : List V) (E : XK) (ta : TE) (t : TA) : TE := fun σ H Q => ta σ H fun x H1 => ∃ a dx fs, x = .ref a ∧ H1 a = some (.ins C dx fs) ∧ fs.lookup m = none ∧
  t σ H1 fun vs H2 => sp (x :: (vs ++ dvs)) H2 Q E
/-- C(..): a new instance and its dict, then __init__ -/
def tMake (C : Addr) (sp : Sp) (dvs : List V) (E : XK) (t : TA) : TE := fun σ H Q => t σ H fun vs H1 => ∀ x dx, H1 x = none → H1 dx = none → dx ≠ x →
  sp (.ref x :: (vs ++ dvs)) (upd (upd H1 dx (.own x)) x (.ins C dx [])) (fun v H2 => v = .non ∧ Q (.ref x) H2) E

/-- how the parameters are bound: us the positional arguments, kw the keywords' values by name, ds the defaults that fill up -/
def Binds (K : PySem.W.Frag) (fd : FuncData) (ps : List Str) (ds : List Value) : Prop :=
  ∀ (s : Shared) (us : List Value), K.In s.heap → (us ++ ds).length = ps.length → BindsTo s fd ⟨us, []⟩ (ps.zip (us ++ ds))
/-- every parameter is given -/
theorem Binds.all {K : PySem.W.Frag} {fd : FuncData} {ps : List Str} (h : ∀ us : List Value, us.length = ps.length → bindArgs fd ⟨us, []⟩ = pure (ps.zip us)) : Binds K fd ps [] := fun s us _ hl => by
  rw [List.append_nil] at hl ⊢
  exact .of_eq (h us hl)

/-- an exception of a callee reaches what this body wants of exceptions -/
def Passes (CX : CXT) (X : Cx) (E : XK) : Prop := ∀ (pins : List (Addr × Obj)) (σ : St) (H : Hp) (s : Shared) (e : Value) (s' : Shared), Inv X pins σ H s → CX X.stack H s E e s' → X.xe e s'

section
variable {X : Cx} {CX : CXT} {k : Nat} {f C : Addr} {fd : FuncData} {ps : List Str} {sp : Sp} {dvs : List V} {ds : List Value} {E : XK} {x m : Str} {p pos apos : Pos} {e o : Expr} {es : List Expr} {ta : TE} {t : TA}

/-- the callee runs -/
theorem run_fn {pins : List (Addr × Obj)} {σ : St} {H : Hp} {s : Shared} {Q : VK} {us : List Value} {vs : List V} (F : FnOk X.prog X.w X.K X.mg X.base CX k f fd ps sp) (hr : Room k X.A) (hb : Binds X.K fd ps ds) (hd : Vals dvs ds) (hx : Passes CX X E)
    (I : Inv X pins σ H s) (r : Vals vs us) (h : sp (vs ++ dvs) H Q E) : wpAny (model X.prog X.w) X.A (call (.ref f) us) (EP X pins σ Q) X.xe s := by
  have r2 : Vals (vs ++ dvs) (us ++ ds) := r.append hd
  have hl : (us ++ ds).length = ps.length := by rw [← r2.length]; exact F.len _ _ _ _ h
  refine wpAny_call (codeAny_mono (F.run X.A X.stack s H ⟨us, []⟩ (us ++ ds) (vs ++ dvs) Q E hr I.env0 (hb s us I.kIn hl) r2 h) fun r s' hq => ?_)
  cases r with
  | error e => exact hx pins σ H s e s' I hq
  | ok fl =>
    cases fl with
    | ret u => exact I.after hq
    | next => exact False.elim hq
    | brk => exact False.elim hq
    | cont => exact False.elim hq

theorem pe_call (F : FnOk X.prog X.w X.K X.mg X.base CX k f fd ps sp) (hr : Room k X.A) (hg : Gl X x) (hm : X.mg x = some (.ref f)) (hk : PySem.W.keepIn X.K (.ref f) = true) (hb : Binds X.K fd ps ds) (hd : Vals dvs ds) (hx : Passes CX X E)
    (ha : PA X (e :: es) t) (hdb : (x == ("__debug__" : Str)) = false := by decide) (he : starEach (e :: es) X.env = (false, eval e X.env) :: starEach es X.env := by rfl) (hpl : (backTo pos (starEach es X.env)).any (·.1) = false := by rfl) :
    PE X (.Call (.Name x p) (e :: es) [] pos) (tCall sp dvs E t) := by
  intro pins s σ H Q I h
  refine wpAny_Call_Name_kw (ld_glob I hg hm ?_ hdb)
  refine PySem.W.callWith_K (h₀ := X.base) I.ok.mod.kin hk (thn (ha pos pins s σ H _ I h) fun us s1 ⟨vs, H1, I1, r, q⟩ => ⟨I1.kIn, ?_⟩) he hpl
  exact run_fn F hr hb hd hx I1 r q
/-- what a class must have to be made -/
structure Mk (K : PySem.W.Frag) (C f : Addr) : Prop where
  makes : PySem.W.makesIn K C = true
  init : PySem.W.findIn K (.ref C) "__init__" = some (some (.ref f))
  fn : PySem.W.isFn K (.ref f) = true
  kp : PySem.W.keepIn K (.ref C) = true

end

/-! ### keywords -/
/-- the values of the keywords, from the left -/
def PK (X : Cx) (kws : List Keyword) (t : TA) : Prop :=
  ∀ (pos : Pos) (pins : List (Addr × Obj)) (s : Shared) (σ : St) (H : Hp) (Q : List V → Hp → Prop), Inv X pins σ H s → t σ H Q → wpAny (model X.prog X.w) X.A (evalAll ((backToKw pos (keywordEach kws X.env)).map (·.2))) (AP X pins σ Q) X.xe s
section
variable {X : Cx} {CX : CXT} {k : Nat} {f C : Addr} {fd : FuncData} {ps ks : List Str} {sp : Sp} {E : XK} {x m : Str} {p pos apos kpos : Pos} {e o : Expr} {es : List Expr} {kws : List Keyword} {te ta : TE} {t tk : TA} {nm : Option Str}
/-- how a call with keywords binds: g puts the positional values us and the keywords' values ws (names ks) in the parameters' order, defaults among them -/
structure KBinds (K : PySem.W.Frag) (fd : FuncData) (ps ks : List Str) (g : List Value → List Value → List Value) (gV : List V → List V → List V) : Prop where
  to : ∀ (s : Shared) (us ws : List Value), K.In s.heap → (g us ws).length = ps.length → BindsTo s fd ⟨us, ks.zip ws⟩ (ps.zip (g us ws))
  rel : ∀ {vs : List V} {us : List Value} {zs : List V} {ws : List Value}, Vals vs us → Vals zs ws → Vals (gV vs zs) (g us ws)
def tCallK (sp : Sp) (gV : List V → List V → List V) (E : XK) (t tk : TA) : TE := fun σ H Q => t σ H fun vs H1 => tk σ H1 fun zs H2 => sp (gV vs zs) H2 Q E
variable {g : List Value → List Value → List Value} {gV : List V → List V → List V}
end

/-! ### a def's body keeps its promise -/
/-- names: the parameters first -/
structure FnScope (N P : List Str) (sc : Scope) : Prop where
  kind : sc.kind = .function
  co : sc.isCoroutine = false
  gen : sc.isGenerator = false
  nd : N.Nodup
  pre : N.take P.length = P
  par : ∀ x ∈ P, sc.names.lookup x = some .local ∨ sc.names.lookup x = some .cell
  nofree : ∀ y ∈ sc.names, y.2 ≠ .free

theorem bindL_out {kindOf : Str → Option NameKind} {x : Str} : ∀ {binds : List (Str × Value)} {m : Str → Option Value}, (∀ v, (x, v) ∉ binds) → bindL kindOf binds m x = m x
  | [], _, _ => rfl
  | (n, v) :: r, m, h => by
    unfold bindL
    rw [bindL_out fun w hw => h w (List.mem_cons_of_mem _ hw)]
    split
    · have : x ≠ n := by rintro rfl; exact h v List.mem_cons_self
      simp [this]
    · rfl
theorem bindC_out {kindOf : Str → Option NameKind} {x : Str} : ∀ {binds : List (Str × Value)} {m : Str → Option Value}, (∀ v, (x, v) ∉ binds) → bindC kindOf binds m x = m x
  | [], _, _ => rfl
  | (n, v) :: r, m, h => by
    unfold bindC
    rw [bindC_out fun w hw => h w (List.mem_cons_of_mem _ hw)]
    split
    · rfl
    · have : x ≠ n := by rintro rfl; exact h v List.mem_cons_self
      simp [this]
theorem bindL_get {kindOf : Str → Option NameKind} {x : Str} {v : Value} : ∀ {P : List Str} {vs : List Value} {i : Nat} {m : Str → Option Value}, P.Nodup → P[i]? = some x → vs[i]? = some v → kindOf x = some .local →
    bindL kindOf (P.zip vs) m x = some v
  | [], _, _, _, _, h, _, _ => by simp at h
  | _ :: _, [], _, _, _, _, h, _ => by simp at h
  | p :: P, w :: vs, 0, m, nd, h1, h2, hk => by
    simp at h1 h2; subst h1; subst h2
    show bindL kindOf ((p, w) :: P.zip vs) m p = _
    unfold bindL
    rw [bindL_out fun v hv => (List.nodup_cons.mp nd).1 (List.of_mem_zip hv).1, if_pos hk]
    simp
  | p :: P, w :: vs, i + 1, m, nd, h1, h2, hk => by
    show bindL kindOf ((p, w) :: P.zip vs) m x = _
    unfold bindL
    exact bindL_get (i := i) (List.nodup_cons.mp nd).2 (by simpa using h1) (by simpa using h2) hk
theorem bindC_get {kindOf : Str → Option NameKind} {x : Str} {v : Value} : ∀ {P : List Str} {vs : List Value} {i : Nat} {m : Str → Option Value}, P.Nodup → P[i]? = some x → vs[i]? = some v → kindOf x ≠ some .local →
    bindC kindOf (P.zip vs) m x = some v
  | [], _, _, _, _, h, _, _ => by simp at h
  | _ :: _, [], _, _, _, _, h, _ => by simp at h
  | p :: P, w :: vs, 0, m, nd, h1, h2, hk => by
    simp at h1 h2; subst h1; subst h2
    show bindC kindOf ((p, w) :: P.zip vs) m p = _
    unfold bindC
    rw [bindC_out fun v hv => (List.nodup_cons.mp nd).1 (List.of_mem_zip hv).1, if_neg hk]
    simp
  | p :: P, w :: vs, i + 1, m, nd, h1, h2, hk => by
    show bindC kindOf ((p, w) :: P.zip vs) m x = _
    unfold bindC
    exact bindC_get (i := i) (List.nodup_cons.mp nd).2 (by simpa using h1) (by simpa using h2) hk

/-- the names' values at the entry -/
def start (N : List Str) (vs : List V) : St := vs.map some ++ List.replicate (N.length - vs.length) none

/-- the context of a def's body, at its entry; an exception leaves the frame, then lies as CX says -/
def cxOf (CX : CXT) (P : Program) (w : World) (K : PySem.W.Frag) (mg : Str → Option Value) (base : Heap) (N : List Str) (qual : Str) (scope : Scope) (f : Addr) (cd : Value) (A : Around) (outer : List Env) (s : Shared) (H : Hp) (E : XK) : Cx where
  prog := P
  w := w
  K := K
  mg := mg
  base := base
  A := A.deeper (envOfC qual scope s.heap.objs.size f cd)
  N := N
  s₀ := s
  H₀ := H
  env := envOfC qual scope s.heap.objs.size f cd
  outer := outer
  stack := envOfC qual scope s.heap.objs.size f cd :: outer
  ex := []
  calm := true
  fn := fun _ => true
  pn := []
  xe := fun e s' => wpAny (model P w) (A.deeper (envOfC qual scope s.heap.objs.size f cd)) (leaving (envOfC qual scope s.heap.objs.size f cd) e) (fun _ s'' => CX outer H s E e s'') (fun e' s'' => CX outer H s E e' s'') s'

theorem cell_has {sc : Scope} {n : Nat} {x : Str} (h : sc.names.lookup x = some .cell) : ∃ c, (cellsFrom n sc.names []).lookup x = some c := by
  have q := PySem.W.cellsFrom_some sc.names n [] (.inl h)
  exact Option.isSome_iff_exists.mp q

theorem inv_start {CX : CXT} {P : Program} {w : World} {K : PySem.W.Frag} {mg : Str → Option Value} {base : Heap} {N ps : List Str} {qual : Str} {scope : Scope} {f : Addr} {cd : Value} {A : Around} {outer : List Env} {s s1 : Shared} {H : Hp} {E : XK} {us : List Value} {vs : List V}
    (S : FnScope N ps scope) (hd : A.handled = none) (e0 : Env0 P w K mg base A outer s H) (hl : vs.length = ps.length) (r : Vals vs us)
    (x : InCallC s s.heap.objs.size (bindL (envOfC qual scope s.heap.objs.size f cd).kindOf (ps.zip us) fun _ => none) (cellsFrom (s.heap.objs.size + 1) scope.names []) (bindC (envOfC qual scope s.heap.objs.size f cd).kindOf (ps.zip us) fun _ => none) s1) :
    Inv (cxOf CX P w K mg base N qual scope f cd A outer s H E) [] (start N vs) H s1 := by
  have hpl : ps.length ≤ N.length := by have := congrArg List.length S.pre; rw [List.length_take] at this; omega
  obtain ⟨h1, tk, rfl, hk⟩ := x.done
  have noA : ∀ b : Addr, b ∉ (cxOf CX P w K mg base N qual scope f cd A outer s H E).ex := fun b z => absurd (show b ∈ ([] : List Addr) from z) (by simp)
  refine ⟨⟨e0.mod, S.kind, rfl, rfl, Nat.le_refl _, fun y z c h1 h2 => ?_, fun y hy => ?_, fun y c _ h => ?_, fun _ => hd, Around.frames_deeper e0.frames, .inr ⟨rfl, rfl⟩, fun b z => absurd z (noA b), e0.bs, e0.bsz, fun b _ _ => noA b, fun b z => absurd z (noA b), e0.funs, e0.frf⟩,
    rfl, e0.bare, Un.kept hk, ⟨_, x.toInCall.ns, fun i y v h1 h2 h3 => ?_⟩, fun y c h => ⟨_, x.cell y c h⟩, e0.hok.fresh (Nat.le_refl _), fun y c h => ?_, fun p hp => absurd (show p ∈ ([] : List (Addr × Obj)) from hp) (by simp), e0.hok.kept hk, ?_⟩
  · exact name_of_addr x.apart (PySem.mem_of_lookup h1) (PySem.mem_of_lookup h2)
  · have hy : scope.names.lookup y = some .cell ∨ scope.names.lookup y = some .free := hy
    rcases hy with hy | hy
    · exact cell_has hy
    · exact absurd rfl (S.nofree _ (PySem.mem_of_lookup hy))
  · exact Nat.le_of_lt (x.above y c (PySem.mem_of_lookup h))
  · have hi : i < vs.length := by
      unfold start at h2
      by_cases hi : i < vs.length
      · exact hi
      · rw [List.getElem?_append_right (by simpa using hi)] at h2
        rw [List.getElem?_replicate] at h2
        split at h2 <;> cases h2
    have ha : vs[i]? = some v := by
      unfold start at h2
      rw [List.getElem?_append_left (by simpa using hi), List.getElem?_map] at h2
      cases e : vs[i]? with
      | none => rw [e] at h2; cases h2
      | some a => rw [e] at h2; cases h2; rfl
    obtain ⟨u, hu, rv⟩ := r.get ha
    have hp : ps[i]? = some y := by
      rw [← S.pre, List.getElem?_take_of_lt (by omega)]; exact h1
    have ndP : ps.Nodup := by rw [← S.pre]; exact S.nd.sublist (List.take_sublist _ _)
    refine ⟨u, rv, ?_⟩
    rcases S.par y (List.mem_of_getElem? hp) with k | k
    · exact .inl ⟨k, bindL_get ndP hp hu k⟩
    · obtain ⟨c, e⟩ := cell_has (n := s.heap.objs.size + 1) k
      refine .inr ⟨.inl k, c, e, ?_⟩
      have q := x.cell y c e
      rw [bindC_get ndP hp hu (by show scope.names.lookup y ≠ _; rw [k]; decide)] at q
      exact q
  · exact e0.hok.fresh (Nat.le_of_lt (x.above y c (PySem.mem_of_lookup h)))
  · unfold start
    show _ = N.length
    rw [List.length_append, List.length_map, List.length_replicate]
    omega

/-- THE RULE: a def (or a method) of the text, by its body. The body's reading t is chosen for each entry; it is run at the parameters' values -/
theorem fn_of {CX : CXT} {P : Program} {w : World} {K : PySem.W.Frag} {mg : Str → Option Value} {base : Heap} {k : Nat} {f : Addr} {name qual : Str} {params : Arguments} {body : List Stmt} {scope : Scope} {dV kV doc pm cdv ct oc : Value} {an od : Option Addr}
    {osl : Array (Option Value)} {N ps : List Str} {sp : Sp} (lk : K.lookup f = some ⟨oc, od, .func (PySem.W.fnOf name qual params body scope dV kV doc pm an cdv ct), osl⟩) (hcd : PySem.W.codeIn K cdv qual = true) (S : FnScope N ps scope)
    (len : ∀ vs H Q E, sp vs H Q E → vs.length = ps.length)
    (hbody : ∀ (A : Around) (outer : List Env) (s : Shared) (H : Hp) (vs : List V) (Q : VK) (E : XK), Room k (A.deeper (envOfC qual scope s.heap.objs.size f cdv)) → sp vs H Q E →
      ∃ t, PSs (cxOf CX P w K mg base N qual scope f cdv A outer s H E) body t ∧ t { nx := fun _ H' => Q .non H', rt := Q } (start N vs) H) :
    FnOk P w K mg base CX (k + 1) f (PySem.W.fnOf name qual params body scope dV kV doc pm an cdv ct) ps sp := by
  refine ⟨len, fun A outer s H args us vs Q E hr e0 hb r hsp => ?_⟩
  have hl := len _ _ _ _ hsp
  have KX : K.In s.heap := e0.mod.kin.keeps fun b o e => (e0.bs b o e).1
  have lim : s.heap.NoLimit := e0.mod.nolimit.keeps fun b o e => (e0.bs b o e).1
  have hkind : ∀ y ∈ ps.zip us, scope.names.lookup y.1 = some .local ∨ (scope.names.lookup y.1 = some .cell ∧ ((cellsFrom (s.heap.objs.size + 1) scope.names []).lookup y.1).isSome = true) := fun ⟨n, v⟩ hy => by
    rcases S.par n (List.of_mem_zip hy).1 with q | q
    · exact .inl q
    · exact .inr ⟨q, PySem.W.cellsFrom_some _ _ _ (.inl q)⟩
  refine codeAny_call_function hr.depth (KX _ _ lk) rfl S.co S.gen rfl (PySem.W.codeRec_of KX hcd) (hb _ _ _ _ ?_)
  refine wpAny_newFunctionEnv_cells S.kind hkind fun env he s1 x => ?_
  subst he
  refine ⟨lim.keeps x.toInCall.keep, codeAny_func ?_⟩
  obtain ⟨t, ht, hq⟩ := hbody A outer s H vs Q E (hr.deeper _) hsp
  have I : Inv (cxOf CX P w K mg base N qual scope f cdv A outer s H E) [] (start N vs) H s1 := inv_start S hr.hd e0 hl r x
  refine wpAny_mono (ht [] s1 (start N vs) H _ I hq) (fun fl s' hs => ?_) fun e s' hs => hs
  have fin : ∀ {σ' : St} {H' : Hp} {v : V} {u : Value}, Inv (cxOf CX P w K mg base N qual scope f cdv A outer s H E) [] σ' H' s' → RelV v u → Q v H' → CE outer P w H s Q u s' :=
    fun {σ' H' v u} J rv q => ⟨v, H', J.os, J.bare, J.base, J.hok, rv, q⟩
  cases fl with
  | ret u =>
    obtain ⟨v, σ', H', J, rv, q⟩ := hs
    exact fin J rv q
  | next =>
    obtain ⟨σ', H', J, q⟩ := hs
    exact fin (v := V.non) (u := Value.none) J rfl q
  | brk =>
    obtain ⟨_, _, _, q⟩ := hs
    exact False.elim q
  | cont =>
    obtain ⟨_, _, _, q⟩ := hs
    exact False.elim q
end L2

namespace L2
open PySem PySem.Spec PyProof.Rows
section
variable {X : Cx} {x : Str} {p pos : Pos} {e : Expr} {es : List Expr} {t : TA} {id T : String} {r : List V → Hp → VK → Prop}

def tCB (r : List V → Hp → VK → Prop) (t : TA) : TE := fun σ H Q => t σ H fun vs H1 => r vs H1 Q
/-- f(e, ..), f a built-in function -/
theorem pe_callB (hc : CallR X (.builtin id) r) (hg : Gl X x) (hm : X.mg x = none) (hv : bootBuiltins x = some (.builtin id)) (ha : PA X (e :: es) t) (hn : x ≠ "__name__" := by decide) (hdb : (x == ("__debug__" : Str)) = false := by decide)
    (he : starEach (e :: es) X.env = (false, eval e X.env) :: starEach es X.env := by rfl) (hpl : (backTo pos (starEach es X.env)).any (·.1) = false := by rfl) : PE X (.Call (.Name x p) (e :: es) [] pos) (tCB r t) := by
  intro pins s σ H Q I h
  refine wpAny_Call_Name_kw (ld_blt I hg hm hv ?_ hn hdb)
  exact PyProof.Rows.callWith_builtin1 (thn (ha pos pins s σ H _ I h) fun us s1 ⟨vs, H1, I1, r1, q1⟩ => hc pins s1 σ H1 vs us Q I1 r1 q1) he hpl
/-- T(e, ..), T a built-in type -/
theorem pe_callTy (hc : CallR X (.type T) r) (hg : Gl X x) (hm : X.mg x = none) (hv : bootBuiltins x = some (.type T)) (ha : PA X (e :: es) t) (hn : x ≠ "__name__" := by decide) (hdb : (x == ("__debug__" : Str)) = false := by decide)
    (he : starEach (e :: es) X.env = (false, eval e X.env) :: starEach es X.env := by rfl) (hpl : (backTo pos (starEach es X.env)).any (·.1) = false := by rfl) : PE X (.Call (.Name x p) (e :: es) [] pos) (tCB r t) := by
  intro pins s σ H Q I h
  refine wpAny_Call_Name_kw (ld_blt I hg hm hv ?_ hn hdb)
  exact PyProof.Rows.callWith_type1 (thn (ha pos pins s σ H _ I h) fun us s1 ⟨vs, H1, I1, r1, q1⟩ => hc pins s1 σ H1 vs us Q I1 r1 q1) he hpl
end
end L2

namespace HT
open PySem PyProof.Rows

/-- t < u of tuples of ints -/
def lexLt : List Int → List Int → Bool
  | [], [] => false
  | [], _ :: _ => true
  | _ :: _, [] => false
  | x :: xs, y :: ys => if x = y then lexLt xs ys else decide (x < y)
section
open PySem.SeqAt
open PySem.AutoSeq1 (wpAny_loadPart')
open PySem.MeetsSeq PySem.MeetsSeq2 PySem.MeetsSeq3

end

section
variable {prog : Program} {w : World} {A : Around} {E : Value → Shared → Prop} {s : Shared}

/-! ### t[a:b], not the whole -/
/-- a slice's bound as a place among n (d where it is left out) -/
def sIx (n d : Nat) : Option Int → Nat
  | none => d
  | some v => if v < 0 then (v + (n : Int)).toNat else min v.toNat n
end
end HT

namespace L2
open PySem PySem.Spec PyProof.Rows

/-! ### the parts of a slice -/
abbrev TO := St → Hp → (Option Int → Hp → Prop) → Prop
/-- a slice's part (left out, or an int) -/
def PO (X : Cx) (e : Option Expr) (t : TO) : Prop :=
  ∀ (pins : List (Addr × Obj)) (s : Shared) (σ : St) (H : Hp) (Q : Option Int → Hp → Prop), Inv X pins σ H s → t σ H Q →
    wpAny (model X.prog X.w) X.A (evalPart e X.env) (fun u s' => ∃ o H', Inv X pins σ H' s' ∧ IsPart u o ∧ Q o H') X.xe s
def tNoPart : TO := fun _ H Q => Q none H
def tPart (t : TE) : TO := fun σ H Q => t σ H fun x H1 => ∃ i, x = .int i ∧ Q (some i) H1

section
variable {X : Cx} {e : Expr} {te : TE} {lo hi : Option Expr} {tl th : TO} {pos p2 : Pos}

theorem po_some (h : PE X e te) : PO X (some e) (tPart te) := by
  intro pins s σ H Q I hw
  rw [evalPart_some]
  refine thn (h pins s σ H _ I hw) fun u s1 ⟨x, H1, I1, r1, q1⟩ => ?_
  obtain ⟨i, rfl, q⟩ := q1
  obtain ⟨t, rfl⟩ := r1
  exact ⟨some i, H1, I1, .int i t, q⟩

/-- what a slice of a value is, by values: the slice object stands at sl -/
def SlR (X : Cx) (r : V → Option Int → Option Int → Hp → VK → Prop) : Prop :=
  ∀ (pins : List (Addr × Obj)) (s : Shared) (σ : St) (H : Hp) (x : V) (v vl vu : Value) (lo hi : Option Int) (sl : Addr) (Q : VK), Inv X pins σ H s → RelV x v → s.heap.IsSliceOf sl vl vu .none → IsPart vl lo → IsPart vu hi → r x lo hi H Q →
    ∃ T id, typeLookup (.type T) "__getitem__" = pure (some (.builtin id)) ∧ s.TypeIs v T ∧ wpAny (model X.prog X.w) X.A (getItem v (.ref sl)) (EP X pins σ Q) X.xe s
def tSl (r : V → Option Int → Option Int → Hp → VK → Prop) (te : TE) (tl th : TO) : TE := fun σ H Q => te σ H fun x H1 => tl σ H1 fun l H2 => th σ H2 fun u H3 => r x l u H3 Q
/-- a[lo:hi], any a -/
theorem pe_slice {r : V → Option Int → Option Int → Hp → VK → Prop} (hr : SlR X r) (he : PE X e te) (hl : PO X lo tl) (hu : PO X hi th) : PE X (.Subscript e (.Slice lo hi none p2) pos) (tSl r te tl th) := by
  intro pins s σ H Q I h
  refine Subscript_ (thn (he pins s σ H _ I h) fun v s1 ⟨x, H1, I1, r1, q1⟩ => ?_)
  refine wpAny_Slice (thn (hl pins s1 σ H1 _ I1 q1) fun vl s2 ⟨l, H2, I2, pl, q2⟩ => thn (hu pins s2 σ H2 _ I2 q2) fun vu s3 ⟨u, H3, I3, pu, q3⟩ => ?_)
  rw [evalPart_none]
  refine wpAny_pure ?_
  have I4 : Inv X pins σ H3 { s3 with heap := s3.heap.push { cls := .type "slice", data := .fields #[vl, vu, .none] } } := I3.kept (t' := s3.toks) fun b ob q => Heap.get?_push_of_some _ q
  obtain ⟨T, id, hT, ht, hg⟩ := hr pins { s3 with heap := s3.heap.push { cls := .type "slice", data := .fields #[vl, vu, .none] } } σ H3 x v vl vu l u s3.heap.objs.size Q I4 r1 (Heap.IsSliceOf.new ..) pl pu q3
  show wpAny (model X.prog X.w) X.A (subscriptTail e (.Slice lo hi none p2) v (.ref s3.heap.objs.size)) (EP X pins σ Q) X.xe { s3 with heap := s3.heap.push { cls := .type "slice", data := .fields #[vl, vu, .none] } }
  exact tail_any (ops := [.ref s3.heap.objs.size, v]) ht hT hg (by with_unfolding_all rfl)

/-- the items of xs[lo:hi] -/
def cutV (xs : List V) (lo hi : Option Int) : List V := (xs.drop (HT.sIx xs.length 0 lo)).take (HT.sIx xs.length xs.length hi - HT.sIx xs.length 0 lo)
theorem cutV_length (xs : List V) (lo hi : Option Int) : (cutV xs lo hi).length ≤ xs.length := by
  unfold cutV
  rw [List.length_take, List.length_drop]
  omega
/-- t[lo:hi], not the whole of it (the whole would be t itself) -/
def rSlT (K : PySem.W.Frag) : V → Option Int → Option Int → Hp → VK → Prop := fun x lo hi H Q => ∃ a xs, x = .ref a ∧ SqT K H a xs ∧
  ¬ (HT.sIx xs.length 0 lo = 0 ∧ HT.sIx xs.length xs.length hi = xs.length) ∧ ∀ p, H p = none → Q (.ref p) (upd H p (.tup (cutV xs lo hi)))
/-! ### t < u, t + u -/
def rLtT (K : PySem.W.Frag) : R2 := fun x y H Q => ∃ a b ns ms, x = .ref a ∧ y = .ref b ∧ SqT K H a (ns.map V.int) ∧ SqT K H b (ms.map V.int) ∧ Q (.bl (HT.lexLt ns ms)) H
/-- t + u, t not empty: u empty gives t itself -/
def rCatT (K : PySem.W.Frag) : R2 := fun x y H Q => ∃ a b xs ys, x = .ref a ∧ y = .ref b ∧ SqT K H a xs ∧ SqT K H b ys ∧ xs ≠ [] ∧ xs.length + ys.length ≤ sizeLine ∧
  (ys = [] → Q (.ref a) H) ∧ (ys ≠ [] → ∀ p, H p = none → Q (.ref p) (upd H p (.tup (xs ++ ys))))
end
end L2

namespace L2
open PySem PySem.Spec PyProof.Rows

/-! ### places -/
/-- the place that an index of any sign means -/
def ixN (n : Nat) (i : Int) : Option Nat := if 0 ≤ i then (if i < n then some i.toNat else none) else if -(n : Int) ≤ i then some (i + n).toNat else none
def atI {α : Type} (xs : List α) (i : Int) : Option α := (ixN xs.length i).bind fun j => xs[j]?
theorem ixN_seq {n : Nat} {i : Int} {j : Nat} (h : ixN n i = some j) : seqIndex? i n = some j ∧ j < n ∧ -(n : Int) ≤ i ∧ i < n := by
  unfold ixN at h
  by_cases h0 : 0 ≤ i
  · rw [if_pos h0] at h
    by_cases h1 : i < n
    · rw [if_pos h1] at h
      have e : i.toNat = j := Option.some.inj h
      exact ⟨by rw [seqIndex_of h0 h1, e], by omega, by omega, h1⟩
    · rw [if_neg h1] at h; cases h
  · rw [if_neg h0] at h
    by_cases h1 : -(n : Int) ≤ i
    · rw [if_pos h1] at h
      have e : (i + n).toNat = j := Option.some.inj h
      exact ⟨by rw [seqIndex_neg (by omega) h1, e], by omega, h1, by omega⟩
    · rw [if_neg h1] at h; cases h
theorem atI_get {α : Type} {xs : List α} {i : Int} {v : α} (h : atI xs i = some v) : ∃ j, seqIndex? i xs.length = some j ∧ xs[j]? = some v ∧ j < xs.length ∧ -(xs.length : Int) ≤ i ∧ i < xs.length := by
  unfold atI at h
  cases e : ixN xs.length i with
  | none => rw [e] at h; cases h
  | some j =>
    rw [e] at h
    obtain ⟨h1, h2, h3, h4⟩ := ixN_seq e
    exact ⟨j, h1, h, h2, h3, h4⟩
theorem atI_nat {α : Type} {xs : List α} {j : Nat} {v : α} (h : xs[j]? = some v) : atI xs (j : Int) = some v := by
  have hj : j < xs.length := (List.getElem?_eq_some_iff.mp h).1
  have e : ixN xs.length (j : Int) = some j := by
    unfold ixN
    rw [if_pos (by omega), if_pos (by omega)]; simp
  unfold atI; rw [e]; exact h
theorem atI_last {α : Type} (xs : List α) (v : α) : atI (xs ++ [v]) (-1) = some v := by
  have hl : (xs ++ [v]).length = xs.length + 1 := by simp
  have e : ixN (xs ++ [v]).length (-1) = some xs.length := by
    unfold ixN
    rw [hl, if_neg (by decide), if_pos (by omega)]
    congr 1
    omega
  unfold atI
  rw [e]
  show (xs ++ [v])[xs.length]? = some v
  simp

/-! ### what may be subscripted -/
/-- what stands as an index of a plain subscript -/
def PlainIx (b : Expr) : Prop := ∀ o i, subscripted b false o i = operate [o, i] (getItem o i)
/-- a subscript by values -/
def IxR (X : Cx) (r : R2) : Prop :=
  ∀ (value slice : Expr) (pins : List (Addr × Obj)) (s : Shared) (σ : St) (H : Hp) (x y : V) (v u : Value) (Q : VK), Inv X pins σ H s → RelV x v → RelV y u → r x y H Q →
    subscripted slice false v u = operate [v, u] (getItem v u) → wpAny (model X.prog X.w) X.A (subscriptTail value slice v u) (EP X pins σ Q) X.xe s
/-- a call of a builtin's method by values: the receiver, the arguments -/
def MtR (X : Cx) (id : String) (r : V → List V → Hp → VK → Prop) : Prop :=
  ∀ (pins : List (Addr × Obj)) (s : Shared) (σ : St) (H : Hp) (x : V) (xs : List V) (v : Value) (us : List Value) (Q : VK), Inv X pins σ H s → RelV x v → Vals xs us → r x xs H Q →
    wpAny (model X.prog X.w) X.A (call (.builtin id) (v :: us)) (EP X pins σ Q) X.xe s
section
variable {X : Cx} {a b : Expr} {ta tb : TE} {pos : Pos}
/-- a[b] -/
theorem pe_ix {r : R2} (hr : IxR X r) (ha : PE X a ta) (hb : PE X b tb) (hs : PlainIx b) : PE X (.Subscript a b pos) (tOp r ta tb) := by
  intro pins s σ H Q I h
  exact Subscript_ (binT ha hb I h fun v u s2 x y H2 I2 rx ry q => hr a b pins s2 σ H2 x y v u Q I2 rx ry q (hs _ _))

def rIxL (K : PySem.W.Frag) : R2 := fun x y H Q => ∃ p xs i v, x = .ref p ∧ y = .int i ∧ SqL K H p xs ∧ atI xs i = some v ∧ Q v H
def rIxT (K : PySem.W.Frag) : R2 := fun x y H Q => ∃ p xs i v, x = .ref p ∧ y = .int i ∧ SqT K H p xs ∧ atI xs i = some v ∧ Q v H
def rIxS : R2 := fun x y H Q => ∃ z i c, x = .str z ∧ y = .int i ∧ z.length ≤ sizeLine ∧ atI z.cps.toList i = some c ∧ Q (.str ⟨#[c]⟩) H
theorem ix_list : IxR X (rIxL X.K) := by
  intro value slice pins s σ H x y v u Q I rx ry h hs
  obtain ⟨p, xs, i, z, rfl, rfl, hq, he, q⟩ := h
  cases rx
  obtain ⟨t, rfl⟩ := ry
  obtain ⟨its, r, pl, hz⟩ := I.list hq
  obtain ⟨j, h1, h2, h3, h4, h5⟩ := atI_get he
  obtain ⟨w, ew, rw'⟩ := r.get h2
  have hl := r.length
  have hn := line63
  have fin : EP X pins σ Q w s := ⟨z, H, I, rw', q⟩
  by_cases h0 : 0 ≤ i
  · have hj : i.toNat = j := by
      rw [seqIndex_of h0 h5] at h1
      exact Option.some.inj h1
    exact item_listR pl.isList h0 (by omega) (by rw [hj]; simpa using ew) fin hs
  · have hj : (i + (its.toArray.size : Int)).toNat = j := by
      rw [seqIndex_neg (by omega) h4] at h1
      rw [List.size_toArray, ← hl]
      exact Option.some.inj h1
    exact subscriptTail_builtinR (x := w) pl.isList.typeIs slot_list_getitem.lookup
      (wpAny_getItem_list_neg (Q := fun r s' => r = w ∧ EP X pins σ Q r s') pl.isList (by omega) (by rw [List.size_toArray] <;> omega) (by omega) (by rw [hj]; simpa using ew) ⟨rfl, fin⟩) hs
theorem ix_tup : IxR X (rIxT X.K) := by
  intro value slice pins s σ H x y v u Q I rx ry h hs
  obtain ⟨p, xs, i, z, rfl, rfl, hq, he, q⟩ := h
  cases rx
  obtain ⟨t, rfl⟩ := ry
  obtain ⟨its, r, pl, hz⟩ := I.tuple hq
  obtain ⟨j, h1, h2, h3, h4, h5⟩ := atI_get he
  obtain ⟨w, ew, rw'⟩ := r.get h2
  have hl := r.length
  have hn := line63
  have fin : EP X pins σ Q w s := ⟨z, H, I, rw', q⟩
  exact subscriptTail_builtinR (x := w) pl.typeIs slot_tuple_getitem.lookup
    (getItem_tuple (j := j) (Q := fun r s' => r = w ∧ EP X pins σ Q r s') pl (by omega) (by omega) (by rw [List.size_toArray, ← hl]; exact h1) (by simpa using ew) ⟨rfl, fin⟩) hs
/-- list, tuple or str -/
def rIx (K : PySem.W.Frag) : R2 := fun x y H Q => rIxL K x y H Q ∨ rIxT K x y H Q ∨ rIxS x y H Q
/-! ### xs[i] = v, any sign -/
/-- the list's object behind a store -/
theorem mapSeq_set (its : List Value) (n j : Nat) (u : Value) : Obj.mapSeq (·.setIfInBounds j u) { cls := .type "list", data := .seq its.toArray n } = { cls := .type "list", data := .seq (its.set j u).toArray n } := by
  simp [Obj.mapSeq]
theorem Inv.lst {pins : List (Addr × Obj)} {σ : St} {H : Hp} {s : Shared} {p : Addr} {xs : List V} (I : Inv X pins σ H s) (h : H p = some (.lst xs)) :
    ∃ (its : List Value) (n : Nat), Vals xs its ∧ s.heap.get? p = some { cls := .type "list", data := .seq its.toArray n } ∧ xs.length ≤ sizeLine := by
  obtain ⟨z, its, n, r, e⟩ := I.hok p _ h
  exact ⟨its, n, r, e, z⟩
/-- the list at p is written by an update of its object -/
theorem Inv.lstUpd {pins : List (Addr × Obj)} {σ : St} {H : Hp} {s : Shared} {p : Addr} {xs ys : List V} {its its' : List Value} {n n' : Nat} {f : Obj → Obj} (I : Inv X pins σ H s) (h : H p = some (.lst xs))
    (ho : s.heap.get? p = some { cls := .type "list", data := .seq its.toArray n }) (hf : f { cls := .type "list", data := .seq its.toArray n } = { cls := .type "list", data := .seq its'.toArray n' }) (r : Vals ys its') (hz : ys.length ≤ sizeLine) (t : Nat) :
    Inv X pins σ (upd H p (.lst ys)) { s with heap := s.heap.update p f, toks := t } := by
  have e : (s.heap.update p f).get? p = some { cls := .type "list", data := .seq its'.toArray n' } := by
    rw [Heap.get?_update_self f ho (by rw [hf] <;> rfl), hf]
  refine I.write (x := p) (e := p) (by rw [h]; trivial) (.inl rfl) (fun b u hb q => (Heap.get?_update_other _ _ (Ne.symm hb)).trans q) ⟨_, e⟩ ?_
  exact ⟨hz, its', n', r, e⟩
def rSetL : V → V → V → Hp → (Hp → Prop) → Prop := fun o i v H Q => ∃ p xs k j, o = .ref p ∧ i = .int k ∧ H p = some (.lst xs) ∧ ixN xs.length k = some j ∧ Q (upd H p (.lst (xs.set j v)))
theorem set_list : PSet X rSetL := by
  intro pins s σ H o i v ov iv u Q I ro ri rv h
  obtain ⟨p, xs, k, j, rfl, rfl, hp, hj, q⟩ := h
  cases ro
  obtain ⟨t, rfl⟩ := ri
  obtain ⟨its, n, r, ho, hz⟩ := I.lst hp
  obtain ⟨h1, h2, h3, h4⟩ := ixN_seq hj
  have hl := r.length
  have hn := line63
  have I' : Inv X pins σ (upd H p (.lst (xs.set j v))) { s with heap := s.heap.update p (Obj.mapSeq (·.setIfInBounds j u)) } :=
    I.lstUpd hp ho (mapSeq_set its n j u) (r.set rv j) (by rw [List.length_set]; exact hz) s.toks
  by_cases h0 : 0 ≤ k
  · have hk : k.toNat = j := by
      rw [seqIndex_of h0 h4] at h1
      exact Option.some.inj h1
    exact PySem.W.ki_setAt ho h0 (by omega) (by rw [List.size_toArray, ← hl]; exact h4) (by rw [hk]; exact ⟨_, I', q⟩)
  · have hk : (k + (its.toArray.size : Int)).toNat = j := by
      rw [seqIndex_neg (by omega) h3] at h1
      rw [List.size_toArray, ← hl]
      exact Option.some.inj h1
    exact PySem.W.ki_setBack ho (by omega) (by rw [List.size_toArray, ← hl]; exact h3) (by omega) (by rw [hk]; exact ⟨_, I', q⟩)

/-! ### slices -/
theorem slice_bounds (lo hi : Option Int) (n : Nat) : (sliceBounds lo hi none n).1 = ((HT.sIx n 0 lo : Nat) : Int) ∧ (sliceBounds lo hi none n).2.1 = ((HT.sIx n n hi : Nat) : Int) ∧ (sliceBounds lo hi none n).2.2 = 1 := by
  refine ⟨?_, ?_, rfl⟩
  · cases lo with
    | none => simp [sliceBounds, HT.sIx]
    | some i =>
      simp only [sliceBounds, HT.sIx, Option.getD_none, show (1 : Int) > 0 by decide, if_true]
      by_cases h : i < 0
      · simp only [h, if_true] <;> omega
      · simp only [h, if_false] <;> omega
  · cases hi with
    | none => simp [sliceBounds, HT.sIx]
    | some i =>
      simp only [sliceBounds, HT.sIx, Option.getD_none, show (1 : Int) > 0 by decide, if_true]
      by_cases h : i < 0
      · simp only [h, if_true] <;> omega
      · simp only [h, if_false] <;> omega
theorem slicePick_cut (its : List Value) (lo hi : Option Int) : slicePick its.toArray lo hi none = ((its.drop (HT.sIx its.length 0 lo)).take (HT.sIx its.length its.length hi - HT.sIx its.length 0 lo)).toArray := by
  obtain ⟨h1, h2, h3⟩ := slice_bounds lo hi its.toArray.size
  unfold slicePick
  rw [h1, h2, h3]
  simp only [sliceRange_one, pick_run, List.size_toArray] <;> rfl
/-- xs[lo:hi] of a list: a new list -/
def rSlL (K : PySem.W.Frag) : V → Option Int → Option Int → Hp → VK → Prop := fun x lo hi H Q => ∃ a xs, x = .ref a ∧ SqL K H a xs ∧ ∀ p, H p = none → Q (.ref p) (upd H p (.lst (cutV xs lo hi)))
theorem sl_list : SlR X (rSlL X.K) := by
  intro pins s σ H x v vl vu lo hi sl Q I rx hs pl pu h
  obtain ⟨a, xs, rfl, hx, q⟩ := h
  cases rx
  obtain ⟨its, r, ht, hz⟩ := I.list hx
  have hlen := r.length
  refine ⟨"list", _, slot_list_getitem.lookup, ht.isList.typeIs, ?_⟩
  refine wpAny_getItem_list_slice ht.isList hs pl pu .none (by simp) ?_ (by rw [List.size_toArray] <;> omega)
  rw [slicePick_cut, ← hlen]
  refine ⟨.ref s.heap.objs.size, _, I.laid (t' := s.toks) (o := .lst (cutV xs lo hi)) (fun b ob q => Heap.get?_push_of_some _ q) (Nat.le_refl _) ?_, rfl, q _ (I.hok.fresh (Nat.le_refl _))⟩
  exact ⟨Nat.le_trans (cutV_length xs lo hi) hz, _, 0, (r.drop (HT.sIx xs.length 0 lo)).take (HT.sIx xs.length xs.length hi - HT.sIx xs.length 0 lo), Heap.get?_push_size _ rfl⟩

/-! ### in, not in: flat items -/
def flatV : V → Bool
  | .non => true
  | .bl _ => true
  | .int _ => true
  | .str _ => true
  | _ => false
/-- == of flat values -/
def eqV : V → V → Bool
  | .non, .non => true
  | .bl a, .bl b => a == b
  | .bl a, .int b => (if a then 1 else 0) == b
  | .int a, .bl b => a == (if b then 1 else 0)
  | .int a, .int b => a == b
  | .str a, .str b => a == b
  | _, _ => false
theorem eqAt_V {A : Around} {s : Shared} {y x : V} {u v : Value} (ry : RelV y u) (rx : RelV x v) (fy : flatV y = true) (fx : flatV x = true) : SeqAt.EqAt A s u v (eqV y x) := by
  cases y with
  | non =>
    cases ry
    cases x with
    | non => cases rx; exact SeqAt.EqAt.same _
    | bl b => cases rx; exact SeqAt.EqAt.none_bool b
    | int b => obtain ⟨t, rfl⟩ := rx; exact SeqAt.EqAt.none_int b t
    | str b => obtain ⟨t, rfl⟩ := rx; exact SeqAt.EqAt.none_str b t
    | _ => exact absurd (show false = true from fx) Bool.false_ne_true
  | bl a =>
    cases ry
    cases x with
    | non => cases rx; exact SeqAt.EqAt.bool_none a
    | bl b => cases rx; exact SeqAt.EqAt.bool_bool a b
    | int b => obtain ⟨t, rfl⟩ := rx; exact SeqAt.EqAt.bool_int a b t
    | str b => obtain ⟨t, rfl⟩ := rx; exact SeqAt.EqAt.bool_str a b t
    | _ => exact absurd (show false = true from fx) Bool.false_ne_true
  | int a =>
    obtain ⟨t', rfl⟩ := ry
    cases x with
    | non => cases rx; exact SeqAt.EqAt.int_none a t'
    | bl b => cases rx; exact SeqAt.EqAt.int_bool a t' b
    | int b => obtain ⟨t, rfl⟩ := rx; exact SeqAt.EqAt.int_int a t' b t
    | str b => obtain ⟨t, rfl⟩ := rx; exact SeqAt.EqAt.int_str a t' b t
    | _ => exact absurd (show false = true from fx) Bool.false_ne_true
  | str a =>
    obtain ⟨t', rfl⟩ := ry
    cases x with
    | non => cases rx; exact SeqAt.EqAt.str_none a t'
    | bl b => cases rx; exact SeqAt.EqAt.str_bool a t' b
    | int b => obtain ⟨t, rfl⟩ := rx; exact SeqAt.EqAt.str_int a t' b t
    | str b => obtain ⟨t, rfl⟩ := rx; exact SeqAt.EqAt.str_str a t' b t
    | _ => exact absurd (show false = true from fx) Bool.false_ne_true
  | _ => exact absurd (show false = true from fy) Bool.false_ne_true
/-- the items' answers, read off the values (a value's own answer does not lean on its token) -/
def eqU (x : V) (u : Value) : Bool := match u with
  | .none => eqV .non x
  | .bool b => eqV (.bl b) x
  | .int i _ => eqV (.int i) x
  | .str z _ => eqV (.str z) x
  | _ => false
theorem eqU_of {x y : V} {u : Value} (r : RelV y u) (f : flatV y = true) : eqU x u = eqV y x := by
  cases y with
  | non => cases r; rfl
  | bl b => cases r; rfl
  | int i => obtain ⟨t, rfl⟩ := r; rfl
  | str z => obtain ⟨t, rfl⟩ := r; rfl
  | _ => exact absurd (show false = true from f) Bool.false_ne_true
theorem any_eqU {x : V} : ∀ {xs : List V} {us : List Value}, Vals xs us → xs.all flatV = true → us.any (eqU x) = xs.any fun y => eqV y x
  | _, _, .nil, _ => rfl
  | y :: xs, u :: us, .cons r t, f => by
    rw [List.all_cons, Bool.and_eq_true] at f
    rw [List.any_cons, List.any_cons, eqU_of r f.1, any_eqU t f.2]
theorem mem_eqAt {A : Around} {s : Shared} {x : V} {v : Value} (rx : RelV x v) (fx : flatV x = true) : ∀ {xs : List V} {us : List Value}, Vals xs us → xs.all flatV = true → ∀ u ∈ us, SeqAt.EqAt A s u v (eqU x u)
  | _, _, .nil, _ => fun u hu => by cases hu
  | y :: xs, u :: us, .cons r t, f => fun u' hu => by
    rw [List.all_cons, Bool.and_eq_true] at f
    rcases List.mem_cons.mp hu with rfl | hu
    · rw [eqU_of r f.1]; exact eqAt_V r rx f.1 fx
    · exact mem_eqAt rx fx t f.2 u' hu
def inV (x : V) (xs : List V) : Bool := xs.any fun y => eqV y x
/-- x in a list or tuple of flat items -/
def rIn (K : PySem.W.Frag) (neg : Bool) : R2 := fun x y H Q => ∃ p xs, y = .ref p ∧ (SqL K H p xs ∨ SqT K H p xs) ∧ flatV x = true ∧ xs.all flatV = true ∧ Q (.bl (if neg then !inV x xs else inV x xs)) H
theorem op_in_seq : OpR X (compareOp .In) (rIn X.K false) := by
  intro pins s σ H x y v u Q I rx ry h
  obtain ⟨p, xs, rfl, hq, fx, fs, q⟩ := h
  cases ry
  rcases hq with hq | hq
  · obtain ⟨its, r, pl, hz⟩ := I.list hq
    refine SeqAt.in_listAt (eqU x) pl.isList (fun w hw => mem_eqAt rx fx r fs w (by simpa using hw)) ⟨.bl _, H, I, rfl, ?_⟩
    rw [show its.toArray.any (eqU x) = its.any (eqU x) by simp, any_eqU r fs]
    exact q
  · obtain ⟨its, r, pl, hz⟩ := I.tuple hq
    refine SeqAt.in_tupleAt (eqU x) pl (fun w hw => mem_eqAt rx fx r fs w (by simpa using hw)) ⟨.bl _, H, I, rfl, ?_⟩
    rw [show its.toArray.any (eqU x) = its.any (eqU x) by simp, any_eqU r fs]
    exact q
/-! ### len, list(x), tuple(x) of any list or tuple that is read -/
theorem call_len_seq : CallR X (.builtin "len") (fun xs H Q => ∃ p ys, xs = [.ref p] ∧ (SqL X.K H p ys ∨ SqT X.K H p ys) ∧ Q (.int ys.length) H) := by
  intro pins s σ H xs us Q I r h
  obtain ⟨p, ys, rfl, hq, q⟩ := h
  obtain ⟨u, rfl, rx⟩ := vals1 r
  cases rx
  have hn := line63
  rcases hq with hq | hq
  · obtain ⟨its, r', pl, hz⟩ := I.list hq
    have hlen := r'.length
    exact Calls.call_len_list pl.isList (by simp only [List.size_toArray] <;> omega) ⟨.int ys.length, H, I.tok _, ⟨s.toks + 1, by rw [List.size_toArray, hlen]⟩, q⟩
  · obtain ⟨its, r', pl, hz⟩ := I.tuple hq
    have hlen := r'.length
    exact len_tuple pl (by simp only [List.size_toArray] <;> omega) ⟨.int ys.length, H, I.tok _, ⟨s.toks + 1, by rw [List.size_toArray, hlen]⟩, q⟩
theorem call_list_of : CallR X (.type "list") (fun xs H Q => ∃ p ys, xs = [.ref p] ∧ (SqL X.K H p ys ∨ SqT X.K H p ys) ∧ ∀ l, H l = none → Q (.ref l) (upd H l (.lst ys))) := by
  intro pins s σ H xs us Q I r h
  obtain ⟨p, ys, rfl, hq, q⟩ := h
  obtain ⟨u, rfl, rx⟩ := vals1 r
  cases rx
  have fin : ∀ (its : List Value), Vals ys its → ys.length ≤ sizeLine → ∀ (h' : Heap) (c' : Nat), (∀ b o', s.heap.get? b = some o' → h'.get? b = some o') →
      h'.get? s.heap.objs.size = some { cls := .type "list", dict := none, data := .seq its.toArray c', slots := #[] } → EP X pins σ Q (.ref s.heap.objs.size) { s with heap := h' } := fun its r' hz h' c' kp e =>
    ⟨.ref s.heap.objs.size, _, I.laid (t' := s.toks) kp (Nat.le_refl _) (show ObjOk X.prog X.w _ h' _ (.lst ys) from ⟨hz, its, c', r', e⟩), rfl, q _ (I.hok.fresh (Nat.le_refl _))⟩
  rcases hq with hq | hq
  · obtain ⟨its, r', pl, hz⟩ := I.list hq
    have hlen := r'.length
    obtain ⟨o, ho, hc, n, hd⟩ := pl.isList
    exact call_list_seq p (.inl rfl) ho hc hd (fun h' c' kp e => fin its r' hz h' c' kp e) (by simp only [List.size_toArray] <;> omega)
  · obtain ⟨its, r', pl, hz⟩ := I.tuple hq
    have hlen := r'.length
    obtain ⟨o, ho, hc, n, hd⟩ := pl
    exact call_list_seq p (.inr rfl) ho hc hd (fun h' c' kp e => fin its r' hz h' c' kp e) (by simp only [List.size_toArray] <;> omega)
/-! ### the call of a builtin's method: o.m(..) -/
/-- the value is of that builtin type -/
def tyV (K : PySem.W.Frag) (T : String) (x : V) (H : Hp) : Prop := match x with
  | .str _ => T = "str"
  | .int _ => T = "int"
  | .ref p => (T = "list" ∧ ∃ xs, SqL K H p xs) ∨ (T = "tuple" ∧ ∃ o, K.lookup p = some o ∧ o.cls = .type "tuple" ∧ o.dict = none) ∨
      (T = "dict" ∧ ((∃ kvs, H p = some (.dK kvs)) ∨ ∃ kvs, H p = some (.dT kvs))) ∨ (T = "set" ∧ ∃ S n, H p = some (.set S n))
  | _ => False
theorem tyV_is {pins : List (Addr × Obj)} {σ : St} {H : Hp} {s : Shared} {T : String} {x : V} {v : Value} (I : Inv X pins σ H s) (r : RelV x v) (ty : tyV X.K T x H) :
    s.TypeIs v T ∧ ∀ a, v = .ref a → ∃ ob, s.heap.get? a = some ob ∧ ob.dict = none := by
  cases x with
  | str z =>
    obtain ⟨t, rfl⟩ := r
    cases (show T = "str" from ty)
    exact ⟨typeIs_str s z t, fun _ e => nomatch e⟩
  | int i =>
    obtain ⟨t, rfl⟩ := r
    cases (show T = "int" from ty)
    exact ⟨typeIs_int s i t, fun _ e => nomatch e⟩
  | ref p =>
    cases r
    rcases ty with ⟨rfl, xs, hq⟩ | ⟨rfl, o, hk, hc, hd⟩ | ⟨rfl, hk⟩ | ⟨rfl, S, n, hk⟩
    · obtain ⟨its, _, pl, _⟩ := I.list hq
      refine ⟨pl.isList.typeIs, fun a e => ?_⟩
      cases e
      obtain ⟨o, n, e, c, hd, _⟩ := pl
      exact ⟨o, e, hd⟩
    · refine ⟨⟨o, I.kIn p o hk, hc⟩, fun a e => ?_⟩
      cases e
      exact ⟨o, I.kIn _ o hk, hd⟩
    · have z : ∃ o, s.heap.get? p = some o ∧ o.ExactDict := by
        rcases hk with ⟨kvs, hk⟩ | ⟨kvs, hk⟩
        · obtain ⟨_, _, _, _, o, _, _, e, ex, _⟩ := I.hok p _ hk
          exact ⟨o, e, ex⟩
        · obtain ⟨_, _, _, _, o, _, _, e, ex, _⟩ := I.hok p _ hk
          exact ⟨o, e, ex⟩
      obtain ⟨o, e, ex⟩ := z
      refine ⟨⟨o, e, ex.1⟩, fun a e2 => ?_⟩
      cases e2
      exact ⟨o, e, ex.2.1⟩
    · obtain ⟨o, _, _, _, e, ex, _⟩ := I.hok p _ hk
      refine ⟨⟨o, e, ex.1⟩, fun a e2 => ?_⟩
      cases e2
      exact ⟨o, e, ex.2.1⟩
  | _ => exact False.elim ty
def tBM0 (K : PySem.W.Frag) (T : String) (r : V → List V → Hp → VK → Prop) (to : TE) : TE := fun σ H Q => to σ H fun x H1 => tyV K T x H1 ∧ r x [] H1 Q
def tBM (K : PySem.W.Frag) (T : String) (r : V → List V → Hp → VK → Prop) (to : TE) (t : TA) : TE := fun σ H Q => to σ H fun x H1 => tyV K T x H1 ∧ t σ H1 fun xs H2 => r x xs H2 Q
variable {o e : Expr} {es : List Expr} {to : TE} {t : TA} {name : Str} {apos cpos : Pos} {T id : String} {r : V → List V → Hp → VK → Prop}
theorem pe_bm (pa : PlainAttrs T) (slot : Slot T name id) (hty : typeOf (.builtin id) = pure (.type "method_descriptor")) (hm : MtR X id r) (ho : PE X o to) (ha : PA X (e :: es) t)
    (hbase : attributeBase o name X.env (eval o X.env) = eval o X.env := by rfl)
    (hfew : ((backTo cpos (starEach (e :: es) X.env)).all (fun x => !x.1) && (backToKw cpos (keywordEach [] X.env)).all (fun x => x.1.isSome)
      && decide ((e :: es).length + ([] : List Keyword).length + (if ([] : List Keyword).isEmpty then 0 else 1) < 30)) = true := by rfl)
    (hline : (apos.endLine == cpos.line) = true := by rfl) (hs : starEach (e :: es) X.env = (false, eval e X.env) :: starEach es X.env := by rfl) (hplain : (backTo cpos (starEach es X.env)).any (·.1) = false := by rfl) :
    PE X (.Call (.Attribute o name apos) (e :: es) [] cpos) (tBM X.K T r to t) := by
  intro pins s σ H Q I h
  refine wpAny_Call_method_late hbase hfew hline rfl (thn (ho pins s σ H _ I h) fun v s1 ⟨x, H1, I1, r1, ty, q1⟩ => ?_)
  obtain ⟨h1, h2⟩ := tyV_is I1 r1 ty
  refine ⟨T, id, pa, slot, hty, h1, h2, ?_⟩
  have hA := ha cpos pins s1 σ H1 _ I1 q1
  rw [hs] at hA ⊢
  refine Calls.callWith_builtin (by show (false || (backTo cpos (starEach es X.env)).any (·.1)) = false; rw [hplain] <;> rfl) (Calls.evalArgs_plain ?_)
  exact thn hA fun us s2 ⟨vs, H2, I2, r2, q2⟩ => hm pins s2 σ H2 x vs v us Q I2 r1 r2 q2
/- xs.append(e), list.index on a module's tuple .. are MtR facts of 06m -/
end
end L2

namespace L2
open PySem PySem.Spec PyProof.Rows

def MtM (X : Cx) (id : String) (r : V → List V → Hp → VK → Prop) : Prop :=
  ∀ (pins : List (Addr × Obj)) (s : Shared) (σ : St) (H : Hp) (x : V) (xs : List V) (v : Value) (us : List Value) (Q : VK), Inv X pins σ H s → RelV x v → Vals xs us → r x xs H Q →
    wpAny (model X.prog X.w) X.A (call (.builtin id) (v :: us)) (EP X pins σ Q) X.xe s

/-! ### lists of values -/
theorem Vals.one : ∀ {x : V} {us : List Value}, Vals [x] us → ∃ u, us = [u] ∧ RelV x u
  | _, _, .cons r .nil => ⟨_, rfl, r⟩
theorem Vals.two : ∀ {x y : V} {us : List Value}, Vals [x, y] us → ∃ u v, us = [u, v] ∧ RelV x u ∧ RelV y v
  | _, _, _, .cons r (.cons q .nil) => ⟨_, _, rfl, r, q⟩
section
variable {X : Cx} {pins : List (Addr × Obj)} {σ : St} {H : Hp} {s : Shared} {l b : Addr} {xs ys zs : List V}

/-! ### the two steps: a tracked list is rewritten, a new list is laid -/
theorem Inv.lset {its its' : List Value} {n : Nat} {f : Array Value → Array Value} {t' : Nat} (I : Inv X pins σ H s) (hH : H l = some (.lst xs))
    (e : s.heap.get? l = some { cls := .type "list", data := .seq its.toArray n }) (hf : f its.toArray = its'.toArray) (hv : Vals ys its') (hz : ys.length ≤ sizeLine) :
    Inv X pins σ (upd H l (.lst ys)) { s with heap := s.heap.update l (Obj.mapSeq f), toks := t' } := by
  have q := PySem.IsL.update e f
  rw [hf] at q
  refine I.write (x := l) (e := l) (by rw [hH]; exact trivial) (.inl rfl) (fun b' u hb hu => (Heap.get?_update_other s.heap (Obj.mapSeq f) (Ne.symm hb)).trans hu) ⟨_, q⟩ ?_
  exact ⟨hz, its', _, hv, q⟩
theorem Inv.lnew {its : List Value} {t' : Nat} (I : Inv X pins σ H s) (hv : Vals ys its) (hz : ys.length ≤ sizeLine) :
    Inv X pins σ (upd H s.heap.objs.size (.lst ys)) { s with heap := s.heap.push { cls := .type "list", data := .seq its.toArray }, toks := t' } :=
  I.laid (fun _ _ q => Heap.get?_push_of_some _ q) (Nat.le_refl _) ⟨hz, its, 0, hv, Heap.get?_push_size _ rfl⟩
theorem Inv.fresh (I : Inv X pins σ H s) : H s.heap.objs.size = none := I.hok.fresh (Nat.le_refl _)
theorem Inv.lstM (I : Inv X pins σ H s) (hH : H l = some (.lst xs)) : xs.length ≤ sizeLine ∧ ∃ (its : List Value) (n : Nat), Vals xs its ∧ xs.length = its.length ∧ s.heap.get? l = some { cls := .type "list", data := .seq its.toArray n } := by
  obtain ⟨z, its, n, r, e⟩ := I.hok l _ hH
  exact ⟨z, its, n, r, r.length, e⟩

end

section
variable {X : Cx}

/-! ### methods -/
def rAppend : V → List V → Hp → VK → Prop := fun x vs H Q => ∃ l xs y, x = .ref l ∧ vs = [y] ∧ H l = some (.lst xs) ∧ xs.length < sizeLine ∧ Q .non (upd H l (.lst (xs ++ [y])))
theorem mt_append : MtM X "list.append" rAppend := by
  intro pins s σ H x vs v us Q I rx rv h
  obtain ⟨l, xs, y, rfl, rfl, hH, hz, q⟩ := h
  cases rx
  obtain ⟨u, rfl, ru⟩ := rv.one
  obtain ⟨z, its, n, r, hl, e⟩ := I.lstM hH
  refine call_meets F.slot_list_append ⟨_, e, rfl⟩ F.entry_list_append (F.args_list_append_2 _ _) (PySem.list_append l its.toArray n u (by rw [List.size_toArray]; omega)) ⟨e, ?_⟩
  refine ⟨.non, _, I.lset (its' := its ++ [u]) hH e (by simp) (r.append (.cons ru .nil)) ?_, rfl, q⟩
  rw [List.length_append, List.length_singleton]
  omega

def rExtend : V → List V → Hp → VK → Prop := fun x vs H Q => ∃ l b xs zs, x = .ref l ∧ vs = [.ref b] ∧ H l = some (.lst xs) ∧ H b = some (.lst zs) ∧ xs.length + zs.length ≤ sizeLine ∧ Q .non (upd H l (.lst (xs ++ zs)))
def rPop : V → List V → Hp → VK → Prop := fun x vs H Q => ∃ l xs y, x = .ref l ∧ vs = [] ∧ H l = some (.lst xs) ∧ xs[xs.length - 1]? = some y ∧ Q y (upd H l (.lst xs.dropLast))
def rPopAt : V → List V → Hp → VK → Prop := fun x vs H Q => ∃ l xs i k y, x = .ref l ∧ vs = [.int i] ∧ H l = some (.lst xs) ∧ -(2 ^ 63) ≤ i ∧ i < 2 ^ 63 ∧ seqIndex? i xs.length = some k ∧ xs[k]? = some y ∧ Q y (upd H l (.lst (xs.eraseIdx k)))
def rReverse : V → List V → Hp → VK → Prop := fun x vs H Q => ∃ l xs, x = .ref l ∧ vs = [] ∧ H l = some (.lst xs) ∧ Q .non (upd H l (.lst xs.reverse))
def rClear : V → List V → Hp → VK → Prop := fun x vs H Q => ∃ l xs, x = .ref l ∧ vs = [] ∧ H l = some (.lst xs) ∧ Q .non (upd H l (.lst []))
/-! ### list + list, list += list, list * int -/
def rCat : R2 := fun x y H Q => ∃ l b xs zs, x = .ref l ∧ y = .ref b ∧ H l = some (.lst xs) ∧ H b = some (.lst zs) ∧ xs.length + zs.length ≤ sizeLine ∧ ∀ p, H p = none → Q (.ref p) (upd H p (.lst (xs ++ zs)))
theorem op_cat : OpR X (binaryOp .Add) rCat := by
  intro pins s σ H x y v u Q I rx ry h
  obtain ⟨l, b, xs, zs, rfl, rfl, hH, hB, hz, q⟩ := h
  cases rx
  cases ry
  obtain ⟨z, its, n, r, hl, e⟩ := I.lstM hH
  obtain ⟨z2, its2, n2, r2, hl2, e2⟩ := I.lstM hB
  refine PySem.P.add_list e e2 ?_ (by rw [List.size_toArray, List.size_toArray]; omega)
  have ea : its.toArray ++ its2.toArray = (its ++ its2).toArray := by simp
  rw [ea]
  exact ⟨.ref _, _, I.lnew (t' := s.toks) (r.append r2) (by rw [List.length_append]; omega), rfl, q _ I.fresh⟩
/-- a list times an int (a negative one is nothing) -/
def rRep : R2 := fun x y H Q => ∃ l k xs, x = .ref l ∧ y = .int k ∧ H l = some (.lst xs) ∧ -(2 ^ 63) ≤ k ∧ k < 2 ^ 63 ∧ xs.length * k.toNat ≤ sizeLine ∧
  ∀ p, H p = none → Q (.ref p) (upd H p (.lst (List.replicate k.toNat xs).flatten))
/-! ### del xs[i] -/
end

/-! ### xs[a:b] = ys -/
section
variable {prog : Program} {w : World} {A : Around} {E : Value → Shared → Prop} {s : Shared}
end

section
variable {X : Cx}
end
end L2

namespace Att
open PySem PySem.W PySem.Calls PyProof.Rows

/-! ### the script -/
theorem ints_of_wellAll {P : Params} {h : Heap} : ∀ (ns : List Int) (vs : List Value), WellAll P h vs (ns.map WData.int) → IntsAre vs ns := by
  intro ns
  induction ns with
  | nil =>
    intro vs w
    rw [List.map_nil] at w
    cases w
    exact .nil
  | cons n ns ih =>
    intro vs w
    rw [List.map_cons] at w
    cases w with
    | cons a b =>
      cases a
      exact .cons _ _ (ih _ b)

theorem script_of {l : OpenLaw} {n : Nat} (hn : l.most = some n) {P : Params} {h : Heap} {args : List WData} {vals : List Value}
    (hpre : l.row.toRowW.claim.pre args = true) (hwl : WellAll P h vals args) :
    ∃ a vs ns, vals = [Value.ref a] ∧ args = [WData.list (ns.map WData.int)] ∧ h.get? a = some { cls := .type "list", data := .seq vs.toArray } ∧ IntsAre vs ns ∧ ns.length ≤ n := by
  have hsh : WShape.hasAll [] args [.list .int] = true := (pre_splitW hpre).1
  have hc : l.pre.holds [] { args := args } = true := (pre_splitW hpre).2
  obtain ⟨d, r, rfl, h1, h2⟩ := hasAllW_cons hsh
  obtain rfl := hasAllW_nil h2
  obtain ⟨xs, rfl, h3⟩ := hasW_list h1
  obtain ⟨ns, rfl⟩ := items_int h3
  have hlen : ns.length ≤ n := by
    unfold OpenLaw.pre at hc
    have h4 : (WTm.not (.lt (.lit (.int (n : Int))) (.len (.arg 0)))).holds [] { args := [.list (ns.map .int)] } = true := by
      have h4 := (holds_andW hc).1
      rw [hn] at h4
      exact h4
    have h5 := condW_of h4 (w_not (w_lt w_lit (w_len_list (w_arg rfl))))
    rw [List.length_map] at h5
    refine Nat.le_of_not_lt fun q => ?_
    have q' : (n : Int) < ((ns.length : Nat) : Int) := by omega
    first
      | (rw [decide_eq_true q'] at h5; exact absurd h5 (by decide))
      | (simp at h5; omega)
  cases hwl with
  | cons w1 w2 =>
    cases w2
    cases w1 with
    | list ho hall => exact ⟨_, _, ns, rfl, rfl, ho, ints_of_wellAll ns _ hall, hlen⟩

theorem post_true (l : OpenLaw) (args : List WData) : l.row.toRowW.claim.post args (.bool true) args = true :=
  postW_of (r := l.row.toRowW) (X := (true == true))
    (show WShape.has [] (.bool true) .bool = true by first | rfl | decide | simp [WShape.has, WShape.arms, WShape.armsAll])
    (show (WTm.eq .res (.lit (.bool true))).value [] { args := args, res := some (.bool true), after := args } = some (.bool (true == true)) from w_eq_bool (w_res rfl) w_lit) rfl

/-! ### the attachment: holds_open's last premise (the goal 'hc' behind k_head) from a wpAny of the law's body -/
/-- the same from a codeAny of the CALL (for a layer whose function contracts speak of calls) -/
theorem attach_call {l : OpenLaw} {n : Nat} {q : Program} {loose : List Str} {XP : (Str → Option Value) → Heap → Prop} {YP : World → Heap → Prop} {d : DefRec}
    (hn : l.most = some n) (hdf : d.params.defaults = [])
    (call : ∀ (w : World) (s₀ s₁ : Shared) (mg mb : Str → Option Value) (fa : Addr) (o : Obj) (pm cd doc : Value) (a : Addr) (vs : List Value) (ns : List Int),
      Ground q loose [] XP w s₀ mg mb s₁.heap → YP w s₁.heap →
      s₁.heap.get? fa = some o → o.data = .func (docDef d.name d.params d.body d.scope pm cd doc) → s₁.heap.CodeRec cd d.name → mg d.name = some (.ref fa) →
      s₁.heap.get? a = some { cls := .type "list", data := .seq vs.toArray } → IntsAre vs ns → ns.length ≤ n → s₁.gens = #[] →
      codeAny (model l.prog w) callerA (.call (.ref fa) ⟨[.ref a], []⟩) (fun r s' => r = .ok (.ret (.bool true)) ∧ OldK s₁.heap s'.heap ∧ s'.os = s₁.os ∧ AllBare s'.gens) s₁) :
    WalkO q loose XP YP l.row.toRowW d [] (fun f vs => PySem.call f vs) := by
  intro w s₀ s₁ mg mb G Y fa o pm cd doc dV kV ho hd hcd hD hmg hg args vals as hpre hlay hrd hwl hlo
  obtain rfl : dV = .none := Dflts.none hD hdf
  obtain rfl : kV = .none := Dflts.noKw hD
  obtain ⟨a, vs, ns, rfl, rfl, hobj, hints, hlen⟩ := script_of hn hpre hwl
  refine enter_call (codeAny_mono (call w s₀ s₁ mg mb fa o pm cd doc a vs ns G Y ho (fd_plain hd) hcd hmg hobj hints hlen hg) fun r s' hq => ?_)
  obtain ⟨rfl, h2, h3, h4⟩ := hq
  exact ⟨.inl ⟨.bool true, .bool true, [], rfl, fun _ => rfl, .bool true, post_true l _, fun _ => ⟨List.Pairwise.nil, fun _ hm => (nomatch hm)⟩⟩, h2, h3, h4⟩

/-! ### rules over ANY heap (no ledger) from facts about the written part K: the library's own take a ledger (News) for what they write -/
section
variable {prog : Program} {w : World} {A : Around} {E : Value → Shared → Prop} {s : Shared} {K : Frag}

/-! the whole heap as the ledger: makes every rule that writes through a ledger a rule over any heap -/
def noObjs (h : Heap) : Heap := { h with objs := #[] }
def ledger (h : Heap) (L d : Addr) : List (Addr × Obj) := (List.range h.objs.size).filterMap fun a => if a = L ∨ a = d then none else (h.get? a).map fun o => (a, o)
end
end Att

namespace L2
open PySem PySem.Spec PyProof.Rows

theorem vals_ints : ∀ {vs : List Value} {ns : List Int}, IntsAre vs ns → Vals (ns.map V.int) vs
  | _, _, .nil => .nil
  | _, _, .cons n t h => .cons ⟨t, rfl⟩ (vals_ints h)

/-- nothing is tracked but the script, known to the object (or it is an object of the module) -/
def Only (H : Hp) : Prop := ∀ b, H b = none ∨ ∃ o xs, H b = some (.frz o (.lst xs))

/-- THE HEAD: the law's promise, at the heap behind the top. F, the promise of the law's def, may use that base is part of the heap (so K.In base, base.Ns mainGlobals mg stand in Mod) -/
theorem law_call {P : Program} {w : World} {K : PySem.W.Frag} {mg mb : Str → Option Value} {CX : CXT} {k : Nat} {fa a : Addr} {fd : FuncData} {x : Str} {sp : Sp} {s₁ : Shared} {vs : List Value} {ns : List Int}
    (KX : K.In s₁.heap) (hns : s₁.heap.Ns mainGlobals mg) (hb : s₁.heap.Ns builtinsNs mb) (hbb : ∀ x : Str, x ≠ "__name__" → mb x = bootBuiltins x) (hlim : s₁.heap.NoLimit) (hg : s₁.gens = #[])
    (ha : s₁.heap.get? a = some { cls := .type "list", data := .seq vs.toArray }) (hi : IntsAre vs ns) (hl : ns.length ≤ sizeLine) (hr : Room k callerA)
    (F : ∀ base : Heap, K.In base → base.Ns mainGlobals mg → FnOk P w K mg base CX k fa fd [x] sp) (hbind : ∀ (s : Shared) (u : Value), BindsTo s fd ⟨[u], []⟩ [(x, u)])
    (hsp : ∀ H : Hp, Only H → SqL K H a (ns.map V.int) → sp [.ref a] H (fun v _ => v = .bl true) fun _ _ _ => False)
    (hCX : ∀ H e s', CX [] H s₁ (fun _ _ _ => False) e s' → False) :
    codeAny (model P w) callerA (.call (.ref fa) ⟨[.ref a], []⟩) (fun r s' => r = .ok (.ret (.bool true)) ∧ OldK s₁.heap s'.heap ∧ s'.os = s₁.os ∧ AllBare s'.gens) s₁ := by
  have rv := vals_ints hi
  have lenV := hi.length
  -- from an abstract heap in which nothing but the script may be tracked
  have core : ∀ H : Hp, Only H → SqL K H a (ns.map V.int) → HOk P w H s₁.heap → (∀ b, H b ≠ none → b = a) → (H a ≠ none → K.lookup a = none) →
      codeAny (model P w) callerA (.call (.ref fa) ⟨[.ref a], []⟩) (fun r s' => r = .ok (.ret (.bool true)) ∧ OldK s₁.heap s'.heap ∧ s'.os = s₁.os ∧ AllBare s'.gens) s₁ := by
    intro H hO hS hok hA hK
    have base_of : ∀ {b : Addr} {o : Obj}, s₁.heap.get? b = some o → H b = none → (hidT s₁.heap H).get? b = some o := fun e n => hidT_get e n
    have noA : ∀ {b : Addr} {o : Obj} {es : Array DictEntry} {ep : Nat}, s₁.heap.get? b = some o → o.data = .dict es ep → H b = none := fun {b o es ep} e d => by
      cases q : H b with
      | none => rfl
      | some u =>
        have e' : b = a := hA b (by rw [q]; simp)
        subst e'
        rw [ha] at e; cases e
        have d' : Data.seq vs.toArray _ = Data.dict es ep := d
        cases d'
    have nsK : ∀ {b : Addr} {m : Str → Option Value}, s₁.heap.Ns b m → (hidT s₁.heap H).Ns b m := fun {b m} ⟨o, es, ep, e, d, r⟩ => ⟨o, es, ep, base_of e (noA e d), d, r⟩
    have hKb : K.In (hidT s₁.heap H) := fun b o e => base_of (KX b o e) (by
      cases q : H b with
      | none => rfl
      | some u =>
        have e' : b = a := hA b (by rw [q]; simp)
        subst e'
        rw [hK (by rw [q]; simp)] at e; cases e)
    have hM : Mod K mg (hidT s₁.heap H) := ⟨hKb, nsK hns, ⟨mb, nsK hb, hbb⟩, let ⟨mc, h1, h2⟩ := hlim; ⟨mc, nsK h1, h2⟩⟩
    have e0 : Env0 P w K mg (hidT s₁.heap H) callerA [] s₁ H := ⟨rfl, hM, fun b o e => of_hidT e, Nat.le_of_eq (hidT_size _ _), trivial, fun b hb => absurd (show b ∈ ([] : List Addr) from hb) (by simp), hok, .of_eq hg⟩
    refine codeAny_mono ((F _ hKb (nsK hns)).run callerA [] s₁ H ⟨[.ref a], []⟩ [.ref a] [.ref a] _ _ hr e0 (hbind s₁ (.ref a)) (.cons rfl .nil) (hsp H hO hS)) fun r s' h => ?_
    cases r with
    | error e => exact (hCX H e s' h).elim
    | ok fl =>
      cases fl with
      | next => exact False.elim h
      | brk => exact False.elim h
      | cont => exact False.elim h
      | ret u =>
        obtain ⟨v, H', os, bare, un, hok', r', q⟩ := h
        have q' : v = .bl true := q
        subst q'
        obtain rfl : u = Value.bool true := r'
        refine ⟨rfl, OldK.of_keep fun b o e => ?_, os, bare⟩
        cases q : H b with
        | none => exact un.keep b o e q (by intro z; exact absurd (show b ∈ ([] : List Addr) from z) (by simp)) (by simp)
        | some u =>
          rcases hO b with z | ⟨ob, xs, z⟩
          · rw [q] at z; cases z
          · have z2 := un.frzs b ob _ z
            obtain ⟨e1, _⟩ := hok b _ z
            obtain ⟨e2, _⟩ := hok' b _ z2
            rw [e] at e1; cases e1
            exact e2
  cases hk : K.lookup a with
  | some o =>
    -- the script is one of the module's own objects
    have e := KX a o hk
    rw [ha] at e
    cases e
    refine core (fun _ => none) (fun _ => .inl rfl) (.inr ⟨_, vs.toArray, _, hk, rfl, rfl, rfl, by rw [List.size_toArray, lenV]; exact hl, by simpa using rv⟩) (fun b u z => by have z' : (none : Option HO) = some u := z; cases z') (fun b z => absurd rfl z) fun z => absurd rfl z
  | none =>
    refine core (fun b => if b = a then some (.frz { cls := .type "list", data := .seq vs.toArray } (.lst (ns.map V.int))) else none) (fun b => ?_) (.inl (.inr ⟨{ cls := .type "list", data := .seq vs.toArray }, if_pos rfl⟩)) (fun b u z => ?_) (fun b z => ?_) fun _ => hk
    · by_cases hb : b = a
      · exact .inr ⟨_, _, if_pos hb⟩
      · exact .inl (if_neg hb)
    · by_cases hb : b = a
      · have z' := (if_pos hb).symm.trans z
        cases z'
        subst hb
        exact ⟨ha, by rw [List.length_map]; exact hl, vs, _, rv, ha⟩
      · have z' := (if_neg hb).symm.trans z
        cases z'
    · by_cases hb : b = a
      · exact hb
      · exact absurd (if_neg hb) z
end L2

namespace L2
open PySem PySem.Spec PyProof.Rows

abbrev KOf {K : PySem.W.Frag} {h : Heap} (_ : K.In h) : PySem.W.Frag := K

/-- the goal that k_head leaves (case hc), from the law's promise. F gives the function object fd (K's own) once, then the promise over every base -/
theorem walk_of {l : PySem.W.OpenLaw} {n k : Nat} {q : Program} {loose : List Str} {XP : (Str → Option Value) → Heap → Prop} {YP : World → Heap → Prop} {d : DefRec} {K : Params → PySem.W.Frag} {CX : World → CXT} {sp : World → Sp} {x : Str}
    (hn : l.most = some n) (hn2 : n ≤ sizeLine) (hdf : d.params.defaults = []) (hr : Room k callerA)
    (hY : ∀ (w : World) (h : Heap), YP w h → (K w.params).In h)
    (F : ∀ (w : World) (mg : Str → Option Value) (fa : Addr) (h : Heap), (K w.params).In h → h.Ns mainGlobals mg → mg d.name = some (.ref fa) →
      ∃ fd : FuncData, (∀ (s : Shared) (u : Value), BindsTo s fd ⟨[u], []⟩ [(x, u)]) ∧
        ∀ base : Heap, (K w.params).In base → base.Ns mainGlobals mg → FnOk l.prog w (K w.params) mg base (CX w) k fa fd [x] (sp w))
    (hsp : ∀ (w : World) (H : Hp) (a : Addr) (ns : List Int), ns.length ≤ n → Only H → SqL (K w.params) H a (ns.map V.int) → sp w [.ref a] H (fun v _ => v = .bl true) fun _ _ _ => False)
    (hCX : ∀ (w : World) (H : Hp) (s : Shared) (e : Value) (s' : Shared), CX w [] H s (fun _ _ _ => False) e s' → False) :
    PySem.W.WalkO q loose XP YP l.row.toRowW d [] (fun f vs => PySem.call f vs) := by
  refine Att.attach_call hn hdf fun w s₀ s₁ mg mb fa o pm cd doc a vs ns G Y ho hd hcd hmg hobj hints hlen hg => ?_
  have KX := hY w _ Y
  obtain ⟨fd, hb, hF⟩ := F w mg fa _ KX G.T.g hmg
  exact law_call KX G.T.g G.T.b G.T.builtins G.T.nolimit hg hobj hints (Nat.le_trans hlen hn2) hr hF hb (fun H hO hS => hsp w H a ns hlen hO hS) fun H e s' => hCX w H s₁ e s'
end L2

/- THE LAST THEOREM (shape; LID, My.* are yours):
   My.Adr: a structure of the addresses that your layer names (classes, functions); My.Txt K t: a structure (Prop) of the equations over K;
   My.txt_mk : {K} {implicit addresses ..} (e1 : nsIn K mainGlobals "law" = some (some (.ref f))) (e2 : K.lookup f = some ⟨oc, od, .func (fnOf "law" "law" params body scope dV kV doc pm an cdv ct), sl⟩) (e3 : codeIn K cdv "law" = true) .. : ∃ t, My.Txt K t

set_option maxRecDepth 100000 in
set_option maxHeartbeats 0 in
theorem PySem.Challenge.cw_LID_holds : PySem.Challenge.rw_LID.Holds := by
  w_on; o_law; k_head; (case hw => w_witness2)
  k_fill
  refine L2.walk_of (l := PySem.Challenge.rw_LID) (n := 63) (k := 40) (x := "script") (CX := fun w => ..) (sp := fun _ => My.sp_law) rfl (by decide) rfl ⟨rfl, by decide, by decide⟩ (fun w h Y => PySem.W.kIn_of Y) ?F ?S ?C
  case F =>
    intro w mg fa h KX G hmg
    have T : ∃ t, My.Txt (L2.KOf KX) t := by
      dsimp only [L2.KOf]                          -- K must stand as «<heap const> w.params» for k_is
      refine' My.txt_mk ?e1 ?e2 ?e3 ..
      (case e1 => PySem.W.k_is)                    -- in the order: a name -> its address -> its object -> its parts
      (case e2 => PySem.W.k_is)
      ..
    obtain ⟨t, T⟩ := T
    have e0 := hmg.symm.trans (PySem.W.mg_of KX G T.law)
    cases e0                                       -- fa is the law's own address
    exact ⟨_, fun s u => .of_eq rfl, fun base kb nb => My.law_fn T kb nb⟩     -- if «.of_eq rfl» comes too early: refine' ⟨_, ?b, fun base kb nb => My.law_fn T kb nb⟩; exact fun s u => .of_eq rfl
  case S => exact fun w H a ns hl hO hS => ..
  case C => exact ..
(the tactic k_is has no namespace: write k_is) -/

/-! SHORT WORDS over the layer: a def of the text, its body, what a loop and a test want. -/
namespace L2
open PySem PySem.Spec PyProof.Rows

/-! ### the text by places -/
/-- the j-th statement of a class's body -/
def inClass (s : Stmt) (j : Nat) : Stmt := match s with
  | .ClassDef _ _ _ body _ _ _ _ _ _ _ => body.getD j (.Pass ⟨0, 0, 0, 0⟩)
  | _ => .Pass ⟨0, 0, 0, 0⟩
def defArgs (s : Stmt) : Arguments := match s with
  | .FunctionDef _ a _ _ _ _ _ _ _ _ => a
  | _ => { posonlyargs := [], args := [], vararg := none, kwonlyargs := [], kw_defaults := [], kwarg := none, defaults := [] }
def defBody (s : Stmt) : List Stmt := match s with
  | .FunctionDef _ _ b _ _ _ _ _ _ _ => b
  | _ => []
def defScope (s : Stmt) : Scope := match s with
  | .FunctionDef _ _ _ _ _ _ sc _ _ _ => sc
  | _ => { kind := .function, names := [], isGenerator := false, isCoroutine := false }

/-! ### no exception leaves a def -/
abbrev CX0 : CXT := fun _ _ _ _ _ _ => False
abbrev E0 : XK := fun _ _ _ => False
theorem pass0 {X : Cx} : Passes CX0 X E0 := fun _ _ _ _ _ _ _ h => h.elim

/-! ### a def (or method) of the text as it stands behind the top -/
structure Fun (K : PySem.W.Frag) (x qual : Str) (st : Stmt) (f : Addr) (fd : FuncData) : Prop where
  ex : ∃ (oc : Value) (od : Option Addr) (kV doc pm : Value) (an : Option Addr) (cdv ct : Value) (osl : Array (Option Value)),
    fd = PySem.W.fnOf x qual (defArgs st) (defBody st) (defScope st) .none kV doc pm an cdv ct ∧ K.lookup f = some ⟨oc, od, .func fd, osl⟩ ∧ PySem.W.codeIn K cdv qual = true
  kp : PySem.W.keepIn K (.ref f) = true
section
variable {P : Program} {w : World} {K : PySem.W.Frag} {mg : Str → Option Value} {base : Heap}
/-- THE RULE for a def: its body as a term of rules, and the reading of that term -/
theorem Fun.ok {x qual : Str} {st : Stmt} {f : Addr} {fd : FuncData} {N ps : List Str} {k : Nat} {sp : Sp} (F : Fun K x qual st f fd) (S : FnScope N ps (defScope st)) (len : ∀ vs H Q E, sp vs H Q E → vs.length = ps.length)
    (hbody : ∀ (cdv : Value) (A : Around) (outer : List Env) (s : Shared) (H : Hp) (vs : List V) (Q : VK) (E : XK), Room k (A.deeper (envOfC qual (defScope st) s.heap.objs.size f cdv)) → sp vs H Q E →
      ∃ t, PSs (cxOf CX0 P w K mg base N qual (defScope st) f cdv A outer s H E).nox (defBody st) t ∧ t { nx := fun _ H' => Q .non H', rt := Q } (start N vs) H) : FnOk P w K mg base CX0 (k + 1) f fd ps sp := by
  obtain ⟨oc, od, kV, doc, pm, an, cdv, ct, osl, rfl, lk, hcd⟩ := F.ex
  refine fn_of lk hcd S len fun A outer s H vs Q E hr hsp => ?_
  obtain ⟨t, h, q⟩ := hbody cdv A outer s H vs Q E hr hsp
  exact ⟨t, h.nox, q⟩
/-- how its arguments bind (no defaults): h is «fun _ _ _ _ _ _ us hl => match us, hl with | [_, _], _ => rfl», one _ a parameter -/
theorem Fun.binds {x qual : Str} {st : Stmt} {f : Addr} {fd : FuncData} {ps : List Str} (F : Fun K x qual st f fd)
    (h : ∀ (kV doc pm : Value) (an : Option Addr) (cdv ct : Value) (us : List Value), us.length = ps.length → bindArgs (PySem.W.fnOf x qual (defArgs st) (defBody st) (defScope st) .none kV doc pm an cdv ct) ⟨us, []⟩ = pure (ps.zip us)) : Binds K fd ps [] := by
  obtain ⟨oc, od, kV, doc, pm, an, cdv, ct, osl, rfl, lk, hcd⟩ := F.ex
  exact .all (h kV doc pm an cdv ct)
theorem fun_mk {x qual : Str} {st : Stmt} {f : Addr} {oc : Value} {od an : Option Addr} {osl : Array (Option Value)} {kV doc pm cdv ct : Value} (l : K.lookup f = some ⟨oc, od, .func (PySem.W.fnOf x qual (defArgs st) (defBody st) (defScope st) .none kV doc pm an cdv ct), osl⟩)
    (c : PySem.W.codeIn K cdv qual = true) (k : PySem.W.keepIn K (.ref f) = true) : Fun K x qual st f (PySem.W.fnOf x qual (defArgs st) (defBody st) (defScope st) .none kV doc pm an cdv ct) := ⟨⟨oc, od, kV, doc, pm, an, cdv, ct, osl, rfl, l, c⟩, k⟩
end
theorem small1000 {n : Nat} (h : n ≤ 1000) : n < sizeLine := Nat.lt_of_le_of_lt h (by decide)

/-! ### expressions in short: the name that stands in the i-th slot -/
section
variable {X : Cx}
theorem pv (i : Nat) {x : Str} {pos : Pos} (hN : X.N[i]? = some x := by rfl) (hv : Vis X.env.scope x := by first | exact Or.inl rfl | exact Or.inr (Or.inl rfl) | exact Or.inr (Or.inr rfl)) (hd : (x == ("__debug__" : Str)) = false := by decide)
    (hcd : (x == ("__classdict__" : Str)) = false := by decide) : PE X (.Name x pos) (tVar i) := pe_var hN hv hd hcd
end

/-! ### tests -/
theorem iteF {A B : Prop} (h : B) : if false = true then A else B := by
  rw [if_neg Bool.false_ne_true]
  exact h
theorem iteT {A B : Prop} (h : A) : if true = true then A else B := by
  rw [if_pos rfl]
  exact h
theorem ite2 {c A B : Prop} [Decidable c] (h1 : c → A) (h2 : ¬ c → B) : if c then A else B := by
  by_cases h : c
  · rw [if_pos h]
    exact h1 h
  · rw [if_neg h]
    exact h2 h
theorem iteNS {c A B : Prop} [Decidable c] (hc : c) (h : B) : if (!decide c) = true then A else B := by
  rw [decide_eq_true hc]
  exact iteF h

/-! ### heaps -/
/-- all that was tracked is as it was -/
def Same (H H' : Hp) : Prop := ∀ b o, H b = some o → H' b = some o
theorem Same.trans {H H1 H2 : Hp} (a : Same H H1) (b : Same H1 H2) : Same H H2 := fun c o h => b c o (a c o h)
theorem Same.free {H H' : Hp} (e : Same H H') {l : Addr} (h : H' l = Option.none) : H l = Option.none := by
  cases q : H l with
  | none => rfl
  | some o =>
    rw [e l o q] at h
    cases h
theorem Same.seq {K : PySem.W.Frag} {H H' : Hp} {a : Addr} {xs : List V} (e : Same H H') (h : SqL K H a xs) : SqL K H' a xs := by
  rcases h with (h | ⟨o, h⟩) | h
  · exact .inl (.inl (e _ _ h))
  · exact .inl (.inr ⟨o, e _ _ h⟩)
  · exact .inr h

end L2

set_option maxHeartbeats 4000000
namespace L2
abbrev Pr := Int × Int
def inR (n : Int) (p : Pr) : Bool := decide (p.1 ≤ n) && decide (n ≤ p.2)
def inP (ps : List Pr) (n : Int) : Bool := ps.any (inR n)
/-- pairs that hold a number each, ascending and apart -/
structure Apart (R : List Pr) : Prop where
  le : ∀ p ∈ R, p.1 ≤ p.2
  gap : R.Pairwise fun p q => p.2 + 2 ≤ q.1
theorem inP_snoc (R : List Pr) (p : Pr) (n : Int) : inP (R ++ [p]) n = (inP R n || inR n p) := by
  unfold inP; rw [List.any_append]; simp
theorem Apart.snoc {R : List Pr} {p : Pr} (h : Apart R) (hp : p.1 ≤ p.2) (hl : ∀ r ∈ R, r.2 + 2 ≤ p.1) : Apart (R ++ [p]) where
  le := fun q hq => by
    rcases List.mem_append.mp hq with hq | hq
    · exact h.le q hq
    · have e : q = p := by simpa using hq
      rw [e]; exact hp
  gap := by
    rw [List.pairwise_append]
    refine ⟨h.gap, List.pairwise_singleton _ _, fun a ha b hb => ?_⟩
    have e : b = p := by simpa using hb
    rw [e]; exact hl a ha
theorem Apart.init {R : List Pr} {p : Pr} (h : Apart (R ++ [p])) : Apart R ∧ p.1 ≤ p.2 ∧ ∀ r ∈ R, r.2 + 2 ≤ p.1 := by
  have g := h.gap
  rw [List.pairwise_append] at g
  exact ⟨⟨fun q hq => h.le q (List.mem_append_left _ hq), g.1⟩, h.le p (by simp), fun r hr => g.2.2 r hr p (by simp)⟩
/-- what the loop of tidy keeps: R told so far of the pairs qs -/
structure TidI (R qs : List Pr) : Prop where
  ap : Apart R
  mem : ∀ n, inP R n = inP qs n
  cov : ∀ p ∈ qs, p.1 ≤ p.2 → ∃ r ∈ R, r.1 ≤ p.1 ∧ p.2 ≤ r.2
  low : ∀ r ∈ R, ∃ q ∈ qs, r.1 = q.1
theorem TidI.nil : TidI [] [] := ⟨⟨(fun p hp => by cases hp), List.Pairwise.nil⟩, fun _ => rfl, (fun p hp => by cases hp), (fun r hr => by cases hr)⟩
theorem TidI.skip {R qs : List Pr} {p : Pr} (h : TidI R qs) (hp : p.2 < p.1) : TidI R (qs ++ [p]) where
  ap := h.ap
  mem := fun n => by
    rw [inP_snoc, h.mem n]
    have e : inR n p = false := by
      unfold inR
      rw [Bool.and_eq_false_iff]
      simp only [decide_eq_false_iff_not]
      omega
    rw [e, Bool.or_false]
  cov := fun q hq hl => by
    rcases List.mem_append.mp hq with hq | hq
    · exact h.cov q hq hl
    · have e : q = p := by simpa using hq
      rw [e] at hl; omega
  low := fun r hr => by
    obtain ⟨q, hq, e⟩ := h.low r hr
    exact ⟨q, List.mem_append_left _ hq, e⟩
theorem TidI.join {R qs : List Pr} {l p : Pr} {m : Int} (h : TidI (R ++ [l]) qs) (h1 : l.1 ≤ p.1) (h2 : p.1 ≤ l.2 + 1) (h3 : p.1 ≤ p.2) (hm : m = max l.2 p.2) : TidI (R ++ [(l.1, m)]) (qs ++ [p]) := by
  obtain ⟨a1, a2, a3⟩ := h.ap.init
  have hml : l.2 ≤ m ∧ p.2 ≤ m ∧ (m = l.2 ∨ m = p.2) := by omega
  refine ⟨a1.snoc (by show l.1 ≤ m; omega) a3, fun n => ?_, fun q hq hl => ?_, fun r hr => ?_⟩
  · rw [inP_snoc, inP_snoc, ← h.mem n, inP_snoc, Bool.or_assoc]
    congr 1
    unfold inR
    rw [Bool.eq_iff_iff]
    simp only [Bool.or_eq_true, Bool.and_eq_true, decide_eq_true_eq]
    omega
  · rcases List.mem_append.mp hq with hq | hq
    · obtain ⟨r, hr, c1, c2⟩ := h.cov q hq hl
      rcases List.mem_append.mp hr with hr | hr
      · exact ⟨r, List.mem_append_left _ hr, c1, c2⟩
      · have e : r = l := by simpa using hr
        subst e
        exact ⟨(r.1, m), by simp, c1, by show q.2 ≤ m; omega⟩
    · have e : q = p := by simpa using hq
      subst e
      exact ⟨(l.1, m), by simp, h1, by show q.2 ≤ m; omega⟩
  · rcases List.mem_append.mp hr with hr | hr
    · obtain ⟨q, hq, e⟩ := h.low r (List.mem_append_left _ hr)
      exact ⟨q, List.mem_append_left _ hq, e⟩
    · have e : r = (l.1, m) := by simpa using hr
      obtain ⟨q, hq, e2⟩ := h.low l (by simp)
      exact ⟨q, List.mem_append_left _ hq, by rw [e]; exact e2⟩
theorem TidI.add {R qs : List Pr} {p : Pr} (h : TidI R qs) (h3 : p.1 ≤ p.2) (hl : ∀ r ∈ R, r.2 + 2 ≤ p.1) : TidI (R ++ [p]) (qs ++ [p]) := by
  refine ⟨h.ap.snoc h3 hl, fun n => by rw [inP_snoc, inP_snoc, h.mem n], fun q hq hle => ?_, fun r hr => ?_⟩
  · rcases List.mem_append.mp hq with hq | hq
    · obtain ⟨r, hr, c⟩ := h.cov q hq hle
      exact ⟨r, List.mem_append_left _ hr, c⟩
    · have e : q = p := by simpa using hq
      subst e
      exact ⟨q, by simp, Int.le_refl _, Int.le_refl _⟩
  · rcases List.mem_append.mp hr with hr | hr
    · obtain ⟨q, hq, e⟩ := h.low r hr
      exact ⟨q, List.mem_append_left _ hq, e⟩
    · have e : r = p := by simpa using hr
      exact ⟨p, by simp, by rw [e]⟩
/-- behind the last one all others end lower -/
theorem Apart.last {R : List Pr} {l : Pr} (h : Apart (R ++ [l])) {c : Int} (hc : l.2 + 2 ≤ c) : ∀ r ∈ R ++ [l], r.2 + 2 ≤ c := fun r hr => by
  obtain ⟨a1, a2, a3⟩ := h.init
  rcases List.mem_append.mp hr with hr | hr
  · have := a3 r hr; omega
  · have e : r = l := by simpa using hr
    rw [e]; exact hc
theorem inP_perm {ps qs : List Pr} (h : ps.Perm qs) (n : Int) : inP ps n = inP qs n := by
  unfold inP
  rw [Bool.eq_iff_iff, List.any_eq_true, List.any_eq_true]
  exact ⟨fun ⟨x, hx, e⟩ => ⟨x, h.mem_iff.mp hx, e⟩, fun ⟨x, hx, e⟩ => ⟨x, h.mem_iff.mpr hx, e⟩⟩
theorem TidI.perm {R qs ps : List Pr} (h : TidI R qs) (p : qs.Perm ps) : TidI R ps := ⟨h.ap, fun n => (h.mem n).trans (inP_perm p n), fun q hq => h.cov q (p.mem_iff.mpr hq), fun r hr => let ⟨q, hq, e⟩ := h.low r hr; ⟨q, p.mem_iff.mp hq, e⟩⟩
end L2

namespace L2
open PySem PySem.Spec PyProof.Rows
/-! ### a def of the text that may be called, bundled -/
def Callee (P : Program) (w : World) (K : PySem.W.Frag) (mg : Str → Option Value) (base : Heap) (k : Nat) (x : Str) (ps : List Str) (sp : Sp) : Prop :=
  ∃ f fd, FnOk P w K mg base CX0 k f fd ps sp ∧ Binds K fd ps [] ∧ PySem.W.keepIn K (.ref f) = true ∧ mg x = some (.ref f)
theorem Callee.mono {P : Program} {w : World} {K : PySem.W.Frag} {mg : Str → Option Value} {base : Heap} {j k : Nat} {x : Str} {ps : List Str} {sp : Sp} (C : Callee P w K mg base j x ps sp) (h : j ≤ k) : Callee P w K mg base k x ps sp :=
  let ⟨f, fd, F, r⟩ := C
  ⟨f, fd, F.mono h, r⟩
section
variable {X : Cx} {k : Nat} {x : Str} {ps : List Str} {sp : Sp} {e : Expr} {es : List Expr} {t : TA} {p pos : Pos}
/-- f(..) of a bundled def -/
def tFn (sp : Sp) (t : TA) : TE := fun σ H Q => t σ H fun vs H1 => sp vs H1 Q E0
theorem pe_fn (C : Callee X.prog X.w X.K X.mg X.base k x ps sp) (hr : Room k X.A) (hg : Gl X x) (ha : PA X (e :: es) t) (hdb : (x == ("__debug__" : Str)) = false := by decide)
    (he : starEach (e :: es) X.env = (false, eval e X.env) :: starEach es X.env := by rfl) (hpl : (backTo pos (starEach es X.env)).any (·.1) = false := by rfl) : PE X (.Call (.Name x p) (e :: es) [] pos) (tFn sp t) := by
  obtain ⟨f, fd, F, b, kk, m⟩ := C
  have h := pe_call (E := E0) (dvs := []) (ds := []) (p := p) F hr hg m kk b .nil pass0 ha hdb he hpl
  intro pins s σ H Q I q
  refine h pins s σ H Q I ?_
  have q' : t σ H fun vs H1 => sp vs H1 Q E0 := q
  have e1 : (fun (vs : List V) (H1 : Hp) => sp (vs ++ []) H1 Q E0) = fun vs H1 => sp vs H1 Q E0 := by
    funext vs H1
    rw [List.append_nil]
  show t σ H fun vs H1 => sp (vs ++ []) H1 Q E0
  rw [e1]
  exact q'
end
/-! ### a block with a word between its first statement and the rest -/
def tCut (t u : TS) : TS := fun D σ H => ∃ M : St → Hp → Prop, t { D with nx := M } σ H ∧ ∀ σ' H', M σ' H' → u D σ' H'
theorem pss_cut {X : Cx} {st : Stmt} {rest : List Stmt} {t u : TS} (h1 : PS X st t) (h2 : PSs X rest u) : PSs X (st :: rest) (tCut t u) := by
  intro pins s σ H D I ⟨M, a, b⟩
  refine wpAny_execs_cons (thn (h1 pins s σ H { D with nx := M } I a) fun fl s1 q => ?_)
  cases fl with
  | next => obtain ⟨σ', H', I', q⟩ := q; exact h2 pins s1 σ' H' D I' (b σ' H' q)
  | ret v => exact q
  | brk => exact q
  | cont => exact q
/-! ### isinstance(x, T), T a built-in type -/
section
variable {X : Cx}
theorem call_isinst : CallR X (.builtin "isinstance") (fun xs H Q => ∃ x T t b, xs = [x, .ty T] ∧ TyOf X.K H x t ∧ PySem.W.kitOne X.K t (.type T) = some b ∧ Q (.bl b) H) := by
  intro pins s σ H xs us Q I r h
  obtain ⟨x, T, t, b, rfl, ty, e, q⟩ := h
  cases r with
  | cons rx r2 =>
    cases r2 with
    | cons ry r3 =>
      cases r3
      cases (show _ = Value.type T from ry)
      exact isinst_ok I rx ty e fun tk => ⟨.bl b, H, I.tok tk, rfl, q⟩
end
/-! ### == and != of lists -/
/-- what == says of two items of lists: plain values; one object; two tuples of plain values -/
inductive EqI (K : PySem.W.Frag) (H : Hp) : V → V → Bool → Prop where
  | flat {x y : V} (fx : flatV x = true) (fy : flatV y = true) : EqI K H x y (eqV x y)
  | same (a : Addr) : EqI K H (.ref a) (.ref a) true
  | tup {a b : Addr} {xs ys : List V} (ha : SqT K H a xs) (hb : SqT K H b ys) (fx : xs.all flatV = true) (fy : ys.all flatV = true) : EqI K H (.ref a) (.ref b) (decide (xs.length = ys.length) && (List.zipWith eqV xs ys).all id)
theorem eqV_refl : ∀ {x : V}, flatV x = true → eqV x x = true
  | .non, _ => rfl
  | .bl b, _ => by simp [eqV]
  | .int i, _ => by simp [eqV]
  | .str z, _ => by simp [eqV]
theorem eqAll_refl : ∀ {xs : List V}, xs.all flatV = true → (List.zipWith eqV xs xs).all id = true
  | [], _ => rfl
  | x :: xs, h => by
    rw [List.all_cons, Bool.and_eq_true] at h
    rw [List.zipWith_cons_cons, List.all_cons, eqAll_refl h.2, Bool.and_true]
    exact eqV_refl h.1
theorem all_range_zip {f : Nat → Bool} : ∀ {xs ys : List V}, (∀ j x y, xs[j]? = some x → ys[j]? = some y → f j = eqV x y) → (List.range (min xs.length ys.length)).all f = (List.zipWith eqV xs ys).all id
  | [], ys, _ => by simp
  | x :: xs, [], _ => by simp
  | x :: xs, y :: ys, h => by
    have ih := all_range_zip (f := fun j => f (j + 1)) (xs := xs) (ys := ys) fun j a b e1 e2 => h (j + 1) a b (by simpa using e1) (by simpa using e2)
    have e0 := h 0 x y rfl rfl
    have em : min (x :: xs).length (y :: ys).length = min xs.length ys.length + 1 := by simp only [List.length_cons]; omega
    rw [em, List.range_succ_eq_map, List.all_cons, List.zipWith_cons_cons, List.all_cons, List.all_map, e0]
    show (eqV x y && (List.range (min xs.length ys.length)).all (fun j => f (j + 1))) = _
    rw [ih]
    rfl
section
variable {X : Cx} {pins : List (Addr × Obj)} {σ : St} {H : Hp} {s : Shared}
theorem EqI.at {A : Around} {x y : V} {u v : Value} {b : Bool} (e : EqI X.K H x y b) (I : Inv X pins σ H s) (hu : A.units + 1 < cLine) (rx : RelV x u) (ry : RelV y v) : SeqAt.EqAt A s u v b := by
  cases e with
  | flat fx fy => exact eqAt_V rx ry fx fy
  | same a =>
    cases (show u = Value.ref a from rx)
    cases (show v = Value.ref a from ry)
    exact SeqAt.EqAt.same _
  | @tup a b xs ys ha hb fx fy =>
    cases (show u = Value.ref a from rx)
    cases (show v = Value.ref b from ry)
    by_cases z : a = b
    · subst z
      have e := I.tuple_inj ha hb
      subst e
      rw [eqAll_refl fx, decide_eq_true rfl]
      exact SeqAt.EqAt.same _
    · obtain ⟨its, r, p, _⟩ := I.tuple ha
      obtain ⟨its', r', p', _⟩ := I.tuple hb
      have l1 := r.length
      have l2 := r'.length
      have h0 := SeqAt.RcAt.tuples (A := A) (e := fun j => match its[j]?, xs[j]?, ys[j]? with | _, some x, some y => eqV x y | _, _, _ => false) (show s.heap.IsTuple a its.toArray from p) (show s.heap.IsTuple b its'.toArray from p') (by omega) (fun j h1 h2 => by
        have j1 : j < its.length := by simpa using h1
        have j2 : j < its'.length := by simpa using h2
        have x1 : xs[j]? = some xs[j] := List.getElem?_eq_getElem (by omega)
        have y1 : ys[j]? = some ys[j] := List.getElem?_eq_getElem (by omega)
        obtain ⟨u1, q1, r1⟩ := r.get x1
        obtain ⟨u2, q2, r2⟩ := r'.get y1
        have eu : its.toArray[j] = u1 := by
          have := List.getElem?_eq_getElem j1
          rw [this] at q1; simpa using Option.some.inj q1
        have ev : its'.toArray[j] = u2 := by
          have := List.getElem?_eq_getElem j2
          rw [this] at q2; simpa using Option.some.inj q2
        rw [eu, ev]
        rw [x1, y1]
        have f1 : flatV xs[j] = true := List.all_eq_true.mp fx _ (List.getElem_mem _)
        have f2 : flatV ys[j] = true := List.all_eq_true.mp fy _ (List.getElem_mem _)
        exact eqAt_V r1 r2 f1 f2)
      have h1 := SeqAt.EqAt.of_refs z h0
      have e1 : ((List.range (min its.toArray.size its'.toArray.size)).all fun j => match its[j]?, xs[j]?, ys[j]? with | _, some x, some y => eqV x y | _, _, _ => false) = (List.zipWith eqV xs ys).all id := by
        have es : min its.toArray.size its'.toArray.size = min xs.length ys.length := by simp only [List.size_toArray]; omega
        rw [es]
        exact all_range_zip fun j x y q1 q2 => by rw [q1, q2]
      rw [e1] at h1
      have e2 : (its.toArray.size == its'.toArray.size) = decide (xs.length = ys.length) := by
        simp only [List.size_toArray, ← l1, ← l2]
        exact Bool.beq_eq_decide_eq _ _
      rw [e2, Bool.and_comm] at h1
      exact h1
end
/-- == (neg: !=) of two lists -/
def rEqL (K : PySem.W.Frag) (neg : Bool) : R2 := fun x y H Q => ∃ a b xs ys, x = .ref a ∧ y = .ref b ∧ SqL K H a xs ∧ SqL K H b ys ∧
  ((xs.length ≠ ys.length ∧ Q (.bl neg) H) ∨ (xs.length = ys.length ∧ ∃ f : Nat → Bool, (∀ j x y, xs[j]? = some x → ys[j]? = some y → EqI K H x y (f j)) ∧ Q (.bl (if neg then !(List.range xs.length).all f else (List.range xs.length).all f)) H))
section
variable {X : Cx}
theorem eqs_at {pins : List (Addr × Obj)} {σ : St} {H : Hp} {s : Shared} {A : Around} {xs ys : List V} {its its' : List Value} {f : Nat → Bool} (I : Inv X pins σ H s) (hu : A.units + 1 < cLine) (r : Vals xs its) (r' : Vals ys its')
    (hf : ∀ j x y, xs[j]? = some x → ys[j]? = some y → EqI X.K H x y (f j)) : ∀ j (h1 : j < its.toArray.size) (h2 : j < its'.toArray.size), SeqAt.EqAt A s its.toArray[j] its'.toArray[j] (f j) := fun j h1 h2 => by
  have j1 : j < its.length := by simpa using h1
  have j2 : j < its'.length := by simpa using h2
  have l1 := r.length
  have l2 := r'.length
  have x1 : xs[j]? = some xs[j] := List.getElem?_eq_getElem (by omega)
  have y1 : ys[j]? = some ys[j] := List.getElem?_eq_getElem (by omega)
  obtain ⟨u1, q1, r1⟩ := r.get x1
  obtain ⟨u2, q2, r2⟩ := r'.get y1
  have eu : its.toArray[j] = u1 := by
    have := List.getElem?_eq_getElem j1
    rw [this] at q1; simpa using Option.some.inj q1
  have ev : its'.toArray[j] = u2 := by
    have := List.getElem?_eq_getElem j2
    rw [this] at q2; simpa using Option.some.inj q2
  rw [eu, ev]
  exact (hf j _ _ x1 y1).at I hu r1 r2
theorem op_eqL {k : Nat} (hr : Room k X.A) : OpR X (compareOp .Eq) (rEqL X.K false) := by
  intro pins s σ H x y v u Q I rx ry h
  obtain ⟨a, b, xs, ys, rfl, rfl, ha, hb, h⟩ := h
  cases (show v = Value.ref a from rx)
  cases (show u = Value.ref b from ry)
  obtain ⟨its, r, p, _⟩ := I.list ha
  obtain ⟨its', r', p', _⟩ := I.list hb
  have l1 := r.length
  have l2 := r'.length
  have hu := hr.units
  rcases h with ⟨hn, q⟩ | ⟨hl, f, hf, q⟩
  · refine SeqAt.eq_list_lengthsAt p.isList p'.isList (by simp only [List.size_toArray, bne_iff_ne, ne_eq]; omega) (by omega) ⟨.bl false, H, I, rfl, q⟩
  · refine SeqAt.eq_listAt (e := f) p.isList p'.isList (by simp only [List.size_toArray]; omega) (by omega) (eqs_at I (by show X.A.units + 1 + 1 < cLine; omega) r r' hf) ⟨.bl _, H, I, rfl, ?_⟩
    rw [show its.toArray.size = xs.length by simp only [List.size_toArray]; omega]
    exact q
theorem op_neL {k : Nat} (hr : Room k X.A) : OpR X (compareOp .NotEq) (rEqL X.K true) := by
  intro pins s σ H x y v u Q I rx ry h
  obtain ⟨a, b, xs, ys, rfl, rfl, ha, hb, h⟩ := h
  cases (show v = Value.ref a from rx)
  cases (show u = Value.ref b from ry)
  obtain ⟨its, r, p, _⟩ := I.list ha
  obtain ⟨its', r', p', _⟩ := I.list hb
  have l1 := r.length
  have l2 := r'.length
  have hu := hr.units
  rcases h with ⟨hn, q⟩ | ⟨hl, f, hf, q⟩
  · refine SeqAt.RcNeAt.lists_lengths p.isList p'.isList (by simp only [List.size_toArray, bne_iff_ne, ne_eq]; omega) (by omega) X.prog X.w X.xe _ ⟨.bl true, H, I, rfl, q⟩
  · refine SeqAt.RcNeAt.lists (e := f) p.isList p'.isList (by simp only [List.size_toArray]; omega) (by omega) (eqs_at I (by show X.A.units + 1 + 1 < cLine; omega) r r' hf) X.prog X.w X.xe _ ⟨.bl _, H, I, rfl, ?_⟩
    rw [show its.toArray.size = xs.length by simp only [List.size_toArray]; omega]
    exact q
/-- two lists with the same items -/
theorem rNeL_same {K : PySem.W.Frag} {H : Hp} {Q : VK} {a b : Addr} {xs : List V} (ha : SqL K H a xs) (hb : SqL K H b xs) (fl : ∀ x ∈ xs, flatV x = true ∨ ∃ r, x = .ref r) (q : Q (.bl false) H) : rEqL K true (.ref a) (.ref b) H Q := by
  refine ⟨a, b, xs, xs, rfl, rfl, ha, hb, .inr ⟨rfl, fun _ => true, fun j x y e1 e2 => ?_, ?_⟩⟩
  · rw [e1] at e2; cases e2
    rcases fl x (List.mem_of_getElem? e1) with z | ⟨r, rfl⟩
    · have := EqI.flat (K := K) (H := H) z z
      rw [eqV_refl z] at this
      exact this
    · exact .same r
  · have : (List.range xs.length).all (fun _ => true) = true := by simp
    rw [this]
    exact q
end
/-! ### what stays -/
/-- every tuple stays -/
def SameT (H H' : Hp) : Prop := ∀ b xs, H b = some (.tup xs) → H' b = some (.tup xs)
theorem Same.tups {H H' : Hp} (h : Same H H') : SameT H H' := fun b xs e => h b _ e
theorem SameT.trans {H H1 H2 : Hp} (a : SameT H H1) (b : SameT H1 H2) : SameT H H2 := fun c xs e => b c xs (a c xs e)
theorem sameT_new {H : Hp} {p : Addr} {o : HO} (h : H p = none) : SameT H (upd H p o) := fun b xs e => by rw [upd_ne (ne_of_none e h)]; exact e
theorem sameT_lst {H : Hp} {p : Addr} {o : HO} {ys : List V} (h : H p = some (.lst ys)) : SameT H (upd H p o) := fun b xs e => by rw [upd_ne (ne_of e h (by intro z; cases z))]; exact e
theorem same_new {H : Hp} {p : Addr} (h : H p = none) (o : HO) : Same H (upd H p o) := fun b u q => by rw [upd_ne (ne_of_none q h)]; exact q
/-- an address that was free is changed -/
theorem Same.upd {H H' : Hp} {p : Addr} {o : HO} (s : Same H H') (h : H p = none) : Same H (upd H' p o) := fun b u q => by rw [upd_ne (ne_of_none q h)]; exact s b u q
/-! ### lists of pairs -/
def PL (H : Hp) : List V → List (Int × Int) → Prop := Paired fun x p => ∃ r, x = .ref r ∧ H r = some (.tup [.int p.1, .int p.2])
theorem PL.mono {H H' : Hp} {xs : List V} {ps : List (Int × Int)} (h : PL H xs ps) (s : SameT H H') : PL H' xs ps := Paired.mapP h fun _ _ ⟨r, e, z⟩ => ⟨r, e, s r _ z⟩
theorem PL.get {H : Hp} : ∀ {xs : List V} {ps : List (Int × Int)} {i : Nat} {x : V}, PL H xs ps → xs[i]? = some x → ∃ p r, ps[i]? = some p ∧ x = .ref r ∧ H r = some (.tup [.int p.1, .int p.2])
  | _, _, _, _, .nil, e => by simp at e
  | _, _, 0, _, .cons (b := b) ⟨r, e1, z⟩ _, e => by simp at e; subst e; exact ⟨b, r, rfl, e1, z⟩
  | _, _, i + 1, x, .cons _ t, e => by
    obtain ⟨p, r, q⟩ := PL.get (i := i) (x := x) t (by simpa using e)
    exact ⟨p, r, by simpa using q.1, q.2⟩
theorem PL.length {H : Hp} {xs : List V} {ps : List (Int × Int)} (h : PL H xs ps) : xs.length = ps.length := Paired.length h
theorem PL.snoc {H : Hp} {xs : List V} {ps : List (Int × Int)} {r : Addr} {a b : Int} (h : PL H xs ps) (e : H r = some (.tup [.int a, .int b])) : PL H (xs ++ [.ref r]) (ps ++ [(a, b)]) := Paired.snoc h ⟨r, rfl, e⟩
theorem PL.last {H : Hp} {xs : List V} {ps : List (Int × Int)} (h : PL H xs ps) (hn : xs ≠ []) : ∃ xs' r ps' p, xs = xs' ++ [.ref r] ∧ ps = ps' ++ [p] ∧ PL H xs' ps' ∧ H r = some (.tup [.int p.1, .int p.2]) := by
  induction h with
  | nil => exact absurd rfl hn
  | @cons a b l1 l2 hd tl ih =>
    cases tl with
    | nil =>
      obtain ⟨r, e, z⟩ := hd
      exact ⟨[], r, [], b, by rw [e]; rfl, rfl, .nil, z⟩
    | @cons a2 b2 l3 l4 hd2 tl2 =>
      obtain ⟨xs', r, ps', p, e1, e2, h3, h4⟩ := ih (by simp)
      exact ⟨a :: xs', r, b :: ps', p, by rw [e1]; rfl, by rw [e2]; rfl, .cons hd h3, h4⟩
theorem PL.app {H : Hp} {xs ys : List V} {ps qs : List (Int × Int)} (h : PL H xs ps) (h' : PL H ys qs) : PL H (xs ++ ys) (ps ++ qs) := by
  induction h with
  | nil => exact h'
  | cons r t ih => exact .cons r ih
theorem PL.refs {H : Hp} {xs : List V} {ps : List (Int × Int)} (h : PL H xs ps) : ∀ x ∈ xs, flatV x = true ∨ ∃ r, x = V.ref r := fun x hx => by
  obtain ⟨i, e⟩ := List.getElem?_of_mem hx
  obtain ⟨p, r, _, e2, _⟩ := h.get e
  exact .inr ⟨r, e2⟩
/-! ### lists of triples of ints -/
abbrev Tr := Int × Int × Int
def TL (H : Hp) : List V → List Tr → Prop := Paired fun x t => ∃ r, x = .ref r ∧ H r = some (.tup [.int t.1, .int t.2.1, .int t.2.2])
theorem TL.mono {H H' : Hp} {xs : List V} {ps : List Tr} (h : TL H xs ps) (s : SameT H H') : TL H' xs ps := Paired.mapP h fun _ _ ⟨r, e, z⟩ => ⟨r, e, s r _ z⟩
theorem TL.get {H : Hp} : ∀ {xs : List V} {ps : List Tr} {i : Nat} {x : V}, TL H xs ps → xs[i]? = some x → ∃ p r, ps[i]? = some p ∧ x = .ref r ∧ H r = some (.tup [.int p.1, .int p.2.1, .int p.2.2])
  | _, _, _, _, .nil, e => by simp at e
  | _, _, 0, _, .cons (b := b) ⟨r, e1, z⟩ _, e => by simp at e; subst e; exact ⟨b, r, rfl, e1, z⟩
  | _, _, i + 1, x, .cons _ t, e => by
    obtain ⟨p, r, q⟩ := TL.get (i := i) (x := x) t (by simpa using e)
    exact ⟨p, r, by simpa using q.1, q.2⟩
theorem TL.length {H : Hp} {xs : List V} {ps : List Tr} (h : TL H xs ps) : xs.length = ps.length := Paired.length h
theorem TL.snoc {H : Hp} {xs : List V} {ps : List Tr} {r : Addr} {a b c : Int} (h : TL H xs ps) (e : H r = some (.tup [.int a, .int b, .int c])) : TL H (xs ++ [.ref r]) (ps ++ [(a, b, c)]) := Paired.snoc h ⟨r, rfl, e⟩
/-- the place i of xs, counted as Python does, is there -/
theorem atI_int {ns : List Int} {k : Int} (h0 : 0 ≤ k) (h : k < (ns.length : Int)) : ∃ v : Int, atI (ns.map V.int) k = some (.int v) := by
  have hk : k.toNat < ns.length := by omega
  have ek : k = ((k.toNat : Nat) : Int) := by omega
  have q : atI (ns.map V.int) ((k.toNat : Nat) : Int) = some (.int ns[k.toNat]) := atI_nat (by rw [List.getElem?_map, List.getElem?_eq_getElem hk] <;> rfl)
  rw [← ek] at q
  exact ⟨_, q⟩
theorem V.int_inj {i j : Int} (h : V.int i = V.int j) : i = j := by cases h; rfl
theorem dec_int_t {i j : Int} (h : decide (V.int i = V.int j) = true) : i = j := V.int_inj (of_decide_eq_true h)
theorem dec_int_f {i j : Int} (h : ¬ decide (V.int i = V.int j) = true) : i ≠ j := fun e => h (decide_eq_true (congrArg V.int e))
theorem dec_t {p : Prop} [Decidable p] (h : decide p = true) : p := of_decide_eq_true h
theorem dec_f {p : Prop} [Decidable p] (h : ¬ decide p = true) : ¬ p := fun e => h (decide_eq_true e)
end L2

namespace L2
open PySem PySem.Spec PyProof.Rows
/-! ### rules that name the written part by itself (within a block) -/
theorem ix_tupK {X : Cx} {K : PySem.W.Frag} (h : X.K = K) : IxR X (rIxT K) := h ▸ ix_tup
/-! ### a list comprehension with one clause whose target is a plain name -/
/-- the block's context: nothing raises in it; the frames that run are the def's own and its callers' -/
def cmpCx (X : Cx) (N : List Str) (scope : Scope) (cl : List (Str × Addr)) (fp : List Addr) (C : Addr) (s2 : Shared) (H2 : Hp) : Cx :=
  { prog := X.prog, w := X.w, K := X.K, mg := X.mg, base := X.base, A := X.A, N := N, s₀ := s2, H₀ := H2, env := compEnvC scope cl C X.env, outer := X.stack, stack := X.stack, ex := fp, fn := fun _ => false, calm := X.calm, pn := [], xe := fun _ _ => False }
/-- the tests of a clause -/
def PIf (X : Cx) (ifs : List Expr) (t : TT) : Prop :=
  ∀ (pins : List (Addr × Obj)) (s : Shared) (σ : St) (H : Hp) (Q : Bool → Hp → Prop), Inv X pins σ H s → t σ H Q →
    wpAny (model X.prog X.w) X.A (forIn ifs true fun c r => if r = true then do let ok ← isTrue c X.env (eval c X.env); pure (ForInStep.yield ok) else pure (ForInStep.yield r)) (TP X pins σ Q) X.xe s
def tYes : TT := fun _ H Q => Q true H
theorem pif_nil {X : Cx} : PIf X [] tYes := fun _ _ _ H _ I h => wpAny_tests_nil ⟨H, I, h⟩
theorem pif_one {X : Cx} {c : Expr} {t : TT} (h : PT X c t) : PIf X [c] t := fun pins s σ H Q I q => wpAny_tests_one (h pins s σ H Q I q)
/-- what is asked of the block's names: N its slots (the target first, then the def's own names that it sees), fr where these stand among the def's slots -/
structure CmpOk (X : Cx) (N : List Str) (fr : List Nat) (scope : Scope) (cl : List (Str × Addr)) (x : Str) : Prop where
  clos : closureFor scope X.env = pure cl
  kind : scope.kind = .function
  nocell : ∀ y ∈ scope.names, y.2 ≠ .cell
  names : ∀ y ∈ scope.names, y.2 = .local → scope.names.lookup y.1 = some .local
  hx : scope.names.lookup x = some .local
  nd : N.Nodup
  n0 : N[0]? = some x
  len : N.length = fr.length + 1
  sub : ∀ (i : Nat) (y : Str), N[i + 1]? = some y → ∃ j, fr[i]? = some j ∧ X.N[j]? = some y ∧ (X.env.kindOf y = some .cell ∨ X.env.kindOf y = some .free) ∧ ((relabel scope X.env).names.lookup y = some .cell ∨ (relabel scope X.env).names.lookup y = some .free)
  cells : ∀ y c, cl.lookup y = some c → X.env.cells.lookup y = some c
  has : ∀ y, ((relabel scope X.env).names.lookup y = some .cell ∨ (relabel scope X.env).names.lookup y = some .free) → ∃ c, cl.lookup y = some c
/-- a block that sees no name of the def -/
theorem cmpOk_plain {X : Cx} {scope : Scope} {x : Str} (kind : scope.kind = .function) (nofree : ∀ y ∈ scope.names, y.2 ≠ .free) (nocell : ∀ y ∈ scope.names, y.2 ≠ .cell)
    (names : ∀ y ∈ scope.names, y.2 = .local → scope.names.lookup y.1 = some .local) (hx : scope.names.lookup x = some .local) : CmpOk X [x] [] scope [] x := by
  have er : (relabel scope X.env).names = scope.names := map_eq_self fun y hy => by
    have z : (y.2 == NameKind.free) = false := by simpa using nofree y hy
    simp [z]
  have no : ∀ y, ¬ ((relabel scope X.env).names.lookup y = some .cell ∨ (relabel scope X.env).names.lookup y = some .free) := fun y h => by
    rw [er] at h
    rcases h with h | h
    · exact nocell _ (PySem.mem_of_lookup h) rfl
    · exact nofree _ (PySem.mem_of_lookup h) rfl
  exact ⟨closureFor_none nofree, kind, nocell, names, hx, by simp, rfl, rfl, fun i y e => by simp at e, (fun y c e => by cases e), fun y h => absurd h (no y)⟩
/-- a block that sees names of the def: those are cells there -/
theorem cmpOk_free {X : Cx} {N : List Str} {fr : List Nat} {scope : Scope} {cl : List (Str × Addr)} {x : Str} (clos : closureFor scope X.env = pure cl) (kind : scope.kind = .function) (nocell : ∀ y ∈ scope.names, y.2 ≠ .cell)
    (names : ∀ y ∈ scope.names, y.2 = .local → scope.names.lookup y.1 = some .local) (hx : scope.names.lookup x = some .local) (nd : N.Nodup) (n0 : N[0]? = some x) (len : N.length = fr.length + 1)
    (sub : ((List.range fr.length).all fun i => match N[i + 1]?, fr[i]? with | some y, some j => (X.N[j]? == some y) && ((X.env.kindOf y == some .cell) && ((relabel scope X.env).names.lookup y == some .cell)) | _, _ => false) = true)
    (cells : ∀ p ∈ cl, X.env.cells.lookup p.1 = some p.2) (has : ((relabel scope X.env).names.all fun p => (p.2 != .cell && p.2 != .free) || (cl.lookup p.1).isSome) = true) : CmpOk X N fr scope cl x := by
  refine ⟨clos, kind, nocell, names, hx, nd, n0, len, fun i y e => ?_, fun y c e => cells _ (PySem.mem_of_lookup e), fun y h => ?_⟩
  · have hi : i < fr.length := by have := (List.getElem?_eq_some_iff.mp e).1; omega
    have z := List.all_eq_true.mp sub i (List.mem_range.mpr hi)
    rw [e, List.getElem?_eq_getElem hi] at z
    simp only [Bool.and_eq_true, beq_iff_eq] at z
    exact ⟨_, List.getElem?_eq_getElem hi, z.1, .inl z.2.1, .inl z.2.2⟩
  · have look : ∀ k, (relabel scope X.env).names.lookup y = some k → (k = .cell ∨ k = .free) → ∃ c, cl.lookup y = some c := fun k e hk => by
      have z := List.all_eq_true.mp has _ (PySem.mem_of_lookup e)
      rcases hk with rfl | rfl
      · exact Option.isSome_iff_exists.mp (by simpa using z)
      · exact Option.isSome_iff_exists.mp (by simpa using z)
    rcases h with h | h
    · exact look _ h (.inl rfl)
    · exact look _ h (.inr rfl)
def cmpSt (σ : St) (fr : List Nat) (x : Option V) : St := x :: fr.map fun j => (σ[j]?).join
/-- the comprehension's reading: D the new list, W the invariant by the turn and a measure -/
def CompAt (J : It) (fr : List Nat) (tt : TT) (te : TE) (σ : St) (Q : VK) (H1 : Hp) : Prop := ∀ D, H1 D = none → ∃ W : Nat → Nat → Hp → Prop, (∃ m, W 0 m (upd H1 D (.lst []))) ∧ ∀ i m H, W i m H →
  (J.stop i H ∧ Q (.ref D) H) ∨ (J.go i H ∧ ∀ x H', J.yld i H x H' → tt (cmpSt σ fr (some x)) H' fun b H2 => if b = true then te (cmpSt σ fr (some x)) H2 fun y H3 => ∃ ys, H3 D = some (.lst ys) ∧ ys.length < sizeLine ∧ ∃ m', m' < m ∧ W (i + 1) m' (upd H3 D (.lst (ys ++ [y])))
    else ∃ m', m' < m ∧ W (i + 1) m' H2)
def tComp (wi : TI) (fr : List Nat) (tt : TT) (te : TE) : TE := fun σ H Q => wi σ H fun J H1 => CompAt J fr tt te σ Q H1
section
variable {prog : Program} {w : World} {A : Around} {R : Result → Shared → Prop} {s : Shared}
theorem comp_turns {elt target iter : Expr} {ifs : List Expr} {scope : Scope} {pos : Pos} {it acc : Value} {env : Env} (J : Nat → Shared → Prop)
    (turn : ∀ n s, J n s → wpAny (model prog w) A (pyNext it) (fun r s1 => match r with
      | none => R (.ok .next) s1
      | some v => wpAny (model prog w) A (letOwnedTupleGo target it v) (fun _ s2 => wpAny (model prog w) A (assign target env v) (fun _ s3 =>
          wpAny (model prog w) A (forIn ifs true fun c r => if r = true then do let ok ← isTrue c env (eval c env); pure (ForInStep.yield ok) else pure (ForInStep.yield r)) (fun ok s4 =>
            if ok = true then wpAny (model prog w) A (eval elt env) (fun y s5 => wpAny (model prog w) A (call (.builtin "list.append") [acc, y]) (fun _ s6 => ∃ m, m < n ∧ J m s6) (fun _ _ => False) s5) (fun _ _ => False) s4
            else ∃ m, m < n ∧ J m s4) (fun _ _ => False) s3) (fun _ _ => False) s2) (fun _ _ => False) s1) (fun _ _ => False) s)
    (n : Nat) (h : J n s) : codeAny (model prog w) A (.compLoop (.ListComp elt [⟨target, iter, ifs, 0⟩] scope pos) 0 it acc env) R s := by
  refine codeAny_loop rfl J (fun n s hJ => ?_) n h
  show wpAny _ A ((compTurn (.ListComp elt [⟨target, iter, ifs, 0⟩] scope pos) 0 it acc env).onRaise (fun x => do noteFrame x env; theTreesLotGoes x)) _ _ s
  refine wpAny_noted ?_
  rw [compTurn_list]
  refine wpAny_bind (wpAny_standAt (wpAny_bind (wpAny_mono (turn n s hJ) (fun r s1 h1 => ?_) fun _ _ z => z.elim)))
  cases r with
  | none => exact wpAny_pure h1
  | some v =>
    refine wpAny_bind (wpAny_mono h1 (fun _ s2 h2 => ?_) fun _ _ z => z.elim)
    refine wpAny_bind (wpAny_mono h2 (fun _ s3 h3 => wpAny_bind (wpAny_mono h3 (fun ok s4 h4 => ?_) fun _ _ z => z.elim)) fun _ _ z => z.elim)
    cases ok with
    | false => exact wpAny_pure ⟨rfl, h4⟩
    | true => exact wpAny_bind (wpAny_bind (wpAny_mono h4 (fun y s5 h5 => wpAny_bind (wpAny_mono h5 (fun _ s6 h6 => wpAny_pure (wpAny_pure ⟨rfl, h6⟩)) fun _ _ z => z.elim)) fun _ _ z => z.elim))
end
section
variable {X : Cx} {elt iter : Expr} {ifs : List Expr} {x : Str} {px pos : Pos} {scope : Scope} {cl : List (Str × Addr)} {N : List Str} {fr : List Nat} {tt : TT} {te : TE}
theorem comp_core {pins : List (Addr × Obj)} {σ : St} {s2 : Shared} {H2 : Hp} {it : Addr} {fp : List Addr} {tn : Nat → Heap → Prop} {J : It} {Q : VK} {E : Value → Shared → Prop} {RR : Value → Addr → Result → Shared → Prop}
    (O : CmpOk X N fr scope cl x) (hc : X.calm = true) (I2 : Inv X pins σ H2 s2) (T : Turn X.prog X.w X.K (.Name x px) J fp it tn) (st2 : tn 0 s2.heap) (f2 : ∀ b ∈ fp, FpOk X pins H2 b)
    (ht : ∀ fp C s H, PIf (cmpCx X N scope cl fp C s H) ifs tt) (he : ∀ fp C s H, PE (cmpCx X N scope cl fp C s H) elt te)
    (hW : CompAt J fr tt te σ Q H2)
    (fin : ∀ D C s' H', s2.heap.objs.size ≤ C → H' C = none → (∃ m, s'.heap.Ns C m) → Inv X pins σ H' s' → Q (.ref D) H' → RR (.ref D) C (.ok .next) s') :
    wpAny (model X.prog X.w) X.A (newList []) (fun acc s3 => wpAny (model X.prog X.w) X.A (newFunctionEnv scope X.env.globals cl [] X.env.qual none .none (some X.env)) (fun cenv s4 =>
      codeAny (model X.prog X.w) X.A (.compStart (.ListComp elt [⟨.Name x px, iter, ifs, 0⟩] scope pos) 0 (.ref it) acc { cenv with scope := relabel scope X.env }) (RR acc cenv.locals) s4) E s3) E s2 := by
  refine wpAny_newObj_type (wpAny_newFunctionEnv O.nocell (by intro y hy; simp at hy) (fun h1 hns hsb => ?_) O.kind)
  dsimp only at hns hsb ⊢
  generalize hG : s2.heap.push { cls := .type "list", dict := none, data := .seq ([] : List Value).toArray } = G at hns hsb ⊢
  have hC : G.objs.size = s2.heap.objs.size + 1 := by rw [← hG, Heap.size_push]
  have old : ∀ b o, s2.heap.get? b = some o → h1.get? b = some o := fun b o e => hsb.extBut b o (Nat.ne_of_lt (by rw [hC]; exact Nat.lt_succ_of_lt (Heap.lt_size e))) (Heap.get?_push_of_some _ (hG ▸ Heap.get?_push_of_some _ e))
  have hacc : h1.get? s2.heap.objs.size = some { cls := .type "list", data := .seq ([] : List Value).toArray 0 } := hsb.extBut _ _ (Nat.ne_of_lt (by rw [hC]; exact Nat.lt_succ_self _)) (Heap.get?_push_of_some _ (hG ▸ Heap.get?_push_size _ rfl))
  have hD : H2 s2.heap.objs.size = none := I2.fresh
  have okX : (cmpCx X N scope cl fp G.objs.size s2 H2).Ok := by
    refine ⟨I2.ok.mod, O.kind, I2.ok.glob, I2.ok.blt, by show s2.heap.objs.size ≤ G.objs.size; rw [hC]; exact Nat.le_succ _, fun y z c e1 e2 => I2.ok.inj y z c (O.cells y c e1) (O.cells z c e2), fun y hy => O.has y hy, fun y c z => absurd (show false = true from z) Bool.false_ne_true, I2.ok.hd, I2.ok.frames, .inl rfl,
      fun b hb => ⟨?_, fun y c e => (f2 b hb).2.2.2.2.1 y c (O.cells y c e)⟩, I2.bs, Nat.le_trans I2.ok.bsz I2.sz, fun b o e hb => ?_, fun b hb z => ?_, I2.stack, I2.stkFree⟩
    · obtain ⟨o, e, _⟩ := T.obj _ _ st2 b hb
      show b ≠ G.objs.size
      exact Nat.ne_of_lt (by rw [hC]; exact Nat.lt_succ_of_lt (Heap.lt_size e))
    · rcases (f2 b hb).2.2.2.1 with z | z
      · exact I2.ok.noex b o e z
      · exact absurd (Nat.lt_of_lt_of_le (Heap.lt_size e) (Nat.le_trans I2.ok.bsz z)) (Nat.lt_irrefl _)
    · rcases List.mem_cons.mp (I2.stkSub b z) with z | z
      · exact (f2 b hb).2.1 z
      · exact (f2 b hb).2.2.1 z
  have statX : ∀ {H' : Hp}, (∀ b ∈ fp, H' b = none) → ∀ b ∈ fp, FpOk (cmpCx X N scope cl fp G.objs.size s2 H2) [] H' b := fun hn b hb =>
    ⟨hn b hb, (okX.exf b hb).1, okX.exfs b hb, .inl hb, (okX.exf b hb).2, fun p hp => absurd (show p ∈ ([] : List (Addr × Obj)) from hp) (by simp)⟩
  have I' : Inv (cmpCx X N scope cl fp G.objs.size s2 H2) [] (cmpSt σ fr none) (upd H2 s2.heap.objs.size (.lst [])) { s2 with heap := h1, toks := s2.toks + ([] : List (Str × Value)).length } := by
    refine ⟨okX, rfl, I2.bare, Un.laid old (Nat.le_refl _) hD, ⟨_, hns, fun i y v e1 e2 e3 => ?_⟩, fun y c e => ?_, ?_, fun y c e => ?_, fun p hp => absurd (show p ∈ ([] : List (Addr × Obj)) from hp) (by simp), I2.hok.laid old (Nat.le_refl _) ⟨Nat.zero_le _, [], 0, .nil, hacc⟩, ?_⟩
    · cases i with
      | zero => cases e2
      | succ i =>
        obtain ⟨j, q1, q2, q3, q4⟩ := O.sub i y e1
        have e2' : (σ[j]?).join = some v := by
          have : (fr.map fun j => (σ[j]?).join)[i]? = some (some v) := e2
          rw [List.getElem?_map, q1] at this
          exact Option.some.inj this
        have e4 : σ[j]? = some (some v) := by
          cases z : σ[j]? with
          | none => rw [z] at e2'; cases e2'
          | some t => rw [z] at e2'; exact congrArg some e2'
        obtain ⟨m, _, hl⟩ := I2.loc
        have vis : Vis X.env.scope y := .inr q3
        obtain ⟨u, r, l⟩ := hl j y v q2 e4 vis
        refine ⟨u, r, .inr ⟨q4, ?_⟩⟩
        obtain ⟨c', hc'⟩ := O.has y q4
        rcases l with ⟨k, _⟩ | ⟨_, c, ec, ic⟩
        · rcases q3 with z | z
          · rw [z] at k; cases k
          · rw [z] at k; cases k
        · have := O.cells y c' hc'
          have e' : c = c' := Option.some.inj (ec.symm.trans this)
          obtain ⟨o, ho, hd⟩ := ic
          rw [e'] at ho
          exact ⟨c', hc', o, old c' o ho, hd⟩
    · obtain ⟨v, o, ho, hd⟩ := I2.cell y c (O.cells y c e)
      exact ⟨v, o, old c o ho, hd⟩
    · show upd H2 s2.heap.objs.size (.lst []) G.objs.size = none
      rw [upd_ne (Nat.ne_of_gt (by rw [hC]; exact Nat.lt_succ_self _))]
      exact I2.hok.fresh (by rw [hC]; exact Nat.le_succ _)
    · obtain ⟨v, o, ho, hd⟩ := I2.cell y c (O.cells y c e)
      rw [upd_ne (Nat.ne_of_lt (Heap.lt_size ho))]
      exact I2.freeC y c (O.cells y c e)
    · show (cmpSt σ fr none).length = N.length
      rw [O.len]; simp [cmpSt]
  have st1 : tn 0 h1 := T.keep _ _ _ st2 fun b hb o e => old b o e
  have loop : ∀ s3 : Shared, s3 = { s2 with heap := h1, toks := s2.toks + ([] : List (Str × Value)).length } →
      codeAny (model X.prog X.w) X.A (.compLoop (.ListComp elt [⟨.Name x px, iter, ifs, 0⟩] scope pos) 0 (.ref it) (.ref s2.heap.objs.size) (compEnvC scope cl G.objs.size X.env)) (RR (.ref s2.heap.objs.size) G.objs.size) s3 := by
    rintro s3 rfl
    obtain ⟨W, ⟨m0, w0⟩, turn⟩ := hW _ hD
    refine comp_turns (fun n s' => ∃ i t H', Inv (cmpCx X N scope cl fp G.objs.size s2 H2) [] (cmpSt σ fr t) H' s' ∧ tn i s'.heap ∧ (∀ b ∈ fp, H' b = none) ∧ W i n H') ?_ m0
      ⟨0, none, _, I', st1, fun b hb => by
        rw [upd_ne (by obtain ⟨o, e, _⟩ := T.obj _ _ st2 b hb; exact Nat.ne_of_lt (Heap.lt_size e))]
        exact (f2 b hb).1, w0⟩
    rintro n s' ⟨i, t, H', I3, st3, fr3, w3⟩
    rcases turn i n H' w3 with ⟨stop, qn⟩ | ⟨go, step⟩
    · refine thn (T.done (cmpCx X N scope cl fp G.objs.size s2 H2) rfl rfl rfl hc i [] s' _ H' _ I3 (statX fr3) st3 stop) fun r s4 ⟨hr, I4⟩ => ?_
      subst hr
      obtain ⟨m, hm, _⟩ := I4.loc
      refine fin _ _ s4 H' (by rw [hC]; exact Nat.le_succ _) I4.free ⟨m, hm⟩ (I2.call' (ch := fp) I4.os I4.base I4.hok I4.bare fun b hb => ?_) qn
      exact ⟨(f2 b hb).2.2.2.1, (f2 b hb).2.1, (f2 b hb).2.2.2.2.1, (f2 b hb).2.2.2.2.2⟩
    · refine thn (T.item (cmpCx X N scope cl fp G.objs.size s2 H2) rfl rfl rfl hc i [] s' _ H' _ I3 (statX fr3) st3 go) fun r s4 ⟨u, hr, h4⟩ => ?_
      subst hr
      refine thn h4 fun _ s5 ⟨y, H5, I5, r5, y5, st5, fr5⟩ => ?_
      have I5' := I5.pinned (statX fr5) (T.obj _ _ st5)
      have lx : (cmpCx X N scope cl fp G.objs.size s2 H2).env.scope.names.lookup x = some .local := lookup_relabel_local O.hx
      refine thn (pg_name (X := cmpCx X N scope cl fp G.objs.size s2 H2) (i := 0) O.nd O.n0 (.inl lx) (.inr lx) _ s5 _ H5 y u (fun σ' H' => σ' = cmpSt σ fr (some y) ∧ H' = H5) I5' r5 ⟨rfl, rfl⟩) fun _ s6 ⟨σ6, H6, I6, e6, e6'⟩ => ?_
      subst e6; subst e6'
      have again : ∀ {σ7 : St} {H7 : Hp} {s7 : Shared} {m' : Nat}, σ7 = cmpSt σ fr (some y) → Inv (cmpCx X N scope cl fp G.objs.size s2 H2) ([] ++ pinsAt fp s5.heap) σ7 H7 s7 → m' < n → W (i + 1) m' H7 →
          ∃ m, m < n ∧ ∃ i t H', Inv (cmpCx X N scope cl fp G.objs.size s2 H2) [] (cmpSt σ fr t) H' s7 ∧ tn i s7.heap ∧ (∀ b ∈ fp, H' b = none) ∧ W i m H' := fun {σ7 H7 s7 m'} e7 I7 hm w7 => by
        subst e7
        refine ⟨m', hm, i + 1, some y, H7, I7.unpinned, T.keep _ _ _ st5 fun b hb o e => (I7.pin (b, o) (List.mem_append_right _ (List.mem_append_right _ (mem_pinsAt hb e)))).1, fun b hb => ?_, w7⟩
        obtain ⟨o, e, d⟩ := T.obj _ _ st5 b hb
        exact (I7.pin (b, o) (List.mem_append_right _ (List.mem_append_right _ (mem_pinsAt hb e)))).2.1
      refine thn (ht fp G.objs.size s2 H2 _ s6 _ H6 _ I6 (step y H6 y5)) fun ok s7 ⟨H7, I7, q7⟩ => ?_
      cases ok with
      | false =>
        rw [if_neg Bool.false_ne_true] at q7 ⊢
        obtain ⟨m', hm, w7⟩ := q7
        exact again rfl I7 hm w7
      | true =>
        rw [if_pos rfl] at q7 ⊢
        refine thn (he fp G.objs.size s2 H2 _ s7 _ H7 _ I7 q7) fun u8 s8 ⟨v8, H8, I8, r8, ys, hys, hlen, m', hm, w8⟩ => ?_
        refine thn (mt_append (X := cmpCx X N scope cl fp G.objs.size s2 H2) _ s8 _ H8 (.ref s2.heap.objs.size) [v8] _ [u8] (fun _ H9 => W (i + 1) m' H9) I8 rfl (.cons r8 .nil) ⟨_, ys, v8, rfl, rfl, hys, hlen, w8⟩) fun _ s9 ⟨_, H9, I9, _, w9⟩ => ?_
        exact again rfl I9 hm w9
  exact codeAny_compStart_list (loop _ rfl) (T.self _ 0 _ _ _ st1 (loop _ rfl))
/-- the frame of a block is let go -/
theorem Inv.left {pins : List (Addr × Obj)} {σ σ2 : St} {s2 s' : Shared} {H2 H' : Hp} {C : Addr} {h' : Heap} (I2 : Inv X pins σ2 H2 s2) (I' : Inv X pins σ H' s') (hC : s2.heap.objs.size ≤ C) (hn : H' C = none) (hs : Heap.SameBut C s'.heap h') : Inv X pins σ H' { s' with heap := h' } := by
  refine I'.turned (t' := s'.toks) (it := C) (fun b o hb e => (hs.2 b hb).trans e) hn (Nat.ne_of_gt (Nat.lt_of_lt_of_le I2.lt hC)) (.inr (Nat.le_trans I2.sz hC)) (fun y c e => ?_) fun p hp => ?_
  · obtain ⟨v, o, ho, _⟩ := I2.cell y c e
    exact Nat.ne_of_lt (Nat.lt_of_lt_of_le (Heap.lt_size ho) hC)
  · exact Nat.ne_of_lt (Nat.lt_of_lt_of_le (Heap.lt_size (I2.pin p hp).1) hC)
/-- [elt for x in iter if ..] -/
theorem pe_comp {wi : TI} (hi : PI X (.Name x px) iter wi) (O : CmpOk X N fr scope cl x) (hc : X.calm = true) (ht : ∀ fp C s H, PIf (cmpCx X N scope cl fp C s H) ifs tt) (he : ∀ fp C s H, PE (cmpCx X N scope cl fp C s H) elt te)
    (hs : ∀ v, foldedSetIterable iter X.env v = pure v := by intro _; rfl) : PE X (.ListComp elt [⟨.Name x px, iter, ifs, 0⟩] scope pos) (tComp wi fr tt te) := by
  intro pins s σ H Q I h
  rw [eval_ListComp]
  refine wpAny_comprehension_free (use := none) rfl hs O.clos O.kind O.names (thn (hi pins s σ H _ I h) fun v s1 h1 => thn h1 fun itv s2 h2 => ?_)
  obtain ⟨it, fp, tn, J, H2, e, I2, T, st2, f2, hW⟩ := h2
  subst e
  refine comp_core (RR := fun acc C => compPost (model X.prog X.w) X.A X.xe none (EP X pins σ Q) acc C) O hc I2 T st2 f2 ht he hW fun D C s' H' hC hn ⟨m, hm⟩ I' q => ?_
  exact ⟨m, hm, fun h' hs' => ⟨.ref D, H', I2.left I' hC hn hs', rfl, q⟩⟩
/-- what is wanted behind a turn that tells nothing; behind one that tells y -/
def CNext (Pv : Addr → Nat → List V → Hp → Prop) (D : Addr) (i n : Nat) (H2 : Hp) : Prop := ∃ m', m' < n - i ∧ m' = n - (i + 1) ∧ i + 1 ≤ n ∧ ∃ zs, Pv D (i + 1) zs H2
def CYes (Pv : Addr → Nat → List V → Hp → Prop) (D : Addr) (i n : Nat) : VK := fun y H3 => ∃ ys, H3 D = some (.lst ys) ∧ ys.length < sizeLine ∧ CNext Pv D i n (upd H3 D (.lst (ys ++ [y])))
theorem CNext.mk {Pv : Addr → Nat → List V → Hp → Prop} {D : Addr} {i n : Nat} {H2 : Hp} {zs : List V} (hi : i < n) (h : Pv D (i + 1) zs H2) : CNext Pv D i n H2 := ⟨n - (i + 1), by omega, rfl, hi, zs, h⟩
theorem CYes.mk {Pv : Addr → Nat → List V → Hp → Prop} {D : Addr} {i n : Nat} {H3 : Hp} {ys : List V} {y : V} (hi : i < n) (e : H3 D = some (.lst ys)) (hl : ys.length < sizeLine) (h : Pv D (i + 1) (ys ++ [y]) (upd H3 D (.lst (ys ++ [y])))) : CYes Pv D i n y H3 := ⟨ys, e, hl, .mk hi h⟩
/-- over a list that the block leaves as it is -/
theorem comp_list {K : PySem.W.Frag} {a : Addr} {xs : List V} {σ : St} {H1 : Hp} {Q : VK} (Pv : Addr → Nat → List V → Hp → Prop) (h0 : ∀ D, H1 D = none → Pv D 0 [] (upd H1 D (.lst [])))
    (hk : ∀ D i ys H, H1 D = none → i ≤ xs.length → Pv D i ys H → SqL K H a xs)
    (hs : ∀ D i x ys H, H1 D = none → xs[i]? = some x → Pv D i ys H → tt (cmpSt σ fr (some x)) H fun b H2 => if b = true then te (cmpSt σ fr (some x)) H2 (CYes Pv D i xs.length) else CNext Pv D i xs.length H2)
    (hd : ∀ D ys H, H1 D = none → Pv D xs.length ys H → Q (.ref D) H) : CompAt (Itl K a) fr tt te σ Q H1 := by
  intro D hD
  refine ⟨fun i m H => m = xs.length - i ∧ i ≤ xs.length ∧ ∃ ys, Pv D i ys H, ⟨_, rfl, Nat.zero_le _, [], h0 D hD⟩, ?_⟩
  rintro i m H ⟨rfl, hi, ys, p⟩
  have q := hk D i ys H hD hi p
  by_cases hlt : i < xs.length
  · refine .inr ⟨⟨xs, xs[i], q, by simp [hlt]⟩, fun x H' y => ?_⟩
    obtain ⟨e, y⟩ := y
    subst e
    exact hs D i x ys _ hD (y xs q) p
  · have e : i = xs.length := by omega
    subst e
    exact .inl ⟨⟨xs, q, Nat.le_refl _⟩, hd D ys H hD p⟩
end
end L2

namespace L2
open PySem PySem.Spec PyProof.Rows
/-! ### a list comprehension whose target is any (a tuple of names): k names of the target first, then the def's own that the block sees -/
structure CmpOkG (X : Cx) (N : List Str) (k : Nat) (fr : List Nat) (scope : Scope) (cl : List (Str × Addr)) : Prop where
  clos : closureFor scope X.env = pure cl
  kind : scope.kind = .function
  nocell : ∀ y ∈ scope.names, y.2 ≠ .cell
  names : ∀ y ∈ scope.names, y.2 = .local → scope.names.lookup y.1 = some .local
  len : N.length = k + fr.length
  sub : ∀ (i : Nat) (y : Str), N[k + i]? = some y → ∃ j, fr[i]? = some j ∧ X.N[j]? = some y ∧ (X.env.kindOf y = some .cell ∨ X.env.kindOf y = some .free) ∧ ((relabel scope X.env).names.lookup y = some .cell ∨ (relabel scope X.env).names.lookup y = some .free)
  cells : ∀ y c, cl.lookup y = some c → X.env.cells.lookup y = some c
  has : ∀ y, ((relabel scope X.env).names.lookup y = some .cell ∨ (relabel scope X.env).names.lookup y = some .free) → ∃ c, cl.lookup y = some c
def cmpStG (σ : St) (fr : List Nat) (ts : St) : St := ts ++ fr.map fun j => (σ[j]?).join
def CompAtG (J : It) (gt : TG) (k : Nat) (fr : List Nat) (tt : TT) (te : TE) (σ : St) (Q : VK) (H1 : Hp) : Prop := ∀ D, H1 D = none → ∃ W : Nat → Nat → Hp → Prop, (∃ m, W 0 m (upd H1 D (.lst []))) ∧ ∀ i m H, W i m H →
  (J.stop i H ∧ Q (.ref D) H) ∨ (J.go i H ∧ ∀ x H', J.yld i H x H' → ∀ ts : St, ts.length = k → gt x (cmpStG σ fr ts) H' fun σ2 H2 => (∃ ts2 : St, ts2.length = k ∧ σ2 = cmpStG σ fr ts2) ∧ tt σ2 H2 fun b H3 => if b = true then te σ2 H3 fun y H4 => ∃ ys, H4 D = some (.lst ys) ∧ ys.length < sizeLine ∧ ∃ m', m' < m ∧ W (i + 1) m' (upd H4 D (.lst (ys ++ [y])))
    else ∃ m', m' < m ∧ W (i + 1) m' H3)
def tCompG (wi : TI) (gt : TG) (k : Nat) (fr : List Nat) (tt : TT) (te : TE) : TE := fun σ H Q => wi σ H fun J H1 => CompAtG J gt k fr tt te σ Q H1
section
variable {X : Cx} {elt iter tg : Expr} {ifs : List Expr} {pos : Pos} {scope : Scope} {cl : List (Str × Addr)} {N : List Str} {k : Nat} {fr : List Nat} {gt : TG} {tt : TT} {te : TE}
end
end L2

namespace Srt
open PySem PySem.W PyProof.Rows
/-- the tree's end under an oracle; each question is about places below n -/
def Ok (n : Nat) (lt : Nat → Nat → Bool) {α : Type} : KasT α → (α → Prop) → Prop
  | .ret a, Q => Q a
  | .ask i j k, Q => i < n ∧ j < n ∧ Ok n lt (k (lt i j)) Q
theorem Ok.mono {n : Nat} {lt : Nat → Nat → Bool} {α : Type} : ∀ {t : KasT α} {Q Q' : α → Prop}, Ok n lt t Q → (∀ a, Q a → Q' a) → Ok n lt t Q'
  | .ret _, _, _, h, f => f _ h
  | .ask _ _ _, _, _, h, f => ⟨h.1, h.2.1, Ok.mono h.2.2 f⟩
theorem Ok.bind {n : Nat} {lt : Nat → Nat → Bool} {α β : Type} {f : α → KasT β} {Q : β → Prop} : ∀ {t : KasT α}, Ok n lt t (fun a => Ok n lt (f a) Q) → Ok n lt (t.bind f) Q
  | .ret _, h => h
  | .ask _ _ _, h => ⟨h.1, h.2.1, Ok.bind h.2.2⟩
section
variable {n : Nat} {lt : Nat → Nat → Bool}
abbrev g (p : Array Nat) (i : Nat) : Nat := p.getD i 0
theorem g_eq (p : Array Nat) (i : Nat) : g p i = (p[i]?).getD 0 := by simp [g, Array.getD_eq_getD_getElem?]
/-- p holds places below n alone -/
def Bd (n : Nat) (p : Array Nat) : Prop := 0 < n ∧ ∀ i, g p i < n
theorem g_rev {p : Array Nat} {i j : Nat} (hj : j ≤ p.size) (k : Nat) : g (kas_rev p i j) k = if i ≤ k ∧ k < j then g p (i + j - 1 - k) else g p k := by
  rw [g_eq, g_eq, g_eq]
  unfold kas_rev
  rw [getElem?_mirror_all hj k]
  split <;> rfl
theorem g_bubble {p : Array Nat} {src d : Nat} (hs : src < p.size) (hd : d ≤ src) (k : Nat) : g (bubble p src d) k = if k = src - d then g p src else if src - d < k ∧ k ≤ src then g p (k - 1) else g p k := by
  rw [g_eq, g_eq, g_eq, g_eq, getElem?_bubble hs d hd k]
  repeat' split
  all_goals rfl
theorem bd_rev {p : Array Nat} {i j : Nat} (b : Bd n p) (hj : j ≤ p.size) : Bd n (kas_rev p i j) := ⟨b.1, fun k => by
  rw [g_rev hj]; split
  · exact b.2 _
  · exact b.2 _⟩
theorem bd_bubble {p : Array Nat} {src d : Nat} (b : Bd n p) (hs : src < p.size) (hd : d ≤ src) : Bd n (bubble p src d) := ⟨b.1, fun k => by
  rw [g_bubble hs hd]
  by_cases c : k = src - d
  · rw [if_pos c]; exact b.2 _
  · rw [if_neg c]
    by_cases c2 : src - d < k ∧ k ≤ src
    · rw [if_pos c2]; exact b.2 _
    · rw [if_neg c2]; exact b.2 _⟩
theorem rev_size (p : Array Nat) (i j : Nat) : (kas_rev p i j).size = p.size := mirror_size _ _ _ _
theorem rev_perm (p : Array Nat) (i j : Nat) : (kas_rev p i j).Perm p := mirror_perm _ _ _ _
/-- ascending up to k; not ascending up to k -/
def Up (lt : Nat → Nat → Bool) (p : Array Nat) (k : Nat) : Prop := ∀ i j, i ≤ j → j < k → lt (g p j) (g p i) = false
def Dn (lt : Nat → Nat → Bool) (p : Array Nat) (k : Nat) : Prop := ∀ i j, i ≤ j → j < k → lt (g p i) (g p j) = false
structure Ord (lt : Nat → Nat → Bool) : Prop where
  tr : ∀ a b c, lt b a = false → lt c b = false → lt c a = false
  as : ∀ a b, lt a b = true → lt b a = false
theorem Ord.rf {lt : Nat → Nat → Bool} (o : Ord lt) (a : Nat) : lt a a = false := by
  cases h : lt a a with
  | false => rfl
  | true => have := o.as a a h; rw [h] at this; exact this
theorem up_succ (o : Ord lt) {p : Array Nat} {k : Nat} (h : Up lt p k) (hk : 1 ≤ k) (hl : lt (g p k) (g p (k - 1)) = false) : Up lt p (k + 1) := fun i j hij hj => by
  by_cases e : j = k
  · subst e
    by_cases e2 : i = j
    · subst e2; exact o.rf _
    · exact o.tr _ (g p (j - 1)) _ (h i (j - 1) (by omega) (by omega)) hl
  · exact h i j hij (by omega)
theorem dn_succ (o : Ord lt) {p : Array Nat} {k : Nat} (h : Dn lt p k) (hk : 1 ≤ k) (hl : lt (g p (k - 1)) (g p k) = false) : Dn lt p (k + 1) := fun i j hij hj => by
  by_cases e : j = k
  · subst e
    by_cases e2 : i = j
    · subst e2; exact o.rf _
    · exact o.tr _ (g p (j - 1)) _ hl (h i (j - 1) (by omega) (by omega))
  · exact h i j hij (by omega)
theorem up_one (o : Ord lt) (p : Array Nat) : Up lt p 1 := fun i j hij hj => by
  have h1 : i = 0 := by omega
  have h2 : j = 0 := by omega
  subst h1; subst h2; exact o.rf _
theorem up_of_rev (p : Array Nat) {k : Nat} (hk : k ≤ p.size) (h : Dn lt p k) : Up lt (kas_rev p 0 k) k := fun i j hij hj => by
  rw [g_rev hk, g_rev hk, if_pos ⟨Nat.zero_le _, hj⟩, if_pos ⟨Nat.zero_le _, by omega⟩]
  exact h _ _ (by omega) (by omega)
/-- equal keys between a and b -/
def Eqs (lt : Nat → Nat → Bool) (p : Array Nat) (a b : Nat) : Prop := ∀ i j, a ≤ i → i < b → a ≤ j → j < b → lt (g p i) (g p j) = false
/-- where a stretch of equal keys is turned, each key is as it was -/
theorem dn_rev_eqs (o : Ord lt) {p : Array Nat} {a b k : Nat} (hb : b ≤ p.size) (hbk : b ≤ k) (e : Eqs lt p a b) (h : Dn lt p k) : Dn lt (kas_rev p a b) k := fun i j hij hj => by
  have same : ∀ m, lt (g (kas_rev p a b) m) (g p m) = false ∧ lt (g p m) (g (kas_rev p a b) m) = false := fun m => by
    rw [g_rev hb]
    by_cases c : a ≤ m ∧ m < b
    · rw [if_pos c]; exact ⟨e _ _ (by omega) (by omega) c.1 c.2, e _ _ c.1 c.2 (by omega) (by omega)⟩
    · rw [if_neg c]; exact ⟨o.rf _, o.rf _⟩
  exact o.tr _ (g p j) _ (same j).2 (o.tr _ (g p i) _ (h i j hij hj) (same i).1) |> fun z => z
theorem ok_asc (o : Ord lt) {p : Array Nat} (b : Bd n p) : ∀ (f k : Nat), 1 ≤ k → Up lt p k → Ok n lt (kas_asc p f k) (fun m => k ≤ m ∧ m ≤ k + f ∧ Up lt p m ∧ (m < k + f → lt (g p m) (g p (m - 1)) = true))
  | 0, k, h1, h => ⟨Nat.le_refl _, Nat.le_refl _, h, fun z => absurd z (Nat.lt_irrefl _)⟩
  | f + 1, k, h1, h => by
    refine ⟨b.2 _, b.2 _, ?_⟩
    cases c : lt (p.getD k 0) (p.getD (k - 1) 0) with
    | true => exact ⟨Nat.le_refl _, by omega, h, fun _ => c⟩
    | false =>
      refine Ok.mono (ok_asc o b f (k + 1) (by omega) (up_succ o h h1 c)) fun m ⟨a1, a2, a3, a4⟩ => ⟨by omega, by omega, a3, fun z => a4 (by omega)⟩
theorem ok_desc (o : Ord lt) : ∀ (f : Nat) (p : Array Nat) (k q : Nat), Bd n p → q + 1 ≤ k → k + f ≤ p.size → Dn lt p k → Eqs lt p (k - (q + 1)) k →
    Ok n lt (kas_desc f p k q) (fun r => r.1.Perm p ∧ r.1.size = p.size ∧ Bd n r.1 ∧ k ≤ r.2.1 ∧ r.2.1 ≤ k + f ∧ Dn lt r.1 r.2.1 ∧ r.2.2 + 1 ≤ r.2.1 ∧ Eqs lt r.1 (r.2.1 - (r.2.2 + 1)) r.2.1)
  | 0, p, k, q, b, hq, hs, h, e => ⟨Array.Perm.refl _, rfl, b, Nat.le_refl _, Nat.le_refl _, h, hq, e⟩
  | f + 1, p, k, q, b, hq, hs, h, e => by
    refine ⟨b.2 _, b.2 _, ?_⟩
    have one : ∀ (p' : Array Nat), Eqs lt p' k (k + 1) := fun p' i j a1 a2 a3 a4 => by
      have e1 : i = k := by omega
      have e2 : j = k := by omega
      subst e1; subst e2; exact o.rf _
    cases c : lt (p.getD k 0) (p.getD (k - 1) 0) with
    | true =>
      dsimp only
      rw [if_pos rfl]
      have cl := o.as _ _ c
      by_cases hq0 : q > 0
      · rw [if_pos hq0]
        have hb : k ≤ p.size := by omega
        have d1 : Dn lt (kas_rev p (k - (q + 1)) k) (k + 1) := dn_rev_eqs o hb (by omega) e (dn_succ o h (by omega) cl)
        refine Ok.mono (ok_desc o f _ (k + 1) 0 (bd_rev b hb) (by omega) (by rw [rev_size]; omega) d1 (one _)) fun r ⟨a1, a2, a3, a4, a5, a6, a7, a8⟩ => ⟨a1.trans (rev_perm _ _ _), by rw [a2, rev_size], a3, by omega, by omega, a6, a7, a8⟩
      · rw [if_neg hq0]
        refine Ok.mono (ok_desc o f p (k + 1) 0 b (by omega) (by omega) (dn_succ o h (by omega) cl) (one _)) fun r ⟨a1, a2, a3, a4, a5, a6, a7, a8⟩ => ⟨a1, a2, a3, by omega, by omega, a6, a7, a8⟩
    | false =>
      dsimp only
      rw [if_neg Bool.false_ne_true]
      refine ⟨b.2 _, b.2 _, ?_⟩
      cases d : lt (p.getD (k - 1) 0) (p.getD k 0) with
      | true => exact ⟨Array.Perm.refl _, rfl, b, Nat.le_refl _, Nat.le_add_right _ _, h, hq, e⟩
      | false =>
        dsimp only
        rw [if_neg Bool.false_ne_true]
        have e' : Eqs lt p (k + 1 - (q + 1 + 1)) (k + 1) := fun i j a1 a2 a3 a4 => by
          have z1 : k + 1 - (q + 1 + 1) = k - (q + 1) := by omega
          rw [z1] at a1 a3
          by_cases e1 : i = k
          · subst e1
            by_cases e2 : j = i
            · subst e2; exact o.rf _
            · exact o.tr _ (g p (i - 1)) _ (e _ _ (by omega) (by omega) a3 (by omega)) c
          · by_cases e2 : j = k
            · subst e2
              exact o.tr _ (g p (j - 1)) _ d (e _ _ a1 (by omega) (by omega) (by omega))
            · exact e _ _ a1 (by omega) a3 (by omega)
        refine Ok.mono (ok_desc o f p (k + 1) (q + 1) b (by omega) (by omega) (dn_succ o h (by omega) d) e') fun r ⟨a1, a2, a3, a4, a5, a6, a7, a8⟩ => ⟨a1, a2, a3, by omega, by omega, a6, a7, a8⟩
theorem ok_tail3 (o : Ord lt) {p : Array Nat} {k nrem : Nat} (b : Bd n p) (h1 : 1 ≤ k) (hk : k ≤ nrem) (hs : nrem ≤ p.size) (h : Dn lt p k) :
    Ok n lt (kas_tail3 k nrem p) (fun r => r.2.Perm p ∧ r.2.size = p.size ∧ Bd n r.2 ∧ 1 ≤ r.1 ∧ r.1 ≤ nrem ∧ Up lt r.2 r.1) := by
  unfold kas_tail3
  refine Ok.bind (Ok.mono (ok_asc o (bd_rev b (by omega)) (nrem - k) k h1 (up_of_rev p (by omega) h)) fun m ⟨a1, a2, a3, _⟩ => ?_)
  exact ⟨rev_perm _ _ _, rev_size _ _ _, bd_rev b (by omega), by omega, by omega, a3⟩
theorem ok_descPart (o : Ord lt) {p : Array Nat} {k nrem : Nat} (b : Bd n p) (h1 : 1 ≤ k) (hk : k < nrem) (hs : nrem ≤ p.size) (h : Dn lt p (k + 1)) :
    Ok n lt (kas_descPart k nrem p) (fun r => r.2.Perm p ∧ r.2.size = p.size ∧ Bd n r.2 ∧ 1 ≤ r.1 ∧ r.1 ≤ nrem ∧ Up lt r.2 r.1) := by
  unfold kas_descPart
  have one : Eqs lt p (k + 1 - (0 + 1)) (k + 1) := fun i j a1 a2 a3 a4 => by
    have e1 : i = k := by omega
    have e2 : j = k := by omega
    subst e1; subst e2; exact o.rf _
  refine Ok.bind (Ok.mono (ok_desc o (nrem - (k + 1)) p (k + 1) 0 b (by omega) (by omega) h one) fun r ⟨a1, a2, a3, a4, a5, a6, a7, a8⟩ => ?_)
  by_cases hq : r.2.2 > 0
  · rw [if_pos hq]
    have hb : r.2.1 ≤ r.1.size := by omega
    refine Ok.mono (ok_tail3 o (bd_rev a3 hb) (by omega) (by omega) (by rw [rev_size]; omega) (dn_rev_eqs o hb (Nat.le_refl _) a8 a6)) fun q ⟨c1, c2, c3, c4, c5, c6⟩ => ⟨c1.trans ((rev_perm _ _ _).trans a1), by rw [c2, rev_size, a2], c3, c4, c5, c6⟩
  · rw [if_neg hq]
    refine Ok.mono (ok_tail3 o a3 (by omega) (by omega) (by omega) a6) fun q ⟨c1, c2, c3, c4, c5, c6⟩ => ⟨c1.trans a1, by rw [c2, a2], c3, c4, c5, c6⟩
theorem ok_count (o : Ord lt) {p : Array Nat} {nrem : Nat} (b : Bd n p) (h1 : 1 ≤ nrem) (hs : nrem ≤ p.size) :
    Ok n lt (kas_count nrem p) (fun r => r.2.Perm p ∧ r.2.size = p.size ∧ Bd n r.2 ∧ 1 ≤ r.1 ∧ r.1 ≤ nrem ∧ Up lt r.2 r.1) := by
  unfold kas_count
  refine Ok.bind (Ok.mono (ok_asc o b (nrem - 1) 1 (Nat.le_refl _) (up_one o p)) fun m ⟨a1, a2, a3, a4⟩ => ?_)
  by_cases hm : m = nrem
  · subst hm
    rw [if_pos (beq_self_eq_true m)]
    exact ⟨Array.Perm.refl _, rfl, b, a1, Nat.le_refl _, a3⟩
  · rw [if_neg (by simpa using hm)]
    have hl : lt (g p m) (g p (m - 1)) = true := a4 (by omega)
    have cl := o.as _ _ hl
    by_cases h2 : m > 1
    · rw [if_pos h2]
      refine ⟨b.2 _, b.2 _, ?_⟩
      cases c : lt (p.getD 0 0) (p.getD (m - 1) 0) with
      | true => exact ⟨Array.Perm.refl _, rfl, b, a1, by omega, a3⟩
      | false =>
        dsimp only
        rw [if_neg Bool.false_ne_true]
        have eqs : Eqs lt p 0 m := fun i j _ hi _ hj => o.tr _ (g p (m - 1)) _ (a3 j (m - 1) (by omega) (by omega)) (o.tr _ (g p 0) _ c (a3 0 i (Nat.zero_le _) hi) |> fun z => z) |> fun z => z
        have dn : Dn lt p (m + 1) := dn_succ o (fun i j hij hj => eqs i j (Nat.zero_le _) (by omega) (Nat.zero_le _) hj) (by omega) cl
        refine Ok.mono (ok_descPart o (bd_rev b (by omega)) a1 (by omega) (by rw [rev_size]; omega) (dn_rev_eqs o (by omega) (by omega) eqs dn)) fun r ⟨c1, c2, c3, c4, c5, c6⟩ => ⟨c1.trans (rev_perm _ _ _), by rw [c2, rev_size], c3, c4, c5, c6⟩
    · rw [if_neg h2]
      have e : m = 1 := by omega
      subst e
      have dn : Dn lt p (1 + 1) := dn_succ o (fun i j hij hj => by
        have e1 : i = 0 := by omega
        have e2 : j = 0 := by omega
        subst e1; subst e2; exact o.rf _) (Nat.le_refl _) cl
      exact ok_descPart o b (Nat.le_refl _) (by omega) hs dn
theorem ok_place (o : Ord lt) {p : Array Nat} {k : Nat} (b : Bd n p) (hu : Up lt p k) : ∀ (f l r : Nat), l ≤ r → r ≤ k → r - l ≤ f → (∀ i, i < l → lt (g p k) (g p i) = false) → (∀ i, r ≤ i → i < k → lt (g p k) (g p i) = true) →
    Ok n lt (kas_place p k f l r) (fun m => m ≤ k ∧ (∀ i, i < m → lt (g p k) (g p i) = false) ∧ ∀ i, m ≤ i → i < k → lt (g p k) (g p i) = true)
  | 0, l, r, h1, h2, h3, hl, hr => ⟨by omega, hl, fun i a1 a2 => hr i (by omega) a2⟩
  | f + 1, l, r, h1, h2, h3, hl, hr => by
    unfold kas_place
    by_cases c : l ≥ r
    · rw [if_pos c]
      exact ⟨by omega, hl, fun i a1 a2 => hr i (by omega) a2⟩
    · rw [if_neg c]
      refine ⟨b.2 _, b.2 _, ?_⟩
      cases d : lt (p.getD k 0) (p.getD ((l + r) / 2) 0) with
      | true =>
        dsimp only
        rw [if_pos rfl]
        refine ok_place o b hu f l ((l + r) / 2) (by omega) (by omega) (by omega) hl fun i a1 a2 => ?_
        cases e : lt (g p k) (g p i) with
        | true => rfl
        | false =>
          have z := o.tr _ _ _ (hu ((l + r) / 2) i a1 a2) e
          rw [d] at z; exact z.symm
      | false =>
        dsimp only
        rw [if_neg Bool.false_ne_true]
        refine ok_place o b hu f ((l + r) / 2 + 1) r (by omega) h2 (by omega) (fun i a1 => ?_) hr
        exact o.tr _ (g p ((l + r) / 2)) _ (hu i ((l + r) / 2) (by omega) (by omega)) d
theorem ok_bin (o : Ord lt) : ∀ (f : Nat) (p : Array Nat) (k : Nat), Bd n p → k + f ≤ p.size → Up lt p k → Ok n lt (kas_bin f p k) (fun r => r.Perm p ∧ r.size = p.size ∧ Bd n r ∧ Up lt r (k + f))
  | 0, p, k, b, hs, h => ⟨Array.Perm.refl _, rfl, b, h⟩
  | f + 1, p, k, b, hs, h => by
    unfold kas_bin
    refine Ok.bind (Ok.mono (ok_place o b h k 0 k (Nat.zero_le _) (Nat.le_refl _) (by omega) (fun i z => absurd z (Nat.not_lt_zero _)) fun i a1 a2 => absurd a2 (by omega)) fun l ⟨a1, a2, a3⟩ => ?_)
    have hk : k < p.size := by omega
    have hd : k - l ≤ k := Nat.sub_le _ _
    have e1 : k - (k - l) = l := by omega
    have up : Up lt (bubble p k (k - l)) (k + 1) := fun i j hij hj => by
      rw [g_bubble hk hd, g_bubble hk hd, e1]
      by_cases ej : j = l
      · rw [if_pos ej]
        by_cases ei : i = l
        · rw [if_pos ei]; exact o.rf _
        · rw [if_neg ei, if_neg (by omega)]
          exact a2 i (by omega)
      · rw [if_neg ej]
        by_cases ei : i = l
        · rw [if_pos ei, if_pos (by omega)]
          exact o.as _ _ (a3 (j - 1) (by omega) (by omega))
        · rw [if_neg ei]
          by_cases cj : l < j ∧ j ≤ k
          · rw [if_pos cj]
            by_cases ci : l < i ∧ i ≤ k
            · rw [if_pos ci]; exact h (i - 1) (j - 1) (by omega) (by omega)
            · rw [if_neg ci]; exact h i (j - 1) (by omega) (by omega)
          · rw [if_neg cj]
            by_cases ci : l < i ∧ i ≤ k
            · exact absurd cj (by omega)
            · rw [if_neg ci]; exact h i j hij (by omega)
    refine Ok.mono (ok_bin o f _ (k + 1) (bd_bubble b hk hd) (by rw [bubble_size]; omega) up) fun r ⟨c1, c2, c3, c4⟩ => ⟨c1.trans (bubble_perm _ _ _), by rw [c2, bubble_size], c3, ?_⟩
    have : k + (f + 1) = k + 1 + f := by omega
    rw [this]; exact c4
/-- the sorted order of n places -/
theorem ok_sort (o : Ord lt) (h1 : 1 ≤ n) : Ok n lt (kas_sort n) (fun r => r.Perm (List.toArray (List.range n)) ∧ r.size = n ∧ Up lt r n) := by
  unfold kas_sort
  have b : Bd n (List.toArray (List.range n)) := ⟨h1, fun i => by
    rw [g_eq]
    simp only [List.getElem?_toArray]
    cases e : (List.range n)[i]? with
    | none => exact h1
    | some v =>
      have := List.mem_range.mp (List.mem_of_getElem? e)
      simpa using this⟩
  have hs : (List.toArray (List.range n)).size = n := by simp
  refine Ok.bind (Ok.mono (ok_count o b h1 (by omega)) fun r ⟨a1, a2, a3, a4, a5, a6⟩ => ?_)
  by_cases c : r.1 < n
  · rw [if_pos c]
    have em : max r.1 1 = r.1 := by omega
    rw [em]
    refine Ok.mono (ok_bin o (n - r.1) r.2 r.1 a3 (by omega) a6) fun q ⟨c1, c2, c3, c4⟩ => ⟨c1.trans a1, by omega, ?_⟩
    have : r.1 + (n - r.1) = n := by omega
    rw [this] at c4; exact c4
  · rw [if_neg c]
    have e : r.1 = n := by omega
    rw [e] at a6
    exact ⟨a1, by omega, a6⟩
end
end Srt

namespace L2
open PySem PySem.Spec PySem.W PyProof.Rows
/-! ### sorted(..) of a short list of pairs of ints -/
def ltP (p q : Int × Int) : Bool := decide (p.1 < q.1) || (decide (p.1 = q.1) && decide (p.2 < q.2))
theorem ltP_ord (ps : List (Int × Int)) : Srt.Ord fun i j => ltP (ps.getD i (0, 0)) (ps.getD j (0, 0)) where
  tr := fun a b c h1 h2 => by
    generalize ps.getD a (0, 0) = x at h1 ⊢
    generalize ps.getD b (0, 0) = y at h1 h2
    generalize ps.getD c (0, 0) = z at h2 ⊢
    simp only [ltP, Bool.or_eq_false_iff, decide_eq_false_iff_not, Bool.and_eq_false_iff] at h1 h2 ⊢
    omega
  as := fun a b h => by
    generalize ps.getD a (0, 0) = x at h ⊢
    generalize ps.getD b (0, 0) = y at h ⊢
    simp only [ltP, Bool.or_eq_true, decide_eq_true_eq, Bool.and_eq_true, Bool.or_eq_false_iff, decide_eq_false_iff_not, Bool.and_eq_false_iff] at h ⊢
    omega
theorem kas_of_ok {n : Nat} {lt : Nat → Nat → Bool} {α : Type} {cmp : Nat → Nat → (Bool → Shared → Prop) → Shared → Prop} {s : Shared} (hc : ∀ i j C, i < n → j < n → C (lt i j) s → cmp i j C s) : ∀ {t : KasT α} {Q : α → Shared → Prop}, Srt.Ok n lt t (fun a => Q a s) → t.kasWp cmp Q s
  | .ret _, _, h => h
  | .ask i j _, _, h => hc i j _ h.1 h.2.1 (kas_of_ok hc h.2.2)
section
variable {prog : Program} {w : World} {A : Around} {E : Value → Shared → Prop} {s : Shared}
/-- two tuples of two ints compared as the sort does -/
theorem lt_pairs {x y : Addr} {a b c d : Int} {t1 t2 t3 t4 : Tok} {Q : Bool → Shared → Prop} (hx : IsTup s.heap x #[.int a t1, .int b t2]) (hy : IsTup s.heap y #[.int c t3, .int d t4]) (h : Q (ltP (a, b) (c, d)) s) :
    wpAny (model prog w) A (keyLt' (tuples' true) (.ref x) (.ref y)) Q E s := by
  obtain ⟨ox, ex, _, nx, dx⟩ := hx
  obtain ⟨oy, ey, _, ny, dy⟩ := hy
  refine kat_lt ex dx ey dy ?_
  refine kat_cons (wpAny_eqBool_int (kat_go (fun e1 => kat_yes (kat_cons (wpAny_eqBool_int (kat_go (fun e2 => kat_yes (kat_nil ?_)) fun e2 => kat_no (kat_one _ _ (lt_int ?_)))))) fun e1 => kat_no ?_))
  · have z1 : a = c := by simpa using e1
    have z2 : b = d := by simpa using e2
    have e : ltP (a, b) (c, d) = decide ((#[Value.int a t1, Value.int b t2] : Array Value).size < (#[Value.int c t3, Value.int d t4] : Array Value).size) := by
      subst z1; subst z2
      simp [ltP]
    rw [e] at h; exact h
  · have z1 : a = c := by simpa using e1
    have e : ltP (a, b) (c, d) = decide (b < d) := by subst z1; simp [ltP]
    rw [e] at h; exact h
  · have z1 : a ≠ c := by simpa using e1
    have e : ltP (a, b) (c, d) = decide (a < c) := by simp [ltP, z1]
    rw [e] at h
    exact oneLt_int h
/-- list.sort by the tree of questions, over the heap itself -/
theorem sort_tree {a : Addr} {vs : List Value} {n : Nat} {G : Array Nat → Prop} {P : PySem.Fin → Shared → Prop} (ho : s.heap.get? a = some (seqObj "list" vs.toArray n)) (h64 : vs.length < 64)
    (hkey : 2 ≤ vs.length → ∀ s' : Shared, (∀ b o, b ≠ a → s.heap.get? b = some o → s'.heap.get? b = some o) → ∀ E', wpAny (model prog w) A (keyKind' vs.toArray) (fun κ s2 => (kas_sort vs.length).kasWp (kas_ask prog w A κ vs) (fun p s3 => s3 = s' ∧ G p) s2) E' s')
    (h : ∀ out : Array Value, ((vs.length < 2 ∧ out = vs.toArray) ∨ ∃ p : Array Nat, p.size = vs.length ∧ G p ∧ out = List.toArray (p.toList.map fun i => vs.getD i Value.none)) → P (.done (.ret .none)) { s with heap := sortedHeap s.heap a vs out }) :
    wpAny (model prog w) A (Builtin.«list.sort» ⟨[.ref a], []⟩) P E s := by
  have ha : a < s.heap.objs.size := Heap.lt_size ho
  have hz : vs.toArray.size ≤ sizeLine := by rw [List.size_toArray, sizeLine_eq]; omega
  rw [list_sort_plain]; refine wpAny_bind (listItems_at ho rfl (wpAny_bind (listUpdate_at ho rfl ?_ hz (Nat.zero_le _))))
  obtain ⟨e1, ho1⟩ : ∃ e1, (s.heap.update a (Obj.mapSeq fun _ => #[])).get? a = some (seqObj "list" #[] e1) := ⟨_, get?_update_seq ho (fun _ => #[])⟩
  refine wpAny_bind (seqEpoch_at ho1 rfl (wpAny_bind (wpAny_newTuple (wpAny_bind (wpAny_newList (wpAny_holding ?_) (Nat.zero_le _))) (by show vs.length ≤ _; rw [sizeLine_eq]; omega))))
  generalize hs6 : ({ s with heap := ((s.heap.update a (Obj.mapSeq fun _ => #[])).push (seqObj "tuple" vs.toArray 0)).push (seqObj "list" #[] 0) } : Shared) = s6
  have ho6 : s6.heap.get? a = some (seqObj "list" #[] e1) := by
    subst hs6
    show (((s.heap.update a (Obj.mapSeq fun _ => #[])).push (seqObj "tuple" vs.toArray 0)).push (seqObj "list" #[] 0)).get? a = _
    rw [Heap.get?_push_ne _ _ _ (by rw [size_push', Heap.size_update]; exact Nat.ne_of_lt (Nat.lt_succ_of_lt ha)), Heap.get?_push_ne _ _ _ (by rw [Heap.size_update]; exact Nat.ne_of_lt ha)]; exact ho1
  have keep : ∀ b o, b ≠ a → s.heap.get? b = some o → s6.heap.get? b = some o := fun b o hb e => by
    subst hs6
    have hlt : b < s.heap.objs.size := Heap.lt_size e
    show (((s.heap.update a (Obj.mapSeq fun _ => #[])).push (seqObj "tuple" vs.toArray 0)).push (seqObj "list" #[] 0)).get? b = _
    rw [Heap.get?_push_ne _ _ _ (by rw [size_push', Heap.size_update]; exact Nat.ne_of_lt (Nat.lt_succ_of_lt hlt)), Heap.get?_push_ne _ _ _ (by rw [Heap.size_update]; exact Nat.ne_of_lt hlt), Heap.get?_update_ne _ _ _ _ hb]; exact e
  have fin : ∀ out : Array Value, out.size ≤ sizeLine + 1 → ((vs.length < 2 ∧ out = vs.toArray) ∨ ∃ p : Array Nat, p.size = vs.length ∧ G p ∧ out = List.toArray (p.toList.map fun i => vs.getD i Value.none)) → P (.done (.ret .none)) { s6 with heap := s6.heap.update a (Obj.mapSeq fun _ => out) } := fun out _ ho' => by
    subst hs6
    exact h out ho'
  show wpAny (model prog w) A _ P E s6
  dsimp only
  by_cases h2 : vs.length < 2
  · have c2 : vs.toArray.size < 2 := by rw [List.size_toArray]; exact h2
    rw [if_pos c2, if_pos c2]
    refine wpAny_bind (wpAny_pure ?_)
    rw [StateT.run_pure]
    refine wpAny_bind (wpAny_pure ?_)
    dsimp only
    have eo : (arrOf (SortSt.mk' general' (vs.toArray.zip vs.toArray) #[] 7 none)).map (·.2) = vs.toArray := by
      show (vs.toArray.zip vs.toArray).map (·.2) = vs.toArray
      apply Array.toList_inj.mp
      rw [Array.toList_map, Array.toList_zip]
      exact List.map_snd_zip (Nat.le_refl _)
    rw [eo]
    refine wpAny_bind (seqEpoch_at ho6 rfl (wpAny_bind (listUpdate_at ho6 rfl ?_ (Nat.zero_le _) (by rw [List.size_toArray, sizeLine_eq]; omega))))
    simp only [bne_self_eq_false, Bool.false_eq_true, if_false]
    exact wpAny_pure (fin vs.toArray (by rw [List.size_toArray, sizeLine_eq]; omega) (.inl ⟨h2, rfl⟩))
  · have c2 : ¬ vs.toArray.size < 2 := by rw [List.size_toArray]; exact h2
    rw [if_neg c2, if_neg c2]
    refine wpAny_bind (wpAny_mono (hkey (by omega) s6 keep (fun _ _ => False)) (fun κ s2 hk => ?_) fun _ _ z => z.elim)
    refine wpAny_bind (wpAny_mono (kat_run (Q := fun st' s' => s' = s6 ∧ failedOf st' = none ∧ ∃ p : Array Nat, p.size = vs.length ∧ G p ∧ arrOf st' = p.map (kas_item (vs.toArray.zip vs.toArray))) rfl (by omega) h64
      (fun p st' s' a1 a2 a3 a4 => ⟨a4.1, a3, p, a1, a4.2, a2⟩) hk) ?_ fun _ _ z => z)
    rintro ⟨⟨⟩, st'⟩ s' ⟨rfl, hf, p, hp, g, har⟩
    dsimp only
    rw [kat_snds rfl har, hf]
    have hsz : (List.toArray (p.toList.map fun i => vs.getD i Value.none)).size ≤ sizeLine + 1 := by rw [List.size_toArray, List.length_map, Array.length_toList, hp, sizeLine_eq]; omega
    refine wpAny_bind (seqEpoch_at ho6 rfl (wpAny_bind (listUpdate_at ho6 rfl ?_ (Nat.zero_le _) hsz)))
    simp only [bne_self_eq_false, Bool.false_eq_true, if_false]
    exact wpAny_pure (fin _ hsz (.inr ⟨p, hp, g, rfl⟩))
theorem sorted_tree {l : Addr} {vs : List Value} {G : Array Nat → Prop} {Q : Value → Shared → Prop} (hl : s.heap.IsList l vs.toArray) (h64 : vs.length < 64)
    (hkey : 2 ≤ vs.length → ∀ s' : Shared, (∀ b o, s.heap.get? b = some o → s'.heap.get? b = some o) → ∀ E', wpAny (model prog w) A.in1.in1 (keyKind' vs.toArray) (fun κ s2 => (kas_sort vs.length).kasWp (kas_ask prog w A.in1.in1 κ vs) (fun p s3 => s3 = s' ∧ G p) s2) E' s')
    (h : ∀ (out : Array Value) (h' : Heap) (D : Addr) (c : Nat), ((vs.length < 2 ∧ out = vs.toArray) ∨ ∃ p : Array Nat, p.size = vs.length ∧ G p ∧ out = List.toArray (p.toList.map fun i => vs.getD i Value.none)) → s.heap.objs.size ≤ D →
      (∀ b o, s.heap.get? b = some o → h'.get? b = some o) → h'.get? D = some (seqObj "list" out c) → Q (.ref D) { s with heap := h' }) :
    wpAny (model prog w) A (call (.builtin "sorted") [.ref l]) Q E s := by
  have hzl : vs.toArray.size ≤ sizeLine := by rw [List.size_toArray, sizeLine_eq]; omega
  refine Calls.call_function_entry kind_sorted plain_sorted entry_sorted (args_sorted1 _) ?_
  unfold Builtin.«sorted»
  refine wpAny_bind (m := checkCount "sorted" 1 1 _) (wpAny_pure (wpAny_bind (collect_list hl (wpAny_bind (wpAny_newList ?_ (by rw [sizeLine_eq]; omega))) (by rw [sizeLine_eq]; omega))))
  generalize hg : (s.heap.push (seqObj "list" #[] 0)).update s.heap.objs.size (Obj.mapSeq (· ++ vs.toArray)) = g
  have hsz : g.objs.size = s.heap.objs.size + 1 := by rw [← hg, Heap.size_update, size_push']
  have hoL : (g.push (seqObj "list" vs.toArray 0)).get? (s.heap.objs.size + 1) = some (seqObj "list" vs.toArray 0) := by rw [← hsz]; exact Heap.get?_push_size _ rfl
  have keep : ∀ b o, s.heap.get? b = some o → (g.push (seqObj "list" vs.toArray 0)).get? b = some o := fun b o q => by
    have hlt : b < s.heap.objs.size := Heap.lt_size q
    rw [Heap.get?_push_ne _ _ _ (by rw [hsz]; exact Nat.ne_of_lt (Nat.lt_succ_of_lt hlt)), ← hg, Heap.get?_update_ne _ _ _ _ (Nat.ne_of_lt hlt), Heap.get?_push_ne _ _ _ (Nat.ne_of_lt hlt)]; exact q
  show wpAny _ _ _ _ _ { s with heap := g.push (seqObj "list" vs.toArray 0) }
  rw [hsz]
  refine wpAny_bind (wpAny_holding (wpAny_call_entry slot_list_sort ⟨_, hoL, rfl⟩ entry_list_sort ?body (args_list_sort _)))
  case body =>
    refine sort_tree (s := { s with heap := g.push (seqObj "list" vs.toArray 0) }) (G := G) hoL h64 (fun h2 s' kp E' => hkey h2 s' (fun b o q => kp b o (Nat.ne_of_lt (Nat.lt_succ_of_lt (Heap.lt_size q))) (keep b o q)) E') fun out ho => ⟨_, rfl, wpAny_pure ⟨_, rfl, ?_⟩⟩
    have hlt : s.heap.objs.size + 1 < (g.push (seqObj "list" vs.toArray 0)).objs.size := Heap.lt_size hoL
    obtain ⟨e1, ho1⟩ : ∃ e1, ((g.push (seqObj "list" vs.toArray 0)).update (s.heap.objs.size + 1) (Obj.mapSeq fun _ => #[])).get? (s.heap.objs.size + 1) = some (seqObj "list" #[] e1) := ⟨_, get?_update_seq hoL (fun _ => #[])⟩
    have h3 : ∀ b, b < (g.push (seqObj "list" vs.toArray 0)).objs.size → ((((g.push (seqObj "list" vs.toArray 0)).update (s.heap.objs.size + 1) (Obj.mapSeq fun _ => #[])).push (seqObj "tuple" vs.toArray 0)).push (seqObj "list" #[] 0)).get? b = ((g.push (seqObj "list" vs.toArray 0)).update (s.heap.objs.size + 1) (Obj.mapSeq fun _ => #[])).get? b := fun b hb => by
      rw [Heap.get?_push_ne _ _ _ (by rw [size_push', Heap.size_update]; exact Nat.ne_of_lt (Nat.lt_succ_of_lt hb)), Heap.get?_push_ne _ _ _ (by rw [Heap.size_update]; exact Nat.ne_of_lt hb)]
    have e6 : ((((g.push (seqObj "list" vs.toArray 0)).update (s.heap.objs.size + 1) (Obj.mapSeq fun _ => #[])).push (seqObj "tuple" vs.toArray 0)).push (seqObj "list" #[] 0)).get? (s.heap.objs.size + 1) = some (seqObj "list" #[] e1) := by rw [h3 _ hlt]; exact ho1
    refine h out (sortedHeap (g.push (seqObj "list" vs.toArray 0)) (s.heap.objs.size + 1) vs out) (s.heap.objs.size + 1) _ ho (Nat.le_succ _) (fun b o q => ?_) (get?_update_seq e6 (fun _ => out))
    have hb : b < s.heap.objs.size := Heap.lt_size q
    show (Heap.update _ _ _).get? b = some o
    have hb1 : b ≠ s.heap.objs.size + 1 := Nat.ne_of_lt (Nat.lt_succ_of_lt hb)
    rw [Heap.get?_update_ne _ _ _ _ hb1, h3 _ (Nat.lt_trans (Nat.lt_succ_of_lt hb) hlt), Heap.get?_update_ne _ _ _ _ hb1]
    exact keep b o q
end
theorem Paired.map_of {α β γ : Type} {F : α → β → Prop} {f : γ → α} {g : γ → β} : ∀ {l : List γ}, (∀ i ∈ l, F (f i) (g i)) → Paired F (l.map f) (l.map g)
  | [], _ => .nil
  | i :: l, h => .cons (h i List.mem_cons_self) (Paired.map_of fun j hj => h j (List.mem_cons_of_mem _ hj))
theorem map_range_getD {α : Type} (d : α) (l : List α) : (List.range l.length).map (fun i => l.getD i d) = l := by
  apply List.ext_getElem
  · simp
  · intro i h1 h2
    simp only [List.getElem_map, List.getElem_range]
    simp [List.getD_eq_getElem?_getD, h2]
section
variable {X : Cx}
/-- sorted(xs), xs a list of fewer than 64 pairs of ints -/
theorem call_sorted_pairs : CallR X (.builtin "sorted") (fun us H Q => ∃ a xs ps, us = [.ref a] ∧ SqL X.K H a xs ∧ PL H xs ps ∧ xs.length < 64 ∧
    ∀ D ys qs, H D = none → PL (upd H D (.lst ys)) ys qs → qs.Perm ps → qs.Pairwise (fun p q => ltP q p = false) → Q (.ref D) (upd H D (.lst ys))) := by
  intro pins s σ H us vs Q I r h
  obtain ⟨a, xs, ps, rfl, hq, hP, h64, q⟩ := h
  obtain ⟨u, rfl, rx⟩ := r.one
  cases (show u = Value.ref a from rx)
  obtain ⟨its, rv, pl, hz⟩ := I.list hq
  have l1 := rv.length
  have l2 := hP.length
  -- the tuples of the items, at every heap that keeps this one
  have tup : ∀ i, i < its.length → ∃ (r : Addr) (t1 t2 : Tok), its.getD i Value.none = .ref r ∧ xs.getD i .non = .ref r ∧ H r = some (.tup [.int (ps.getD i (0, 0)).1, .int (ps.getD i (0, 0)).2]) ∧ IsTup s.heap r #[.int (ps.getD i (0, 0)).1 t1, .int (ps.getD i (0, 0)).2 t2] := fun i hi => by
    have hx : xs[i]? = some xs[i] := List.getElem?_eq_getElem (by omega)
    obtain ⟨p, r, e1, e2, e3⟩ := hP.get hx
    obtain ⟨u, e4, r4⟩ := rv.get hx
    rw [e2] at r4
    cases (show u = Value.ref r from r4)
    obtain ⟨_, ti, rt, it⟩ := (show ObjOk X.prog X.w H s.heap r (.tup [.int p.1, .int p.2]) from I.hok r _ e3)
    obtain ⟨u1, u2, rfl, r1, r2⟩ := rt.two
    obtain ⟨t1, rfl⟩ := (show ∃ t, u1 = Value.int p.1 t from r1)
    obtain ⟨t2, rfl⟩ := (show ∃ t, u2 = Value.int p.2 t from r2)
    have ep : ps.getD i (0, 0) = p := by rw [List.getD_eq_getElem?_getD, e1]; rfl
    refine ⟨r, t1, t2, by rw [List.getD_eq_getElem?_getD, e4]; rfl, by rw [List.getD_eq_getElem?_getD, hx, e2]; rfl, by rw [ep]; exact e3, by rw [ep]; exact it⟩
  refine sorted_tree (G := fun p => p.Perm (List.toArray (List.range its.length)) ∧ Srt.Up (fun i j => ltP (ps.getD i (0, 0)) (ps.getD j (0, 0))) p its.length) pl.isList (by omega) (fun h2 s' kp E' => ?_) fun out h' D c ho hD kp e => ?_
  · have kt : ∀ {r : Addr} {zs : Array Value}, IsTup s.heap r zs → IsTup s'.heap r zs := fun ⟨o, e, c⟩ => ⟨o, kp _ _ e, c⟩
    have firsts : KatTups s'.heap its ((List.range its.length).map fun i => match (its.getD i Value.none) with | .ref r => (match s'.heap.get? r with | some o => (match o.data with | .seq zs _ => (zs[0]?).getD Value.none | _ => Value.none) | none => Value.none) | _ => Value.none) := by
      have all : ∀ (l : List Nat), (∀ i ∈ l, i < its.length) → KatTups s'.heap (l.map fun i => its.getD i Value.none) (l.map fun i => match (its.getD i Value.none) with | .ref r => (match s'.heap.get? r with | some o => (match o.data with | .seq zs _ => (zs[0]?).getD Value.none | _ => Value.none) | none => Value.none) | _ => Value.none) := by
        intro l
        induction l with
        | nil => intro _; exact KatTups.nil
        | cons i l ih =>
          intro hl
          obtain ⟨r, t1, t2, e1, _, _, it⟩ := tup i (hl i List.mem_cons_self)
          obtain ⟨o, eo, co, n, d⟩ := kt it
          rw [List.map_cons, List.map_cons, e1]
          refine KatTups.cons eo co d ?_ (ih fun j hj => hl j (List.mem_cons_of_mem _ hj))
          dsimp only
          rw [eo]
          dsimp only
          rw [d]
          rfl
      have z := all (List.range its.length) fun i hi => List.mem_range.mp hi
      rw [map_range_getD] at z
      exact z
    refine kat_kind (T := .type "int") firsts (by simp; omega) (fun v hv => ?_) rfl ?_
    · obtain ⟨i, hi, rfl⟩ := List.mem_map.mp hv
      obtain ⟨r, t1, t2, e1, _, _, it⟩ := tup i (List.mem_range.mp hi)
      obtain ⟨o, eo, co, n, d⟩ := kt it
      rw [e1]
      dsimp only
      rw [eo]
      dsimp only
      rw [d]
      exact Looks.of_pure rfl
    · refine kas_of_ok (lt := fun i j => ltP (ps.getD i (0, 0)) (ps.getD j (0, 0))) (n := its.length) (fun i j C hi hj hC => ?_) (Srt.Ok.mono (Srt.ok_sort (ltP_ord ps) (by omega)) fun p ⟨b1, _, b3⟩ => ⟨rfl, b1, b3⟩)
      obtain ⟨r, t1, t2, e1, _, _, it⟩ := tup i hi
      obtain ⟨r', t3, t4, e1', _, _, it'⟩ := tup j hj
      show wpAny _ _ (keyLt' _ (its.getD i Value.none) (its.getD j Value.none)) _ _ s'
      rw [e1, e1']
      exact lt_pairs (kt it) (kt it') hC
  · -- the items as they came out
    have main : ∃ (pl : List Nat), pl.Perm (List.range its.length) ∧ out = List.toArray (pl.map fun i => its.getD i Value.none) ∧ (pl.map fun i => ps.getD i (0, 0)).Pairwise (fun p q => ltP q p = false) := by
      rcases ho with ⟨h2, rfl⟩ | ⟨p, hp, ⟨g1, g2⟩, rfl⟩
      · refine ⟨List.range its.length, .refl _, by rw [map_range_getD], ?_⟩
        have : its.length = 0 ∨ its.length = 1 := by omega
        rcases this with z | z <;> rw [z] <;> simp [List.range_succ]
      · refine ⟨p.toList, by simpa using g1.toList, rfl, ?_⟩
        rw [List.pairwise_iff_getElem]
        intro i j hi hj hij
        simp only [List.length_map, Array.length_toList] at hi hj
        simp only [List.getElem_map, Array.getElem_toList]
        have z := g2 i j (Nat.le_of_lt hij) (by omega)
        have e1 : Srt.g p i = p[i] := by simp [Srt.g, Array.getD, hi]
        have e2 : Srt.g p j = p[j] := by simp [Srt.g, Array.getD, hj]
        rw [e1, e2] at z
        exact z
    obtain ⟨pl2, g1, rfl, g3⟩ := main
    have lt : ∀ i ∈ pl2, i < its.length := fun i hi => List.mem_range.mp (g1.mem_iff.mp hi)
    have hn : H D = none := I.hok.fresh hD
    have vz : Vals (pl2.map fun i => xs.getD i .non) (pl2.map fun i => its.getD i Value.none) := Paired.map_of fun i hi => by
      obtain ⟨r, _, _, e1, e2, _⟩ := tup i (lt i hi)
      rw [e1, e2]; rfl
    have hlen : (pl2.map fun i => xs.getD i V.non).length ≤ sizeLine := by
      rw [List.length_map, g1.length_eq, List.length_range, sizeLine_eq]; omega
    refine ⟨.ref D, upd H D (.lst (pl2.map fun i => xs.getD i .non)), I.laid (t' := s.toks) kp hD ⟨hlen, _, c, vz, e⟩, rfl, q D _ (pl2.map fun i => ps.getD i (0, 0)) hn (Paired.map_of fun i hi => ?_) ?_ g3⟩
    · obtain ⟨r, _, _, _, e2, e3, _⟩ := tup i (lt i hi)
      exact ⟨r, e2, sameT_new hn _ _ e3⟩
    · have z := g1.map fun i => ps.getD i (0, 0)
      rw [← l1, l2, map_range_getD] at z
      exact z
end
end L2

namespace L2
/-! ### both, gaps, without: the mathematics -/
theorem inP_cons (p : Pr) (R : List Pr) (n : Int) : inP (p :: R) n = (inR n p || inP R n) := by
  unfold inP; rw [List.any_cons]
theorem inR_iff {n : Int} {p : Pr} : inR n p = true ↔ p.1 ≤ n ∧ n ≤ p.2 := by
  unfold inR; simp only [Bool.and_eq_true, decide_eq_true_eq]
theorem inR_not {n : Int} {p : Pr} : inR n p = false ↔ ¬ (p.1 ≤ n ∧ n ≤ p.2) := by
  rw [← inR_iff]; simp
theorem inP_iff {n : Int} {R : List Pr} : inP R n = true ↔ ∃ p ∈ R, p.1 ≤ n ∧ n ≤ p.2 := by
  unfold inP
  rw [List.any_eq_true]
  exact ⟨fun ⟨p, h, e⟩ => ⟨p, h, inR_iff.mp e⟩, fun ⟨p, h, e⟩ => ⟨p, h, inR_iff.mpr e⟩⟩
theorem inP_not {n : Int} {R : List Pr} (h : ∀ p ∈ R, ¬ (p.1 ≤ n ∧ n ≤ p.2)) : inP R n = false := by
  cases e : inP R n with
  | false => rfl
  | true => obtain ⟨p, hp, z⟩ := inP_iff.mp e; exact absurd z (h p hp)
theorem Apart.nil : Apart [] := ⟨(fun p hp => by cases hp), List.Pairwise.nil⟩
theorem Apart.tail {a : Pr} {A : List Pr} (h : Apart (a :: A)) : Apart A ∧ a.1 ≤ a.2 ∧ ∀ p ∈ A, a.2 + 2 ≤ p.1 := by
  have g := List.pairwise_cons.mp h.gap
  exact ⟨⟨fun p hp => h.le p (List.mem_cons_of_mem _ hp), g.2⟩, h.le a List.mem_cons_self, fun p hp => g.1 p hp⟩
theorem Apart.behind {a : Pr} {A : List Pr} (h : Apart (a :: A)) {n : Int} (hn : n ≤ a.2) : inP A n = false := inP_not fun p hp z => by
  have := h.tail.2.2 p hp
  omega
theorem Apart.take {R : List Pr} (h : Apart R) (i : Nat) : Apart (R.take i) := ⟨fun p hp => h.le p (List.mem_of_mem_take hp), h.gap.sublist (List.take_sublist _ _)⟩
/-- what the loop of both keeps: S told so far, A and B the rests -/
structure BothI (S A B A0 B0 : List Pr) : Prop where
  ap : Apart S
  aA : Apart A
  aB : Apart B
  mem : ∀ n, (inP A0 n && inP B0 n) = (inP S n || (inP A n && inP B n))
  gap : ∀ s ∈ S, (∀ p ∈ A, s.2 + 2 ≤ p.1) ∨ (∀ p ∈ B, s.2 + 2 ≤ p.1)
theorem BothI.start {A B : List Pr} (hA : Apart A) (hB : Apart B) : BothI [] A B A B := ⟨Apart.nil, hA, hB, fun n => by simp [inP], fun s hs => by cases hs⟩
theorem BothI.fin {S A B A0 B0 : List Pr} (h : BothI S A B A0 B0) (e : A = [] ∨ B = []) (n : Int) : inP S n = (inP A0 n && inP B0 n) := by
  rw [h.mem n]
  rcases e with e | e <;> rw [e] <;> simp [inP]
theorem BothI.left {S A B A0 B0 : List Pr} {a b c : Pr} (h : BothI S (a :: A) (b :: B) A0 B0) (hl : a.2 < b.2) (hc : c.1 = max a.1 b.1 ∧ c.2 = min a.2 b.2) :
    (c.1 ≤ c.2 → BothI (S ++ [c]) A (b :: B) A0 B0) ∧ (¬ c.1 ≤ c.2 → BothI S A (b :: B) A0 B0) := by
  obtain ⟨a1, a2, a3⟩ := h.aA.tail
  have em : ∀ n, ((inR n a || inP A n) && (inR n b || inP B n)) = (inR n c || (inP A n && (inR n b || inP B n))) := fun n => by
    have ec : inR n c = (inR n a && inR n b) := by
      rw [Bool.eq_iff_iff, Bool.and_eq_true, inR_iff, inR_iff, inR_iff]; omega
    rw [ec]
    cases e : inR n a with
    | false => simp
    | true =>
      have z := inR_iff.mp e
      rw [h.aA.behind z.2, h.aB.behind (by omega)]
      cases inR n b <;> rfl
  have g0 : ∀ s ∈ S, (∀ p ∈ A, s.2 + 2 ≤ p.1) ∨ (∀ p ∈ b :: B, s.2 + 2 ≤ p.1) := fun s hs => by
    rcases h.gap s hs with z | z
    · exact .inl fun p hp => z p (List.mem_cons_of_mem _ hp)
    · exact .inr z
  refine ⟨fun hle => ⟨h.ap.snoc hle fun s hs => ?_, a1, h.aB, fun n => ?_, fun s hs => ?_⟩, fun hle => ⟨h.ap, a1, h.aB, fun n => ?_, g0⟩⟩
  · rcases h.gap s hs with z | z
    · have := z a List.mem_cons_self; omega
    · have := z b List.mem_cons_self; omega
  · rw [h.mem n, inP_cons, inP_cons, em n, inP_snoc, Bool.or_assoc]
  · rcases List.mem_append.mp hs with hs | hs
    · exact g0 s hs
    · have e : s = c := by simpa using hs
      refine .inl fun p hp => ?_
      have := a3 p hp
      rw [e]; omega
  · have ec : inR n c = false := inR_not.mpr (by omega)
    rw [h.mem n, inP_cons, inP_cons, em n, ec, Bool.false_or]
theorem BothI.right {S A B A0 B0 : List Pr} {a b c : Pr} (h : BothI S (a :: A) (b :: B) A0 B0) (hl : ¬ a.2 < b.2) (hc : c.1 = max a.1 b.1 ∧ c.2 = min a.2 b.2) :
    (c.1 ≤ c.2 → BothI (S ++ [c]) (a :: A) B A0 B0) ∧ (¬ c.1 ≤ c.2 → BothI S (a :: A) B A0 B0) := by
  obtain ⟨b1, b2, b3⟩ := h.aB.tail
  have em : ∀ n, ((inR n a || inP A n) && (inR n b || inP B n)) = (inR n c || ((inR n a || inP A n) && inP B n)) := fun n => by
    have ec : inR n c = (inR n a && inR n b) := by
      rw [Bool.eq_iff_iff, Bool.and_eq_true, inR_iff, inR_iff, inR_iff]; omega
    rw [ec]
    cases e : inR n b with
    | false => simp
    | true =>
      have z := inR_iff.mp e
      rw [h.aB.behind z.2, h.aA.behind (by omega)]
      cases inR n a <;> rfl
  have g0 : ∀ s ∈ S, (∀ p ∈ a :: A, s.2 + 2 ≤ p.1) ∨ (∀ p ∈ B, s.2 + 2 ≤ p.1) := fun s hs => by
    rcases h.gap s hs with z | z
    · exact .inl z
    · exact .inr fun p hp => z p (List.mem_cons_of_mem _ hp)
  refine ⟨fun hle => ⟨h.ap.snoc hle fun s hs => ?_, h.aA, b1, fun n => ?_, fun s hs => ?_⟩, fun hle => ⟨h.ap, h.aA, b1, fun n => ?_, g0⟩⟩
  · rcases h.gap s hs with z | z
    · have := z a List.mem_cons_self; omega
    · have := z b List.mem_cons_self; omega
  · rw [h.mem n, inP_cons, inP_cons, em n, inP_snoc, Bool.or_assoc]
  · rcases List.mem_append.mp hs with hs | hs
    · exact g0 s hs
    · have e : s = c := by simpa using hs
      refine .inr fun p hp => ?_
      have := b3 p hp
      rw [e]; omega
  · have ec : inR n c = false := inR_not.mpr (by omega)
    rw [h.mem n, inP_cons, inP_cons, em n, ec, Bool.false_or]
/-- what the loop of gaps keeps: F told so far of the spans T -/
structure GapI (F T : List Pr) (lo hi st : Int) : Prop where
  ap : Apart F
  lt : ∀ s ∈ F, s.2 + 2 ≤ st
  rng : ∀ s ∈ F, lo ≤ s.1 ∧ s.2 ≤ hi
  tk : ∀ p ∈ T, p.2 < st
  fr : st = lo ∨ ∃ p ∈ T, st = p.2 + 1
  ge : lo ≤ st
  mem : ∀ n, lo ≤ n → n ≤ hi → n < st → inP F n = !inP T n
theorem GapI.start (lo hi : Int) : GapI [] [] lo hi lo := ⟨Apart.nil, (fun s hs => by cases hs), (fun s hs => by cases hs), (fun s hs => by cases hs), .inl rfl, Int.le_refl _, fun n h1 _ h3 => by omega⟩
theorem GapI.turn {F T : List Pr} {lo hi st st' e : Int} {p : Pr} (h : GapI F T lo hi st) (ap : Apart (T ++ [p])) (he : e = min (p.1 - 1) hi) (hs : st' = max st (p.2 + 1)) :
    (st ≤ e → GapI (F ++ [(st, e)]) (T ++ [p]) lo hi st') ∧ (¬ st ≤ e → GapI F (T ++ [p]) lo hi st') := by
  obtain ⟨t1, t2, t3⟩ := ap.init
  have low : ∀ n, lo ≤ n → n < st → inR n p = false := fun n h1 h2 => inR_not.mpr fun z => by
    rcases h.fr with q | ⟨o, ho, q⟩
    · omega
    · have := t3 o ho; omega
  have tk' : ∀ q ∈ T ++ [p], q.2 < st' := fun q hq => by
    rcases List.mem_append.mp hq with hq | hq
    · have := h.tk q hq; omega
    · have e : q = p := by simpa using hq
      rw [e]; omega
  have fr' : st' = lo ∨ ∃ q ∈ T ++ [p], st' = q.2 + 1 := by
    by_cases c : p.2 + 1 ≤ st
    · have e1 : st' = st := by omega
      rw [e1]
      rcases h.fr with q | ⟨o, ho, q⟩
      · exact .inl q
      · exact .inr ⟨o, List.mem_append_left _ ho, q⟩
    · exact .inr ⟨p, by simp, by omega⟩
  have tno : ∀ n, st ≤ n → inP T n = false := fun n hn => inP_not fun q hq z => by have := h.tk q hq; omega
  have fno : ∀ n, st ≤ n → inP F n = false := fun n hn => inP_not fun q hq z => by have := h.lt q hq; omega
  refine ⟨fun hle => ⟨h.ap.snoc hle h.lt, fun s hs' => ?_, fun s hs' => ?_, tk', fr', by have := h.ge; omega, fun n h1 h2 h3 => ?_⟩, fun hle => ⟨h.ap, fun s hs' => ?_, h.rng, tk', fr', by have := h.ge; omega, fun n h1 h2 h3 => ?_⟩⟩
  · rcases List.mem_append.mp hs' with hs' | hs'
    · have := h.lt s hs'; omega
    · have e2 : s = (st, e) := by simpa using hs'
      rw [e2]; show e + 2 ≤ st'; omega
  · rcases List.mem_append.mp hs' with hs' | hs'
    · exact h.rng s hs'
    · have e2 : s = (st, e) := by simpa using hs'
      rw [e2]; have := h.ge; exact ⟨by show lo ≤ st; omega, by show e ≤ hi; omega⟩
  · rw [inP_snoc, inP_snoc]
    by_cases c : n < st
    · have e1 : inR n (st, e) = false := inR_not.mpr (by show ¬ (st ≤ n ∧ n ≤ e); omega)
      rw [h.mem n h1 h2 c, low n h1 c, e1, Bool.or_false, Bool.or_false]
    · rw [fno n (by omega), tno n (by omega), Bool.false_or, Bool.false_or]
      clear fr' tk'
      have hge := h.ge
      clear h
      rw [Bool.eq_iff_iff, inR_iff]
      cases q : inR n p with
      | true => have z := inR_iff.mp q; simp; show st ≤ n → e < n; omega
      | false => have z := inR_not.mp q; simp; show st ≤ n ∧ n ≤ e; omega
  · have := h.lt s hs'; omega
  · rw [inP_snoc]
    by_cases c : n < st
    · rw [h.mem n h1 h2 c, low n h1 c, Bool.or_false]
    · rw [fno n (by omega), tno n (by omega), Bool.false_or]
      clear fr' tk' h
      have q : inR n p = true := inR_iff.mpr (by omega)
      rw [q]; rfl
theorem GapI.fin {F T : List Pr} {lo hi st : Int} (h : GapI F T lo hi st) :
    (st ≤ hi → Apart (F ++ [(st, hi)]) ∧ ∀ n, inP (F ++ [(st, hi)]) n = (decide (lo ≤ n) && decide (n ≤ hi) && !inP T n)) ∧ (¬ st ≤ hi → Apart F ∧ ∀ n, inP F n = (decide (lo ≤ n) && decide (n ≤ hi) && !inP T n)) := by
  have tno : ∀ n, st ≤ n → inP T n = false := fun n hn => inP_not fun q hq z => by have := h.tk q hq; omega
  have fno : ∀ n, st ≤ n → inP F n = false := fun n hn => inP_not fun q hq z => by have := h.lt q hq; omega
  have out : ∀ n, ¬ (lo ≤ n ∧ n ≤ hi) → inP F n = false := fun n hn => inP_not fun q hq z => by have := h.rng q hq; omega
  have dd : ∀ n, (decide (lo ≤ n) && decide (n ≤ hi)) = decide (lo ≤ n ∧ n ≤ hi) := fun n => by simp
  refine ⟨fun hle => ⟨h.ap.snoc hle h.lt, fun n => ?_⟩, fun hle => ⟨h.ap, fun n => ?_⟩⟩
  · rw [inP_snoc, dd]
    by_cases c : lo ≤ n ∧ n ≤ hi
    · rw [decide_eq_true c, Bool.true_and]
      by_cases c2 : n < st
      · have e1 : inR n (st, hi) = false := inR_not.mpr (by show ¬ (st ≤ n ∧ n ≤ hi); omega)
        rw [h.mem n c.1 c.2 c2, e1, Bool.or_false]
      · have e1 : inR n (st, hi) = true := inR_iff.mpr (by show st ≤ n ∧ n ≤ hi; omega)
        rw [e1, tno n (by omega), Bool.or_true]; rfl
    · have e1 : inR n (st, hi) = false := inR_not.mpr (by have := h.ge; show ¬ (st ≤ n ∧ n ≤ hi); omega)
      rw [decide_eq_false c, out n c, e1]; rfl
  · rw [dd]
    by_cases c : lo ≤ n ∧ n ≤ hi
    · rw [decide_eq_true c, Bool.true_and]
      exact h.mem n c.1 c.2 (by omega)
    · rw [decide_eq_false c, out n c]; rfl
/-- a set's numbers lie from its first low to its last high -/
theorem Apart.ends {a z : Pr} {R M : List Pr} (h : Apart (a :: R)) (e : a :: R = M ++ [z]) {n : Int} (hn : inP (a :: R) n = true) : a.1 ≤ n ∧ n ≤ z.2 := by
  obtain ⟨p, hp, q⟩ := inP_iff.mp hn
  obtain ⟨t1, t2, t3⟩ := h.tail
  have low : a.1 ≤ p.1 := by
    rcases List.mem_cons.mp hp with z | z
    · rw [z]; exact Int.le_refl _
    · have := t3 p z; omega
  have h2 := h
  rw [e] at h2 hp
  obtain ⟨u1, u2, u3⟩ := h2.init
  have high : p.2 ≤ z.2 := by
    rcases List.mem_append.mp hp with y | y
    · have := u3 p y; omega
    · have e2 : p = z := by simpa using y
      rw [e2]; exact Int.le_refl _
  omega
end L2

namespace L2
/-! ### runs of pieces: the mathematics -/
/-- the pieces of a walk: each begins behind the one ahead of it -/
structure Walk (ts : List (Int × Int × Int)) : Prop where
  le : ∀ t ∈ ts, t.1 ≤ t.2.1
  nx : ∀ (i : Nat) a b, ts[i]? = some a → ts[i + 1]? = some b → b.1 = a.2.1 + 1
def pcs (msk : Int → Bool) (ts : List (Int × Int × Int)) (n : Int) : Bool := ts.any fun t => inR n (t.1, t.2.1) && msk t.2.2
theorem pcs_snoc (msk : Int → Bool) (ts : List (Int × Int × Int)) (t : Int × Int × Int) (n : Int) : pcs msk (ts ++ [t]) n = (pcs msk ts n || (inR n (t.1, t.2.1) && msk t.2.2)) := by
  unfold pcs; rw [List.any_append]; simp
/-- what the loop over the pieces keeps: R told of the first i pieces, at where the next one begins -/
structure RunI (R : List Pr) (ts : List (Int × Int × Int)) (msk : Int → Bool) (i : Nat) (at_ : Int) : Prop where
  ap : Apart R
  mem : ∀ n, inP R n = pcs msk (ts.take i) n
  lt : ∀ r ∈ R, r.2 < at_
  few : 2 * R.length ≤ i ∨ (2 * R.length ≤ i + 1 ∧ ∃ R' l, R = R' ++ [l] ∧ l.2 = at_ - 1)
theorem RunI.start (ts : List (Int × Int × Int)) (msk : Int → Bool) (at_ : Int) : RunI [] ts msk 0 at_ := ⟨Apart.nil, fun n => rfl, (fun r hr => by cases hr), .inl (Nat.le_refl _)⟩
section
variable {R : List Pr} {ts : List (Int × Int × Int)} {msk : Int → Bool} {i : Nat} {at_ : Int} {t : Int × Int × Int}
theorem take_snoc' {α : Type} {l : List α} {i : Nat} {x : α} (e : l[i]? = some x) : l.take (i + 1) = l.take i ++ [x] := by rw [List.take_add_one, e]; rfl
theorem RunI.no (h : RunI R ts msk i at_) (e : ts[i]? = some t) (ha : t.1 = at_) (hl : t.1 ≤ t.2.1) (hm : msk t.2.2 = false) : RunI R ts msk (i + 1) (t.2.1 + 1) := by
  refine ⟨h.ap, fun n => ?_, fun r hr => ?_, .inl ?_⟩
  · rw [take_snoc' e, pcs_snoc, hm, Bool.and_false, Bool.or_false, h.mem n]
  · have := h.lt r hr; omega
  · rcases h.few with z | z <;> omega
theorem RunI.join {R' : List Pr} {l : Pr} (h : RunI (R' ++ [l]) ts msk i at_) (e : ts[i]? = some t) (ha : t.1 = at_) (hl : t.1 ≤ t.2.1) (hm : msk t.2.2 = true) (hj : l.2 = t.1 - 1) : RunI (R' ++ [(l.1, t.2.1)]) ts msk (i + 1) (t.2.1 + 1) := by
  obtain ⟨a1, a2, a3⟩ := h.ap.init
  refine ⟨a1.snoc (by show l.1 ≤ t.2.1; omega) a3, fun n => ?_, fun r hr => ?_, .inr ⟨?_, R', (l.1, t.2.1), rfl, by show t.2.1 = t.2.1 + 1 - 1; omega⟩⟩
  · rw [take_snoc' e, pcs_snoc, hm, Bool.and_true, ← h.mem n, inP_snoc, inP_snoc, Bool.or_assoc]
    congr 1
    rw [Bool.eq_iff_iff, Bool.or_eq_true, inR_iff, inR_iff, inR_iff]
    show (l.1 ≤ n ∧ n ≤ t.2.1) ↔ ((l.1 ≤ n ∧ n ≤ l.2) ∨ (t.1 ≤ n ∧ n ≤ t.2.1))
    omega
  · rcases List.mem_append.mp hr with hr | hr
    · have := a3 r hr; omega
    · have e2 : r = (l.1, t.2.1) := by simpa using hr
      rw [e2]; show t.2.1 < t.2.1 + 1; omega
  · have z : (R' ++ [(l.1, t.2.1)]).length = (R' ++ [l]).length := by simp
    rw [z]
    rcases h.few with q | q <;> omega
theorem RunI.add (h : RunI R ts msk i at_) (e : ts[i]? = some t) (ha : t.1 = at_) (hl : t.1 ≤ t.2.1) (hm : msk t.2.2 = true) (hn : ∀ R' l, R = R' ++ [l] → l.2 ≠ t.1 - 1) : RunI (R ++ [(t.1, t.2.1)]) ts msk (i + 1) (t.2.1 + 1) := by
  have gap : ∀ r ∈ R, r.2 + 2 ≤ t.1 := fun r hr => by
    rcases List.eq_nil_or_concat R with z | ⟨R', l, z⟩
    · rw [z] at hr; cases hr
    · rw [List.concat_eq_append] at z
      have h1 := h.ap
      have h2 := h.lt l (by rw [z]; simp)
      have h3 := hn R' l z
      rw [z] at h1 hr
      exact h1.last (by omega) r hr
  refine ⟨h.ap.snoc hl gap, fun n => ?_, fun r hr => ?_, .inr ⟨?_, R, (t.1, t.2.1), rfl, by show t.2.1 = t.2.1 + 1 - 1; omega⟩⟩
  · rw [take_snoc' e, pcs_snoc, hm, Bool.and_true, inP_snoc, h.mem n]
  · rcases List.mem_append.mp hr with hr | hr
    · have := gap r hr; omega
    · have e2 : r = (t.1, t.2.1) := by simpa using hr
      rw [e2]; show t.2.1 < t.2.1 + 1; omega
  · rw [List.length_append, List.length_singleton]
    rcases h.few with q | ⟨q, R', l, z1, z2⟩
    · omega
    · exact absurd (by omega) (hn R' l z1)
end
end L2

namespace L2
/-! ### edges: the mathematics -/
theorem Apart.tri {R : List Pr} (h : Apart R) {p q : Pr} (hp : p ∈ R) (hq : q ∈ R) : p = q ∨ p.2 + 2 ≤ q.1 ∨ q.2 + 2 ≤ p.1 := by
  obtain ⟨i, hi, rfl⟩ := List.mem_iff_getElem.mp hp
  obtain ⟨j, hj, rfl⟩ := List.mem_iff_getElem.mp hq
  have g := List.pairwise_iff_getElem.mp h.gap
  rcases Nat.lt_trichotomy i j with z | z | z
  · exact .inr (.inl (g i j hi hj z))
  · subst z; exact .inl rfl
  · exact .inr (.inr (g j i hj hi z))
/-- each low, and the number behind each high -/
def ends (R : List Pr) : List Int := R.flatMap fun p => [p.1, p.2 + 1]
theorem ends_snoc (R : List Pr) (p : Pr) : ends (R ++ [p]) = ends R ++ [p.1, p.2 + 1] := by
  unfold ends; rw [List.flatMap_append]; simp
theorem ends_cons (R : List Pr) (p : Pr) : ends (p :: R) = p.1 :: (p.2 + 1) :: ends R := rfl
theorem mem_ends {R : List Pr} {e : Int} : e ∈ ends R ↔ ∃ p ∈ R, e = p.1 ∨ e = p.2 + 1 := by
  unfold ends
  rw [List.mem_flatMap]
  simp
theorem ends_flip {R : List Pr} (h : Apart R) {e : Int} (he : e ∈ ends R) : inP R (e - 1) ≠ inP R e := by
  obtain ⟨p, hp, z⟩ := mem_ends.mp he
  have hl := h.le p hp
  rcases z with z | z
  · have e1 : inP R (e - 1) = false := inP_not fun q hq w => by
      have := h.le q hq
      rcases h.tri hp hq with rfl | y | y <;> omega
    have e2 : inP R e = true := inP_iff.mpr ⟨p, hp, by omega⟩
    rw [e1, e2]; decide
  · have e1 : inP R (e - 1) = true := inP_iff.mpr ⟨p, hp, by omega⟩
    have e2 : inP R e = false := inP_not fun q hq w => by
      have := h.le q hq
      rcases h.tri hp hq with rfl | y | y <;> omega
    rw [e1, e2]; decide
end L2

namespace L2
open PySem PySem.Spec PyProof.Rows
/-! ### texts: a loop over the signs, join, globals -/
/-- the signs of z, one by one -/
def Its (z : Str) : It := ⟨fun i _ => i < z.cps.size, fun i H x H' => H' = H ∧ ∃ c, z.cps[i]? = some c ∧ x = .str ⟨#[c]⟩, fun i _ => z.cps.size ≤ i⟩
section
variable {X : Cx} {tg : Expr}
def iStr (tl : TE) : PySem.W.Frag → St → Hp → (It → Hp → Prop) → Prop := fun _ σ H R => tl σ H fun x H1 => ∃ z, x = .str z ∧ R (Its z) H1
end
section
variable {X : Cx}
/-- sep.join(xs), xs a list of texts -/
def rJoin (K : PySem.W.Frag) : V → List V → Hp → VK → Prop := fun x vs H Q => ∃ (z : Str) (a : Addr) (ys : List Str), x = .str z ∧ vs = [.ref a] ∧ SqL K H a (ys.map V.str) ∧ z.length ≤ 64 ∧ (ys.map (·.length)).sum + ys.length * 64 ≤ 16777216 ∧ Q (.str (Txt.join z ys)) H
end
/-- a sign that stands in g -/
def sg (g : Str) (c : Nat) : Bool := !(Builtin.Str.occurrences g ⟨#[c]⟩ 0 g.length 1).isEmpty
def allIn (z g : Str) : Bool := z.cps.toList.all (sg g)
end L2

namespace L2
open PySem PySem.Spec PyProof.Rows PySem.NumText
/-! ### texts of numbers: slices, startswith, int(text), figures -/
section
variable {X : Cx}
/-- z[lo:hi] -/
def rSlS : V → Option Int → Option Int → Hp → VK → Prop := fun x lo hi H Q => ∃ z, x = .str z ∧ z.length ≤ sizeLine ∧ Q (.str (Txt.slice z lo hi)) H
def rStarts : V → List V → Hp → VK → Prop := fun x vs H Q => ∃ z y : Str, x = .str z ∧ vs = [.str y] ∧ Q (.bl (Txt.startswith z y)) H
end
/-! figures -/
/-- figures with no nought ahead -/
structure Figs (cs : List Nat) : Prop where
  all : AllDigits cs
  one : cs.length = 1 ∨ ∃ c r, cs = c :: r ∧ 49 ≤ c
/-- the signs of str(n) -/
def numCs (n : Int) (cs : List Nat) : List Nat := if n < 0 then 45 :: cs else cs
end L2

/-! ### the script's numbers are of a bounded size -/
namespace L2
open PySem PySem.Spec PyProof.Rows PySem.W
end L2

namespace L2
open PySem PySem.Spec PyProof.Rows
/-! ### exceptions of own classes: raised, passed on, caught -/
/-- an exception: its own record and the head of its trace -/
def ExcT (h : Heap) (e T : Addr) (cls a0 : Value) : Prop :=
  ∃ oe vs oT ts, h.get? e = some oe ∧ (oe.cls = cls ∧ vs[0]? = some a0) ∧ oe.data = .fields vs ∧ vs[1]? = some (.ref T) ∧ T ≠ e ∧ h.get? T = some oT ∧ oT.data = .fields ts ∧ ts[3]? = some .none
/-- what a step of a trace changes: the records at X, the slots of the frames at F -/
structure Stp (F X : List Addr) (h h' : Heap) : Prop where
  keep : ∀ b o, b ∉ F → b ∉ X → h.get? b = some o → h'.get? b = some o
  slot : ∀ b o, b ∈ F → h.get? b = some o → ∃ sl, h'.get? b = some { o with slots := sl }
section
variable {M : Model} {A : Around} {E : Value → Shared → Prop} {s : Shared} {base : Heap} {env : Env} {outer : List Env} {L e T : Addr} {oe : Obj} {vs : Array Value} {a0 cls : Value} {Q : Unit → Shared → Prop}
end
end L2

namespace L2
open PySem PySem.Spec PyProof.Rows
section
variable {P : Program} {w : World} {H H' : Hp} {h h' : Heap} {a : Addr} {o : HO} {F Y fs : List Addr}
end
/-- how an exception of an own class lies behind a call -/
def CX1 (P : Program) (w : World) : CXT := fun outer H s E ev s' => ∃ (e T C : Addr) (a0 : Value) (H' : Hp), ev = .ref e ∧ s'.os = s.os ∧ AllBare s'.gens ∧ Un (frs outer) [] H H' s.heap s'.heap ∧ HOk P w H' s'.heap ∧
  ExcT s'.heap e T (.ref C) a0 ∧ s.heap.get? e = none ∧ s.heap.get? T = none ∧ H' e = none ∧ H' T = none ∧ E (.ref C) none H'
/-- a record that is new to a body, not its frame's, not pinned -/
structure NewAt (X : Cx) (pins : List (Addr × Obj)) (H : Hp) (b : Addr) : Prop where
  ent : X.s₀.heap.get? b = none
  unt : H b = none
  loc : b ≠ X.env.locals
  cel : ∀ x c, X.env.cells.lookup x = some c → c ≠ b
  pin : ∀ p ∈ X.pn ++ pins, p.1 ≠ b
section
variable {X : Cx} {pins : List (Addr × Obj)} {σ : St} {H : Hp} {s : Shared} {h' : Heap} {e T : Addr}
end
/-! raise -/
/-- a class of the text below a built-in exception -/
structure ExcCls (K : PySem.W.Frag) (C : Addr) : Prop where
  ex : ∃ (bmB bmN : List Value) (newId B Bn nid initId inN : String), PySem.W.excIn K C bmB newId = true ∧ ExcBaseFacts Bn newId inN bmN ∧ bmB.contains (Value.type Bn) = true ∧ ExcBaseFacts B nid initId bmB
section
variable {P : Program} {w : World} {K : PySem.W.Frag} {mg : Str → Option Value} {base : Heap} {N : List Str} {qual : Str} {scope : Scope} {f : Addr} {cd : Value} {A : Around} {outer : List Env} {s0 : Shared} {H0 : Hp} {E : XK}
def tRaise (C : Addr) (E : XK) (t : TA) : TS := fun _ σ H => t σ H fun vs H1 => vs.length ≤ sizeLine ∧ E (.ref C) none H1
end
end L2

namespace L2
open PySem PySem.Spec PyProof.Rows
/-! ### a call that may raise; try with one except clause -/
/-- behind an exception, in the frame that sees it -/
def XP (X : Cx) (pins : List (Addr × Obj)) (σ : St) (EX : Addr → Hp → Prop) (ev : Value) (s' : Shared) : Prop :=
  ∃ (e T C : Addr) (a0 : Value) (H' : Hp), ev = .ref e ∧ Inv X pins σ H' s' ∧ ExcT s'.heap e T (.ref C) a0 ∧ NewAt X pins H' e ∧ NewAt X pins H' T ∧ EX C H'
abbrev TX := St → Hp → VK → (Addr → Hp → Prop) → Prop
def PEX (X : Cx) (e : Expr) (t : TX) : Prop :=
  ∀ (pins : List (Addr × Obj)) (s : Shared) (σ : St) (H : Hp) (Q : VK) (EX : Addr → Hp → Prop), Inv X pins σ H s → t σ H Q EX → wpAny (model X.prog X.w) X.A (eval e X.env) (EP X pins σ Q) (XP X pins σ EX) s
/-- a def that may raise, bundled -/
def CalleeX (P : Program) (w : World) (K : PySem.W.Frag) (mg : Str → Option Value) (base : Heap) (k : Nat) (x : Str) (ps : List Str) (sp : Sp) : Prop :=
  ∃ f fd, FnOk P w K mg base (CX1 P w) k f fd ps sp ∧ Binds K fd ps [] ∧ PySem.W.keepIn K (.ref f) = true ∧ mg x = some (.ref f)
section
variable {X : Cx} {pins : List (Addr × Obj)} {σ : St} {H : Hp} {s s' : Shared}
end
section
variable {X : Cx} {k : Nat} {x : Str} {ps : List Str} {sp : Sp} {e : Expr} {es : List Expr} {t : TA} {p pos : Pos}
def tFnX (sp : Sp) (t : TA) : TX := fun σ H Q EX => t σ H fun vs H1 => sp vs H1 Q fun cv _ H2 => ∃ C, cv = .ref C ∧ EX C H2
abbrev TSX := Ends → St → Hp → (Addr → Hp → Prop) → Prop
/-- a statement that may raise, at the state it was begun with -/
def PSX (X : Cx) (st : Stmt) (t : TSX) : Prop :=
  ∀ (pins : List (Addr × Obj)) (s : Shared) (σ : St) (H : Hp) (D : Ends) (EX : Addr → Hp → Prop), Inv X pins σ H s → t D σ H EX → wpAny (model X.prog X.w) X.A (exec st X.env) (SP X pins D) (XP X pins σ EX) s
def tSetX (i : Nat) (te : TX) : TSX := fun D σ H EX => te σ H (fun v H1 => D.nx (σ.set i (some v)) H1) EX
def tDropX (te : TX) : TSX := fun D σ H EX => te σ H (fun _ H1 => D.nx σ H1) EX
end
/-! the except suite -/
/-- its context: the exception is handled, its record is pinned -/
def sfx (X : Cx) (e : Addr) (oe : Obj) : Cx := { X with A := X.A.mark (some (.ref e)), calm := false, pn := (e, oe) :: X.pn, xe := fun _ _ => False }
section
variable {X : Cx} {pins : List (Addr × Obj)} {σ : St} {H : Hp} {s s' : Shared} {e : Addr} {oe : Obj}
end

section
variable {X : Cx} {pins : List (Addr × Obj)} {σ : St} {H : Hp} {s : Shared}
end
def tTry (i : Nat) (B : Addr) (K : PySem.W.Frag) (G : Addr → Prop) (tb : TSX) (ts : Addr → Addr → TS) : TS := fun D σ H => tb D σ H fun C H1 => PySem.W.exmOne K (.ref C) (.ref B) = some true ∧ G C ∧
  ∀ e, ts C e { nx := fun σ' H' => D.nx (σ'.set i none) H', rt := D.rt, bk := fun σ' H' => D.bk (σ'.set i none) H', ct := fun σ' H' => D.ct (σ'.set i none) H' } (σ.set i (some (.ref e))) H1
section
variable {X : Cx} {st b₀ : Stmt} {su : List Stmt} {tb : TSX} {ts : Addr → Addr → TS} {Tn n : Str} {B : Addr} {i : Nat} {np hpos pos : Pos}
end
end L2

namespace L2
open PySem PySem.Spec PyProof.Rows
/-! ### isinstance of an exception of an own class -/
/-- what a class must have: below a built-in exception, no hooks of its own -/
structure ExcLook (K : PySem.W.Frag) (C : Addr) : Prop where
  ga : PySem.W.findIn K (.ref C) "__getattribute__" = some (some (.builtin "BaseException.__getattribute__"))
  hk : PySem.W.findIn K (.ref C) "__getattr__" = some none
  cl : PySem.W.findIn K (.ref C) "__class__" = some (some (.builtin "object.__class__"))
  gt : PySem.W.specialIn K (.builtin "object.__class__") "__get__" = some (some (.builtin "getset_descriptor.__get__"))
  tk : PySem.W.takesIn K (.builtin "object.__class__") = some true
  ob : PySem.W.mroIn K C (.type "object") = some true
  be : PySem.W.mroIn K C (.type "BaseException") = some true
  me : PySem.W.kitCls K (.ref C) (.ref C) = some true
section
variable {prog : Program} {w : World} {A : Around} {E : Value → Shared → Prop} {s : Shared} {K : PySem.W.Frag} {e C : Addr} {oe : Obj}
end
section
variable {X : Cx} {e C : Addr} {oe : Obj}
end
end L2

namespace L2
open PySem PySem.Spec PyProof.Rows
/-! ### f'{text!r} ..', a text times a number, find, join of more -/
section
variable {X : Cx}
def tFr (c : Str) (ta : TE) : TE := fun σ H Q => ta σ H fun x H1 => ∃ z : Str, x = .str z ∧ z.length ≤ 1000 ∧ (∀ n ∈ z.cps.toList, n < 16 ^ 8) ∧ c.length ≤ 1000 ∧ ∀ z2 : Str, Q (.str z2) H1
def rFind : V → List V → Hp → VK → Prop := fun x vs H Q => ∃ z y : Str, x = .str z ∧ vs = [.str y] ∧ Q (.int (Txt.find z y)) H
end
end L2

namespace L2
open PySem PySem.Spec PyProof.Rows
/-! ### own classes: methods bundled, instances made, a method of a class above called by that class's name; calls of these that may raise -/
/-- a method of the class at C, bundled -/
def MCallee (CX : CXT) (P : Program) (w : World) (K : PySem.W.Frag) (mg : Str → Option Value) (base : Heap) (k : Nat) (C : Addr) (m : Str) (ps : List Str) (sp : Sp) : Prop :=
  ∃ f fd, Meth K C m f ∧ FnOk P w K mg base CX k f fd ps sp ∧ Binds K fd ps []
/-- a class that can be made, bundled with its __init__ -/
def MkCallee (CX : CXT) (P : Program) (w : World) (K : PySem.W.Frag) (mg : Str → Option Value) (base : Heap) (k : Nat) (x : Str) (C : Addr) (ps : List Str) (sp : Sp) : Prop :=
  ∃ f fd, Mk K C f ∧ FnOk P w K mg base CX k f fd ps sp ∧ Binds K fd ps [] ∧ mg x = some (.ref C)
/-- what the text must have for B.m(..) -/
structure BaseM (K : PySem.W.Frag) (B : Addr) (m : Str) (f : Addr) : Prop where
  sp : PySem.W.specialIn K (.ref B) "__getattribute__" = some (some (.builtin "type.__getattribute__"))
  rd : PySem.W.readsIn K B (.type "type") = true
  at_ : PySem.W.findCls K (.ref B) (.type "type") m = some (.val (.ref f))
  kp : PySem.W.keepIn K (.ref f) = true
def BCallee (CX : CXT) (P : Program) (w : World) (K : PySem.W.Frag) (mg : Str → Option Value) (base : Heap) (k : Nat) (x : Str) (m : Str) (ps : List Str) (sp : Sp) : Prop :=
  ∃ f fd B, BaseM K B m f ∧ FnOk P w K mg base CX k f fd ps sp ∧ Binds K fd ps [] ∧ mg x = some (.ref B)
section
variable {CX : CXT} {P : Program} {w : World} {K : PySem.W.Frag} {mg : Str → Option Value} {base : Heap} {j k : Nat} {C : Addr} {x m : Str} {ps : List Str} {sp : Sp}
end
/-- the readings -/
def tMt (C : Addr) (m : Str) (sp : Sp) (ta : TE) (t : TA) : TE := fun σ H Q => ta σ H fun x H1 => ∃ a dx fs, x = .ref a ∧ H1 a = some (.ins C dx fs) ∧ fs.lookup m = none ∧ t σ H1 fun vs H2 => sp (x :: vs) H2 Q E0
def tMk (C : Addr) (sp : Sp) (t : TA) : TE := fun σ H Q => t σ H fun vs H1 => ∀ x dx, H1 x = none → H1 dx = none → dx ≠ x →
  sp (.ref x :: vs) (upd (upd H1 dx (.own x)) x (.ins C dx [])) (fun v H2 => v = .non ∧ Q (.ref x) H2) E0
def tMtX (C : Addr) (m : Str) (sp : Sp) (ta : TE) (t : TA) : TX := fun σ H Q EX => ta σ H fun x H1 => ∃ a dx fs, x = .ref a ∧ H1 a = some (.ins C dx fs) ∧ fs.lookup m = none ∧ t σ H1 fun vs H2 => sp (x :: vs) H2 Q fun cv _ H3 => ∃ C', cv = .ref C' ∧ EX C' H3
def tMkX (C : Addr) (sp : Sp) (t : TA) : TX := fun σ H Q EX => t σ H fun vs H1 => ∀ x dx, H1 x = none → H1 dx = none → dx ≠ x →
  sp (.ref x :: vs) (upd (upd H1 dx (.own x)) x (.ins C dx [])) (fun v H2 => v = .non ∧ Q (.ref x) H2) fun cv _ H3 => ∃ C', cv = .ref C' ∧ EX C' H3
section
variable {X : Cx} {CX : CXT} {k : Nat} {f C : Addr} {fd : FuncData} {ps : List Str} {sp : Sp} {x m : Str} {p np pos apos : Pos} {e o : Expr} {es : List Expr} {ta : TE} {t : TA}
end
/-! f'{value!r} ..' of a plain value -/
/-- what can be shown: none, a bool, a number of few figures, a text of small signs -/
inductive Shw : V → Prop where
  | non : Shw .non
  | bl (b : Bool) : Shw (.bl b)
  | int {i : Int} (h : i.natAbs < 10 ^ 60) : Shw (.int i)
  | str {z : Str} (h : z.length ≤ 1000) (k : ∀ n ∈ z.cps.toList, n < 16 ^ 8) : Shw (.str z)
section
variable {X : Cx}
def tFrV (c : Str) (ta : TE) : TE := fun σ H Q => ta σ H fun x H1 => Shw x ∧ c.length ≤ 1000 ∧ ∀ z2 : Str, Q (.str z2) H1
end
/-! == of two tuples -/
def rEqT (K : PySem.W.Frag) (neg : Bool) : R2 := fun x y H Q => ∃ a b xs ys, x = .ref a ∧ y = .ref b ∧ SqT K H a xs ∧ SqT K H b ys ∧
  ∃ f : Nat → Bool, (∀ j x y, xs[j]? = some x → ys[j]? = some y → EqI K H x y (f j)) ∧ Q (.bl (if neg then !((List.range (min xs.length ys.length)).all f && xs.length == ys.length) else (List.range (min xs.length ys.length)).all f && xs.length == ys.length)) H
section
variable {X : Cx}
end
end L2

namespace L2
open PySem PySem.Spec PyProof.Rows
/-! ### set(list) for keys of any kind; len(set) -/
section
variable {κ : Type} [DecidableEq κ]
/-- how many different keys stand ahead of place i -/
def cntK (ks : List κ) : Nat → Nat
  | 0 => 0
  | i + 1 => match ks[i]? with
    | some k => if k ∈ ks.take i then cntK ks i else cntK ks i + 1
    | none => cntK ks i
variable {prog : Program} {w : World} {A : Around} {E : Value → Shared → Prop} {s : Shared} {knd : KeyKind prog w κ}
/-- a set as it is made -/
abbrev newS (led : Bool) : Obj := { cls := .type "set", dict := none, data := .set #[] 0 (.fresh 0 0 led) }
/-- what is told behind set(..) -/
def Filled (knd : KeyKind prog w κ) (s : Shared) (ks : List κ) (h' : Heap) : Prop :=
  h'.SetOf knd s.heap.objs.size (fun k => decide (k ∈ ks)) (cntK ks ks.length) ∧ ∀ b o, b < s.heap.objs.size → s.heap.get? b = some o → h'.get? b = some o
end
/-! the layer's rules -/
/-- a set of texts -/
def SetO (P : Program) (w : World) (a : Addr) (zs : List Str) : HO := .ext fun h => h.SetOf (strKind P w) a (fun z => decide (z ∈ zs)) (cntK zs zs.length)
section
variable {X : Cx}
end
end L2

namespace L2
open PySem PySem.Spec PyProof.Rows
/-! ### exceptions that pass through loops and callers -/
/-- as ExcT, with the flight of the trace's head -/
def ExcF (h : Heap) (e T : Addr) (cls a0 fl : Value) : Prop :=
  ∃ oe vs oT ts, h.get? e = some oe ∧ (oe.cls = cls ∧ vs[0]? = some a0) ∧ oe.data = .fields vs ∧ vs[1]? = some (.ref T) ∧ T ≠ e ∧ h.get? T = some oT ∧ oT.data = .fields ts ∧ ts[3]? = some fl
/-- an exception in the frame at L: just made, flying, or held there -/
inductive ExcS (h : Heap) (L e : Addr) (cls a0 : Value) : List Addr → Prop where
  | fresh {oe : Obj} {vs : Array Value} (he : h.get? e = some oe) (hc : oe.cls = cls) (hd : oe.data = .fields vs) (h1 : vs[1]? = some Value.none) (h0 : vs[0]? = some a0) : ExcS h L e cls a0 []
  | fly {T : Addr} (x : ExcF h e T cls a0 .none) : ExcS h L e cls a0 [T]
  | held {T : Addr} (x : ExcF h e T cls a0 (rawInt L)) : ExcS h L e cls a0 [T]
section
variable {M : Model} {A : Around} {E : Value → Shared → Prop} {s : Shared} {base : Heap} {env : Env} {outer : List Env} {L e T : Addr} {a0 cls fl : Value} {Q : Unit → Shared → Prop} {Ts : List Addr}
end
section
variable {X : Cx} {pins : List (Addr × Obj)} {σ : St} {H : Hp} {s : Shared} {h' : Heap} {Y : List Addr}
end
/-- what is wanted of an exception in a def's body: it lies as ExcS tells, the state is that of the body -/
def XEof (X : Cx) (L : Addr) (E : XK) : Value → Shared → Prop := fun ev s' => ∃ (e C : Addr) (a0 : Value) (Ts : List Addr) (pins : List (Addr × Obj)) (σ : St) (H' : Hp), ev = .ref e ∧ Inv X pins σ H' s' ∧ ExcS s'.heap L e (.ref C) a0 Ts ∧ (∀ b ∈ e :: Ts, NewAt X pins H' b) ∧ E (.ref C) none H'
section
variable {P : Program} {w : World} {K : PySem.W.Frag} {mg : Str → Option Value} {base : Heap} {N : List Str} {qual : Str} {scope : Scope} {f : Addr} {cd : Value} {A : Around} {outer : List Env} {s0 : Shared} {H0 : Hp} {E : XK}
/-- the context of a body that may raise -/
abbrev cxE (P : Program) (w : World) (K : PySem.W.Frag) (mg : Str → Option Value) (base : Heap) (N : List Str) (qual : Str) (scope : Scope) (f : Addr) (cd : Value) (A : Around) (outer : List Env) (s0 : Shared) (H0 : Hp) (E : XK) : Cx :=
  (cxOf (CX1 P w) P w K mg base N qual scope f cd A outer s0 H0 E).wish (XEof (cxOf (CX1 P w) P w K mg base N qual scope f cd A outer s0 H0 E) s0.heap.objs.size E)
end
end L2

namespace L2
open PySem PySem.Spec PyProof.Rows
/-! ### list.index, len of a set of texts, calls whose exceptions pass on -/
section
variable {X : Cx}
def rIndex (K : PySem.W.Frag) : V → List V → Hp → VK → Prop := fun x vs H Q => ∃ (p : Addr) (xs : List V) (y z : V) (j : Nat), x = .ref p ∧ vs = [y] ∧ SqL K H p xs ∧ flatV y = true ∧ xs.all flatV = true ∧ xs[j]? = some z ∧ eqV z y = true ∧ (∀ (m : Nat) (u : V), m < j → xs[m]? = some u → eqV u y = false) ∧ Q (.int j) H
end
/-- calls, with what is wanted of their exceptions -/
def tFnE (sp : Sp) (E : XK) (t : TA) : TE := fun σ H Q => t σ H fun vs H1 => sp vs H1 Q E
def tMtE (C : Addr) (m : Str) (sp : Sp) (E : XK) (ta : TE) (t : TA) : TE := fun σ H Q => ta σ H fun x H1 => ∃ a dx fs, x = .ref a ∧ H1 a = some (.ins C dx fs) ∧ fs.lookup m = none ∧ t σ H1 fun vs H2 => sp (x :: vs) H2 Q E
def tMkE (C : Addr) (sp : Sp) (E : XK) (t : TA) : TE := fun σ H Q => t σ H fun vs H1 => ∀ x dx, H1 x = none → H1 dx = none → dx ≠ x →
  sp (.ref x :: vs) (upd (upd H1 dx (.own x)) x (.ins C dx [])) (fun v H2 => v = .non ∧ Q (.ref x) H2) E
section
variable {X : Cx} {k : Nat} {f C : Addr} {fd : FuncData} {ps : List Str} {sp : Sp} {x m : Str} {p np pos apos : Pos} {e o : Expr} {es : List Expr} {ta : TE} {t : TA} {E : XK}
end
end L2

namespace L2
open PySem PySem.Spec PyProof.Rows
/-! ### min and max of a list of ints; a set of ints and how many it has -/
section
variable {X : Cx}
end
/-- a set of ints -/
def SetI (P : Program) (w : World) (a : Addr) (ns : List Int) : HO := .ext fun h => h.SetOf (intKind P w) a (fun z => decide (z ∈ ns)) (cntK ns ns.length)
section
variable {X : Cx}
end
end L2
namespace L2
open PySem PySem.Spec PyProof.Rows
section
variable {X : Cx}
def rUpper : V → List V → Hp → VK → Prop := fun x vs H Q => ∃ z : Str, x = .str z ∧ vs = [] ∧ z.length ≤ 1000 ∧ Q (.str (Txt.upper z)) H
end
end L2

namespace L2
open PySem PySem.Spec PyProof.Rows
/-! ### isinstance against an own class or a built-in one, of a tuple of the module too -/
def TyG (K : PySem.W.Frag) (H : Hp) (x : V) (t : Value) : Prop := TyOf K H x t ∨ ∃ a ys, x = .ref a ∧ SqT K H a ys ∧ t = .type "tuple"
inductive ClV : V → Value → Prop where
  | ty (T : String) : ClV (.ty T) (.type T)
  | ref (C : Addr) : ClV (.ref C) (.ref C)
section
variable {X : Cx}
end
/-- what the text must have for isinstance of an instance of C -/
structure InsT (K : PySem.W.Frag) (C : Addr) : Prop where
  cl : Cls K C
  ha : PySem.W.findIn K (.ref C) "__class__" = some (some (.builtin "object.__class__"))
  hn : PySem.W.specialIn K (.builtin "object.__class__") "__get__" = some (some (.builtin "getset_descriptor.__get__"))
  tk : PySem.W.takesIn K (.builtin "object.__class__") = some true
  hm : PySem.W.mroIn K C (.type "object") = some true
/-! ### a method of one of several classes -/
def PolM (CX : CXT) (P : Program) (w : World) (K : PySem.W.Frag) (mg : Str → Option Value) (base : Heap) (k : Nat) (m : Str) (ps : List Str) (cs : List (Addr × Sp)) : Prop :=
  ∀ p ∈ cs, MCallee CX P w K mg base k p.1 m ps p.2 ∧ Cls K p.1
section
variable {CX : CXT} {P : Program} {w : World} {K : PySem.W.Frag} {mg : Str → Option Value} {base : Heap} {k : Nat} {C : Addr} {m : Str} {ps : List Str} {sp : Sp} {cs : List (Addr × Sp)}
end
def tMtP (cs : List (Addr × Sp)) (m : Str) (ta : TE) (t : TA) : TE := fun σ H Q => ta σ H fun x H1 => ∃ a p dx fs, x = .ref a ∧ p ∈ cs ∧ H1 a = some (.ins p.1 dx fs) ∧ fs.lookup m = none ∧ t σ H1 fun vs H2 => p.2 (x :: vs) H2 Q E0
section
variable {X : Cx} {CX : CXT} {k : Nat} {f C : Addr} {fd : FuncData} {ps : List Str} {sp : Sp} {x m : Str} {p np pos apos : Pos} {e o : Expr} {es : List Expr} {ta : TE} {t : TA} {cs : List (Addr × Sp)}
end
/-! ### a tuple of the module -/
def ModT (K : PySem.W.Frag) (a : Addr) (xs : List V) : Prop := ∃ (o : Obj) (its : Array Value) (n : Nat), K.lookup a = some o ∧ o.cls = .type "tuple" ∧ o.data = .seq its n ∧ its.size ≤ sizeLine ∧ Vals xs its.toList
end L2
namespace L2
open PySem PySem.Spec PyProof.Rows
theorem iteTS {c A B : Prop} [Decidable c] (hc : c) (h : A) : if decide c = true then A else B := by rw [if_pos (decide_eq_true hc)]; exact h
theorem iteFS {c A B : Prop} [Decidable c] (hc : ¬ c) (h : B) : if decide c = true then A else B := by rw [if_neg (by rw [decide_eq_false hc]; decide)]; exact h
end L2

namespace L2
open PySem PySem.Spec PyProof.Rows
/-! ### for a, b in zip(xs, ys), of two lists that stay -/
section
variable {X : Cx} {pins : List (Addr × Obj)} {σ : St} {H : Hp} {s : Shared} {h' : Heap}
end
/-- the walk of zip over the lists at a and b -/
def Itz (K : PySem.W.Frag) (a b : Addr) : It :=
  ⟨fun i H => ∃ xs ys x y, SqL K H a xs ∧ SqL K H b ys ∧ xs[i]? = some x ∧ ys[i]? = some y,
   fun i H v H' => ∃ T, H T = none ∧ v = .ref T ∧ ∀ xs ys x y, SqL K H a xs → SqL K H b ys → xs[i]? = some x → ys[i]? = some y → H' = upd H T (.tup [x, y]),
   fun i H => ∃ xs ys, SqL K H a xs ∧ SqL K H b ys ∧ (xs.length ≤ i ∨ ys.length ≤ i)⟩
/-- the iterator's records -/
def ZipSt (z TI TO i1 i2 a b : Addr) (i : Nat) (h : Heap) : Prop := IsZip h z TI TO .none ∧ IsPair h TI (.ref i1) (.ref i2) ∧ (∃ p q, IsPair h TO p q) ∧ h.IsListIter i1 a i ∧ h.IsListIter i2 b i
def iZip (K : PySem.W.Frag) (ta : TA) : TI := fun σ H R => ta σ H fun vs H1 => ∃ a b, vs = [.ref a, .ref b] ∧ (∃ xs, SqL K H1 a xs) ∧ (∃ ys, SqL K H1 b ys) ∧ R (Itz K a b) H1
section
variable {X : Cx}
end
end L2
namespace L2
open PySem PySem.Spec PyProof.Rows
section
variable {X : Cx}
end
end L2
namespace L2
open PySem PySem.Spec PyProof.Rows
end L2

namespace L2
open PySem
/-! ### the table of a set: its places ascend; orders in which a set is walked -/
/-- ascending -/
def Asc (xs : Array Nat) : Prop := xs.toList.Pairwise (· < ·)
theorem Asc.lt {xs : Array Nat} (h : Asc xs) {i j : Nat} (hij : i < j) (hj : j < xs.size) : xs[i] < xs[j] := by
  have := List.pairwise_iff_getElem.mp h i j (by simp; omega) (by simpa using hj) hij
  simpa using this
theorem below_go {xs : Array Nat} (h : Asc xs) (j : Nat) : ∀ (fuel lo hi : Nat), lo ≤ hi → hi ≤ xs.size → hi - lo ≤ fuel →
    (∀ (i : Nat) (hi' : i < xs.size), i < lo → xs[i] < j) → (∀ (i : Nat) (hi' : i < xs.size), hi ≤ i → j ≤ xs[i]) →
    SetTable.below.go xs j fuel lo hi ≤ xs.size ∧ (∀ (i : Nat) (hi' : i < xs.size), i < SetTable.below.go xs j fuel lo hi → xs[i] < j) ∧ (∀ (i : Nat) (hi' : i < xs.size), SetTable.below.go xs j fuel lo hi ≤ i → j ≤ xs[i]) := by
  intro fuel
  induction fuel with
  | zero =>
    intro lo hi h1 h2 h3 h4 h5
    have e : lo = hi := by omega
    subst e
    exact ⟨by unfold SetTable.below.go; exact h2, by unfold SetTable.below.go; exact h4, by unfold SetTable.below.go; exact h5⟩
  | succ fuel ih =>
    intro lo hi h1 h2 h3 h4 h5
    unfold SetTable.below.go
    by_cases c : lo < hi
    · rw [if_pos c]
      have hm : (lo + hi) / 2 < xs.size := by omega
      have eg : xs.getD ((lo + hi) / 2) j = xs[(lo + hi) / 2] := by simp [Array.getD, hm]
      dsimp only
      rw [eg]
      by_cases c2 : xs[(lo + hi) / 2] < j
      · rw [if_pos c2]
        refine ih _ _ (by omega) h2 (by omega) (fun i hi' hlt => ?_) h5
        by_cases e : i = (lo + hi) / 2
        · subst e; exact c2
        · exact Nat.lt_trans (h.lt (by omega) hm) c2
      · rw [if_neg c2]
        refine ih _ _ (by omega) (by omega) (by omega) h4 fun i hi' hle => ?_
        by_cases e : i = (lo + hi) / 2
        · subst e; omega
        · exact Nat.le_trans (Nat.le_of_not_lt c2) (Nat.le_of_lt (h.lt (by omega) hi'))
    · rw [if_neg c]
      have e : lo = hi := by omega
      subst e
      exact ⟨h2, h4, h5⟩
theorem below_spec {xs : Array Nat} (h : Asc xs) (j : Nat) : SetTable.below xs j ≤ xs.size ∧ (∀ (i : Nat) (hi : i < xs.size), i < SetTable.below xs j → xs[i] < j) ∧ (∀ (i : Nat) (hi : i < xs.size), SetTable.below xs j ≤ i → j ≤ xs[i]) :=
  below_go h j xs.size 0 xs.size (Nat.zero_le _) (Nat.le_refl _) (by omega) (fun _ _ z => absurd z (by omega)) (fun i hi z => absurd z (by omega))
/-- behind an item's place the next item is met -/
theorem below_next {xs : Array Nat} (h : Asc xs) {i : Nat} (hi : i < xs.size) : SetTable.below xs (xs[i] + 1) = i + 1 := by
  obtain ⟨b1, b2, b3⟩ := below_spec h (xs[i] + 1)
  have c1 : ¬ SetTable.below xs (xs[i] + 1) ≤ i := fun z => absurd (b3 i hi z) (by omega)
  have c2 : ¬ i + 1 < SetTable.below xs (xs[i] + 1) := fun z => by
    have := b2 (i + 1) (by omega) z
    have := h.lt (show i < i + 1 by omega) (show i + 1 < xs.size by omega)
    omega
  omega
theorem below_first {xs : Array Nat} (h : Asc xs) : SetTable.below xs 0 = 0 := by
  obtain ⟨b1, b2, b3⟩ := below_spec h 0
  by_cases z : SetTable.below xs 0 = 0
  · exact z
  · exact absurd (b2 0 (by omega) (by omega)) (by omega)
theorem asc_insert {xs : Array Nat} (h : Asc xs) {j : Nat} (hn : xs[SetTable.below xs j]? ≠ some j) : Asc (SetTable.insertAt xs (SetTable.below xs j) j) := by
  obtain ⟨b1, b2, b3⟩ := below_spec h j
  unfold Asc
  rw [SetTable.toList_insertAt, List.pairwise_append]
  refine ⟨h.sublist (List.take_sublist _ _), List.pairwise_cons.mpr ⟨fun b hb => ?_, h.sublist (List.drop_sublist _ _)⟩, fun a ha b hb => ?_⟩
  · obtain ⟨k, hk, rfl⟩ := List.mem_iff_getElem.mp hb
    have hk' : SetTable.below xs j + k < xs.size := by simp at hk; omega
    have z := b3 _ hk' (by omega)
    have e : (xs.toList.drop (SetTable.below xs j))[k] = xs[SetTable.below xs j + k] := by simp
    rw [e]
    by_cases q : j = xs[SetTable.below xs j + k]
    · exfalso
      by_cases k0 : k = 0
      · subst k0
        refine hn ?_
        rw [Array.getElem?_eq_getElem (by omega)]
        simpa using q.symm
      · have l1 := b3 _ (show SetTable.below xs j < xs.size by omega) (Nat.le_refl _)
        have l2 := h.lt (show SetTable.below xs j < SetTable.below xs j + k by omega) hk'
        omega
    · omega
  · have la : a < j := by
      obtain ⟨k, hk, rfl⟩ := List.mem_iff_getElem.mp ha
      have hk' : k < SetTable.below xs j ∧ k < xs.size := by simp at hk; omega
      have := b2 k hk'.2 hk'.1
      simpa using this
    rcases List.mem_cons.mp hb with rfl | hb
    · exact la
    · obtain ⟨k, hk, rfl⟩ := List.mem_iff_getElem.mp hb
      have hk' : SetTable.below xs j + k < xs.size := by simp at hk; omega
      have z := b3 _ hk' (by omega)
      have e : (xs.toList.drop (SetTable.below xs j))[k] = xs[SetTable.below xs j + k] := by simp
      rw [e]; omega
/-- no item has this place -/
def NotAt (t : SetTable) (j : Nat) : Prop := t.place[SetTable.below t.place j]? ≠ some j
theorem slot_empty {t : SetTable} {j : Nat} (h : t.slot j = .empty ∨ t.slot j = .dummy) : NotAt t j := by
  intro e
  have : t.slot j = .live (SetTable.below t.place j) := by
    unfold SetTable.slot
    simp [e]
  rw [this] at h
  rcases h with h | h <;> cases h
theorem probe_free (t : SetTable) (f : Nat → Int) (h : Int) : ∀ (fuel : Nat) (p : SetTable.Probe), (∀ d, p.dummy = some d → NotAt t d) → ∀ j dm, SetTable.probe.go t f h fuel p = some (.empty j dm) → NotAt t j ∧ ∀ d, dm = some d → NotAt t d := by
  intro fuel
  induction fuel with
  | zero => intro p _ j dm e; unfold SetTable.probe.go at e; cases e
  | succ fuel ih =>
    intro p hp j dm e
    unfold SetTable.probe.go at e
    have adv : ∀ q : SetTable.Probe, (t.advance q).dummy = q.dummy := fun q => by
      unfold SetTable.advance
      split <;> rfl
    split at e
    · rename_i he
      injection e with e; injection e with e1 e2
      subst e1 e2
      exact ⟨slot_empty (.inl he), hp⟩
    · rename_i he
      refine ih _ (fun d hd => ?_) j dm e
      rw [adv] at hd
      injection hd with hd
      subst hd
      exact slot_empty (.inr he)
    · split at e
      · injection e with e; cases e
      · refine ih _ (fun d hd => hp d ?_) j dm e
        rw [adv] at hd
        exact hd
theorem freeSlot_free {t : SetTable} {h : Int} {j : Nat} {b : Bool} (e : t.freeSlot h = some (j, b)) : NotAt t j := by
  unfold SetTable.freeSlot at e
  split at e
  · rename_i j' dm he
    obtain ⟨a1, a2⟩ := probe_free t _ h _ _ (fun d hd => by simp [SetTable.probeStart] at hd) _ _ he
    injection e with e; injection e with e1 e2
    subst e1
    cases dm with
    | none => exact a1
    | some d => exact a2 d rfl
  · cases e
theorem asc_range (n : Nat) : Asc (Array.range n) := by
  unfold Asc
  rw [Array.toList_range]
  exact List.pairwise_lt_range
theorem standIn_asc (t : SetTable) (n : Nat) : Asc (t.standIn n).place := asc_range n
/-- a new item is laid: the places go on ascending, the mark of the maker stays -/
theorem layNew_asc {t : SetTable} (ha : Asc t.place) (es : Array (Int × Value)) (h : Int) (x : Value) : Asc (layNew t es h x).2.1.place ∧ (layNew t es h x).2.1.led = t.led := by
  unfold layNew
  split
  · rename_i slot wd e
    have hp : Asc (t.put slot).1.place := asc_insert ha (freeSlot_free e)
    dsimp only
    unfold SetTable.orStandIn
    split
    · exact ⟨hp, rfl⟩
    · exact ⟨standIn_asc _ _, rfl⟩
  · exact ⟨standIn_asc _ _, rfl⟩
theorem live_sub (f : Nat → Option Nat) : ∀ l : List Nat, ((l.filterMap fun j => (f j).map (j, ·)).map (·.1)).Sublist l
  | [] => by simp
  | j :: l => by
    have ih := live_sub f l
    rw [List.filterMap_cons]
    cases e : f j with
    | none => exact ih.trans (List.sublist_cons_self _ _)
    | some v => exact ih.cons_cons j
theorem relaid_asc {t t' : SetTable} {hs : Array Int} {n : Nat} {o : Array Nat} (e : t.relaid hs n = some (t', o)) : Asc t'.place ∧ t'.led = t.led := by
  unfold SetTable.relaid SetTable.laid at e
  cases hc : SetTable.layClean (SetTable.sizeAbove n - 1) hs with
  | none => rw [hc] at e; cases e
  | some owner =>
    rw [hc] at e
    injection e with e; injection e with e1 e2
    subst e1
    exact ⟨List.pairwise_lt_range.sublist (live_sub _ _), rfl⟩
theorem relayAll_asc {t : SetTable} (ha : Asc t.place) (es : Array (Int × Value)) (n : Nat) : Asc (relayAll t es n).2.1.place ∧ (relayAll t es n).2.1.led = t.led := by
  unfold relayAll
  split
  · rename_i t' o e
    dsimp only
    split
    · exact relaid_asc e
    · exact ⟨standIn_asc _ _, rfl⟩
  · exact ⟨standIn_asc _ _, rfl⟩
/-! orders -/
theorem perm_eraseIdx {α : Type} : ∀ {l : List α} {i : Nat} {x : α}, l[i]? = some x → (x :: l.eraseIdx i).Perm l
  | [], i, x, h => by simp at h
  | a :: l, 0, x, h => by simp at h; subst h; exact .refl _
  | a :: l, i + 1, x, h => by
    have ih := perm_eraseIdx (l := l) (i := i) (x := x) (by simpa using h)
    rw [List.eraseIdx_cons_succ]
    exact (List.Perm.swap _ _ _).trans (ih.cons a)
theorem pick_go {α : Type} (next : Nat → Nat) : ∀ (fuel k : Nat) (left : List α) (out : Array α), fuel = left.length → ∃ l : List α, l.Perm left ∧ (pickOrder.go next fuel k left out).toList = out.toList ++ l := by
  intro fuel
  induction fuel with
  | zero =>
    intro k left out e
    exact ⟨left, .refl _, by unfold pickOrder.go; rw [List.length_eq_zero_iff.mp e.symm]; simp⟩
  | succ fuel ih =>
    intro k left out e
    have hlt : next k % left.length < left.length := Nat.mod_lt _ (by omega)
    have eg : left[next k % left.length]? = some left[next k % left.length] := List.getElem?_eq_getElem hlt
    unfold pickOrder.go
    rw [eg]
    dsimp only
    obtain ⟨l, p, el⟩ := ih (k + 1) (left.eraseIdx (next k % left.length)) (out.push left[next k % left.length]) (by rw [List.length_eraseIdx_of_lt hlt]; omega)
    exact ⟨left[next k % left.length] :: l, (p.cons _).trans (perm_eraseIdx eg), by rw [el]; simp⟩
theorem pick_perm {α : Type} (next : Nat → Nat) (xs : Array α) : (pickOrder next xs).toList.Perm xs.toList := by
  obtain ⟨l, p, e⟩ := pick_go next xs.size 0 xs.toList #[] (by simp)
  have : (pickOrder next xs).toList = l := by unfold pickOrder; rw [e]; simp
  rw [this]; exact p
/-- whether sets are walked as the text says -/
def byTx (w : World) : Bool := w.params.followText "set-order"
end L2

namespace L2
open PySem PySem.Spec PyProof.Rows
/-! ### a set of ints that can be walked: made of a list -/
/-- the number of a value -/
def keyI : Value → Int
  | .int k _ => k
  | _ => 0
/-- the items of a set of ints -/
structure Ents (es : Array (Int × Value)) (ks : List Int) : Prop where
  ent : ∀ e ∈ es.toList, e.1 = hashInt (keyI e.2) ∧ ∃ u, e.2 = .int (keyI e.2) u
  nd : (es.toList.map fun e => keyI e.2).Nodup
  mem : ∀ k, k ∈ ks ↔ k ∈ es.toList.map fun e => keyI e.2
theorem Ents.perm {es es' : Array (Int × Value)} {ks : List Int} (h : Ents es ks) (p : es'.toList.Perm es.toList) : Ents es' ks :=
  ⟨fun e he => h.ent e (p.mem_iff.mp he), (p.map _).nodup_iff.mpr h.nd, fun k => (h.mem k).trans (p.map _).mem_iff.symm⟩
theorem Ents.push {es : Array (Int × Value)} {ks : List Int} {k : Int} {u : Tok} (h : Ents es ks) (hk : k ∉ ks) : Ents (es.push (hashInt k, .int k u)) (ks ++ [k]) := by
  refine ⟨fun e he => ?_, ?_, fun q => ?_⟩
  · rw [Array.toList_push] at he
    rcases List.mem_append.mp he with he | he
    · exact h.ent e he
    · rw [List.mem_singleton] at he; subst he; exact ⟨rfl, u, rfl⟩
  · rw [Array.toList_push, List.map_append, List.nodup_append]
    refine ⟨h.nd, by simp, fun a ha b hb => ?_⟩
    have eb : b = k := by simpa [keyI] using hb
    subst eb
    exact fun e => hk ((h.mem b).mpr (e ▸ ha))
  · rw [Array.toList_push, List.map_append, List.mem_append, List.mem_append, h.mem q]
    simp [keyI]
theorem Ents.again {es : Array (Int × Value)} {ks : List Int} {k : Int} (h : Ents es ks) (hk : k ∈ ks) : Ents es (ks ++ [k]) :=
  ⟨h.ent, h.nd, fun q => by
    rw [← h.mem q, List.mem_append, List.mem_singleton]
    exact ⟨fun z => z.elim id fun z => z ▸ hk, .inl⟩⟩
section
variable {prog : Program} {w : World} {A : Around} {E : Value → Shared → Prop} {s : Shared}
theorem Ents.elems {es : Array (Int × Value)} {ks : List Int} (h : Ents es ks) : ElemsOf (intKind prog w) es.toList := fun e he => by
  obtain ⟨h1, u, h2⟩ := h.ent e he
  refine ⟨⟨keyI e.2, ?_, h1⟩, ?_⟩
  · rw [h2]; exact intKind_is _ _ _ _
  · rw [h2]; rfl
theorem Ents.found {es : Array (Int × Value)} {ks : List Int} (h : Ents es ks) {k : Int} {e : Int × Value} (he : e ∈ es.toList) (hk : (intKind prog w).is k e.2 = true) : k ∈ ks := by
  obtain ⟨_, u, h2⟩ := h.ent e he
  refine (h.mem k).mpr (List.mem_map.mpr ⟨e, he, ?_⟩)
  exact (intKind prog w).inj e.2 _ _ (by rw [h2]; exact intKind_is _ _ _ _) hk
/-- a set of ints at an address: its items, and a table whose places ascend -/
def SetWk (h : Heap) (a : Addr) (led : Bool) (ks : List Int) (n : Nat) : Prop :=
  ∃ o es ep t, h.get? a = some o ∧ o.ExactSet ∧ o.data = .set es ep t ∧ Ents es ks ∧ es.size < scanBound ∧ t.fits es.size = true ∧ Asc t.place ∧ t.led = led ∧ es.size = n
theorem SetWk.stay {h h' : Heap} {a : Addr} {led : Bool} {ks : List Int} {n : Nat} (x : SetWk h a led ks n) (k : ∀ o, h.get? a = some o → h'.get? a = some o) : SetWk h' a led ks n := by
  obtain ⟨o, es, ep, t, ho, r⟩ := x
  exact ⟨o, es, ep, t, k o ho, r⟩
theorem SetWk.store {h : Heap} {a : Addr} {o : Obj} {es : Array (Int × Value)} {ep : Nat} {t : SetTable} (ho : h.get? a = some o) (hex : o.ExactSet) (hd : o.data = .set es ep t)
    {es' : Array (Int × Value)} {t' : SetTable} {ks : List Int} (he : Ents es' ks) (hb : es'.size < scanBound) (hf : t'.fits es'.size = true) (ha : Asc t'.place) :
    (h.update a (Obj.putSet es' t')).get? a = some { o with data := .set es' (ep + 1) t' } ∧ SetWk (h.update a (Obj.putSet es' t')) a t'.led ks es'.size := by
  have hg : (h.update a (Obj.putSet es' t')).get? a = some { o with data := .set es' (ep + 1) t' } := by
    have := Heap.get?_update_self (Obj.putSet es' t') ho (by rw [putSet_of es' t' hd]; rfl)
    rw [putSet_of es' t' hd] at this; exact this
  exact ⟨hg, _, es', ep + 1, t', hg, hex, rfl, he, hb, hf, ha, rfl, rfl⟩
theorem addTailW {g : Bool → Sem Unit} (hg : ∀ (b : Bool) (s₁ : Shared) (Q' : Unit → Shared → Prop), Q' () s₁ → wpAny (model prog w) A (g b) Q' E s₁)
    {a : Addr} {o : Obj} {es : Array (Int × Value)} {ep : Nat} {t : SetTable} (ho : s.heap.get? a = some o) (hex : o.ExactSet) (hd : o.data = .set es ep t)
    {es1 : Array (Int × Value)} {t2 : SetTable} {ks : List Int} {led : Bool} (he1 : Ents es1 ks)
    (hb1 : es1.size < scanBound) (hf2 : t2.fits es1.size = true) (ha2 : Asc t2.place) (hl2 : t2.led = led) {wasDummy : Bool} {R : Option Bool → Shared → Prop}
    (h : ∀ h', Heap.SameBut a s.heap h' → SetWk h' a led ks es1.size → R (some true) { s with heap := h' }) :
    wpAny (model prog w) A (do
        storeSet a es1 t2
        if (!wasDummy && t2.tooFull) = true then do
            g (relayAll t2 es1 (SetTable.grown es1.size)).2.2
            storeSet a (relayAll t2 es1 (SetTable.grown es1.size)).1 (relayAll t2 es1 (SetTable.grown es1.size)).2.1
            pure (some true)
          else pure (some true)) R E s := by
  refine wpAny_bind (wpAny_storeSet_of ho hd ?_ (fits_of_scanBound hb1))
  obtain ⟨ho1, hS1⟩ := SetWk.store ho hex hd he1 hb1 hf2 ha2
  rw [hl2] at hS1
  have hsb1 := Heap.SameBut.update s.heap a (Obj.putSet es1 t2)
  split
  · have hp := relayAll_perm t2 es1 (SetTable.grown es1.size)
    have hfr := relayAll_fits t2 es1 (SetTable.grown es1.size)
    obtain ⟨har, hlr⟩ := relayAll_asc ha2 es1 (SetTable.grown es1.size)
    generalize hRl : relayAll t2 es1 (SetTable.grown es1.size) = Rl at hp hfr har hlr ⊢
    obtain ⟨es2, t3, gave2⟩ := Rl
    dsimp only at hp hfr har hlr ⊢
    have hsz : es2.size = es1.size := by rw [← Array.length_toList, hp.length_eq, Array.length_toList]
    have hb2 : es2.size < scanBound := by rw [hsz]; exact hb1
    refine wpAny_bind (hg _ _ _ ?_)
    refine wpAny_bind (wpAny_storeSet_of ho1 rfl ?_ (fits_of_scanBound hb2))
    obtain ⟨_, hS2⟩ := SetWk.store ho1 hex rfl (he1.perm hp) hb2 hfr har
    rw [hsz, hlr, hl2] at hS2
    exact wpAny_pure (h _ (hsb1.trans (Heap.SameBut.update _ a _)) hS2)
  · exact wpAny_pure (h _ hsb1 hS1)
/-- an int is put in -/
theorem addW {a : Addr} {led : Bool} {ks : List Int} {n : Nat} {k : Int} {u : Tok} {Q : Bool → Shared → Prop} (hS : SetWk s.heap a led ks n) (hroom : n + 1 < scanBound)
    (h : ∀ h' n' b, Heap.SameBut a s.heap h' → n' ≤ n + 1 → SetWk h' a led (ks ++ [k]) n' → Q b { s with heap := h' }) :
    wpAny (model prog w) A (setAddHashed a (.int k u) ((intKind prog w).hash k)) Q E s := by
  obtain ⟨o, es, ep, t, ho, hex, hd, hE, hb, hf, hA, hled, hn⟩ := hS
  have hkey : (intKind prog w).is k (.int k u) = true := intKind_is _ _ _ _
  have hsc : (Value.int k u).scannable = true := rfl
  have hel := hE.elems (prog := prog) (w := w)
  have hb1 : es.size + 1 < scanBound := by rw [hn]; exact hroom
  unfold setAddHashed setAddHashedIn
  refine wpAny_holding (wpAny_bind (wpAny_setState_of ho hd hf ?_))
  dsimp only
  rw [byScan_of hsc hb hel]
  simp only [↓reduceIte]
  unfold setAddByScan
  refine wpAny_bind ?_
  refine wpAny_bind (wpAny_rule ?_)
  refine wpAny_bind (wpAny_setScan_of hkey ho hd hf hel ?_)
  cases hr : List.findIdx? (fun e => (intKind prog w).is k e.2) es.toList with
  | some j =>
    dsimp only
    obtain ⟨hj, hpj, _⟩ := List.findIdx?_eq_some_iff_getElem.mp hr
    have hk : k ∈ ks := hE.found (List.getElem_mem hj) hpj
    refine wpAny_pure (wpAny_pure ?_)
    have e : s = { s with heap := s.heap } := by cases s; rfl
    rw [e]
    exact h s.heap n false (Heap.SameBut.refl a s.heap) (Nat.le_succ _) ⟨o, es, ep, t, ho, hex, hd, hE.again hk, hb, hf, hA, hled, hn⟩
  | none =>
    dsimp only
    have hk : k ∉ ks := fun z => by
      obtain ⟨e, he, q⟩ := List.mem_map.mp ((hE.mem k).mp z)
      have := List.findIdx?_eq_none_iff.mp hr e he
      obtain ⟨_, v, h2⟩ := hE.ent e he
      rw [h2] at this
      rw [← q] at this
      rw [intKind_is] at this
      exact Bool.noConfusion this
    have hgw : ∀ (b : Bool) {s₁ : Shared} {Q' : Unit → Shared → Prop}, Q' () s₁ → wpAny (model prog w) A (match b with | true => rule "set.scan.the-table-gave-way" | false => pure ()) Q' E s₁ :=
      fun b s₁ Q' hq => by cases b <;> first | exact wpAny_pure hq | exact wpAny_rule hq
    have hperm := layNew_perm t es ((intKind prog w).hash k) (.int k u)
    have hfits := layNew_fits t es ((intKind prog w).hash k) (.int k u)
    obtain ⟨hA1, hl1⟩ := layNew_asc hA es ((intKind prog w).hash k) (.int k u)
    generalize hL : layNew t es ((intKind prog w).hash k) (.int k u) = L at hperm hfits hA1 hl1 ⊢
    obtain ⟨es1, t1, wasDummy, gave⟩ := L
    dsimp only at hperm hfits hA1 hl1 ⊢
    have hE1 : Ents es1 (ks ++ [k]) := (hE.push (u := u) hk).perm hperm
    have hsz1 : es1.size = n + 1 := by rw [← Array.length_toList, hperm.length_eq, Array.length_toList, Array.size_push, hn]
    have hb1' : es1.size < scanBound := by rw [hsz1]; exact hroom
    refine wpAny_bind (hgw _ ?_)
    have hend : ∀ h', Heap.SameBut a s.heap h' → SetWk h' a led (ks ++ [k]) es1.size → Q true { s with heap := h' } := fun h' hsb hS' => h h' _ true hsb (by omega) hS'
    split
    · refine wpAny_bind ?_
      rw [hashByValue_scannable 8 hsc]
      refine wpAny_pure ?_
      refine addTailW ?_ ho hex hd hE1 hb1' ?_ ?_ (led := led) ?_ ?_
      · intro b s₁ Q' hq; cases b <;> first | exact wpAny_pure hq | exact wpAny_rule hq
      · split
        · exact hfits
        · exact SetTable.fits_plain_off hfits
      · split
        · exact hA1
        · exact hA1
      · split
        · exact hl1.trans hled
        · exact hl1.trans hled
      · intro h' hsb hS'; dsimp only; exact wpAny_pure (hend h' hsb hS')
    · refine wpAny_bind (wpAny_pure ?_)
      simp only [↓reduceIte]
      refine addTailW ?_ ho hex hd hE1 hb1' hfits hA1 (hl1.trans hled) ?_
      · intro b s₁ Q' hq; cases b <;> first | exact wpAny_pure hq | exact wpAny_rule hq
      · intro h' hsb hS'; dsimp only; exact wpAny_pure (hend h' hsb hS')
theorem code_new_W (a : Value) {Q₁ : Value → Shared → Prop}
    (h : Q₁ (.ref s.heap.objs.size) { s with heap := s.heap.push { cls := .type "set", dict := none, data := .set #[] 0 (.fresh 0 0 (!byTx w)) } }) :
    codeAny (model prog w) A (.call (.builtin "set.__new__") ⟨[.type "set", a], []⟩) (wants Q₁ E) s := by
  refine codeAny_of_tree ?_
  show wpAny _ A.in1 (do checkBuiltinCall "set.__new__" ⟨[.type "set", a], []⟩; again (.builtin "set.__new__" ⟨[.type "set", a], []⟩)) _ _ s
  refine wpAny_bind (wpAny_of_eq (F.newCall_set_1 a) (wpAny_pure ⟨plainId_quiet F.plain_set_new _, codeAny_builtin F.entry_set_new ?_⟩))
  rw [Around.under_plainId F.plain_set_new _]
  unfold Builtin.«set.__new__» Builtin.Frozenset.newClass
  have hsub := sub_set_self
  obtain ⟨hp, g, d, tk, os⟩ := s
  dsimp only
  wp_walk
  refine wpAny_askSetting (wpAny_pure ?_)
  dsimp only
  simp only [newObj]
  refine wpAny_bind (wpAny_alloc (wpAny_pure ?_))
  exact wpAny_pure h
theorem fill_W {R : Result → Shared → Prop} {I : Addr} {fp wr : List Addr} {G : Array GenState → Array GenState → Prop} {n : Nat} {P : Nat → Value → Prop} {St : Nat → Shared → Prop} (W : WalksS prog w A.in1 I fp wr G n P St) {a : Addr} (ha : a ∉ fp) {ks : List Int} {led : Bool}
    (hv : ∀ i v, P i v → ∃ k u, ks[i]? = some k ∧ v = .int k u) (hb : n + 1 < scanBound) : ∀ (d i : Nat) (s : Shared) (m : Nat), n = i + d → m ≤ i → St i s → SetWk s.heap a led (ks.take i) m →
      (∀ s' m', Moved (a :: wr) G s s' → SetWk s'.heap a led (ks.take n) m' → m' ≤ n → R (.ok (.ret .none)) s') → codeAny (model prog w) A (.builtin "set.update.loop" ⟨[.ref a, .ref I], []⟩) R s := by
  have hw : a ∉ wr := fun z => ha (W.sub a z)
  intro d
  induction d with
  | zero =>
    intro i s m e hm st x fin
    rw [show n = i by omega] at W fin
    refine codeAny_builtin (R := R) (A := A) F.entry_set_update_loop ?_
    rw [Around.under_plainId (A := A) F.plain_set_update_loop _]
    show wpAny (model prog w) A.in1 (pyNext (.ref I) >>= _) _ _ s
    exact wpAny_bind (W.done s _ _ st fun s' mv => wpAny_pure (fin s' m (mv.mono fun b hb => List.mem_cons_of_mem a hb) (x.stay fun o q => mv.heap a o hw q) hm))
  | succ d ih =>
    intro i s m e hm st x fin
    refine codeAny_builtin (R := R) (A := A) F.entry_set_update_loop ?_
    rw [Around.under_plainId (A := A) F.plain_set_update_loop _]
    show wpAny (model prog w) A.in1 (pyNext (.ref I) >>= _) _ _ s
    refine wpAny_bind (W.item i s _ _ (by omega) st fun v s1 p st1 mv => ?_)
    obtain ⟨k, u, ek, rfl⟩ := hv i v p
    have x1 := x.stay fun o q => mv.heap a o hw q
    show wpAny (model prog w) A.in1 (holding [.int k u] (setAdd a (.int k u)) >>= _) _ _ s1
    refine wpAny_bind (wpAny_holding (show wpAny (model prog w) A.in1 (setAdd a (.int k u)) _ _ s1 from ?_))
    unfold setAdd
    refine wpAny_holding (wpAny_bind ((intKind prog w).pyHash (k := k) (intKind_is _ _ _ _) ?_))
    refine addW (s := { s1 with toks := s1.toks + 1 }) x1 (by omega) fun h' n' _ sb hn' x2 => ?_
    have et : ks.take (i + 1) = ks.take i ++ [k] := by rw [List.take_add_one, ek]; rfl
    rw [← et] at x2
    refine wpAny_pure ⟨plainId_quiet F.plain_set_update_loop _, ih (i + 1) { s1 with heap := h', toks := s1.toks + 1 } n' (by omega) (by omega) (W.frame (i + 1) s1 h' (s1.toks + 1) st1 (Nat.le_succ _) fun b hbf o q => (sb.2 b fun z => ha (z ▸ hbf)).trans q) x2 fun s2 m2 mv2 x4 hm2 => ?_⟩
    refine fin s2 m2 (Moved.trans W.gtrans ((mv.mono fun b hb => List.mem_cons_of_mem a hb).then_heap (Nat.le_succ _) fun b o hbn q => ?_) mv2) x4 hm2
    exact (sb.2 b fun z => hbn (z ▸ List.mem_cons_self)).trans q
theorem init_W {l : Addr} {items : Array Value} {ks : List Int} (hh : A.handled = none) (hl : s.heap.IsList l items) (hk : ∀ (i : Nat) (v : Value), items[i]? = some v → ∃ k u, ks[i]? = some k ∧ v = .int k u) (hn : ks.length = items.size) (hb : items.size + 1 < scanBound) :
    codeAny (model prog w) A (.call (.builtin "set.__init__") ⟨[.ref s.heap.objs.size, .ref l], []⟩) (wants (fun r s2 => r = .none ∧ ∃ h' tk m, s2 = { s with heap := h', toks := tk } ∧ SetWk h' s.heap.objs.size (!byTx w) ks m ∧ m ≤ ks.length ∧ ∀ b o, b < s.heap.objs.size → s.heap.get? b = some o → h'.get? b = some o) E) { s with heap := s.heap.push (newS (!byTx w)) } := by
  have g0 : (s.heap.push (newS (!byTx w))).get? s.heap.objs.size = some (newS (!byTx w)) := Heap.get?_push_size s.heap rfl
  have ty : Shared.TypeIs { s with heap := s.heap.push (newS (!byTx w)) } (.ref s.heap.objs.size) "set" := ⟨newS (!byTx w), g0, rfl⟩
  refine codeAny_call_builtin F.called_set.init.plain F.entry_set_init (check_set_init_1 ty ?_)
  obtain ⟨⟨c1, c2, c3, c4⟩, ho, hc, m, hd⟩ := hl
  dsimp only at hc hd
  subst hc hd
  have g1 : (s.heap.push (newS (!byTx w))).get? l = some { cls := .type "list", dict := c2, data := .seq items m, slots := c4 } := Heap.get?_push_of_some _ ho
  have y1 := F.sub_list_set
  have y2 := F.sub_list_frozenset
  have y3 : (Value.type "list" == Value.type "dict") = false := by decide
  have l1 : (s.heap.push (newS (!byTx w))).IsList l items := ⟨_, g1, rfl, m, rfl⟩
  have lt : l < s.heap.objs.size := Heap.lt_size ho
  have s0 : SetWk (s.heap.push (newS (!byTx w))) s.heap.objs.size (!byTx w) [] 0 := ⟨_, #[], 0, _, g0, ⟨rfl, rfl, rfl⟩, rfl, ⟨by simp, by simp, by simp⟩, by unfold scanBound; decide, rfl, List.Pairwise.nil, rfl, rfl⟩
  unfold Builtin.«set.__init__» Builtin.Frozenset.updateFrom noKeywords
  generalize hI : pyIter = it
  generalize hB : byTx w = bt at *
  wp_walk
  subst hI
  refine wpAny_pyIter_list l1 (wpAny_bind (wpAny_runValue ?_))
  have nl : l ≠ (s.heap.push (newS (!bt))).objs.size := by rw [Heap.size_push]; exact Nat.ne_of_lt (Nat.lt_succ_of_lt lt)
  have nf : s.heap.objs.size ∉ [(s.heap.push (newS (!bt))).objs.size, l] := by
    rw [Heap.size_push]
    intro z
    rcases List.mem_cons.mp z with z | z
    · exact absurd z (Nat.ne_of_lt (Nat.lt_succ_self _))
    · exact absurd (by simpa using z) (Nat.ne_of_gt lt)
  refine fill_W ((Walks.list (by simp [hh]) _ l nl items).toS) nf (ks := ks) (led := !bt) hk hb items.size 0 _ 0 (Nat.zero_add _).symm (Nat.le_refl _) ⟨⟨_, Heap.get?_push_size _ rfl, rfl, rfl⟩, l1.push _⟩ (s0.stay fun o q => Heap.get?_push_of_some _ q) fun s' m' mv x hm' => ?_
  obtain ⟨h', g', d', t', o'⟩ := s'
  obtain rfl : g' = s.gens := mv.gens
  obtain rfl : d' = s.drawn := mv.drawn
  obtain rfl : o' = s.os := mv.os
  refine wpAny_pure (show wpAny (model prog w) _ (ret Value.none) _ _ _ from wpAny_pure ⟨rfl, h', t', m', rfl, ?_, by omega, fun b o hb' q => ?_⟩)
  · rw [← hn, List.take_length] at x
    exact x
  · refine mv.heap b o (fun z => ?_) (Heap.get?_push_of_some _ (Heap.get?_push_of_some _ q))
    rcases List.mem_cons.mp z with z | z
    · exact absurd z (Nat.ne_of_lt hb')
    · have z2 : b = (s.heap.push (newS (!bt))).objs.size := by simpa using z
      rw [Heap.size_push] at z2
      exact absurd z2 (Nat.ne_of_lt (Nat.lt_succ_of_lt hb'))
set_option maxRecDepth 100000 in
/-- set(xs) of a list of ints -/
theorem call_setW {l : Addr} {items : Array Value} {ks : List Int} {Q : Value → Shared → Prop} (hh : A.handled = none) (hl : s.heap.IsList l items) (hk : ∀ (i : Nat) (v : Value), items[i]? = some v → ∃ k u, ks[i]? = some k ∧ v = .int k u) (hn : ks.length = items.size) (hb : items.size + 1 < scanBound)
    (h : ∀ h' tk m, SetWk h' s.heap.objs.size (!byTx w) ks m → m ≤ ks.length → (∀ b o, b < s.heap.objs.size → s.heap.get? b = some o → h'.get? b = some o) → Q (.ref s.heap.objs.size) { s with heap := h', toks := tk }) : wpAny (model prog w) A (call (.type "set") [.ref l]) Q E s := by
  obtain ⟨c, tl, mro⟩ := F.called_set.mro
  have a1 := F.called_set.made
  have a2 := F.called_set.sub
  have a3 := F.called_set.notType
  have a4 := F.called_set.canCreate
  have a5 := F.typeCall_set_1 (.ref l)
  refine wpAny_call (codeAny_of_tree (show wpAny (model prog w) _ (callAny (.type "set") _) _ _ _ from wpAny_pure ⟨Code.quiet_builtin _ (by decide +kernel), codeAny_builtin F.entry_type_call ?_⟩))
  rw [Around.under_plain (A := A) (weight_type_call_type "set" [.ref l] []) rfl]
  repeat (any_goals (first | assumption | wp_step))
  refine codeAny_mono (code_new_W (.ref l) (E := E) (Q₁ := fun ob s1 => ob = .ref s.heap.objs.size ∧ s1 = { s with heap := s.heap.push (newS (!byTx w)) }) ⟨rfl, rfl⟩) fun r s1 hr => ?_
  cases r with
  | error e => exact hr
  | ok fl =>
    cases fl with
    | ret ob =>
      obtain ⟨rfl, rfl⟩ := hr
      have g0 : (s.heap.push (newS (!byTx w))).get? s.heap.objs.size = some (newS (!byTx w)) := Heap.get?_push_size s.heap rfl
      have ty : Shared.TypeIs { s with heap := s.heap.push (newS (!byTx w)) } (.ref s.heap.objs.size) "set" := ⟨newS (!byTx w), g0, rfl⟩
      have b1 := F.called_set.init.lookup
      have b2 := F.called_set.init.bind (.ref s.heap.objs.size)
      repeat (any_goals (first | assumption | wp_step))
      refine codeAny_mono (init_W (E := E) (by simp [hh]) hl hk hn hb) fun r2 s2 hr2 => ?_
      cases r2 with
      | error e => exact hr2
      | ok f2 =>
        cases f2 with
        | ret r =>
          obtain ⟨rfl, h', tk, m, rfl, x, hm, kp⟩ := hr2
          repeat (any_goals (first | assumption | wp_step))
          exact h h' tk m x hm kp
        | _ => exact hr2.elim
    | _ => exact hr.elim
end
end L2

namespace L2
open PySem PySem.Spec PyProof.Rows
set_option maxRecDepth 100000
/-! ### a set of ints is walked -/
theorem slot_setit_next : Slot "set_iterator" "__next__" "set_iterator.__next__" :=
  .of (owner := "set_iterator") (n := "__next__") (by rw [typeLookup_type, builtinLookup_eq_fast]; kernel_rfl) (by decide +kernel) (by decide +kernel) (by decide +kernel)
    (by first | exact .inl (by decide +kernel) | exact .inr (by decide +kernel)) (by rw [isSubtype_type]; kernel_rfl)
theorem slot_setit_iter : Slot "set_iterator" "__iter__" "set_iterator.__iter__" :=
  .of (owner := "set_iterator") (n := "__iter__") (by rw [typeLookup_type, builtinLookup_eq_fast]; kernel_rfl) (by decide +kernel) (by decide +kernel) (by decide +kernel)
    (by first | exact .inl (by decide +kernel) | exact .inr (by decide +kernel)) (by rw [isSubtype_type]; kernel_rfl)
theorem entry_setit_next : entryFor table "set_iterator.__next__" = some Builtin.«set_iterator.__next__» := entryFor_of_fast (by kernel_rfl)
theorem entry_setit_iter : entryFor table "set_iterator.__iter__" = some Builtin.«dict_keyiterator.__iter__» :=
  entryFor_alias (id' := "dict_keyiterator.__iter__") (by kernel_rfl) rfl (by decide +kernel) (by kernel_rfl)
theorem entry_set_iter : entryFor table "set.__iter__" = some Builtin.«frozenset.__iter__» :=
  entryFor_alias (id' := "frozenset.__iter__") (by kernel_rfl) rfl (by decide +kernel) (by kernel_rfl)
theorem args_setit_next (a : Value) : argsOk "set_iterator.__next__" ⟨[a], []⟩ := by unfold argsOk; kernel_rfl
theorem args_setit_iter (a : Value) : argsOk "set_iterator.__iter__" ⟨[a], []⟩ := by unfold argsOk; kernel_rfl
/-- the record of a walk over a set -/
abbrev itObj (first : Value) (i : Int) (s : Value) (n ep : Nat) : Obj := { cls := .type "set_iterator", data := .fields #[first, .int i 0, s, .int n 0, .int ep 0] }
section
variable {prog : Program} {w : World} {A : Around} {E : Value → Shared → Prop} {s : Shared}
theorem wpAny_choose {src : Source} {n : Nat} {Q : Nat → Shared → Prop} (hn : n ≠ 0) (h : Q (w.draws src (s.drawn.get src) % n) { s with drawn := s.drawn.bump src }) :
    wpAny (model prog w) A (choose src n) Q E s := fun _ _ _ => ⟨hn, h⟩
theorem drawOrder_perm {α : Type} : ∀ (n : Nat) (xs : List α) (s : Shared) {Q : List α → Shared → Prop}, n = xs.length → (∀ ys d, ys.Perm xs → Q ys { s with drawn := d }) → wpAny (model prog w) A (drawOrder n xs) Q E s := by
  intro n
  induction n with
  | zero =>
    intro xs s Q e h
    have : xs = [] := List.length_eq_zero_iff.mp e.symm
    subst this
    unfold drawOrder
    exact wpAny_pure (h [] s.drawn (.refl _))
  | succ n ih =>
    intro xs s Q e h
    cases xs with
    | nil => simp at e
    | cons x r =>
      unfold drawOrder
      refine wpAny_bind (wpAny_choose (by simp) ?_)
      generalize hi : w.draws Source.order (s.drawn.get Source.order) % (x :: r).length = i
      have hlt : i < (x :: r).length := by rw [← hi]; exact Nat.mod_lt _ (by simp)
      have eg : (x :: r)[i]? = some (x :: r)[i] := List.getElem?_eq_getElem hlt
      rw [eg]
      try dsimp only
      refine wpAny_bind (ih _ _ (by rw [List.length_eraseIdx_of_lt hlt]; omega) fun ys d p => wpAny_pure ?_)
      exact h _ d ((p.cons _).trans (perm_eraseIdx eg))
/-- the record's own next -/
theorem next_slot {I a : Addr} {slot i : Nat} {o : Obj} {es : Array (Int × Value)} {ep : Nat} {t : SetTable} {Q : Option Value → Shared → Prop}
    (hI : s.heap.get? I = some (itObj (.int slot 0) i (.ref a) es.size ep)) (ho : s.heap.get? a = some o) (hd : o.data = .set es ep t) (hf : t.fits es.size = true)
    {x : Value} {nx : Nat} (hN : ∀ (Q' : Option (Value × Nat) → Shared → Prop) E', Q' (some (x, nx)) s → wpAny (model prog w) A.in1 (setNext a slot i ep) Q' E' s)
    (hQ : ∀ h', h'.get? I = some (itObj (.int nx 0) ((i + 1 : Nat) : Int) (.ref a) es.size ep) → Heap.SameBut I s.heap h' → Q (some x) { s with heap := h' }) :
    wpAny (model prog w) A (pyNext (.ref I)) Q E s := by
  have hT : s.TypeIs (.ref I) "set_iterator" := ⟨_, hI, rfl⟩
  unfold pyNext
  refine wpAny_bind (wpAny_attempt (wpAny_callSpecial?_slot (name := Str.ofString "__next__") hT slot_setit_next (wpAny_call_entry slot_setit_next hT entry_setit_next ?_ (args_setit_next _))))
  unfold Builtin.«set_iterator.__next__»
  refine wpAny_bind (m := slotArgs "__next__" 0 _) (wpAny_pure ?_)
  refine wpAny_bind (wpAny_fieldsOf hI rfl ?_)
  try dsimp only
  refine wpAny_bind (wpAny_setEntries_of ho hd hf ?_)
  rw [if_neg (by simp)]
  try dsimp only
  simp only [Int.toNat_natCast]
  refine wpAny_bind (hN _ _ ?_)
  try dsimp only
  refine wpAny_bind (wpAny_setField_rec hI (by simp) fun h1 g1 sb1 => ?_)
  refine wpAny_bind (wpAny_setField_rec (s := { s with heap := h1 }) g1 (by simp) fun h2 g2 sb2 => ?_)
  refine wpAny_pure ⟨x, rfl, wpAny_pure (hQ h2 ?_ (sb1.trans sb2))⟩
  rw [g2]
  simp [itObj, rawInt]
theorem next_none {I a : Addr} {slot i : Nat} {o : Obj} {es : Array (Int × Value)} {ep : Nat} {t : SetTable} {Q : Option Value → Shared → Prop} (hh : A.handled = none)
    (hI : s.heap.get? I = some (itObj (.int slot 0) i (.ref a) es.size ep)) (ho : s.heap.get? a = some o) (hd : o.data = .set es ep t) (hf : t.fits es.size = true)
    (hN : ∀ (Q' : Option (Value × Nat) → Shared → Prop) E', Q' none s → wpAny (model prog w) A.in1 (setNext a slot i ep) Q' E' s)
    (hQ : ∀ h', Heap.ExtBut I s.heap h' → Q none { s with heap := h' }) :
    wpAny (model prog w) A (pyNext (.ref I)) Q E s := by
  have hT : s.TypeIs (.ref I) "set_iterator" := ⟨_, hI, rfl⟩
  unfold pyNext
  refine wpAny_bind (wpAny_attempt (wpAny_callSpecial?_slot (name := Str.ofString "__next__") hT slot_setit_next (wpAny_call_entry slot_setit_next hT entry_setit_next ?_ (args_setit_next _))))
  unfold Builtin.«set_iterator.__next__»
  refine wpAny_bind (m := slotArgs "__next__" 0 _) (wpAny_pure ?_)
  refine wpAny_bind (wpAny_fieldsOf hI rfl ?_)
  try dsimp only
  refine wpAny_bind (wpAny_setEntries_of ho hd hf ?_)
  rw [if_neg (by simp)]
  try dsimp only
  simp only [Int.toNat_natCast]
  refine wpAny_bind (hN _ _ ?_)
  try dsimp only
  refine wpAny_bind (wpAny_setField hI rfl (by simp) ?_)
  show wpAny _ _ (newExc (.type "StopIteration") [] >>= _) _ _ _
  refine wpAny_bind ?_
  simp only [newExc, newTuple]
  refine wpAny_bind (wpAny_newObj_type ?_ (by size_fits))
  refine wpAny_bind (m := firstArgMember _ _) (wpAny_of_eq (a := Value.none) (by first | rfl | (simp only [firstArgMember]; rfl)) ?_)
  refine wpAny_newObj_type ?_ (by size_fits)
  simp only [raiseNew]
  refine wpAny_bind (wpAny_handled ?_)
  rw [show A.in1.handled = none from hh]
  refine wpAny_bind (wpAny_pure (wpAny_throw ?_))
  refine wpAny_bind (wpAny_isInstance (T := "StopIteration") (b := true) ⟨_, Heap.get?_push_size _ rfl, rfl⟩ isSubtype_stop ?_)
  exact wpAny_pure (hQ _ (((Heap.SameBut.update ..).extBut.push _).push _))
theorem next_drawn {I a tp : Addr} {i : Nat} {o : Obj} {es : Array (Int × Value)} {ep : Nat} {t : SetTable} {places : List Nat} {m : Nat} {to : Obj} {Q : Option Value → Shared → Prop}
    (hI : s.heap.get? I = some (itObj (.ref tp) i (.ref a) es.size ep)) (ht : s.heap.get? tp = some to) (htd : to.data = .seq (places.map fun (p : Nat) => rawInt p).toArray m) (ho : s.heap.get? a = some o) (hd : o.data = .set es ep t) (hf : t.fits es.size = true)
    {p : Nat} (hp : places[i]? = some p) {e : Int × Value} (he : es[p]? = some e)
    (hQ : ∀ h', h'.get? I = some (itObj (.ref tp) ((i + 1 : Nat) : Int) (.ref a) es.size ep) → Heap.SameBut I s.heap h' → Q (some e.2) { s with heap := h' }) :
    wpAny (model prog w) A (pyNext (.ref I)) Q E s := by
  have hT : s.TypeIs (.ref I) "set_iterator" := ⟨_, hI, rfl⟩
  unfold pyNext
  refine wpAny_bind (wpAny_attempt (wpAny_callSpecial?_slot (name := Str.ofString "__next__") hT slot_setit_next (wpAny_call_entry slot_setit_next hT entry_setit_next ?_ (args_setit_next _))))
  unfold Builtin.«set_iterator.__next__»
  refine wpAny_bind (m := slotArgs "__next__" 0 _) (wpAny_pure ?_)
  refine wpAny_bind (wpAny_fieldsOf hI rfl ?_)
  try dsimp only
  refine wpAny_bind (wpAny_setEntries_of ho hd hf ?_)
  rw [if_neg (by simp)]
  try dsimp only
  refine wpAny_bind (wpAny_seqItems ht htd ?_)
  try dsimp only
  have eg : (places.map fun (p : Nat) => rawInt p).toArray[(i : Int).toNat]? = some (.int p 0) := by simp [hp, rawInt]
  rw [eg]
  try dsimp only
  unfold setNextDrawn
  refine wpAny_bind (wpAny_bind (wpAny_setState_of ho hd hf ?_))
  try dsimp only
  rw [if_neg (by simp)]
  refine wpAny_bind (wpAny_pure ?_)
  simp only [Int.toNat_natCast, he]
  refine wpAny_pure ?_
  refine wpAny_bind (wpAny_setField_rec hI (by simp) fun h1 g1 sb1 => ?_)
  refine wpAny_pure ⟨e.2, rfl, wpAny_pure (hQ h1 ?_ sb1)⟩
  rw [g1]
  simp [itObj, rawInt]
theorem next_drawn_end {I a tp : Addr} {i : Nat} {o : Obj} {es : Array (Int × Value)} {ep : Nat} {t : SetTable} {places : List Nat} {m : Nat} {to : Obj} {Q : Option Value → Shared → Prop} (hh : A.handled = none)
    (hI : s.heap.get? I = some (itObj (.ref tp) i (.ref a) es.size ep)) (ht : s.heap.get? tp = some to) (htd : to.data = .seq (places.map fun (p : Nat) => rawInt p).toArray m) (ho : s.heap.get? a = some o) (hd : o.data = .set es ep t) (hf : t.fits es.size = true)
    (hp : places[i]? = none) (hQ : ∀ h', Heap.ExtBut I s.heap h' → Q none { s with heap := h' }) :
    wpAny (model prog w) A (pyNext (.ref I)) Q E s := by
  have hT : s.TypeIs (.ref I) "set_iterator" := ⟨_, hI, rfl⟩
  unfold pyNext
  refine wpAny_bind (wpAny_attempt (wpAny_callSpecial?_slot (name := Str.ofString "__next__") hT slot_setit_next (wpAny_call_entry slot_setit_next hT entry_setit_next ?_ (args_setit_next _))))
  unfold Builtin.«set_iterator.__next__»
  refine wpAny_bind (m := slotArgs "__next__" 0 _) (wpAny_pure ?_)
  refine wpAny_bind (wpAny_fieldsOf hI rfl ?_)
  try dsimp only
  refine wpAny_bind (wpAny_setEntries_of ho hd hf ?_)
  rw [if_neg (by simp)]
  try dsimp only
  refine wpAny_bind (wpAny_seqItems ht htd ?_)
  try dsimp only
  have eg : (places.map fun (p : Nat) => rawInt p).toArray[(i : Int).toNat]? = none := by simp at hp ⊢; exact hp
  rw [eg]
  try dsimp only
  refine wpAny_bind (wpAny_setField_rec hI (by simp) fun h1 g1 sb1 => ?_)
  refine wpAny_bind (wpAny_setField (s := { s with heap := h1 }) g1 rfl (by simp) ?_)
  show wpAny _ _ (newExc (.type "StopIteration") [] >>= _) _ _ _
  refine wpAny_bind ?_
  simp only [newExc, newTuple]
  refine wpAny_bind (wpAny_newObj_type ?_ (by size_fits))
  refine wpAny_bind (m := firstArgMember _ _) (wpAny_of_eq (a := Value.none) (by first | rfl | (simp only [firstArgMember]; rfl)) ?_)
  refine wpAny_newObj_type ?_ (by size_fits)
  simp only [raiseNew]
  refine wpAny_bind (wpAny_handled ?_)
  rw [show A.in1.handled = none from hh]
  refine wpAny_bind (wpAny_pure (wpAny_throw ?_))
  refine wpAny_bind (wpAny_isInstance (T := "StopIteration") (b := true) ⟨_, Heap.get?_push_size _ rfl, rfl⟩ isSubtype_stop ?_)
  exact wpAny_pure (hQ _ (((sb1.trans (Heap.SameBut.update ..)).extBut.push _).push _))
theorem self_setit {I : Addr} {first : Value} {i : Int} {v : Value} {n ep : Nat} {Q : Value → Shared → Prop} (hI : s.heap.get? I = some (itObj first i v n ep)) (h : Q (.ref I) s) : wpAny (model prog w) A (pyIter (.ref I)) Q E s := by
  have hT : s.TypeIs (.ref I) "set_iterator" := ⟨_, hI, rfl⟩
  refine wpAny_pyIter_slot hT slot_setit_iter (wpAny_call_entry slot_setit_iter hT entry_setit_iter ?_ (args_setit_iter _))
  show wpAny _ _ (ret (.ref I)) _ _ s
  exact wpAny_pure ⟨_, rfl, "set_iterator", _, hT, slot_setit_next.lookup, h⟩
/-- a set is walked in the order of the text -/
theorem setNext_text {a : Addr} {o : Obj} {es : Array (Int × Value)} {ep : Nat} {t : SetTable} {slot i : Nat} (hb : byTx w = true) (ho : s.heap.get? a = some o) (hd : o.data = .set es ep t) (hf : t.fits es.size = true)
    {Q : Option (Value × Nat) → Shared → Prop} (h : Q (((pickOrder (w.params.setOrder a ep) es)[i]?).map fun e => (e.2, slot)) s) : wpAny (model prog w) A (setNext a slot i ep) Q E s := by
  have hb' : ((Setting.mk prog w.params).params.followText "set-order") = true := hb
  unfold setNext
  refine wpAny_bind (wpAny_setState_of ho hd hf ?_)
  try dsimp only
  unfold setsByText
  refine wpAny_bind (wpAny_bind (wpAny_askSetting (wpAny_pure ?_)))
  show wpAny _ _ (if (Setting.mk prog w.params).params.followText "set-order" = true then _ else _) _ _ _
  rw [if_pos hb', if_neg (by simp)]
  unfold setWalk
  refine wpAny_bind (wpAny_bind (wpAny_setState_of ho hd hf ?_))
  try dsimp only
  unfold setsByText
  refine wpAny_bind (wpAny_bind (wpAny_askSetting (wpAny_pure ?_)))
  show wpAny _ _ (if (Setting.mk prog w.params).params.followText "set-order" = true then _ else _) _ _ _
  rw [if_pos hb']
  refine wpAny_bind (wpAny_askSetting (wpAny_pure (wpAny_pure h)))
/-- a set is walked by its places -/
theorem setNext_place {a : Addr} {o : Obj} {es : Array (Int × Value)} {ep : Nat} {t : SetTable} {slot i : Nat} (hb : byTx w = false) (ho : s.heap.get? a = some o) (hd : o.data = .set es ep t) (hf : t.fits es.size = true) (hl : t.led = true) (hp : (!t.plain && decide (es.size > 1)) = false)
    {Q : Option (Value × Nat) → Shared → Prop} (h : Q (match es[SetTable.below t.place slot]?, t.place[SetTable.below t.place slot]? with | some (_, x), some j => some (x, j + 1) | _, _ => none) s) : wpAny (model prog w) A (setNext a slot i ep) Q E s := by
  have hb' : ((Setting.mk prog w.params).params.followText "set-order") = false := hb
  unfold setNext
  refine wpAny_bind (wpAny_setState_of ho hd hf ?_)
  try dsimp only
  unfold setsByText
  refine wpAny_bind (wpAny_bind (wpAny_askSetting (wpAny_pure ?_)))
  show wpAny _ _ (if (Setting.mk prog w.params).params.followText "set-order" = true then _ else _) _ _ _
  rw [if_neg (by rw [hb']; exact Bool.false_ne_true)]
  show wpAny _ _ (if (!t.plain && decide (es.size > 1)) = true then _ else _) _ _ _
  rw [if_neg (by rw [hp]; exact Bool.false_ne_true)]
  show wpAny _ _ ((if (!t.led && !es.isEmpty) = true then unsupported "set:maker-not-led" else pure ()) >>= _) _ _ _
  rw [hl, if_neg (by simp)]
  exact wpAny_bind (wpAny_pure (wpAny_pure h))
end
end L2

namespace L2
open PySem PySem.Spec PyProof.Rows
set_option maxRecDepth 100000
section
variable {prog : Program} {w : World} {A : Around} {E : Value → Shared → Prop} {s : Shared}
abbrev GSame : Array GenState → Array GenState → Prop := fun g g' => g' = g
theorem moved_but {I : Addr} {h' : Heap} (sb : Heap.SameBut I s.heap h') : Moved [I] GSame s { s with heap := h' } :=
  ⟨fun b o hb e => (sb.2 b fun z => hb (z ▸ List.mem_cons_self)).trans e, rfl, rfl, rfl, Nat.le_refl _⟩
theorem moved_ext {I : Addr} {h' : Heap} (sb : Heap.ExtBut I s.heap h') : Moved [I] GSame s { s with heap := h' } :=
  ⟨fun b o hb e => sb b o (fun z => hb (z ▸ List.mem_cons_self)) e, rfl, rfl, rfl, Nat.le_refl _⟩
/-- walked by a place that is kept in the record -/
theorem walks_slot (hh : A.handled = none) {I a : Addr} (hne : a ≠ I) {o : Obj} {es : Array (Int × Value)} {ep : Nat} {t : SetTable} (hd : o.data = .set es ep t) (hf : t.fits es.size = true) {ord : List Value} (hlen : ord.length = es.size) (sl : Nat → Nat)
    (hN : ∀ (i : Nat) (x : Value) (s : Shared) (Q' : Option (Value × Nat) → Shared → Prop) E', s.heap.get? a = some o → ord[i]? = some x → Q' (some (x, sl (i + 1))) s → wpAny (model prog w) A.in1 (setNext a (sl i) i ep) Q' E' s)
    (hE : ∀ (s : Shared) (Q' : Option (Value × Nat) → Shared → Prop) E', s.heap.get? a = some o → Q' none s → wpAny (model prog w) A.in1 (setNext a (sl es.size) es.size ep) Q' E' s) :
    WalksS prog w A I [I, a] [I] GSame es.size (fun i v => ord[i]? = some v) (fun i s => s.heap.get? I = some (itObj (.int (sl i) 0) i (.ref a) es.size ep) ∧ s.heap.get? a = some o) where
  sub := fun b hb => by simp at hb; simp [hb]
  grefl := fun _ => rfl
  gtrans := fun _ _ _ h1 h2 => h2.trans h1
  frame := fun i s h' tk st _ k => ⟨k I (by simp) _ st.1, k a (by simp) _ st.2⟩
  item := fun i s Q E hi st hQ => by
    have ex : ord[i]? = some ord[i] := List.getElem?_eq_getElem (by omega)
    refine next_slot st.1 st.2 hd hf (x := ord[i]) (nx := sl (i + 1)) (fun Q' E' q => hN i _ s Q' E' st.2 ex q) fun h' g sb => ?_
    exact hQ _ _ ex ⟨g, (sb.2 a hne).trans st.2⟩ (moved_but sb)
  done := fun s Q E st hQ => next_none hh st.1 st.2 hd hf (fun Q' E' q => hE s Q' E' st.2 q) fun h' eb => hQ _ (moved_ext eb)
  self := fun i s Q E st hQ => self_setit st.1 hQ
/-- walked in a drawn order -/
theorem walks_drawn (hh : A.handled = none) {I a tp : Addr} (hne : a ≠ I) (hnt : tp ≠ I) {o to : Obj} {es : Array (Int × Value)} {ep m : Nat} {t : SetTable} (hd : o.data = .set es ep t) (hf : t.fits es.size = true) {places : List Nat} (htd : to.data = .seq (places.map fun (p : Nat) => rawInt p).toArray m)
    (hpl : places.length = es.size) {ord : List Value} (hord : ∀ (i : Nat), i < es.size → ∃ p e, places[i]? = some p ∧ es[p]? = some e ∧ ord[i]? = some e.2) :
    WalksS prog w A I [I, a, tp] [I] GSame es.size (fun i v => ord[i]? = some v) (fun i s => s.heap.get? I = some (itObj (.ref tp) i (.ref a) es.size ep) ∧ s.heap.get? a = some o ∧ s.heap.get? tp = some to) where
  sub := fun b hb => by simp at hb; simp [hb]
  grefl := fun _ => rfl
  gtrans := fun _ _ _ h1 h2 => h2.trans h1
  frame := fun i s h' tk st _ k => ⟨k I (by simp) _ st.1, k a (by simp) _ st.2.1, k tp (by simp) _ st.2.2⟩
  item := fun i s Q E hi st hQ => by
    obtain ⟨p, e, h1, h2, h3⟩ := hord i hi
    refine next_drawn st.1 st.2.2 htd st.2.1 hd hf h1 h2 fun h' g sb => ?_
    exact hQ _ _ h3 ⟨g, (sb.2 a hne).trans st.2.1, (sb.2 tp hnt).trans st.2.2⟩ (moved_but sb)
  done := fun s Q E st hQ => next_drawn_end hh st.1 st.2.2 htd st.2.1 hd hf (List.getElem?_eq_none (by omega)) fun h' eb => hQ _ (moved_ext eb)
  self := fun i s Q E st hQ => self_setit st.1 hQ
/-- the walk over a set of ints begins -/
theorem iter_set {a : Addr} {o : Obj} {es : Array (Int × Value)} {ep : Nat} {t : SetTable} {Q : Value → Shared → Prop} (ho : s.heap.get? a = some o) (hex : o.ExactSet) (hd : o.data = .set es ep t) (hb : es.size < scanBound) (hf : t.fits es.size = true) (ha : Asc t.place) (hl : t.led = !byTx w)
    (h : ∀ (I : Addr) (h' : Heap) (d : Drawn) (ord : List Value) (fp : List Addr) (St : Nat → Shared → Prop), (∀ b u, s.heap.get? b = some u → h'.get? b = some u) → ord.Perm (es.toList.map (·.2)) →
      (∀ A' : Around, A'.handled = none → WalksS prog w A' I fp [I] GSame es.size (fun i v => ord[i]? = some v) St) → St 0 { s with heap := h', drawn := d } → s.heap.objs.size ≤ I → (∀ b ∈ fp, b = a ∨ s.heap.objs.size ≤ b) → Q (.ref I) { s with heap := h', drawn := d }) :
    wpAny (model prog w) A (pyIter (.ref a)) Q E s := by
  have hT : s.TypeIs (.ref a) "set" := ⟨o, ho, hex.1⟩
  have la : a < s.heap.objs.size := Heap.lt_size ho
  refine wpAny_pyIter_slot hT F.slot_set_iter (wpAny_call_entry F.slot_set_iter hT entry_set_iter ?_ (F.args_set_iter_1 _))
  unfold Builtin.«frozenset.__iter__» Builtin.Frozenset.slot0
  refine wpAny_bind (wpAny_bind (m := slotArgs "__iter__" 0 _) (wpAny_pure ?_))
  unfold Builtin.Frozenset.addrOf
  refine wpAny_pure ?_
  unfold Builtin.Frozenset.sizeOf
  refine wpAny_bind (wpAny_bind (wpAny_setEntries_of ho hd hf (wpAny_pure ?_)))
  unfold setDrawn
  refine wpAny_bind (wpAny_bind (wpAny_setState_of ho hd hf ?_))
  try dsimp only
  unfold setsByText
  refine wpAny_bind (wpAny_bind (wpAny_askSetting (wpAny_pure ?_)))
  refine wpAny_pure ?_
  show wpAny _ _ (if (!byTx w && (!t.plain && decide (es.size > 1))) = true then _ else _) _ _ _
  have hsz : es.toList.length = es.size := Array.length_toList
  by_cases c : (!byTx w && (!t.plain && decide (es.size > 1))) = true
  · rw [if_pos c]
    refine wpAny_bind (drawOrder_perm es.size (List.range es.size) s (by simp) fun ys d p => ?_)
    refine wpAny_bind (wpAny_newTuple ?_ ?_)
    rotate_left
    · rw [List.length_map, p.length_eq, List.length_range]; unfold scanBound at hb; unfold sizeLine; omega
    generalize hto : ({ cls := .type "tuple", data := .seq (ys.map fun (i : Nat) => rawInt i).toArray } : Obj) = to
    have gt : (s.heap.push to).get? s.heap.objs.size = some to := by rw [← hto]; exact Heap.get?_push_size _ rfl
    have ga : (s.heap.push to).get? a = some o := Heap.get?_push_of_some _ ho
    refine wpAny_bind (m := setEpoch a) (wpAny_setEpoch_of (s := { s with heap := s.heap.push to, drawn := d }) ga hd hf ?_)
    refine wpAny_bind (wpAny_newObj_type ?_ (by size_fits))
    have hI : ((s.heap.push to).push (itObj (.ref s.heap.objs.size) (0 : Nat) (.ref a) es.size ep)).get? (s.heap.push to).objs.size = some (itObj (.ref s.heap.objs.size) (0 : Nat) (.ref a) es.size ep) := Heap.get?_push_size _ rfl
    refine wpAny_pure ⟨_, rfl, "set_iterator", _, ⟨_, hI, rfl⟩, slot_setit_next.lookup, ?_⟩
    have hp : ∀ i, i < es.size → ∃ p e, ys[i]? = some p ∧ es[p]? = some e ∧ (ys.map fun p => (es[p]?.map (·.2)).getD .none)[i]? = some e.2 := fun i hi => by
      have hi' : i < ys.length := by rw [p.length_eq, List.length_range]; exact hi
      have e1 : ys[i]? = some ys[i] := List.getElem?_eq_getElem hi'
      have lt : ys[i] < es.size := List.mem_range.mp (p.mem_iff.mp (List.getElem_mem hi'))
      have e2 : es[ys[i]]? = some es[ys[i]] := Array.getElem?_eq_getElem lt
      exact ⟨ys[i], es[ys[i]], e1, e2, by rw [List.getElem?_map, e1]; simp [e2]⟩
    have hperm : (ys.map fun p => (es[p]?.map (·.2)).getD Value.none).Perm (es.toList.map (·.2)) := by
      refine (p.map _).trans (List.Perm.of_eq ?_)
      apply List.ext_getElem
      · simp
      · intro i h1 h2
        simp at h1
        simp [h1]
    refine h _ _ d _ [(s.heap.push to).objs.size, a, s.heap.objs.size] _ (fun b u e => Heap.get?_push_of_some _ (Heap.get?_push_of_some _ e)) hperm
      (fun A' hA => walks_drawn hA (places := ys) (to := to) (m := 0) (by rw [Heap.size_push]; exact Nat.ne_of_lt (Nat.lt_succ_of_lt la)) (by rw [Heap.size_push]; exact Nat.ne_of_lt (Nat.lt_succ_self _)) hd hf (by rw [← hto]) (by rw [p.length_eq, List.length_range]) hp)
      ⟨hI, Heap.get?_push_of_some _ ga, Heap.get?_push_of_some _ gt⟩ (by rw [Heap.size_push]; exact Nat.le_succ _) fun b hb => ?_
    rcases List.mem_cons.mp hb with rfl | hb
    · exact .inr (by rw [Heap.size_push]; exact Nat.le_succ _)
    · rcases List.mem_cons.mp hb with rfl | hb
      · exact .inl rfl
      · have : b = s.heap.objs.size := by simpa using hb
        exact .inr (by rw [this]; exact Nat.le_refl _)
  · rw [if_neg c]
    refine wpAny_bind (wpAny_pure ?_)
    refine wpAny_bind (m := setEpoch a) (wpAny_setEpoch_of ho hd hf ?_)
    refine wpAny_bind (wpAny_newObj_type ?_ (by size_fits))
    have hI : (s.heap.push (itObj (.int (0 : Nat) 0) (0 : Nat) (.ref a) es.size ep)).get? s.heap.objs.size = some (itObj (.int (0 : Nat) 0) (0 : Nat) (.ref a) es.size ep) := Heap.get?_push_size _ rfl
    refine wpAny_pure ⟨_, rfl, "set_iterator", _, ⟨_, hI, rfl⟩, slot_setit_next.lookup, ?_⟩
    have ne : a ≠ s.heap.objs.size := Nat.ne_of_lt la
    have fpa : ∀ b ∈ [s.heap.objs.size, a], b = a ∨ s.heap.objs.size ≤ b := fun b hb => by
      rcases List.mem_cons.mp hb with rfl | hb
      · exact .inr (Nat.le_refl _)
      · exact .inl (by simpa using hb)
    cases hbt : byTx w with
    | true =>
      have pp := pick_perm (w.params.setOrder a ep) es
      have hlen : ((pickOrder (w.params.setOrder a ep) es).toList.map (·.2)).length = es.size := by rw [List.length_map, pp.length_eq, hsz]
      refine h _ _ s.drawn ((pickOrder (w.params.setOrder a ep) es).toList.map (·.2)) [s.heap.objs.size, a] _ (fun b u e => Heap.get?_push_of_some _ e) (pp.map _)
        (fun A' hA => walks_slot hA ne hd hf hlen (fun _ => 0) (fun i x s' Q' E' g ex q => setNext_text hbt g hd hf ?_) fun s' Q' E' g q => setNext_text hbt g hd hf ?_) ⟨hI, Heap.get?_push_of_some _ ho⟩ (Nat.le_refl _) fpa
      · rw [List.getElem?_map, Array.getElem?_toList] at ex
        cases e : (pickOrder (w.params.setOrder a ep) es)[i]? with
        | none => rw [e] at ex; cases ex
        | some z => rw [e] at ex; injection ex with ex; subst ex; exact q
      · have e : (pickOrder (w.params.setOrder a ep) es)[es.size]? = none := by
          rw [← Array.getElem?_toList]
          exact List.getElem?_eq_none (by rw [List.length_map] at hlen; omega)
        rw [e]; exact q
    | false =>
      have hl' : t.led = true := by rw [hl, hbt]; rfl
      have hp : (!t.plain && decide (es.size > 1)) = false := by
        rw [hbt] at c
        simpa using c
      have hps : t.place.size = es.size := by
        have := hf
        simp only [SetTable.fits, Bool.and_eq_true, beq_iff_eq] at this
        exact this.1
      have bel : ∀ i, i ≤ es.size → SetTable.below t.place (match i with | 0 => 0 | k + 1 => t.place.getD k 0 + 1) = i := fun i hi => by
        cases i with
        | zero => exact below_first ha
        | succ k =>
          have hk : k < t.place.size := by omega
          have eg : t.place.getD k 0 = t.place[k] := by simp [Array.getD, hk]
          show SetTable.below t.place (t.place.getD k 0 + 1) = k + 1
          rw [eg]; exact below_next ha hk
      refine h _ _ s.drawn (es.toList.map (·.2)) [s.heap.objs.size, a] _ (fun b u e => Heap.get?_push_of_some _ e) (.refl _)
        (fun A' hA => walks_slot hA ne hd hf (by rw [List.length_map, hsz]) (fun i => match i with | 0 => 0 | k + 1 => t.place.getD k 0 + 1) (fun i x s' Q' E' g ex q => setNext_place hbt g hd hf hl' hp ?_) fun s' Q' E' g q => setNext_place hbt g hd hf hl' hp ?_) ⟨hI, Heap.get?_push_of_some _ ho⟩ (Nat.le_refl _) fpa
      · have hi : i < es.size := by
          obtain ⟨z, _⟩ := List.getElem?_eq_some_iff.mp ex
          rw [List.length_map, hsz] at z; exact z
        rw [bel i (Nat.le_of_lt hi)]
        have e1 : es[i]? = some es[i] := Array.getElem?_eq_getElem hi
        have e2 : t.place[i]? = some t.place[i] := Array.getElem?_eq_getElem (by omega)
        have e3 : x = es[i].2 := by
          rw [List.getElem?_map, Array.getElem?_toList, e1] at ex
          injection ex with ex; exact ex.symm
        rw [e1, e2]
        have e4 : t.place.getD i 0 = t.place[i] := by simp [Array.getD, show i < t.place.size by omega]
        subst e3
        have q2 : Q' (some (es[i].2, t.place.getD i 0 + 1)) s' := q
        rw [e4] at q2
        exact q2
      · rw [bel es.size (Nat.le_refl _)]
        have e1 : es[es.size]? = none := Array.getElem?_eq_none (Nat.le_refl _)
        rw [e1]; exact q
end
end L2

namespace L2
open PySem PySem.Spec PyProof.Rows
set_option maxRecDepth 100000
section
variable {prog : Program} {w : World} {A : Around} {E : Value → Shared → Prop} {s : Shared}
theorem items_ord {ord : List Value} {acc : Array Value} {n : Nat} (h : ItemsOf (fun i v => ord[i]? = some v) acc n) (hn : ord.length = n) : acc.toList = ord := by
  apply List.ext_getElem
  · rw [Array.length_toList, h.1, hn]
  · intro i h1 h2
    have e : ord[i]? = some acc[i] := h.2 i acc[i] (Array.getElem?_eq_getElem (by simpa using h1))
    rw [List.getElem?_eq_getElem h2] at e
    injection e with e
    simpa using e.symm
/-- the items of a set, taken into a list -/
theorem collect_set {a : Addr} {o : Obj} {es : Array (Int × Value)} {ep : Nat} {t : SetTable} {Q : List Value → Shared → Prop} (hh : A.handled = none) (ho : s.heap.get? a = some o) (hex : o.ExactSet) (hd : o.data = .set es ep t) (hb : es.size < scanBound) (hf : t.fits es.size = true) (ha : Asc t.place) (hl : t.led = !byTx w)
    (h : ∀ (ord : List Value) (s' : Shared), ord.Perm (es.toList.map (·.2)) → (∀ b u, s.heap.get? b = some u → s'.heap.get? b = some u) → s'.gens = s.gens → s'.os = s.os → s.heap.objs.size < s'.heap.objs.size → Q ord s') :
    wpAny (model prog w) A (collect (.ref a)) Q E s := by
  have la : a < s.heap.objs.size := Heap.lt_size ho
  unfold collect
  refine wpAny_bind (wpAny_runValue (codeAny_builtin F.entry_proto_collect ?_))
  rw [Around.under_plainId F.plain_proto_collect _]
  show wpAny _ A.in1 (newList [] >>= fun l => again (.builtin "list.__iadd__" ⟨[l, .ref a], []⟩)) _ _ s
  refine wpAny_bind (wpAny_newObj_type ?_)
  refine wpAny_pure ⟨plainId_quiet F.plain_list_iadd _, codeAny_builtin F.entry_list_iadd ?_⟩
  rw [Around.under_plainId F.plain_list_iadd _]
  generalize hlo : ({ cls := .type "list", data := .seq ([] : List Value).toArray } : Obj) = lo
  have g1 : (s.heap.push lo).get? a = some o := Heap.get?_push_of_some _ ho
  have gS : (s.heap.push lo).get? s.heap.objs.size = some lo := by rw [← hlo]; exact Heap.get?_push_size _ rfl
  have hT1 : Shared.TypeIs { s with heap := s.heap.push lo } (.ref a) "set" := ⟨o, g1, hex.1⟩
  show wpAny _ A.in1 (Builtin.List.listExtendWith (.ref s.heap.objs.size) (.ref a) (.ref s.heap.objs.size)) _ _ _
  unfold Builtin.List.listExtendWith
  refine wpAny_bind (wpAny_typeOf hT1 ?_)
  have h1 : Builtin.List.listSameRef (.ref s.heap.objs.size) (.ref a) = false := by simp [Builtin.List.listSameRef]; exact Nat.ne_of_gt la
  have h2 : (Value.type "set" == Value.type "list") = false := by decide
  have h3 : (Value.type "set" == Value.type "tuple") = false := by decide
  simp only [h1, h2, h3, Bool.or_false, Bool.false_eq_true, if_false]
  refine wpAny_bind (iter_set (s := { s with heap := s.heap.push lo }) g1 hex hd hb hf ha hl fun I h' d ord fp St kp pm W st hI hfp => ?_)
  have g2 : h'.get? a = some o := kp a o g1
  have hT2 : Shared.TypeIs { s with heap := h', drawn := d } (.ref a) "set" := ⟨o, g2, hex.1⟩
  refine wpAny_bind (wpAny_holding ?_)
  unfold Builtin.List.listLengthHint
  refine wpAny_bind (wpAny_specialOf hT2 F.slot_set_len.lookup ?_)
  (generalize hid : ("set.__len__" : String) = id0; (fail_if_success (clear hid id0)); wp_delta; rw [show splitId id0 = some ("set", "__len__") from by subst hid; decide +kernel]; subst hid)
  refine wpAny_bind (wpAny_isInstance (b := true) hT2 sub_set_self ?_)
  refine wpAny_bind (wpAny_typeOf hT2 ?_)
  refine wpAny_pure ?_
  show wpAny _ A.in1 (rule "list.extend.makes-room" >>= fun _ => Builtin.List.listTouch (.ref s.heap.objs.size) >>= fun _ =>
    again (.builtin "list.extend.loop" ⟨[.ref s.heap.objs.size, .ref I, .ref s.heap.objs.size], []⟩)) _ _ _
  refine wpAny_bind (wpAny_rule ?_)
  have hS₁ : h'.get? s.heap.objs.size = some lo := kp _ _ gS
  rw [← hlo] at hS₁
  refine wpAny_bind ?_
  show wpAny _ A.in1 (updateSeq s.heap.objs.size (·.push .none) >>= fun _ => updateSeq s.heap.objs.size (·.pop)) _ _ _
  refine wpAny_bind (wpAny_updateSeq hS₁ rfl ?_)
  have hS₂ := Heap.get?_update_self (Obj.mapSeq (·.push Value.none)) hS₁ rfl
  refine wpAny_updateSeq hS₂ rfl ?_
  have hS₃ := Heap.get?_update_self (Obj.mapSeq (·.pop)) hS₂ rfl
  have oth : ∀ b u, b ≠ s.heap.objs.size → h'.get? b = some u →
      ((h'.update s.heap.objs.size (Obj.mapSeq (·.push Value.none))).update s.heap.objs.size (Obj.mapSeq (·.pop))).get? b = some u :=
    fun b u hb e => (Heap.get?_update_other _ _ (Ne.symm hb)).trans ((Heap.get?_update_other _ _ (Ne.symm hb)).trans e)
  have sz1 : (s.heap.push lo).objs.size = s.heap.objs.size + 1 := Heap.size_push ..
  have hSf : s.heap.objs.size ∉ fp := fun hm => by
    rcases hfp _ hm with z | z
    · exact Nat.ne_of_gt la z
    · have z' : (s.heap.push lo).objs.size ≤ s.heap.objs.size := z
      rw [sz1] at z'; exact Nat.not_succ_le_self _ z'
  have hW := W A.in1 (by simp [hh])
  have hlen : ord.length = es.size := by rw [pm.length_eq, List.length_map, Array.length_toList]
  have st' := hW.frame 0 ({ s with heap := h', drawn := d } : Shared) ((h'.update s.heap.objs.size (Obj.mapSeq (·.push Value.none))).update s.heap.objs.size (Obj.mapSeq (·.pop))) s.toks st (Nat.le_refl _) fun b hb' o' e => oth b o' (fun z => hSf (z ▸ hb')) e
  refine wpAny_pure ⟨plainId_quiet F.plain_extend_loop _, codeAny_extend_loopS hW (by unfold scanBound at hb; unfold sizeLine; omega) _ hSf _ es.size 0 _ _ _ rfl (Nat.zero_le _)
    st' hS₃ (ItemsOf.nil _) fun s' acc' c' hm hS' hacc => ?_⟩
  show wpAny _ A (load s.heap.objs.size >>= _) _ _ s'
  refine wpAny_bind (wpAny_load hS' ?_)
  refine wpAny_pure ?_
  rw [items_ord hacc hlen]
  refine h ord s' pm (fun b u e => ?_) hm.gens hm.os (Heap.lt_size hS')
  have hb' : b < s.heap.objs.size := Heap.lt_size e
  refine hm.heap b u (fun z => ?_) (oth b u (Nat.ne_of_lt hb') (kp b u (Heap.get?_push_of_some _ e)))
  rcases List.mem_cons.mp z with z | z
  · exact Nat.ne_of_lt hb' z
  · have z2 : b = I := by simpa using z
    have z3 : (s.heap.push lo).objs.size ≤ I := hI
    rw [sz1, ← z2] at z3
    exact Nat.lt_irrefl _ (Nat.lt_of_lt_of_le hb' (Nat.le_of_succ_le z3))
end
end L2

namespace L2
open PySem
set_option maxRecDepth 100000
/-- a zip whose last tuple is still held -/
abbrev IsZipH (h : Heap) (z TI TO T0 : Addr) (b : Bool) : Prop :=
  h.get? z = some { cls := .type "zip", dict := none, data := .fields #[rawInt T0, .bool b, .bool false, .ref TI, .ref TO], slots := #[] }
section
variable {prog : Program} {w : World} {A : Around} {E : Value → Shared → Prop} {s : Shared}
theorem wpAny_loadIfAlive {a : Addr} {Q : Option Obj → Shared → Prop} (h : Q (s.heap.get? a) s) : wpAny (model prog w) A (loadIfAlive a) Q E s := fun _ _ _ => h
theorem held_free {z TI TO T0 : Addr} {b : Bool} {o : Obj} {Q : Bool → Shared → Prop} (hz : IsZipH s.heap z TI TO T0 b) (hT : s.heap.get? T0 = some o)
    (h : ∀ h', IsZipH h' z TI TO T0 true → Heap.SameBut z s.heap h' → Q false { s with heap := h' }) : wpAny (model prog w) A (Builtin.SmallTypes.ownedTupleIsFree (.ref z)) Q E s := by
  unfold Builtin.SmallTypes.ownedTupleIsFree
  refine wpAny_bind (wpAny_field hz rfl (x := rawInt T0) rfl ?_)
  show wpAny _ _ (loadIfAlive ((T0 : Int).toNat) >>= _) _ _ _
  refine wpAny_bind (wpAny_loadIfAlive ?_)
  rw [Int.toNat_natCast, hT]
  simp only [Option.isNone_some, Bool.false_eq_true, if_false]
  refine wpAny_bind (wpAny_field hz rfl (x := .bool b) rfl ?_)
  cases b with
  | true =>
    rw [if_neg (by simp)]
    refine wpAny_pure ?_
    have e : s = { s with heap := s.heap } := by cases s; rfl
    rw [e]
    exact h s.heap hz (Heap.SameBut.refl z s.heap)
  | false =>
    rw [if_pos (by decide)]
    refine wpAny_bind (wpAny_setField_rec hz (by simp) fun h1 g1 sb1 => ?_)
    exact wpAny_pure (h h1 g1 sb1)
theorem held_item {z TI TO T0 i1 i2 l1 l2 : Addr} {bb : Bool} {k1 k2 : Nat} {xs ys : Array Value} {x y a b : Value} {o : Obj} {Q : Option Value → Shared → Prop} (D : ZipApart z TI TO i1 i2 l1 l2)
    (hz : IsZipH s.heap z TI TO T0 bb) (hT0 : s.heap.get? T0 = some o) (hTI : IsPair s.heap TI (.ref i1) (.ref i2)) (hTO : IsPair s.heap TO a b)
    (h1 : s.heap.IsListIter i1 l1 k1) (h2 : s.heap.IsListIter i2 l2 k2) (hl1 : s.heap.IsList l1 xs) (hl2 : s.heap.IsList l2 ys) (hx : xs[k1]? = some x) (hy : ys[k2]? = some y)
    (hQ : ∀ h', IsZipH h' z TI TO T0 true → h'.IsListIter i1 l1 (k1 + 1) → h'.IsListIter i2 l2 (k2 + 1) → IsPair h' s.heap.objs.size x y → h'.objs.size = s.heap.objs.size + 1 →
      (∀ c o, c ≠ z → c ≠ i1 → c ≠ i2 → s.heap.get? c = some o → h'.get? c = some o) → Q (some (.ref s.heap.objs.size)) { s with heap := h' }) :
    wpAny (model prog w) A (pyNext (.ref z)) Q E s := by
  have hT : s.TypeIs (.ref z) "zip" := ⟨_, hz, rfl⟩
  unfold pyNext
  refine wpAny_bind (wpAny_attempt (wpAny_callSpecial?_slot (name := Str.ofString "__next__") hT F.slot_zip_next (wpAny_call_entry F.slot_zip_next hT F.entry_zip_next ?_ (F.args_zip_next_1 _))))
  show wpAny _ _ (field (.ref z) 2 >>= _) _ _ _
  refine wpAny_bind (wpAny_field hz rfl (x := .bool false) rfl ?_)
  show wpAny _ _ (field (.ref z) 3 >>= _) _ _ _
  refine wpAny_bind (wpAny_field hz rfl (x := .ref TI) rfl ?_)
  refine wpAny_bind (wpAny_seqItems hTI rfl ?_)
  show wpAny _ _ (Builtin.SmallTypes.ownedTupleIsFree (.ref z) >>= _) _ _ _
  refine wpAny_bind (held_free hz hT0 fun h₁ hz₁ hs₁ => ?_)
  simp only [Bool.false_eq_true, if_false]
  refine wpAny_bind ?_
  rw [← Array.forIn_toList]
  simp only [List.forIn_cons, List.forIn_nil]
  refine wpAny_bind (wpAny_bind (wpAny_holding ?_))
  show wpAny _ _ (Builtin.SmallTypes.nextOf (.ref i1) >>= _) _ _ _
  refine wpAny_bind (wpAny_nextOf_list_item (h1.extBut hs₁.extBut D.i1z) (hl1.extBut hs₁.extBut D.l1z) hx fun h₂ h1₂ hs₂ => wpAny_pure ?_)
  refine wpAny_pure ?_
  dsimp only
  refine wpAny_bind (wpAny_bind (wpAny_holding ?_))
  show wpAny _ _ (Builtin.SmallTypes.nextOf (.ref i2) >>= _) _ _ _
  refine wpAny_bind (wpAny_nextOf_list_item ((h2.extBut hs₁.extBut D.i2z).extBut hs₂.extBut D.i12.symm) ((hl2.extBut hs₁.extBut D.l2z).extBut hs₂.extBut D.l2i1) hy fun h₃ h2₃ hs₃ => wpAny_pure ?_)
  refine wpAny_pure ?_
  dsimp only
  refine wpAny_pure ?_
  refine wpAny_bind (wpAny_newTuple ?_ (by show 2 ≤ sizeLine; decide))
  have hsz : h₃.objs.size = s.heap.objs.size := by rw [hs₃.1, hs₂.1, hs₁.1]
  refine wpAny_pure ⟨_, rfl, wpAny_pure ?_⟩
  show Q (some (.ref h₃.objs.size)) _
  have hz₃ : IsZipH h₃ z TI TO T0 true := hs₃.extBut _ _ D.i2z.symm (hs₂.extBut _ _ D.i1z.symm hz₁)
  have h1₃ : h₃.IsListIter i1 l1 (k1 + 1) := h1₂.extBut hs₃.extBut D.i12
  have gp : (h₃.push { cls := .type "tuple", data := .seq #[x, y] }).get? h₃.objs.size = some { cls := .type "tuple", data := .seq #[x, y] } := Heap.get?_push_size _ rfl
  have zz : (h₃.push { cls := .type "tuple", data := .seq #[x, y] }).objs.size = s.heap.objs.size + 1 := by rw [Heap.size_push, hsz]
  rw [hsz] at gp ⊢
  exact hQ _ (Heap.get?_push_of_some _ hz₃) (h1₃.at fun o e => Heap.get?_push_of_some _ e) (h2₃.at fun o e => Heap.get?_push_of_some _ e) gp zz fun c o c1 c2 c3 e => Heap.get?_push_of_some _ (hs₃.extBut _ _ c3 (hs₂.extBut _ _ c2 (hs₁.extBut _ _ c1 e)))
theorem held_end {z TI TO T0 i1 i2 l1 l2 : Addr} {bb : Bool} {k1 k2 : Nat} {xs ys : Array Value} {a b : Value} {o : Obj} {Q : Option Value → Shared → Prop} (hh : A.handled = none) (D : ZipApart z TI TO i1 i2 l1 l2)
    (hz : IsZipH s.heap z TI TO T0 bb) (hT0 : s.heap.get? T0 = some o) (hTI : IsPair s.heap TI (.ref i1) (.ref i2)) (hTO : IsPair s.heap TO a b)
    (h1 : s.heap.IsListIter i1 l1 k1) (h2 : s.heap.IsListIter i2 l2 k2) (hl1 : s.heap.IsList l1 xs) (hl2 : s.heap.IsList l2 ys) (hend : xs[k1]? = none ∨ ys[k2]? = none)
    (hQ : ∀ h', (∀ c o, c ≠ z → c ≠ i1 → c ≠ i2 → s.heap.get? c = some o → h'.get? c = some o) → Q none { s with heap := h' }) :
    wpAny (model prog w) A (pyNext (.ref z)) Q E s := by
  have hT : s.TypeIs (.ref z) "zip" := ⟨_, hz, rfl⟩
  unfold pyNext
  refine wpAny_bind (wpAny_attempt (wpAny_callSpecial?_slot (name := Str.ofString "__next__") hT F.slot_zip_next (wpAny_call_entry F.slot_zip_next hT F.entry_zip_next ?_ (F.args_zip_next_1 _))))
  show wpAny _ _ (field (.ref z) 2 >>= _) _ _ _
  refine wpAny_bind (wpAny_field hz rfl (x := .bool false) rfl ?_)
  show wpAny _ _ (field (.ref z) 3 >>= _) _ _ _
  refine wpAny_bind (wpAny_field hz rfl (x := .ref TI) rfl ?_)
  refine wpAny_bind (wpAny_seqItems hTI rfl ?_)
  show wpAny _ _ (Builtin.SmallTypes.ownedTupleIsFree (.ref z) >>= _) _ _ _
  refine wpAny_bind (held_free hz hT0 fun h₁ hz₁ hs₁ => ?_)
  simp only [Bool.false_eq_true, if_false]
  refine wpAny_bind ?_
  rw [← Array.forIn_toList]
  simp only [List.forIn_cons, List.forIn_nil]
  refine wpAny_bind (wpAny_bind (wpAny_holding ?_))
  show wpAny _ _ (Builtin.SmallTypes.nextOf (.ref i1) >>= _) _ _ _
  have fin : ∀ h' e, (∀ c o, c ≠ z → c ≠ i1 → c ≠ i2 → s.heap.get? c = some o → h'.get? c = some o) → (∃ o, h'.get? e = some o ∧ o.cls = .type "StopIteration") →
      wpAny (model prog w) A (do if ← isInstance (.ref e) (.type "StopIteration") then pure none else throw (.ref e)) Q E { s with heap := h' } := fun h' e k ⟨oe, hoe, hce⟩ => by
    refine wpAny_bind (wpAny_isInstance (T := "StopIteration") (b := true) ⟨oe, hoe, hce⟩ isSubtype_stop ?_)
    exact wpAny_pure (hQ _ k)
  cases hx : xs[k1]? with
  | none =>
    refine wpAny_bind (wpAny_nextOf_list_end hh (h1.extBut hs₁.extBut D.i1z) (hl1.extBut hs₁.extBut D.l1z) hx fun h₂ e hs₂ he => ?_)
    exact fin _ _ (fun c o c1 c2 c3 q => hs₂ _ _ c2 (hs₁.extBut _ _ c1 q)) he
  | some x =>
    have hy : ys[k2]? = none := by rcases hend with h | h; rw [hx] at h; cases h; exact h
    refine wpAny_bind (wpAny_nextOf_list_item (h1.extBut hs₁.extBut D.i1z) (hl1.extBut hs₁.extBut D.l1z) hx fun h₂ h1₂ hs₂ => wpAny_pure ?_)
    refine wpAny_pure ?_
    dsimp only
    refine wpAny_bind (wpAny_bind (wpAny_holding ?_))
    show wpAny _ _ (Builtin.SmallTypes.nextOf (.ref i2) >>= _) _ _ _
    refine wpAny_bind (wpAny_nextOf_list_end hh ((h2.extBut hs₁.extBut D.i2z).extBut hs₂.extBut D.i12.symm) ((hl2.extBut hs₁.extBut D.l2z).extBut hs₂.extBut D.l2i1) hy fun h₄ e hs₄ he => ?_)
    exact fin _ _ (fun c o c1 c2 c3 q => hs₄ _ _ c3 (hs₂.extBut _ _ c2 (hs₁.extBut _ _ c1 q))) he
end
section
variable {prog : Program} {w : World} {A : Around} {R : Result → Shared → Prop} {E : Value → Shared → Prop}
theorem neA {a T : Addr} {N : Nat} (h : a < N) (h' : N ≤ T) : T ≠ a := Nat.ne_of_gt (Nat.lt_of_lt_of_le h h')
/-- the records of a zip that is walked into a list: ahead of the first item, or with the first tuple held -/
def ZipAt (h : Heap) (z TI TO : Addr) (N : Nat) (i : Nat) : Prop := (i = 0 ∧ IsZip h z TI TO .none) ∨ ∃ T0 bb o, N ≤ T0 ∧ T0 ≠ z ∧ IsZipH h z TI TO T0 bb ∧ h.get? T0 = some o ∧ o.cls = .type "tuple"
/-- the items of a zip go into a list -/
theorem extend_zip {z TI TO i1 i2 l1 l2 S : Addr} {xs ys : Array Value} {res : Value} (hh : A.handled = none) (D : ZipApart z TI TO i1 i2 l1 l2) (N : Nat) (hz : z < N) (hTI : TI < N) (hTO : TO < N) (hi1 : i1 < N) (hi2 : i2 < N) (hl1 : l1 < N) (hl2 : l2 < N) (hS : S < N)
    (nS : S ≠ z ∧ S ≠ TI ∧ S ≠ TO ∧ S ≠ i1 ∧ S ≠ i2 ∧ S ≠ l1 ∧ S ≠ l2) (hn : min xs.size ys.size ≤ sizeLine) :
    ∀ (d i : Nat) (s : Shared) (acc : Array Value) (c : Nat) (ts : List Addr), min xs.size ys.size = i + d → N ≤ s.heap.objs.size → ZipAt s.heap z TI TO N i → IsPair s.heap TI (.ref i1) (.ref i2) → (∃ a b, IsPair s.heap TO a b) →
      s.heap.IsListIter i1 l1 i → s.heap.IsListIter i2 l2 i → s.heap.IsList l1 xs → s.heap.IsList l2 ys → s.heap.get? S = some { cls := .type "list", dict := none, data := .seq acc c, slots := #[] } →
      acc.toList = ts.map Value.ref → ts.length = i → ts.Nodup → (∀ (j : Nat) (T : Addr), ts[j]? = some T → N ≤ T ∧ ∃ x y, xs[j]? = some x ∧ ys[j]? = some y ∧ IsPair s.heap T x y) →
      (∀ (h' : Heap) (acc' : Array Value) (c' : Nat) (ts' : List Addr), (∀ b o, b < N → b ≠ S → b ≠ z → b ≠ TO → b ≠ i1 → b ≠ i2 → s.heap.get? b = some o → h'.get? b = some o) → h'.get? S = some { cls := .type "list", dict := none, data := .seq acc' c', slots := #[] } →
        acc'.toList = ts'.map Value.ref → ts'.length = min xs.size ys.size → ts'.Nodup → (∀ (j : Nat) (T : Addr), ts'[j]? = some T → N ≤ T ∧ ∃ x y, xs[j]? = some x ∧ ys[j]? = some y ∧ IsPair h' T x y) → R (.ok (.ret res)) { s with heap := h' }) →
      codeAny (model prog w) A (.builtin "list.extend.loop" ⟨[.ref S, .ref z, res], []⟩) R s := by
  intro d
  induction d with
  | zero =>
    intro i s acc c ts e hN hZ p1 ⟨a, b, p2⟩ t1 t2 q1 q2 g ea el nd hts fin
    refine codeAny_builtin F.entry_extend_loop ?_
    rw [Around.under_plainId F.plain_extend_loop _]
    show wpAny _ A.in1 (pyNext (.ref z) >>= _) _ _ s
    have hend : xs[i]? = none ∨ ys[i]? = none := by
      by_cases hx : xs.size ≤ i
      · exact .inl (Array.getElem?_eq_none hx)
      · exact .inr (Array.getElem?_eq_none (by omega))
    have end_ : ∀ h', (∀ b o, b ≠ z → b ≠ TO → b ≠ i1 → b ≠ i2 → s.heap.get? b = some o → h'.get? b = some o) → R (.ok (.ret res)) { s with heap := h' } := fun h' k => by
      refine fin h' acc c ts (fun b o _ _ b1 b2 b3 b4 q => k b o b1 b2 b3 b4 q) (k S _ nS.1 nS.2.2.1 nS.2.2.2.1 nS.2.2.2.2.1 g) ea (by omega) nd fun j T hj => ?_
      obtain ⟨a1, x, y, a2, a3, a4⟩ := hts j T hj
      exact ⟨a1, x, y, a2, a3, k T _ (neA hz a1) (neA hTO a1) (neA hi1 a1) (neA hi2 a1) a4⟩
    rcases hZ with ⟨_, hZ⟩ | ⟨T0, bb, o, hT0, _, hZ, gT, _⟩
    · exact wpAny_bind (wpAny_pyNext_zip_end (by simp [hh]) D hZ p1 p2 t1 t2 q1 q2 hend fun h' k => wpAny_pure (end_ h' k))
    · exact wpAny_bind (held_end (by simp [hh]) D hZ gT p1 p2 t1 t2 q1 q2 hend fun h' k => wpAny_pure (end_ h' fun b o b1 _ b3 b4 q => k b o b1 b3 b4 q))
  | succ d ih =>
    intro i s acc c ts e hN hZ p1 ⟨a, b, p2⟩ t1 t2 q1 q2 g ea el nd hts fin
    have ix : i < xs.size := by omega
    have iy : i < ys.size := by omega
    refine codeAny_builtin F.entry_extend_loop ?_
    rw [Around.under_plainId F.plain_extend_loop _]
    show wpAny _ A.in1 (pyNext (.ref z) >>= _) _ _ s
    have hsz : acc.size = i := by rw [← Array.length_toList, ea, List.length_map, el]
    have go : ∀ h', ZipAt h' z TI TO N (i + 1) → (∃ a b, IsPair h' TO a b) → h'.IsListIter i1 l1 (i + 1) → h'.IsListIter i2 l2 (i + 1) → IsPair h' s.heap.objs.size xs[i] ys[i] → h'.objs.size = s.heap.objs.size + 1 →
        (∀ b o, b ≠ z → b ≠ TO → b ≠ i1 → b ≠ i2 → s.heap.get? b = some o → h'.get? b = some o) →
        wpAny (model prog w) A.in1 (updateSeq S (·.push (.ref s.heap.objs.size)) >>= fun _ => again (.builtin "list.extend.loop" ⟨[.ref S, .ref z, res], []⟩))
          (fun fin s' => match fin with | .done f => R (.ok f) s' | .again c' => c'.quiet = true ∧ codeAny (model prog w) A c' R s') (fun e s' => R (.error e) s') { s with heap := h' } := fun h' z1 z2 z3 z4 z5 z6 k => by
      have gS : h'.get? S = some { cls := .type "list", dict := none, data := .seq acc c, slots := #[] } := k S _ nS.1 nS.2.2.1 nS.2.2.2.1 nS.2.2.2.2.1 g
      refine wpAny_bind (wpAny_updateSeq gS rfl ?_ (by rw [hsz]; omega) (by show (acc.push _).size ≤ sizeLine + 1; rw [Array.size_push, hsz]; omega))
      have gU := Heap.get?_update_self (Obj.mapSeq (·.push (Value.ref s.heap.objs.size))) gS rfl
      generalize hH : h'.update S (Obj.mapSeq (·.push (Value.ref s.heap.objs.size))) = h2 at gU ⊢
      have sb : Heap.SameBut S h' h2 := hH ▸ Heap.SameBut.update ..
      have k2 : ∀ b o, b ≠ S → h'.get? b = some o → h2.get? b = some o := fun b o hb q => (sb.2 b hb).trans q
      have sz2 : h2.objs.size = s.heap.objs.size + 1 := by rw [sb.1, z6]
      refine wpAny_pure ⟨plainId_quiet F.plain_extend_loop _, ih (i + 1) { s with heap := h2 } (acc.push (.ref s.heap.objs.size)) _ (ts ++ [s.heap.objs.size]) (by omega) (by rw [sz2]; omega) ?_ (k2 TI _ nS.2.1.symm (k TI _ D.TIz D.TITO D.TIi1 D.TIi2 p1)) ?_ (z3.at fun o q => k2 i1 o nS.2.2.2.1.symm q) (z4.at fun o q => k2 i2 o nS.2.2.2.2.1.symm q)
        ((q1.at fun o q => k l1 o D.l1z D.l1TO D.l1i1 D.l1i2 q).at fun o q => k2 l1 o nS.2.2.2.2.2.1.symm q) ((q2.at fun o q => k l2 o D.l2z D.l2TO D.l2i1 D.l2i2 q).at fun o q => k2 l2 o nS.2.2.2.2.2.2.symm q) gU (by rw [Array.toList_push, ea, List.map_append]; rfl) (by simp [el]) ?_ (fun j T hj => ?_) fun h3 acc' c' ts' k3 g3 e3 l3 n3 f3 => ?_⟩
      · rcases z1 with ⟨z', _⟩ | ⟨T0, bb, o, a1, a2, a3, a4, a5⟩
        · exact absurd z' (by omega)
        · exact .inr ⟨T0, bb, o, a1, a2, k2 z _ nS.1.symm a3, k2 T0 _ (neA hS a1) a4, a5⟩
      · obtain ⟨a', b', q⟩ := z2
        exact ⟨a', b', k2 TO _ nS.2.2.1.symm q⟩
      · rw [List.nodup_append]
        refine ⟨nd, by simp, fun t ht u hu => ?_⟩
        have eu : u = s.heap.objs.size := by simpa using hu
        obtain ⟨j, hj⟩ := List.mem_iff_getElem?.mp ht
        obtain ⟨_, x, y, _, _, gp⟩ := hts j t hj
        have := Heap.lt_size gp
        exact fun q => Nat.lt_irrefl _ (by rw [q, eu] at this; exact this)
      · rw [List.getElem?_append] at hj
        split at hj
        · obtain ⟨a1, x, y, a2, a3, a4⟩ := hts j T hj
          exact ⟨a1, x, y, a2, a3, k2 T _ (neA hS a1) (k T _ (neA hz a1) (neA hTO a1) (neA hi1 a1) (neA hi2 a1) a4)⟩
        · rename_i hlt
          have hj0 : j = i := by
            obtain ⟨q, _⟩ := List.getElem?_eq_some_iff.mp hj
            simp at q; omega
          subst hj0
          rw [el, Nat.sub_self] at hj
          have eT : s.heap.objs.size = T := by simpa using hj
          subst eT
          exact ⟨hN, xs[j], ys[j], Array.getElem?_eq_getElem ix, Array.getElem?_eq_getElem iy, k2 _ _ (neA hS hN) z5⟩
      · exact fin h3 acc' c' ts' (fun b o b0 bS b1 b2 b3 b4 q => k3 b o b0 bS b1 b2 b3 b4 (k2 b o bS (k b o b1 b2 b3 b4 q))) g3 e3 l3 n3 f3
    rcases hZ with ⟨_, hZ⟩ | ⟨T0, bb, o, hT0, hT0z, hZ, gT, cT⟩
    · refine wpAny_bind (wpAny_pyNext_zip_item D hZ p1 p2 t1 t2 q1 q2 (x := xs[i]) (y := ys[i]) (Array.getElem?_eq_getElem ix) (Array.getElem?_eq_getElem iy) fun h' a1 a2 a3 a4 a5 a6 a7 => ?_)
      exact go h' (.inr ⟨s.heap.objs.size, false, _, hN, Nat.ne_of_gt (Nat.lt_of_lt_of_le hz hN), a1, a5, rfl⟩) ⟨_, _, a2⟩ a3 a4 a5 a6 a7
    · refine wpAny_bind (held_item D hZ gT p1 p2 t1 t2 q1 q2 (x := xs[i]) (y := ys[i]) (Array.getElem?_eq_getElem ix) (Array.getElem?_eq_getElem iy) fun h' a1 a3 a4 a5 a6 a7 => ?_)
      exact go h' (.inr ⟨T0, true, o, hT0, hT0z, a1, a7 T0 o hT0z (neA hi1 hT0) (neA hi2 hT0) gT, cT⟩) ⟨_, _, a7 TO _ D.TOz D.TOi1 D.TOi2 p2⟩ a3 a4 a5 a6 fun b o b1 _ b3 b4 q => a7 b o b1 b3 b4 q
end
end L2
namespace L2
open PySem
set_option maxRecDepth 100000
theorem zip_no_len : typeLookup (.type "zip") "__len__" = pure none := by rw [typeLookup_type, builtinLookup_eq_fast]; kernel_rfl
theorem zip_no_hint : typeLookup (.type "zip") "__length_hint__" = pure none := by rw [typeLookup_type, builtinLookup_eq_fast]; kernel_rfl
section
variable {prog : Program} {w : World} {A : Around} {E : Value → Shared → Prop} {s : Shared}
/-- list(zip(..)) of a zip that stands at its begin -/
theorem call_list_zip {z TI TO i1 i2 l1 l2 : Addr} {xs ys : Array Value} {Q : Value → Shared → Prop} (hh : A.handled = none) (D : ZipApart z TI TO i1 i2 l1 l2) (p0 : IsZip s.heap z TI TO .none) (p1 : IsPair s.heap TI (.ref i1) (.ref i2)) (p2 : IsPair s.heap TO .none .none)
    (t1 : s.heap.IsListIter i1 l1 0) (t2 : s.heap.IsListIter i2 l2 0) (q1 : s.heap.IsList l1 xs) (q2 : s.heap.IsList l2 ys) (hn : min xs.size ys.size ≤ sizeLine)
    (h : ∀ (h' : Heap) (acc : Array Value) (c : Nat) (ts : List Addr), (∀ b o, b ≠ z → b ≠ TO → b ≠ i1 → b ≠ i2 → s.heap.get? b = some o → h'.get? b = some o) → h'.get? s.heap.objs.size = some { cls := .type "list", dict := none, data := .seq acc c, slots := #[] } →
      acc.toList = ts.map Value.ref → ts.length = min xs.size ys.size → ts.Nodup → (∀ (j : Nat) (T : Addr), ts[j]? = some T → s.heap.objs.size + 1 ≤ T ∧ ∃ x y, xs[j]? = some x ∧ ys[j]? = some y ∧ IsPair h' T x y) → Q (.ref s.heap.objs.size) { s with heap := h' }) :
    wpAny (model prog w) A (call (.type "list") [.ref z]) Q E s := by
  have lz : z < s.heap.objs.size := Heap.lt_size p0
  have lTI : TI < s.heap.objs.size := Heap.lt_size p1
  have lTO : TO < s.heap.objs.size := Heap.lt_size p2
  have li1 : i1 < s.heap.objs.size := let ⟨_, e, _⟩ := t1; Heap.lt_size e
  have li2 : i2 < s.heap.objs.size := let ⟨_, e, _⟩ := t2; Heap.lt_size e
  have ll1 : l1 < s.heap.objs.size := let ⟨_, e, _⟩ := q1; Heap.lt_size e
  have ll2 : l2 < s.heap.objs.size := let ⟨_, e, _⟩ := q2; Heap.lt_size e
  refine callType_codes (Q₁ := fun obj s₁ => obj = .ref s.heap.objs.size ∧ s₁ = { s with heap := s.heap.push { cls := .type "list", data := .seq #[] } }) F.called_list (F.typeCall_list_1 _) F.entry_list_init
    (code_list_new _ ⟨rfl, rfl⟩) fun obj s₁ h₁ => ?_
  obtain ⟨rfl, rfl⟩ := h₁
  have hS : (s.heap.push { cls := .type "list", data := .seq #[] }).get? s.heap.objs.size = some { cls := .type "list", data := .seq #[] } := Heap.get?_push_size _ rfl
  refine ⟨⟨_, hS, rfl⟩, F.args_list_init_2 _ _, ?_⟩
  show wpAny _ _ (do let old ← Builtin.List.listItems (.ref s.heap.objs.size); Builtin.List.listUpdate (.ref s.heap.objs.size) (fun _ => #[]); letGo old.toList.reverse; Builtin.List.listExtendWith (.ref s.heap.objs.size) (.ref z) .none) _ _ _
  refine wpAny_bind ?_
  unfold Builtin.List.listItems
  refine wpAny_bind (wpAny_seqItems hS rfl (wpAny_pure ?_))
  show wpAny _ _ (updateSeq s.heap.objs.size (fun _ => #[]) >>= fun _ => letGo (#[] : Array Value).toList.reverse >>= fun _ => Builtin.List.listExtendWith (.ref s.heap.objs.size) (.ref z) .none) _ _ _
  refine wpAny_bind (wpAny_updateSeq hS rfl ?_)
  have hS₂ := Heap.get?_update_self (Obj.mapSeq (fun _ => (#[] : Array Value))) hS rfl
  refine wpAny_bind (wpAny_letGo ?_)
  have k1 : ∀ b o, s.heap.get? b = some o → ((s.heap.push { cls := .type "list", data := .seq #[] }).update s.heap.objs.size (Obj.mapSeq (fun _ => (#[] : Array Value)))).get? b = some o := fun b o e =>
    (Heap.get?_update_other _ _ (Nat.ne_of_gt (Heap.lt_size e))).trans (Heap.get?_push_of_some _ e)
  have sz1 : ((s.heap.push { cls := .type "list", data := .seq #[] }).update s.heap.objs.size (Obj.mapSeq (fun _ => (#[] : Array Value)))).objs.size = s.heap.objs.size + 1 := by rw [Heap.size_update, Heap.size_push]
  generalize (s.heap.push { cls := .type "list", data := .seq #[] }).update s.heap.objs.size (Obj.mapSeq (fun _ => (#[] : Array Value))) = hA at hS₂ k1 sz1 ⊢
  have hT : Shared.TypeIs { s with heap := hA } (.ref z) "zip" := ⟨_, k1 _ _ p0, rfl⟩
  unfold Builtin.List.listExtendWith
  refine wpAny_bind (wpAny_typeOf hT ?_)
  have h1 : Builtin.List.listSameRef (.ref s.heap.objs.size) (.ref z) = false := by simp [Builtin.List.listSameRef]; exact Nat.ne_of_gt lz
  have h2 : (Value.type "zip" == Value.type "list") = false := by decide
  have h3 : (Value.type "zip" == Value.type "tuple") = false := by decide
  simp only [h1, h2, h3, Bool.or_false, Bool.false_eq_true, if_false]
  refine wpAny_bind (wpAny_pyIter_zip (s := { s with heap := hA }) (k1 _ _ p0) ?_)
  refine wpAny_bind (wpAny_holding ?_)
  unfold Builtin.List.listLengthHint
  refine wpAny_bind (wpAny_specialOf hT zip_no_len ?_)
  show wpAny _ _ (specialOf (Value.ref z) (Str.ofString "__length_hint__") >>= _) _ _ _
  refine wpAny_bind (wpAny_specialOf hT zip_no_hint ?_)
  refine wpAny_pure ?_
  show wpAny _ _ (rule "list.extend.makes-room" >>= fun _ => Builtin.List.listTouch (.ref s.heap.objs.size) >>= fun _ =>
    again (.builtin "list.extend.loop" ⟨[.ref s.heap.objs.size, .ref z, .none], []⟩)) _ _ _
  refine wpAny_bind (wpAny_rule ?_)
  refine wpAny_bind ?_
  show wpAny _ _ (updateSeq s.heap.objs.size (·.push .none) >>= fun _ => updateSeq s.heap.objs.size (·.pop)) _ _ _
  refine wpAny_bind (wpAny_updateSeq (s := { s with heap := hA }) hS₂ rfl ?_)
  have hS₃ := Heap.get?_update_self (Obj.mapSeq (·.push Value.none)) hS₂ rfl
  refine wpAny_updateSeq (hz := by seq_fits) hS₃ rfl ?_
  have hS₄ := Heap.get?_update_self (Obj.mapSeq (·.pop)) hS₃ rfl
  have k2 : ∀ b o, s.heap.get? b = some o → ((hA.update s.heap.objs.size (Obj.mapSeq (·.push Value.none))).update s.heap.objs.size (Obj.mapSeq (·.pop))).get? b = some o :=
    fun b o e => (Heap.get?_update_other _ _ (Nat.ne_of_gt (Heap.lt_size e))).trans ((Heap.get?_update_other _ _ (Nat.ne_of_gt (Heap.lt_size e))).trans (k1 b o e))
  have sz2 : ((hA.update s.heap.objs.size (Obj.mapSeq (·.push Value.none))).update s.heap.objs.size (Obj.mapSeq (·.pop))).objs.size = s.heap.objs.size + 1 := by rw [Heap.size_update, Heap.size_update, sz1]
  generalize (hA.update s.heap.objs.size (Obj.mapSeq (·.push Value.none))).update s.heap.objs.size (Obj.mapSeq (·.pop)) = hB at hS₄ k2 sz2 ⊢
  refine wpAny_pure ⟨plainId_quiet F.plain_extend_loop _, extend_zip (by simp [hh]) D (s.heap.objs.size + 1) (Nat.lt_succ_of_lt lz) (Nat.lt_succ_of_lt lTI) (Nat.lt_succ_of_lt lTO) (Nat.lt_succ_of_lt li1) (Nat.lt_succ_of_lt li2) (Nat.lt_succ_of_lt ll1) (Nat.lt_succ_of_lt ll2) (Nat.lt_succ_self _)
    ⟨Nat.ne_of_gt lz, Nat.ne_of_gt lTI, Nat.ne_of_gt lTO, Nat.ne_of_gt li1, Nat.ne_of_gt li2, Nat.ne_of_gt ll1, Nat.ne_of_gt ll2⟩ hn (min xs.size ys.size) 0 { s with heap := hB } #[] _ [] (Nat.zero_add _).symm (by rw [sz2]; exact Nat.le_refl _)
    (.inl ⟨rfl, k2 _ _ p0⟩) (k2 _ _ p1) ⟨_, _, k2 _ _ p2⟩ (t1.at fun o e => k2 _ _ e) (t2.at fun o e => k2 _ _ e) (q1.at fun o e => k2 _ _ e) (q2.at fun o e => k2 _ _ e) hS₄ rfl rfl List.nodup_nil (fun j T hj => by simp at hj) fun h' acc c ts k3 g3 e3 l3 n3 f3 => ?_⟩
  exact ⟨rfl, h h' acc c ts (fun b o b1 b2 b3 b4 e => k3 b o (Nat.lt_succ_of_lt (Heap.lt_size e)) (Nat.ne_of_lt (Heap.lt_size e)) b1 b2 b3 b4 (k2 b o e)) g3 e3 l3 n3 f3⟩
end
end L2

namespace L2
open PySem PySem.Spec PyProof.Rows
set_option maxRecDepth 100000
/-! ### sorted(set(..)), list(zip(..)) as rules of the layer -/
theorem nodup_sub_len : ∀ {l L : List Int}, l.Nodup → (∀ x ∈ l, x ∈ L) → l.length ≤ L.length
  | [], _, _, _ => Nat.zero_le _
  | x :: l, L, hn, hs => by
    obtain ⟨h1, h2⟩ := List.nodup_cons.mp hn
    have hx := hs x List.mem_cons_self
    have ih := nodup_sub_len (L := L.erase x) h2 fun y hy => (List.mem_erase_of_ne (fun (e : y = x) => h1 (e ▸ hy))).mpr (hs y (List.mem_cons_of_mem _ hy))
    rw [List.length_erase_of_mem hx] at ih
    have : 0 < L.length := List.length_pos_of_mem hx
    rw [List.length_cons]; omega
theorem ints_of : ∀ {vs : List Value}, (∀ v ∈ vs, ∃ u, v = .int (keyI v) u) → IntsAre vs (vs.map keyI)
  | [], _ => .nil
  | v :: vs, h => by
    obtain ⟨u, e⟩ := h v List.mem_cons_self
    rw [e]
    exact .cons _ u (ints_of fun x hx => h x (List.mem_cons_of_mem _ hx))
theorem ints_vals : ∀ {vs : List Value} {ns : List Int}, IntsAre vs ns → Vals (ns.map V.int) vs
  | _, _, .nil => .nil
  | _, _, .cons n t r => .cons ⟨t, rfl⟩ (ints_vals r)
theorem lt_of_le_nodup : ∀ {ns : List Int}, ns.Pairwise (· ≤ ·) → ns.Nodup → ns.Pairwise (· < ·)
  | [], _, _ => .nil
  | n :: ns, h1, h2 => by
    obtain ⟨a1, a2⟩ := List.pairwise_cons.mp h1
    obtain ⟨b1, b2⟩ := List.nodup_cons.mp h2
    refine .cons (fun m hm => ?_) (lt_of_le_nodup a2 b2)
    have := a1 m hm
    have : n ≠ m := fun e => b1 (e ▸ hm)
    omega
section
variable {prog : Program} {w : World} {A : Around} {E : Value → Shared → Prop} {s : Shared}
theorem sorted_set {a : Addr} {ks : List Int} {m : Nat} {Q : Value → Shared → Prop} (hh : A.handled = none) (hW : SetWk s.heap a (!byTx w) ks m) (hm : m < 64)
    (h : ∀ (ns : List Int) (vs : List Value) (s' : Shared) (D : Addr) (c : Nat), Vals (ns.map V.int) vs → ns.Pairwise (· < ·) → (∀ k, k ∈ ns ↔ k ∈ ks) → s.heap.objs.size ≤ D → (∀ b u, s.heap.get? b = some u → s'.heap.get? b = some u) → s'.heap.get? D = some (seqObj "list" vs.toArray c) → s'.gens = s.gens → s'.os = s.os → ns.length = m → Q (.ref D) s') :
    wpAny (model prog w) A (call (.builtin "sorted") [.ref a]) Q E s := by
  obtain ⟨o, es, ep, t, ho, hex, hd, hE, hb, hf, ha, hl, hn⟩ := hW
  refine Calls.call_function_entry kind_sorted plain_sorted entry_sorted (args_sorted1 _) ?_
  unfold Builtin.«sorted»
  refine wpAny_bind (m := checkCount "sorted" 1 1 _) (wpAny_pure ?_)
  refine wpAny_bind (collect_set (by simp [hh]) ho hex hd hb hf ha hl fun ord s1 pm kp hg hos hss => ?_)
  have hlen : ord.length = m := by rw [pm.length_eq, List.length_map, Array.length_toList, hn]
  have hint : ∀ v ∈ ord, ∃ u, v = .int (keyI v) u := fun v hv => by
    obtain ⟨e, he, rfl⟩ := List.mem_map.mp (pm.mem_iff.mp hv)
    exact (hE.ent e he).2
  have hI := ints_of hint
  have pk : (ord.map keyI).Perm (es.toList.map fun e => keyI e.2) := by
    have := pm.map keyI
    rw [List.map_map] at this
    exact this
  refine wpAny_bind (wpAny_newList ?_ (by rw [sizeLine_eq]; omega))
  have hoL : (s1.heap.push (seqObj "list" ord.toArray 0)).get? s1.heap.objs.size = some (seqObj "list" ord.toArray 0) := Heap.get?_push_size _ rfl
  have keep : ∀ b u, s.heap.get? b = some u → (s1.heap.push (seqObj "list" ord.toArray 0)).get? b = some u := fun b u q => Heap.get?_push_of_some _ (kp b u q)
  show wpAny _ _ _ _ _ { s1 with heap := s1.heap.push (seqObj "list" ord.toArray 0) }
  refine wpAny_bind (wpAny_holding (wpAny_call_entry slot_list_sort ⟨_, hoL, rfl⟩ entry_list_sort ?body (args_list_sort _)))
  case body =>
    refine list_sort_tree (s := { s1 with heap := s1.heap.push (seqObj "list" ord.toArray 0) }) hoL hI (by omega) fun out ns' a1 a2 a3 => ⟨_, rfl, wpAny_pure ⟨_, rfl, ?_⟩⟩
    have nd : ns'.Nodup := a2.nodup_iff.mpr (pk.nodup_iff.mpr hE.nd)
    have hlt : s1.heap.objs.size < (s1.heap.push (seqObj "list" ord.toArray 0)).objs.size := Heap.lt_size hoL
    obtain ⟨e1, ho1⟩ : ∃ e1, ((s1.heap.push (seqObj "list" ord.toArray 0)).update s1.heap.objs.size (Obj.mapSeq fun _ => #[])).get? s1.heap.objs.size = some (seqObj "list" #[] e1) := ⟨_, get?_update_seq hoL (fun _ => #[])⟩
    have h3 : ∀ b, b < (s1.heap.push (seqObj "list" ord.toArray 0)).objs.size → ((((s1.heap.push (seqObj "list" ord.toArray 0)).update s1.heap.objs.size (Obj.mapSeq fun _ => #[])).push (seqObj "tuple" ord.toArray 0)).push (seqObj "list" #[] 0)).get? b = ((s1.heap.push (seqObj "list" ord.toArray 0)).update s1.heap.objs.size (Obj.mapSeq fun _ => #[])).get? b := fun b hb => by
      rw [Heap.get?_push_ne _ _ _ (by rw [size_push', Heap.size_update]; exact Nat.ne_of_lt (Nat.lt_succ_of_lt hb)), Heap.get?_push_ne _ _ _ (by rw [Heap.size_update]; exact Nat.ne_of_lt hb)]
    have e6 : ((((s1.heap.push (seqObj "list" ord.toArray 0)).update s1.heap.objs.size (Obj.mapSeq fun _ => #[])).push (seqObj "tuple" ord.toArray 0)).push (seqObj "list" #[] 0)).get? s1.heap.objs.size = some (seqObj "list" #[] e1) := by rw [h3 _ hlt]; exact ho1
    have sz : s.heap.objs.size ≤ s1.heap.objs.size := Nat.le_of_lt hss
    refine h ns' out.toList { s1 with heap := sortedHeap (s1.heap.push (seqObj "list" ord.toArray 0)) s1.heap.objs.size ord out } s1.heap.objs.size _ (ints_vals a1) (lt_of_le_nodup a3 nd) (fun k => (a2.mem_iff).trans ((pk.mem_iff).trans (hE.mem k).symm)) sz (fun b u q => ?_) (get?_update_seq e6 (fun _ => out)) hg hos ?_
    · have hb1 : b < s1.heap.objs.size := Heap.lt_size (kp b u q)
      show (Heap.update _ _ _).get? b = some u
      rw [Heap.get?_update_ne _ _ _ _ (Nat.ne_of_lt hb1), h3 _ (Nat.lt_trans hb1 hlt), Heap.get?_update_ne _ _ _ _ (Nat.ne_of_lt hb1)]
      exact keep b u q
    · rw [a2.length_eq, List.length_map, hlen]
end
section
variable {X : Cx} {pins : List (Addr × Obj)} {σ : St} {H H' : Hp} {s : Shared}
/-- all objects kept, new ones tracked -/
theorem Inv.grow {s' : Shared} (I : Inv X pins σ H s) (k : ∀ b o, s.heap.get? b = some o → s'.heap.get? b = some o) (hg : s'.gens = s.gens) (hos : s'.os = s.os) (hold : ∀ b, b < s.heap.objs.size → H' b = H b)
    (hnew : ∀ b u, s.heap.objs.size ≤ b → H' b = some u → ObjOk X.prog X.w H' s'.heap b u) : Inv X pins σ H' s' := by
  obtain ⟨h', g', d', t', o'⟩ := s'
  obtain rfl : g' = s.gens := hg
  obtain rfl : o' = s.os := hos
  have lt : ∀ {b u}, H b = some u → b < s.heap.objs.size := fun {b u} e => by
    rcases Nat.lt_or_ge b s.heap.objs.size with z | z
    · exact z
    · rw [I.hok.fresh z] at e; cases e
  have same : ∀ {b u}, H b = some u → H' b = some u := fun e => by rw [hold _ (lt e)]; exact e
  exact I.step (h' := h') (g' := s.gens) (d' := d') (t' := t') (ch := []) (fun _ z => nomatch z) (fun b o _ _ _ e _ => k b o e) (fun b o _ _ _ e _ => ⟨o.slots, k b o e⟩)
    (fun b o _ e n => by rw [hold _ (Heap.lt_size e)]; exact n) (fun b o _ e => ⟨o, k b o e⟩) (fun b xs e => same e) (fun b o u e => same e) (fun b ps e => ⟨#[], by rw [same e]; simp⟩)
    (fun m hm => by
      obtain ⟨o, es, ep, ho, r⟩ := hm
      exact ⟨o, es, ep, k _ o ho, r⟩)
    (fun b u e => by
      rcases Nat.lt_or_ge b s.heap.objs.size with z | z
      · rw [hold _ z] at e
        exact (I.hok b u e).stay (fun c u' _ q => k c u' q) (fun c q => same q) fun c xs q => same q
      · exact hnew b u z e)
    I.bare
end
/-- a set of ints that can be walked -/
def SetZ (w : World) (a : Addr) (zs : List Int) : HO := .ext fun h => ∃ m, SetWk h a (!byTx w) zs m
section
variable {X : Cx}
theorem vals_intsZ : ∀ {zs : List Int} {us : List Value}, Vals (zs.map V.int) us → ∀ (i : Nat) (v : Value), us[i]? = some v → ∃ z t, zs[i]? = some z ∧ v = .int z t
  | [], _, .nil, i, v, h => by simp at h
  | z :: zs, _, .cons ⟨t, e⟩ r, 0, v, h => by simp at h; exact ⟨z, t, rfl, by rw [← h, e]⟩
  | z :: zs, _, .cons _ r, i + 1, v, h => by
    obtain ⟨z', t, e1, e2⟩ := vals_intsZ r i v (by simpa using h)
    exact ⟨z', t, by simpa using e1, e2⟩
/-- set(xs) of a list of ints -/
theorem call_setZ {w : World} (hw : X.w = w) (hc : X.calm = true) : CallR X (.type "set") (fun xs H Q => ∃ (p : Addr) (zs : List Int), xs = [.ref p] ∧ SqL X.K H p (zs.map V.int) ∧ zs.length ≤ 1000 ∧ ∀ l, H l = none → Q (.ref l) (upd H l (SetZ w l zs))) := by
  subst hw
  intro pins s σ H xs us Q I r h
  obtain ⟨p, zs, rfl, hS, hz, q⟩ := h
  obtain ⟨u, rfl, ru⟩ := r.one
  obtain rfl : u = Value.ref p := ru
  obtain ⟨its, rv, pl, _⟩ := I.list hS
  have hl := rv.length
  rw [List.length_map] at hl
  refine call_setW (ks := zs) (I.ok.hd hc) pl.isList (fun i v e => ?_) (by simpa using hl) (by unfold scanBound; simp; omega) fun h' tk m x hm kp => ?_
  · exact vals_intsZ rv i v (by simpa using e)
  · refine ⟨.ref s.heap.objs.size, _, I.laid (a := s.heap.objs.size) (o := SetZ X.w s.heap.objs.size zs) (h' := h') (t' := tk) (fun b o q => kp b o (Heap.lt_size q) q) (Nat.le_refl _) ?_, rfl, q _ I.fresh⟩
    refine ⟨⟨m, x⟩, ?_, fun h1 h2 ⟨m', y⟩ k => ⟨m', y.stay k⟩⟩
    obtain ⟨o, _, _, _, g, _⟩ := x
    exact ⟨o, g⟩
/-- sorted(set(xs)), of fewer than 64 different ints -/
theorem call_sorted_setZ {w : World} (hw : X.w = w) (hc : X.calm = true) : CallR X (.builtin "sorted") (fun us H Q => ∃ (a : Addr) (zs L : List Int), us = [.ref a] ∧ H a = some (SetZ w a zs) ∧ L.length < 64 ∧ (∀ k ∈ zs, k ∈ L) ∧
    ∀ (D : Addr) (ns : List Int), H D = none → ns.Pairwise (· < ·) → (∀ k, k ∈ ns ↔ k ∈ zs) → Q (.ref D) (upd H D (.lst (ns.map V.int)))) := by
  subst hw
  intro pins s σ H us vs Q I r h
  obtain ⟨a, zs, L, rfl, e, hL, hs, q⟩ := h
  obtain ⟨u, rfl, ru⟩ := r.one
  obtain rfl : u = Value.ref a := ru
  obtain ⟨⟨m, x⟩, _, _⟩ := I.hok a _ e
  have hm : m < 64 := by
    obtain ⟨o, es, ep, t, _, _, _, hE, _, _, _, _, hn⟩ := id x
    have := nodup_sub_len (L := L) hE.nd fun k hk => hs k ((hE.mem k).mpr hk)
    rw [List.length_map, Array.length_toList, hn] at this
    omega
  refine sorted_set (I.ok.hd hc) x hm fun ns us s' D c a1 a2 a3 a4 a5 a6 a7 a8 a9 => ?_
  have hD : H D = none := I.hok.fresh a4
  refine ⟨.ref D, upd H D (.lst (ns.map V.int)), I.grow a5 a7 a8 (fun b hb => by rw [upd_ne (Nat.ne_of_lt (Nat.lt_of_lt_of_le hb a4))]) (fun b u hb eu => ?_), rfl, q D ns hD a2 a3⟩
  by_cases z : b = D
  · subst z
    rw [upd_same] at eu
    cases eu
    exact ⟨by rw [List.length_map, sizeLine_eq]; omega, us, c, a1, a6⟩
  · rw [upd_ne z, I.hok.fresh hb] at eu
    cases eu
/-- list(zip(xs, ys)) -/
def tLZ (K : PySem.W.Frag) (ta : TA) : TE := fun σ H Q => ta σ H fun vs H1 => ∃ a b xs ys, vs = [.ref a, .ref b] ∧ SqL K H1 a xs ∧ SqL K H1 b ys ∧
  ∀ (D : Addr) (ts : List Addr) (H2 : Hp), ts.length = min xs.length ys.length → (∀ c o, H1 c = some o → H2 c = some o) → H1 D = none → H2 D = some (.lst (ts.map V.ref)) →
    (∀ (j : Nat) (x y : V), xs[j]? = some x → ys[j]? = some y → ∃ T, ts[j]? = some T ∧ H1 T = none ∧ H2 T = some (.tup [x, y])) → Q (.ref D) H2
theorem ltA {c n : Nat} (h : c < n) (k : Nat) : c ≠ n + k := Nat.ne_of_lt (Nat.lt_of_lt_of_le h (Nat.le_add_right _ _))
/-- the tuple at a place -/
def tupsAt (xs ys : List V) (ts : List Addr) (b : Addr) : Option HO :=
  match ts.idxOf? b with
  | some j => match xs[j]?, ys[j]? with
    | some x, some y => some (.tup [x, y])
    | _, _ => none
  | none => none
theorem pe_listzip {e1 e2 : Expr} {ta : TA} {p1 p2 pos1 pos2 : Pos} (hcm : X.calm = true) (hg : Gl X "list") (hm : X.mg "list" = none) (hgz : Gl X "zip") (hmz : X.mg "zip" = none) (ha : PA X [e1, e2] ta)
    (hs : starEach [e1, e2] X.env = [(false, eval e1 X.env), (false, eval e2 X.env)] := by rfl) (hs2 : starEach [e2] X.env = [(false, eval e2 X.env)] := by rfl) :
    PE X (.Call (.Name "list" p1) [.Call (.Name "zip" p2) [e1, e2] [] pos2] [] pos1) (tLZ X.K ta) := by
  intro pins s σ H Q I h
  refine wpAny_Call_Name_kw (ld_blt I hg hm PyProof.Rows.boot_list ?_)
  refine PyProof.Rows.callWith_type1 ?_ rfl rfl
  show wpAny _ _ (spliced ((false, eval (.Call (.Name "zip" p2) [e1, e2] [] pos2) X.env) :: backTo pos1 (starEach [] X.env))) _ _ s
  refine Calls.spliced_cons ?_
  refine wpAny_Call_Name_kw (ld_blt I hgz hmz PyProof.Rows.boot_zip ?_)
  refine PyProof.Rows.callWith_type1 (thn (ha pos2 pins s σ H _ I h) fun us s1 ⟨vs, H1, I1, r1, q1⟩ => ?_) (by rw [hs, hs2]) (by rw [hs2]; rfl)
  obtain ⟨a, b, xs, ys, rfl, qa, qb, q⟩ := q1
  obtain ⟨u, v, rfl, ru, rv⟩ := r1.two
  cases (show u = Value.ref a from ru)
  cases (show v = Value.ref b from rv)
  obtain ⟨us, vu, pu, zu⟩ := I1.list qa
  obtain ⟨vs, vv, pv, zv⟩ := I1.list qb
  obtain ⟨oa, ea, _⟩ := id pu.isList
  obtain ⟨ob, eb, _⟩ := id pv.isList
  have la : a < s1.heap.objs.size := Heap.lt_size ea
  have lb : b < s1.heap.objs.size := Heap.lt_size eb
  have l1 := vu.length
  have l2 := vv.length
  refine call_zip_2 pu.isList pv.isList fun h' z1 z2 z3 z4 z5 z6 z7 => ?_
  refine Calls.spliced_nil ?_
  have D : ZipApart (s1.heap.objs.size + 4) (s1.heap.objs.size + 2) (s1.heap.objs.size + 3) s1.heap.objs.size (s1.heap.objs.size + 1) a b := by
    refine ⟨?_, ?_, ?_, ?_, ?_, ?_, ?_, ?_, ?_, ?_, ?_, ?_, ?_, ?_, ?_, ?_, ?_, ?_⟩ <;> first | exact Nat.ne_of_lt (by omega) | exact Nat.ne_of_gt (by omega) | exact Nat.ne_of_lt la | exact Nat.ne_of_lt lb | exact Nat.ne_of_lt (Nat.lt_of_lt_of_le la (Nat.le_add_right _ _)) | exact Nat.ne_of_lt (Nat.lt_of_lt_of_le lb (Nat.le_add_right _ _))
  refine call_list_zip (s := { s1 with heap := h' }) (I1.ok.hd hcm) D z1 z2 z3 z4 z5 (pu.isList.at fun o e => z7 _ _ e) (pv.isList.at fun o e => z7 _ _ e) (by simp; omega) fun h2 acc c ts k3 g3 e3 n3 nd f3 => ?_
  have hz2 : Shared.heap { s1 with heap := h' } = h' := rfl
  rw [hz2] at g3 f3 k3
  rw [z6] at g3 f3
  have kp : ∀ c o, s1.heap.get? c = some o → h2.get? c = some o := fun c o e => by
    have := Heap.lt_size e
    exact k3 c o (ltA this _) (ltA this _) (Nat.ne_of_lt this) (ltA this _) (z7 c o e)
  have hn3 : ts.length = min xs.length ys.length := by rw [n3]; simp; omega
  have idx : ∀ (j : Nat) (T : Addr), ts[j]? = some T → ts.idxOf? T = some j := fun j T hj => by
    obtain ⟨hlt, ej⟩ := List.getElem?_eq_some_iff.mp hj
    rw [List.idxOf?, List.findIdx?_eq_some_iff_getElem]
    refine ⟨hlt, by simp [ej], fun i hi => ?_⟩
    have : ts[i] ≠ ts[j] := fun q => by
      have := (List.getElem_inj nd).mp q
      omega
    simpa [← ej] using this
  have jdx : ∀ (T : Addr) (j : Nat), ts.idxOf? T = some j → ts[j]? = some T := fun T j hj => by
    rw [List.idxOf?, List.findIdx?_eq_some_iff_getElem] at hj
    obtain ⟨hlt, e, _⟩ := hj
    rw [List.getElem?_eq_getElem hlt]
    simpa using e
  have tge : ∀ (T : Addr) (j : Nat), ts.idxOf? T = some j → s1.heap.objs.size + 6 ≤ T := fun T j hj => by
    obtain ⟨a1, _⟩ := f3 j T (jdx T j hj)
    omega
  show EP X pins σ Q _ _
  rw [show (Shared.heap { s1 with heap := h' }).objs.size = s1.heap.objs.size + 5 from z6]
  generalize hH2 : (fun (b : Addr) => if b = s1.heap.objs.size + 5 then some (HO.lst (ts.map V.ref)) else match tupsAt xs ys ts b with | some o => some o | none => H1 b) = H2
  have hD : H2 (s1.heap.objs.size + 5) = some (.lst (ts.map V.ref)) := by rw [← hH2]; exact if_pos rfl
  have hO : ∀ c, c < s1.heap.objs.size → H2 c = H1 c := fun c hc => by
    rw [← hH2]
    show (if c = s1.heap.objs.size + 5 then _ else _) = _
    rw [if_neg (ltA hc 5)]
    have : tupsAt xs ys ts c = none := by
      unfold tupsAt
      cases e : ts.idxOf? c with
      | none => rfl
      | some j => exact absurd (Nat.lt_of_lt_of_le hc (Nat.le_trans (Nat.le_add_right _ 6) (tge c j e))) (Nat.lt_irrefl _)
    rw [this]
  have hT : ∀ (j : Nat) (x y : V) (T : Addr), xs[j]? = some x → ys[j]? = some y → ts[j]? = some T → H2 T = some (.tup [x, y]) := fun j x y T ex ey et => by
    have := tge T j (idx j T et)
    rw [← hH2]
    show (if T = s1.heap.objs.size + 5 then _ else _) = _
    rw [if_neg (Nat.ne_of_gt (Nat.lt_of_lt_of_le (Nat.lt_succ_self _) this))]
    have : tupsAt xs ys ts T = some (.tup [x, y]) := by unfold tupsAt; rw [idx j T et]; dsimp only; rw [ex, ey]
    rw [this]
  refine ⟨.ref (s1.heap.objs.size + 5), H2, I1.grow (s' := { s1 with heap := h2 }) kp rfl rfl hO (fun b u hb eu => ?_), rfl, q _ ts H2 hn3 (fun c o e => ?_) (I1.hok.fresh (Nat.le_add_right _ _)) hD fun j x y ex ey => ?_⟩
  · rw [← hH2] at eu
    replace eu : (if b = s1.heap.objs.size + 5 then some (HO.lst (ts.map V.ref)) else match tupsAt xs ys ts b with | some o => some o | none => H1 b) = some u := eu
    by_cases zb : b = s1.heap.objs.size + 5
    · rw [if_pos zb] at eu
      cases eu
      subst zb
      have rv : ∀ ts : List Addr, Vals (ts.map V.ref) (ts.map Value.ref) := fun ts => by
        induction ts with
        | nil => exact .nil
        | cons t r ih => exact .cons rfl ih
      refine ⟨by rw [List.length_map, hn3]; omega, ts.map Value.ref, c, rv ts, ?_⟩
      rw [← e3]; exact g3
    · rw [if_neg zb] at eu
      cases et : tupsAt xs ys ts b with
      | none => rw [et] at eu; replace eu : H1 b = some u := eu; rw [I1.hok.fresh hb] at eu; cases eu
      | some o =>
        rw [et] at eu
        cases eu
        unfold tupsAt at et
        cases ei : ts.idxOf? b with
        | none => rw [ei] at et; cases et
        | some j =>
          rw [ei] at et
          dsimp only at et
          cases ex : xs[j]? with
          | none => rw [ex] at et; cases et
          | some x =>
            cases ey : ys[j]? with
            | none => rw [ex, ey] at et; cases et
            | some y =>
              rw [ex, ey] at et
              cases et
              obtain ⟨_, x', y', fx, fy, gp⟩ := f3 j b (jdx b j ei)
              obtain ⟨u1, eu1, ru1⟩ := vu.get ex
              obtain ⟨v1, ev1, rv1⟩ := vv.get ey
              have fx' : us[j]? = some x' := by simpa using fx
              have fy' : vs[j]? = some y' := by simpa using fy
              rw [eu1] at fx'; rw [ev1] at fy'
              cases fx'; cases fy'
              exact ⟨by show 2 ≤ sizeLine; decide, [x', y'], .cons ru1 (.cons rv1 .nil), _, gp, rfl, _, rfl⟩
  · have : c < s1.heap.objs.size := by
      rcases Nat.lt_or_ge c s1.heap.objs.size with z | z
      · exact z
      · rw [I1.hok.fresh z] at e; cases e
    rw [hO c this]; exact e
  · have hj : j < ts.length := by
      obtain ⟨h1, _⟩ := List.getElem?_eq_some_iff.mp ex
      obtain ⟨h2', _⟩ := List.getElem?_eq_some_iff.mp ey
      omega
    have et : ts[j]? = some ts[j] := List.getElem?_eq_getElem hj
    exact ⟨ts[j], et, I1.hok.fresh (Nat.le_trans (Nat.le_add_right _ 6) (tge _ j (idx j _ et))), hT j x y _ ex ey et⟩
end
end L2

namespace L2
/-! ### walks with states; lists that their members tell -/
theorem inP_iff' {R : List Pr} {n : Int} : inP R n = true ↔ ∃ p ∈ R, p.1 ≤ n ∧ n ≤ p.2 := by
  unfold inP
  rw [List.any_eq_true]
  constructor
  · rintro ⟨p, hp, h⟩; exact ⟨p, hp, inR_iff.mp h⟩
  · rintro ⟨p, hp, h⟩; exact ⟨p, hp, inR_iff.mpr h⟩
theorem Apart.uniq : ∀ {A B : List Pr}, Apart A → Apart B → (∀ n, inP A n = inP B n) → A = B
  | [], [], _, _, _ => rfl
  | [], b :: B, _, hB, h => by
    have : inP (b :: B) b.1 = true := inP_iff'.mpr ⟨b, .head _, Int.le_refl _, hB.tail.2.1⟩
    rw [← h b.1] at this
    cases this
  | a :: A, [], hA, _, h => by
    have : inP (a :: A) a.1 = true := inP_iff'.mpr ⟨a, .head _, Int.le_refl _, hA.tail.2.1⟩
    rw [h a.1] at this
    cases this
  | a :: A, b :: B, hA, hB, h => by
    obtain ⟨hA', ha, ga⟩ := hA.tail
    obtain ⟨hB', hb, gb⟩ := hB.tail
    have m : ∀ n, (∃ p ∈ a :: A, p.1 ≤ n ∧ n ≤ p.2) ↔ (∃ p ∈ b :: B, p.1 ≤ n ∧ n ≤ p.2) := fun n => by rw [← inP_iff', ← inP_iff', h n]
    have lowA : ∀ p ∈ a :: A, a.1 ≤ p.1 := fun p hp => by
      rcases List.mem_cons.mp hp with rfl | hp
      · exact Int.le_refl _
      · have := ga p hp; omega
    have lowB : ∀ p ∈ b :: B, b.1 ≤ p.1 := fun p hp => by
      rcases List.mem_cons.mp hp with rfl | hp
      · exact Int.le_refl _
      · have := gb p hp; omega
    have e1 : a.1 = b.1 := by
      obtain ⟨p, hp, p1, p2⟩ := (m a.1).mp ⟨a, .head _, Int.le_refl _, ha⟩
      obtain ⟨q, hq, q1, q2⟩ := (m b.1).mpr ⟨b, .head _, Int.le_refl _, hb⟩
      have := lowB p hp
      have := lowA q hq
      omega
    have e2 : a.2 = b.2 := by
      rcases Int.lt_trichotomy a.2 b.2 with g | g | g
      · obtain ⟨p, hp, p1, p2⟩ := (m (a.2 + 1)).mpr ⟨b, .head _, by omega, by omega⟩
        rcases List.mem_cons.mp hp with rfl | hp
        · omega
        · have := ga p hp; omega
      · exact g
      · obtain ⟨p, hp, p1, p2⟩ := (m (b.2 + 1)).mp ⟨a, .head _, by omega, by omega⟩
        rcases List.mem_cons.mp hp with rfl | hp
        · omega
        · have := gb p hp; omega
    have e : a = b := Prod.ext e1 e2
    subst e
    congr 1
    refine Apart.uniq hA' hB' fun n => ?_
    by_cases hn : n ≤ a.2
    · rw [hA.behind hn, hB.behind hn]
    · have hx := h n
      have z : inR n a = false := Bool.eq_false_iff.mpr fun t => hn (inR_iff.mp t).2
      have c1 : inP (a :: A) n = (inR n a || inP A n) := rfl
      have c2 : inP (a :: B) n = (inR n a || inP B n) := rfl
      rw [c1, c2, z] at hx
      exact hx
theorem sorted_uniq : ∀ {A B : List Int}, A.Pairwise (· < ·) → B.Pairwise (· < ·) → (∀ c, c ∈ A ↔ c ∈ B) → A = B
  | [], [], _, _, _ => rfl
  | [], b :: B, _, _, h => by have := (h b).mpr (.head _); cases this
  | a :: A, [], _, _, h => by have := (h a).mp (.head _); cases this
  | a :: A, b :: B, hA, hB, h => by
    obtain ⟨a1, a2⟩ := List.pairwise_cons.mp hA
    obtain ⟨b1, b2⟩ := List.pairwise_cons.mp hB
    have e : a = b := by
      rcases List.mem_cons.mp ((h a).mp (.head _)) with e | e
      · exact e
      · rcases List.mem_cons.mp ((h b).mpr (.head _)) with e' | e'
        · exact e'.symm
        · have := a1 b e'; have := b1 a e; omega
    subst e
    congr 1
    refine sorted_uniq a2 b2 fun c => ⟨fun hc => ?_, fun hc => ?_⟩
    · rcases List.mem_cons.mp ((h c).mp (.tail _ hc)) with e | e
      · have := a1 c hc; omega
      · exact e
    · rcases List.mem_cons.mp ((h c).mpr (.tail _ hc)) with e | e
      · have := b1 c hc; omega
      · exact e
theorem Walk.tl {t : Int × Int × Int} {ts : List (Int × Int × Int)} (h : Walk (t :: ts)) : Walk ts := ⟨fun u hu => h.le u (.tail _ hu), fun i a b e1 e2 => h.nx (i + 1) a b e1 e2⟩
theorem Walk.ahead : ∀ {ts : List (Int × Int × Int)} {t : Int × Int × Int}, Walk (t :: ts) → ∀ u ∈ ts, t.2.1 < u.1
  | [], _, _, u, hu => by cases hu
  | s :: ts, t, h, u, hu => by
    have h1 : s.1 = t.2.1 + 1 := h.nx 0 t s rfl rfl
    rcases List.mem_cons.mp hu with rfl | hu
    · omega
    · have := Walk.ahead h.tl u hu
      have := h.le s (.tail _ (.head _))
      omega
theorem pcs_at : ∀ {ts : List (Int × Int × Int)}, Walk ts → ∀ {n : Int} {t : Int × Int × Int}, t ∈ ts → t.1 ≤ n → n ≤ t.2.1 → ∀ msk, pcs msk ts n = msk t.2.2
  | [], _, _, _, ht, _, _, _ => by cases ht
  | s :: ts, h, n, t, ht, h1, h2, msk => by
    have c : pcs msk (s :: ts) n = ((inR n (s.1, s.2.1) && msk s.2.2) || pcs msk ts n) := rfl
    rcases List.mem_cons.mp ht with rfl | ht
    · have z : pcs msk ts n = false := by
        unfold pcs
        rw [List.any_eq_false]
        intro u hu
        have := h.ahead u hu
        have z : inR n (u.1, u.2.1) = false := Bool.eq_false_iff.mpr fun q => by have := (inR_iff.mp q).1; dsimp only at this; omega
        rw [z, Bool.false_and]; decide
      rw [c, z, inR_iff.mpr (show t.1 ≤ n ∧ n ≤ t.2.1 from ⟨h1, h2⟩)]
      simp
    · have := h.ahead t ht
      have z : inR n (s.1, s.2.1) = false := Bool.eq_false_iff.mpr fun q => by have := (inR_iff.mp q).2; dsimp only at this; omega
      rw [c, z, pcs_at h.tl ht h1 h2 msk]
      rfl
theorem pcs_one : ∀ {ts : List (Int × Int × Int)}, Walk ts → ∀ n : Int, (∀ msk, pcs msk ts n = false) ∨ ∃ t ∈ ts, ∀ msk, pcs msk ts n = msk t.2.2 := fun {ts} h n => by
  by_cases g : ∃ t ∈ ts, t.1 ≤ n ∧ n ≤ t.2.1
  · obtain ⟨t, ht, h1, h2⟩ := g
    exact .inr ⟨t, ht, pcs_at h ht h1 h2⟩
  · refine .inl fun msk => ?_
    unfold pcs
    rw [List.any_eq_false]
    intro u hu
    have z : inR n (u.1, u.2.1) = false := Bool.eq_false_iff.mpr fun q => g ⟨u, hu, inR_iff.mp q⟩
    rw [z, Bool.false_and]; decide
theorem Walk.cover : ∀ {G W' : List (Int × Int × Int)} {g z : Int × Int × Int}, Walk (g :: G) → g :: G = W' ++ [z] → ∀ n : Int, g.1 ≤ n → n ≤ z.2.1 → ∃ t ∈ g :: G, t.1 ≤ n ∧ n ≤ t.2.1
  | [], W', g, z, _, e, n, h1, h2 => by
    have : g = z := by
      cases W' with
      | nil => simpa using e
      | cons w W => simp at e
    subst this
    exact ⟨g, .head _, h1, h2⟩
  | s :: G, W', g, z, h, e, n, h1, h2 => by
    by_cases hn : n ≤ g.2.1
    · exact ⟨g, .head _, h1, hn⟩
    · have hs : s.1 = g.2.1 + 1 := h.nx 0 g s rfl rfl
      cases W' with
      | nil => simp at e
      | cons w W =>
        have e2 : s :: G = W ++ [z] := by simpa using (List.cons.inj e).2
        obtain ⟨t, ht, q⟩ := Walk.cover h.tl e2 n (by omega) h2
        exact ⟨t, .tail _ ht, q⟩
theorem Walk.up : ∀ {G : List (Int × Int × Int)} {g : Int × Int × Int}, Walk (g :: G) → ((g :: G).map (·.1)).Pairwise (· < ·)
  | [], g, _ => List.pairwise_singleton _ _
  | s :: G, g, h => by
    rw [List.map_cons]
    refine List.Pairwise.cons (fun c hc => ?_) (Walk.up h.tl)
    obtain ⟨u, hu, rfl⟩ := List.mem_map.mp hc
    have := h.ahead u hu
    have := h.le g (.head _)
    show g.1 < u.1
    omega
theorem flip_ends {R : List Pr} {e : Int} (h : inP R (e - 1) ≠ inP R e) : e ∈ ends R := by
  rw [mem_ends]
  cases h1 : inP R e with
  | true =>
    obtain ⟨p, hp, p1, p2⟩ := inP_iff'.mp h1
    refine ⟨p, hp, .inl ?_⟩
    have h2 : ¬ inP R (e - 1) = true := fun z => h (by rw [z, h1])
    rcases Int.lt_or_le p.1 e with g | g
    · exact absurd (inP_iff'.mpr ⟨p, hp, by omega, by omega⟩) h2
    · omega
  | false =>
    have h2 : inP R (e - 1) = true := by
      cases h3 : inP R (e - 1) with
      | true => rfl
      | false => exact absurd (by rw [h3, h1]) h
    obtain ⟨p, hp, p1, p2⟩ := inP_iff'.mp h2
    refine ⟨p, hp, .inr ?_⟩
    rcases Int.lt_or_le p.2 e with g | g
    · omega
    · exact absurd (inP_iff'.mpr ⟨p, hp, by omega, g⟩) (by rw [h1]; decide)
/-- neighbours have unlike states -/
def NeS (W : List (Int × Int × Int)) : Prop := ∀ (j : Nat) a b, W[j]? = some a → W[j + 1]? = some b → a.2.2 ≠ b.2.2
theorem cuts_are {g z : Int × Int × Int} {G W' : List (Int × Int × Int)} {A B : List Pr} {mA mB : Int → Bool} (h : Walk (g :: G)) (e : g :: G = W' ++ [z]) (ne : NeS (g :: G)) (aA : Apart A) (aB : Apart B) (hA : ∀ n, inP A n = pcs mA (g :: G) n) (hB : ∀ n, inP B n = pcs mB (g :: G) n)
    (sep : ∀ s ∈ g :: G, ∀ t ∈ g :: G, s.2.2 ≠ t.2.2 → mA s.2.2 ≠ mA t.2.2 ∨ mB s.2.2 ≠ mB t.2.2) (c : Int) : c ∈ G.map (·.1) ↔ ((c ∈ ends A ∨ c ∈ ends B) ∧ g.1 < c ∧ c ≤ z.2.1) := by
  constructor
  · intro hc
    obtain ⟨t, ht, rfl⟩ := List.mem_map.mp hc
    obtain ⟨j, hj⟩ := List.mem_iff_getElem?.mp ht
    have hj1 : (g :: G)[j + 1]? = some t := hj
    obtain ⟨a, ha⟩ : ∃ a, (g :: G)[j]? = some a := ⟨_, List.getElem?_eq_getElem (by have := (List.getElem?_eq_some_iff.mp hj1).1; omega)⟩
    have ma := List.mem_of_getElem? ha
    have mt : t ∈ g :: G := .tail _ ht
    have n1 := h.nx j a t ha hj1
    have n2 := ne j a t ha hj1
    have la := h.le a ma
    have lt := h.le t mt
    have hg := h.ahead t ht
    have lg := h.le g (.head _)
    refine ⟨?_, by show g.1 < t.1; omega, ?_⟩
    · have p1 : ∀ msk, pcs msk (g :: G) (t.1 - 1) = msk a.2.2 := pcs_at h ma (by omega) (by omega)
      have p2 : ∀ msk, pcs msk (g :: G) t.1 = msk t.2.2 := pcs_at h mt (Int.le_refl _) lt
      rcases sep a ma t mt n2 with k | k
      · exact .inl (flip_ends (by rw [hA, hA, p1, p2]; exact k))
      · exact .inr (flip_ends (by rw [hB, hB, p1, p2]; exact k))
    · show t.1 ≤ z.2.1
      rw [e] at mt
      rcases List.mem_append.mp mt with mt' | mt'
      · obtain ⟨i, hi⟩ := List.mem_iff_getElem?.mp mt'
        have hi' := (List.getElem?_eq_some_iff.mp hi).1
        have hz : (g :: G)[W'.length]? = some z := by rw [e, List.getElem?_append_right (Nat.le_refl _), Nat.sub_self]; rfl
        have hti : (g :: G)[i]? = some t := by rw [e, List.getElem?_append_left hi']; exact hi
        obtain ⟨b1, b2⟩ := List.getElem?_eq_some_iff.mp hz
        obtain ⟨b3, b4⟩ := List.getElem?_eq_some_iff.mp hti
        have pw := List.pairwise_iff_getElem.mp (Walk.up h) i W'.length (by rw [List.length_map]; exact b3) (by rw [List.length_map]; exact b1) hi'
        rw [List.getElem_map, List.getElem_map, b2, b4] at pw
        have := h.le z (by rw [e]; simp)
        omega
      · have : t = z := by simpa using mt'
        subst this
        exact lt
  · rintro ⟨hc, h1, h2⟩
    obtain ⟨t, ht, t1, t2⟩ := h.cover e c (by omega) h2
    by_cases g1 : t.1 < c
    · have p1 : ∀ msk, pcs msk (g :: G) (c - 1) = msk t.2.2 := pcs_at h ht (by omega) (by omega)
      have p2 : ∀ msk, pcs msk (g :: G) c = msk t.2.2 := pcs_at h ht t1 t2
      rcases hc with hc | hc
      · exact absurd (by rw [hA, hA, p1, p2]) (ends_flip aA hc)
      · exact absurd (by rw [hB, hB, p1, p2]) (ends_flip aB hc)
    · have ec : t.1 = c := by omega
      rcases List.mem_cons.mp ht with rfl | ht
      · omega
      · exact List.mem_map.mpr ⟨t, ht, ec⟩
/-- pieces of like state put together -/
structure StepI (G ts : List (Int × Int × Int)) (i : Nat) : Prop where
  walk : Walk G
  ne : NeS G
  pcs : ∀ msk n, pcs msk G n = L2.pcs msk (ts.take i) n
  hd : ∀ t, ts[0]? = some t → 0 < i → ∃ g, G[0]? = some g ∧ g.1 = t.1
  lst : ∀ t, ts[i - 1]? = some t → 0 < i → ∃ G' g, G = G' ++ [g] ∧ g.2.1 = t.2.1 ∧ g.2.2 = t.2.2
  len : G.length ≤ i
  stt : ∀ g ∈ G, ∃ t ∈ ts, g.2.2 = t.2.2
theorem StepI.start (ts : List (Int × Int × Int)) : StepI [] ts 0 := ⟨⟨(fun _ h => by cases h), (fun _ _ _ h => by cases h)⟩, (fun _ _ _ h => by cases h), fun _ _ => rfl, (fun _ _ h => absurd h (Nat.lt_irrefl _)), (fun _ _ h => absurd h (Nat.lt_irrefl _)), Nat.le_refl _, (fun _ h => by cases h)⟩
theorem Walk.snoc {G : List (Int × Int × Int)} {t : Int × Int × Int} (h : Walk G) (hl : t.1 ≤ t.2.1) (hn : ∀ G' g, G = G' ++ [g] → t.1 = g.2.1 + 1) : Walk (G ++ [t]) := by
  refine ⟨fun u hu => ?_, fun j a b e1 e2 => ?_⟩
  · rcases List.mem_append.mp hu with hu | hu
    · exact h.le u hu
    · rw [show u = t by simpa using hu]; exact hl
  · by_cases hj : j + 1 < G.length
    · rw [List.getElem?_append_left (by omega)] at e1
      rw [List.getElem?_append_left hj] at e2
      exact h.nx j a b e1 e2
    · have hj2 : j + 1 = G.length := by
        have := (List.getElem?_eq_some_iff.mp e2).1
        rw [List.length_append, List.length_singleton] at this
        omega
      rw [List.getElem?_append_left (by omega)] at e1
      rw [hj2, List.getElem?_append_right (Nat.le_refl _), Nat.sub_self] at e2
      have eb : t = b := by simpa using e2
      subst eb
      rcases List.eq_nil_or_concat G with z | ⟨G', g, z⟩
      · rw [z] at hj2; simp at hj2
      · rw [List.concat_eq_append] at z
        have eg : a = g := by
          have : G'.length = j := by rw [z, List.length_append, List.length_singleton] at hj2; omega
          rw [z, List.getElem?_append_right (by omega), this, Nat.sub_self] at e1
          simpa using e1.symm
        rw [eg]
        exact hn G' g z
theorem NeS.snoc {G : List (Int × Int × Int)} {t : Int × Int × Int} (h : NeS G) (hn : ∀ G' g, G = G' ++ [g] → g.2.2 ≠ t.2.2) : NeS (G ++ [t]) := fun j a b e1 e2 => by
  by_cases hj : j + 1 < G.length
  · rw [List.getElem?_append_left (by omega)] at e1
    rw [List.getElem?_append_left hj] at e2
    exact h j a b e1 e2
  · have hj2 : j + 1 = G.length := by
      have := (List.getElem?_eq_some_iff.mp e2).1
      rw [List.length_append, List.length_singleton] at this
      omega
    rw [List.getElem?_append_left (by omega)] at e1
    rw [hj2, List.getElem?_append_right (Nat.le_refl _), Nat.sub_self] at e2
    have eb : t = b := by simpa using e2
    subst eb
    rcases List.eq_nil_or_concat G with z | ⟨G', g, z⟩
    · rw [z] at hj2; simp at hj2
    · rw [List.concat_eq_append] at z
      have eg : a = g := by
        have : G'.length = j := by rw [z, List.length_append, List.length_singleton] at hj2; omega
        rw [z, List.getElem?_append_right (by omega), this, Nat.sub_self] at e1
        simpa using e1.symm
      rw [eg]
      exact hn G' g z
section
variable {G ts : List (Int × Int × Int)} {i : Nat} {t : Int × Int × Int}
theorem StepI.behind (h : StepI G ts i) (hw : Walk ts) (e : ts[i]? = some t) : ∀ G' g, G = G' ++ [g] → t.1 = g.2.1 + 1 := fun G' g z => by
  have hi : 0 < i := by
    have := h.len
    rw [z, List.length_append, List.length_singleton] at this
    omega
  obtain ⟨u, eu⟩ : ∃ u, ts[i - 1]? = some u := ⟨_, List.getElem?_eq_getElem (by have := (List.getElem?_eq_some_iff.mp e).1; omega)⟩
  obtain ⟨G2, g2, z2, q1, q2⟩ := h.lst u eu hi
  rw [z] at z2
  have eg : g = g2 := by simpa using List.append_inj_right' z2 rfl
  have := hw.nx (i - 1) u t eu (by rw [show i - 1 + 1 = i by omega]; exact e)
  rw [eg]; omega
theorem StepI.add (h : StepI G ts i) (hw : Walk ts) (e : ts[i]? = some t) (hn : ∀ G' g, G = G' ++ [g] → g.2.2 ≠ t.2.2) : StepI (G ++ [t]) ts (i + 1) := by
  refine ⟨h.walk.snoc (hw.le t (List.mem_of_getElem? e)) (h.behind hw e), h.ne.snoc hn, fun msk n => ?_, fun u eu _ => ?_, fun u eu _ => ⟨G, t, rfl, ?_⟩, ?_, fun g hg => ?_⟩
  · rw [take_snoc' e, pcs_snoc, pcs_snoc, h.pcs]
  · by_cases hi : 0 < i
    · obtain ⟨g, e1, e2⟩ := h.hd u eu hi
      exact ⟨g, by rw [List.getElem?_append_left (List.getElem?_eq_some_iff.mp e1).1]; exact e1, e2⟩
    · have hi0 : i = 0 := by omega
      subst hi0
      have : G = [] := List.eq_nil_of_length_eq_zero (Nat.le_zero.mp h.len)
      subst this
      rw [e] at eu
      cases eu
      exact ⟨t, rfl, rfl⟩
  · rw [Nat.add_sub_cancel, e] at eu
    cases eu
    exact ⟨rfl, rfl⟩
  · rw [List.length_append, List.length_singleton]; have := h.len; omega
  · rcases List.mem_append.mp hg with hg | hg
    · exact h.stt g hg
    · rw [show g = t by simpa using hg]; exact ⟨t, List.mem_of_getElem? e, rfl⟩
theorem StepI.join {G' : List (Int × Int × Int)} {g : Int × Int × Int} (h : StepI (G' ++ [g]) ts i) (hw : Walk ts) (e : ts[i]? = some t) (hs : g.2.2 = t.2.2) : StepI (G' ++ [(g.1, t.2.1, t.2.2)]) ts (i + 1) := by
  have hb := h.behind hw e G' g rfl
  have hl := hw.le t (List.mem_of_getElem? e)
  have hg := h.walk.le g (by simp)
  have hi : 0 < i := by
    have := h.len
    rw [List.length_append, List.length_singleton] at this
    omega
  have wG : Walk G' := ⟨fun u hu => h.walk.le u (List.mem_append.mpr (.inl hu)), fun j a b e1 e2 => h.walk.nx j a b (by rw [List.getElem?_append_left (List.getElem?_eq_some_iff.mp e1).1]; exact e1) (by rw [List.getElem?_append_left (List.getElem?_eq_some_iff.mp e2).1]; exact e2)⟩
  have nG : NeS G' := fun j a b e1 e2 => h.ne j a b (by rw [List.getElem?_append_left (List.getElem?_eq_some_iff.mp e1).1]; exact e1) (by rw [List.getElem?_append_left (List.getElem?_eq_some_iff.mp e2).1]; exact e2)
  have at_ : ∀ G2 g2, G' = G2 ++ [g2] → (G' ++ [g])[G2.length]? = some g2 ∧ (G' ++ [g])[G2.length + 1]? = some g := fun G2 g2 z => by
    subst z
    refine ⟨by simp, ?_⟩
    rw [List.getElem?_append_right (by simp)]
    simp
  refine ⟨wG.snoc (by show g.1 ≤ t.2.1; omega) (fun G2 g2 z => (h.walk.nx _ g2 g (at_ G2 g2 z).1 (at_ G2 g2 z).2 : g.1 = g2.2.1 + 1)), nG.snoc (fun G2 g2 z => by rw [← hs]; exact h.ne _ _ _ (at_ G2 g2 z).1 (at_ G2 g2 z).2), fun msk n => ?_, fun u eu _ => ?_, fun u eu _ => ⟨G', _, rfl, ?_⟩, ?_, fun k hk => ?_⟩
  · rw [take_snoc' e, pcs_snoc, pcs_snoc, ← h.pcs, pcs_snoc, Bool.or_assoc]
    congr 1
    rw [hs, ← Bool.and_or_distrib_right]
    congr 1
    rw [Bool.eq_iff_iff, Bool.or_eq_true, inR_iff, inR_iff, inR_iff]
    show (g.1 ≤ n ∧ n ≤ t.2.1) ↔ ((g.1 ≤ n ∧ n ≤ g.2.1) ∨ (t.1 ≤ n ∧ n ≤ t.2.1))
    omega
  · obtain ⟨k, e1, e2⟩ := h.hd u eu hi
    cases G' with
    | nil =>
      have : g = k := by simpa using e1
      subst this
      exact ⟨(g.1, t.2.1, t.2.2), rfl, e2⟩
    | cons w G2 => exact ⟨k, by simpa using e1, e2⟩
  · rw [Nat.add_sub_cancel, e] at eu
    cases eu
    exact ⟨rfl, rfl⟩
  · have := h.len
    rw [List.length_append, List.length_singleton] at this ⊢
    omega
  · rcases List.mem_append.mp hk with hk | hk
    · exact h.stt k (List.mem_append.mpr (.inl hk))
    · rw [show k = (g.1, t.2.1, t.2.2) by simpa using hk]; exact ⟨t, List.mem_of_getElem? e, rfl⟩
end
end L2

set_option Elab.async false
set_option maxRecDepth 100000
set_option maxHeartbeats 4000000
set_option linter.all false
namespace My
open PySem L2
def top (i : Nat) : Stmt := PySem.Challenge.pw_rowjudge_k08_whole_walk.main.body.getD i (.Pass ⟨0, 0, 0, 0⟩)
abbrev s_tidy : Stmt := top 1
abbrev s_either : Stmt := top 2
abbrev s_both : Stmt := top 3
abbrev s_without : Stmt := top 4
abbrev s_gaps : Stmt := top 5
abbrev s_edges : Stmt := top 6
abbrev s_stretches : Stmt := top 7
abbrev s_law_cell : Stmt := top 9
abbrev s_law_step : Stmt := top 10
abbrev s_law_start : Stmt := top 11
abbrev s_law_pieces : Stmt := top 12
abbrev s_law_runs : Stmt := top 13
abbrev s_law_whole : Stmt := top 14
abbrev s_law_apart : Stmt := top 15
abbrev s_law_same : Stmt := top 16
abbrev s_law_steps : Stmt := top 17
abbrev s_law_pair_list : Stmt := top 18
abbrev s_law : Stmt := top 19
theorem sc_tidy : FnScope ["pairs", "spans", "low", "high"] ["pairs"] (defScope s_tidy) := ⟨rfl, rfl, rfl, by decide +kernel, rfl, by decide +kernel, by decide +kernel⟩
theorem sc_either : FnScope ["ones", "others"] ["ones", "others"] (defScope s_either) := ⟨rfl, rfl, rfl, by decide +kernel, rfl, by decide +kernel, by decide +kernel⟩
theorem sc_both : FnScope ["ones", "others", "shared", "at_one", "at_other", "one", "other", "low", "high"] ["ones", "others"] (defScope s_both) := ⟨rfl, rfl, rfl, by decide +kernel, rfl, by decide +kernel, by decide +kernel⟩
theorem sc_without : FnScope ["ones", "others"] ["ones", "others"] (defScope s_without) := ⟨rfl, rfl, rfl, by decide +kernel, rfl, by decide +kernel, by decide +kernel⟩
theorem sc_gaps : FnScope ["spans", "low", "high", "free", "start", "first", "last", "end"] ["spans", "low", "high"] (defScope s_gaps) := ⟨rfl, rfl, rfl, by decide +kernel, rfl, by decide +kernel, by decide +kernel⟩
theorem sc_edges : FnScope ["spans", "low", "high", "turns", "first", "last"] ["spans", "low", "high"] (defScope s_edges) := ⟨rfl, rfl, rfl, by decide +kernel, rfl, by decide +kernel, by decide +kernel⟩
theorem sc_stretches : FnScope ["low", "high", "marks", "cuts", "lows", "highs"] ["low", "high", "marks"] (defScope s_stretches) := ⟨rfl, rfl, rfl, by decide +kernel, rfl, by decide +kernel, by decide +kernel⟩
theorem sc_law_cell : FnScope ["script", "k"] ["script", "k"] (defScope s_law_cell) := ⟨rfl, rfl, rfl, by decide +kernel, rfl, by decide +kernel, by decide +kernel⟩
theorem sc_law_step : FnScope ["cell"] ["cell"] (defScope s_law_step) := ⟨rfl, rfl, rfl, by decide +kernel, rfl, by decide +kernel, by decide +kernel⟩
theorem sc_law_start : FnScope ["cell"] ["cell"] (defScope s_law_start) := ⟨rfl, rfl, rfl, by decide +kernel, rfl, by decide +kernel, by decide +kernel⟩
theorem sc_law_pieces : FnScope ["cells", "start", "told", "at", "state", "cell", "step"] ["cells", "start"] (defScope s_law_pieces) := ⟨rfl, rfl, rfl, by decide +kernel, rfl, by decide +kernel, by decide +kernel⟩
theorem sc_law_runs : FnScope ["pieces", "masks", "told", "piece"] ["pieces", "masks"] (defScope s_law_runs) := ⟨rfl, rfl, rfl, by decide +kernel, rfl, by decide +kernel, by decide +kernel⟩
theorem sc_law_whole : FnScope ["found"] ["found"] (defScope s_law_whole) := ⟨rfl, rfl, rfl, by decide +kernel, rfl, by decide +kernel, by decide +kernel⟩
theorem sc_law_apart : FnScope ["found", "k"] ["found"] (defScope s_law_apart) := ⟨rfl, rfl, rfl, by decide +kernel, rfl, by decide +kernel, by decide +kernel⟩
theorem sc_law_same : FnScope ["found", "due"] ["found", "due"] (defScope s_law_same) := ⟨rfl, rfl, rfl, by decide +kernel, rfl, by decide +kernel, by decide +kernel⟩
theorem sc_law_steps : FnScope ["pieces", "start", "told", "piece"] ["pieces", "start"] (defScope s_law_steps) := ⟨rfl, rfl, rfl, by decide +kernel, rfl, by decide +kernel, by decide +kernel⟩
theorem sc_law_pair_list : FnScope ["found", "pair"] ["found"] (defScope s_law_pair_list) := ⟨rfl, rfl, rfl, by decide +kernel, rfl, by decide +kernel, by decide +kernel⟩
theorem sc_law : FnScope ["script", "start", "pieces", "ones", "others", "handed", "due", "marks", "found"] ["script"] (defScope s_law) := ⟨rfl, rfl, rfl, by decide +kernel, rfl, by decide +kernel, by decide +kernel⟩
structure Bl (K : PySem.W.Frag) (mg : Str → Option Value) : Prop where
  sorted_ : mg "sorted" = none
  max_ : mg "max" = none
  min_ : mg "min" = none
  len_ : mg "len" = none
  list_ : mg "list" = none
  set_ : mg "set" = none
  zip_ : mg "zip" = none
  isinstance_ : mg "isinstance" = none
  int_ : mg "int" = none
  bool_ : mg "bool" = none
  range_ : mg "range" = none
  tuple_ : mg "tuple" = none
theorem int_of_map {ns : List Int} {i : Nat} {x : V} (e : (ns.map V.int)[i]? = some x) : ∃ c, x = .int c := by
  rw [List.getElem?_map] at e
  cases q : ns[i]? with
  | none => rw [q] at e; cases e
  | some c => rw [q] at e; cases e; exact ⟨c, rfl⟩
theorem cut_from (ns : List Int) (k : Nat) (hi : Option Int) : ∃ ms : List Int, cutV (ns.map V.int) (some (k : Int)) hi = ms.map V.int ∧ ms.length ≤ ns.length - k := by
  unfold cutV
  have e : HT.sIx (ns.map V.int).length 0 (some (k : Int)) = min k ns.length := by
    simp only [HT.sIx, List.length_map]
    split <;> omega
  refine ⟨(ns.drop (HT.sIx (ns.map V.int).length 0 (some (k : Int)))).take (HT.sIx (ns.map V.int).length (ns.map V.int).length hi - HT.sIx (ns.map V.int).length 0 (some (k : Int))), ?_, ?_⟩
  · rw [List.map_take, List.map_drop]
  · rw [List.length_take, List.length_drop, e]; omega
theorem p10 (n : Nat) : (0 : Int) < 10 ^ n := Int.pow_pos (by decide)
theorem getI {xs : List V} {i : Nat} {x : V} (e : xs[i]? = some x) : atI xs (0 + (i : Int)) = some x := by
  rw [Int.zero_add]; exact atI_nat e
theorem z0 (a b : Int) : atI [V.int a, V.int b] 0 = some (V.int a) := rfl
theorem z1 (a b : Int) : atI [V.int a, V.int b] 1 = some (V.int b) := rfl
theorem ret_r1 {H : Hp} {r : Addr} {o : HO} {b : Addr} {u : HO} (h : H r = some u) (n : H b = none) : upd H b o r = some u := by rw [upd_ne (ne_of_none h n)]; exact h
theorem ixN_last {n : Nat} (h : 0 < n) : ixN n (-1) = some (n - 1) := by
  unfold ixN
  rw [if_neg (by decide), if_pos (by omega)]
  congr 1
  omega
theorem set_last {α : Type} (l : List α) (x y : α) : (l ++ [x]).set ((l ++ [x]).length - 1) y = l ++ [y] := by
  have e : (l ++ [x]).length - 1 = l.length := by simp
  rw [e, List.set_append_right _ _ (Nat.le_refl _), Nat.sub_self]
  rfl
theorem take_snoc {α : Type} {l : List α} {i : Nat} {x : α} (e : l[i]? = some x) : l.take (i + 1) = l.take i ++ [x] := by rw [List.take_add_one, e]; rfl
/-- the pairs ahead of place i are not above it -/
theorem sorted_le {qs : List (Int × Int)} (h : qs.Pairwise fun p q => ltP q p = false) {i : Nat} {p : Int × Int} (e : qs[i]? = some p) : ∀ q ∈ qs.take i, q.1 ≤ p.1 := fun q hq => by
  obtain ⟨hi, rfl⟩ := List.getElem?_eq_some_iff.mp e
  obtain ⟨j, hj, rfl⟩ := List.mem_take_iff_getElem.mp hq
  have z := List.pairwise_iff_getElem.mp h j i (by omega) hi (by omega)
  simp only [ltP, Bool.or_eq_false_iff, decide_eq_false_iff_not] at z
  omega
theorem w0 (a b c : Int) : atI [V.int a, V.int b, V.int c] 0 = some (V.int a) := rfl
theorem w1 (a b c : Int) : atI [V.int a, V.int b, V.int c] 1 = some (V.int b) := rfl
theorem w2 (a b c : Int) : atI [V.int a, V.int b, V.int c] 2 = some (V.int c) := rfl
theorem flat_ints (ns : List Int) : (ns.map V.int).all flatV = true := by
  rw [List.all_map]
  exact List.all_eq_true.mpr fun _ _ => rfl
theorem get_map {ns : List Int} {i : Nat} {c : Int} (e : ns[i]? = some c) : (ns.map V.int)[i]? = some (.int c) := by rw [List.getElem?_map, e]; rfl
theorem of_map {ns : List Int} {i : Nat} {x : V} (e : (ns.map V.int)[i]? = some x) : ∃ c, x = .int c ∧ ns[i]? = some c := by
  rw [List.getElem?_map] at e
  cases q : ns[i]? with
  | none => rw [q] at e; cases e
  | some c => rw [q] at e; cases e; exact ⟨c, rfl, rfl⟩
/-- the stretches between cuts -/
def stre (lo hi : Int) (cs : List Int) : List (Int × Int) := (lo :: cs).zip (cs.map (· - 1) ++ [hi])
/-- pairs one behind another -/
def Chn : List (Int × Int) → Int → Int → Prop
  | [], lo, hi => lo = hi + 1
  | p :: r, lo, hi => p.1 = lo ∧ lo ≤ p.2 ∧ Chn r (p.2 + 1) hi
theorem stre_len (lo hi : Int) (cs : List Int) : (stre lo hi cs).length = cs.length + 1 := by simp [stre]
theorem PL.of_get {H : Hp} : ∀ {ts : List Addr} {ps : List (Int × Int)}, ts.length = ps.length → (∀ (j : Nat) (p : Int × Int), ps[j]? = some p → ∃ T, ts[j]? = some T ∧ H T = some (.tup [.int p.1, .int p.2])) → PL H (ts.map V.ref) ps
  | [], [], _, _ => .nil
  | [], p :: ps, h, _ => by simp at h
  | t :: ts, [], h, _ => by simp at h
  | t :: ts, p :: ps, h, g => by
    obtain ⟨T, e1, e2⟩ := g 0 p rfl
    have : t = T := by simpa using e1
    subst this
    exact .cons ⟨t, rfl, e2⟩ (PL.of_get (by simpa using h) fun j q hj => by simpa using g (j + 1) q (by simpa using hj))
theorem zip_get {lo hi : Int} {cs : List Int} {j : Nat} {p : Int × Int} (e : (stre lo hi cs)[j]? = some p) : ((lo :: cs).map V.int)[j]? = some (.int p.1) ∧ ((cs.map (· - 1) ++ [hi]).map V.int)[j]? = some (.int p.2) := by
  unfold stre at e
  rw [List.getElem?_zip_eq_some] at e
  obtain ⟨e1, e2⟩ := e
  exact ⟨get_map e1, get_map e2⟩
theorem small2 : 2 ≤ sizeLine := by decide
theorem xor4 {a b : Int} (h : 0 ≤ a ∧ a ≤ 3) (h' : 0 ≤ b ∧ b ≤ 3) : 0 ≤ Builtin.bitXor a b ∧ Builtin.bitXor a b ≤ 3 := by
  have ha : a = 0 ∨ a = 1 ∨ a = 2 ∨ a = 3 := by omega
  have hb : b = 0 ∨ b = 1 ∨ b = 2 ∨ b = 3 := by omega
  rcases ha with rfl | rfl | rfl | rfl <;> rcases hb with rfl | rfl | rfl | rfl <;> decide +kernel
theorem rNeL_pl {K : PySem.W.Frag} {H : Hp} {Q : VK} {a b : Addr} {xs ys : List V} {R : List (Int × Int)} (neg : Bool) (ha : SqL K H a xs) (hb : SqL K H b ys) (p : PL H xs R) (p' : PL H ys R) (q : Q (.bl (!neg)) H) : rEqL K neg (.ref a) (.ref b) H Q := by
  refine ⟨a, b, xs, ys, rfl, rfl, ha, hb, .inr ⟨by rw [p.length, p'.length], fun _ => true, fun j x y e1 e2 => ?_, ?_⟩⟩
  · obtain ⟨u, r, g1, rfl, h1⟩ := p.get e1
    obtain ⟨u', r', g2, rfl, h2⟩ := p'.get e2
    rw [g1] at g2
    cases g2
    have z := EqI.tup (K := K) (SqT.of h1) (SqT.of h2) rfl rfl
    have e : (decide ([V.int u.1, V.int u.2].length = [V.int u.1, V.int u.2].length) && (List.zipWith eqV [V.int u.1, V.int u.2] [V.int u.1, V.int u.2]).all id) = true := by simp [eqV]
    rw [e] at z
    exact z
  · have : (if neg = true then !(List.range xs.length).all (fun _ => true) else (List.range xs.length).all (fun _ => true)) = !neg := by cases neg <;> simp
    rw [this]
    exact q
theorem TL.last {H : Hp} {xs : List V} {ts : List (Int × Int × Int)} (h : TL H xs ts) (hn : xs ≠ []) : ∃ xs' r ts' t, xs = xs' ++ [.ref r] ∧ ts = ts' ++ [t] ∧ TL H xs' ts' ∧ H r = some (.tup [.int t.1, .int t.2.1, .int t.2.2]) := by
  induction h with
  | nil => exact absurd rfl hn
  | @cons x t xs ts hx h ih =>
    cases h with
    | nil =>
      obtain ⟨r, rfl, hr⟩ := hx
      exact ⟨[], r, [], t, rfl, rfl, .nil, hr⟩
    | cons hy h2 =>
      obtain ⟨xs', r, ts', t', e1, e2, h3, h4⟩ := ih (by simp)
      exact ⟨x :: xs', r, t :: ts', t', by rw [e1]; rfl, by rw [e2]; rfl, .cons hx h3, h4⟩
def Stp (st : Int) (ts : List (Int × Int × Int)) (D : List (Int × Int)) : Prop := (ts = [] ∧ D = [(st, st)]) ∨ ∃ g G, StepI (g :: G) ts ts.length ∧ g.1 = st ∧ D = (g :: G).map fun t => (t.1, t.2.1)
theorem stre_steps : ∀ {G W' : List (Int × Int × Int)} {g z : Int × Int × Int}, Walk (g :: G) → g :: G = W' ++ [z] → stre g.1 z.2.1 (G.map (·.1)) = (g :: G).map fun t => (t.1, t.2.1)
  | [], W', g, z, _, e => by
    have : g = z := by
      cases W' with
      | nil => simpa using e
      | cons w W => simp at e
    subst this
    rfl
  | s :: G, W', g, z, h, e => by
    have hs : s.1 = g.2.1 + 1 := h.nx 0 g s rfl rfl
    cases W' with
    | nil => simp at e
    | cons w W =>
      have e2 : s :: G = W ++ [z] := by simpa using (List.cons.inj e).2
      have ih := stre_steps h.tl e2
      have c : stre g.1 z.2.1 ((s :: G).map (·.1)) = (g.1, s.1 - 1) :: stre s.1 z.2.1 (G.map (·.1)) := rfl
      rw [c, ih, List.map_cons (l := s :: G), show s.1 - 1 = g.2.1 by omega]
def mk (ms : List Int) : Int → Bool := fun s => inV (.int s) (ms.map V.int)
theorem four {s : Int} (h : 0 ≤ s ∧ s ≤ 3) : s = 0 ∨ s = 1 ∨ s = 2 ∨ s = 3 := by omega
theorem mk_or {s : Int} (h : 0 ≤ s ∧ s ≤ 3) : (mk [1, 3] s || mk [2, 3] s) = mk [1, 2, 3] s := by rcases four h with rfl | rfl | rfl | rfl <;> decide +kernel
theorem mk_and {s : Int} (h : 0 ≤ s ∧ s ≤ 3) : (mk [1, 3] s && mk [2, 3] s) = mk [3] s := by rcases four h with rfl | rfl | rfl | rfl <;> decide +kernel
theorem mk_no {s : Int} (h : 0 ≤ s ∧ s ≤ 3) : (mk [1, 3] s && !mk [2, 3] s) = mk [1] s := by rcases four h with rfl | rfl | rfl | rfl <;> decide +kernel
theorem mk_sep {s t : Int} (h : 0 ≤ s ∧ s ≤ 3) (h' : 0 ≤ t ∧ t ≤ 3) (ne : s ≠ t) : mk [1, 3] s ≠ mk [1, 3] t ∨ mk [2, 3] s ≠ mk [2, 3] t := by
  rcases four h with rfl | rfl | rfl | rfl <;> rcases four h' with rfl | rfl | rfl | rfl <;> first | exact absurd rfl ne | (left; decide +kernel) | (right; decide +kernel)
/-- what is told by two walks of masks is told by one -/
theorem pcs_two {ts : List (Int × Int × Int)} (hw : Walk ts) (hs : ∀ t ∈ ts, 0 ≤ t.2.2 ∧ t.2.2 ≤ 3) (f : Bool → Bool → Bool) (f0 : f false false = false) {m1 m2 m3 : Int → Bool} (h : ∀ s : Int, 0 ≤ s ∧ s ≤ 3 → f (m1 s) (m2 s) = m3 s) (n : Int) : f (pcs m1 ts n) (pcs m2 ts n) = pcs m3 ts n := by
  rcases pcs_one hw n with k | ⟨t, ht, k⟩
  · rw [k, k, k]; exact f0
  · rw [k, k, k]; exact h _ (hs t ht)
/-- found is what is due: nothing else is changed -/
def Kp (H H' : Hp) (a : Addr) : Prop := ∀ c o, c ≠ a → H c = some o → H' c = some o
def sp_tidy (K : PySem.W.Frag) : Sp := fun vs H Q _ => ∃ (a : Addr) (xs : List V) (ps : List (Int × Int)), vs = [.ref a] ∧ SqL K H a xs ∧ PL H xs ps ∧ xs.length < 64 ∧
  ∀ (r : Addr) (H' : Hp) (ys : List V) (R : List (Int × Int)), Same H H' → H r = none → H' r = some (.lst ys) → PL H' ys R → TidI R ps → ys.length ≤ xs.length → Q (.ref r) H'
def sp_both (K : PySem.W.Frag) : Sp := fun vs H Q _ => ∃ (a b : Addr) (xs ys : List V) (A B : List (Int × Int)), vs = [.ref a, .ref b] ∧ SqL K H a xs ∧ SqL K H b ys ∧ PL H xs A ∧ PL H ys B ∧ Apart A ∧ Apart B ∧ xs.length + ys.length ≤ 900 ∧
  ∀ (r : Addr) (H' : Hp) (zs : List V) (R : List (Int × Int)), Same H H' → H r = none → H' r = some (.lst zs) → PL H' zs R → Apart R → (∀ n, inP R n = (inP A n && inP B n)) → zs.length ≤ xs.length + ys.length → Q (.ref r) H'
def sp_gaps (K : PySem.W.Frag) : Sp := fun vs H Q _ => ∃ (a : Addr) (xs : List V) (T : List (Int × Int)) (lo hi : Int), vs = [.ref a, .int lo, .int hi] ∧ SqL K H a xs ∧ PL H xs T ∧ Apart T ∧ xs.length ≤ 450 ∧
  ∀ (r : Addr) (H' : Hp) (zs : List V) (F : List (Int × Int)), Same H H' → H r = none → H' r = some (.lst zs) → PL H' zs F → Apart F → (∀ n, inP F n = (decide (lo ≤ n) && decide (n ≤ hi) && !inP T n)) → zs.length ≤ xs.length + 1 → Q (.ref r) H'
def sp_edges (K : PySem.W.Frag) : Sp := fun vs H Q _ => ∃ (a : Addr) (xs : List V) (R : List (Int × Int)) (lo hi : Int), vs = [.ref a, .int lo, .int hi] ∧ SqL K H a xs ∧ PL H xs R ∧ xs.length ≤ 400 ∧
  ∀ (r : Addr) (H' : Hp) (es : List Int), Same H H' → H r = none → H' r = some (.lst (es.map V.int)) → es = (ends R).filter (fun t => decide (lo < t) && decide (t ≤ hi)) → Q (.ref r) H'
def sp_stretches (K : PySem.W.Frag) : Sp := fun vs H Q _ => ∃ (a : Addr) (ms L : List Int) (lo hi : Int), vs = [.int lo, .int hi, .ref a] ∧ SqL K H a (ms.map V.int) ∧ ms.length ≤ 400 ∧ L.length < 64 ∧ (∀ m ∈ ms, lo < m → m ≤ hi → m ∈ L) ∧
  ∀ (r : Addr) (H' : Hp) (cs : List Int) (ts : List V), Same H H' → H r = none → H' r = some (.lst ts) → PL H' ts (stre lo hi cs) → cs.Pairwise (· < ·) → (∀ c, c ∈ cs ↔ (c ∈ ms ∧ lo < c ∧ c ≤ hi)) → cs.length < 64 → Q (.ref r) H'
def sp_law_cell (K : PySem.W.Frag) : Sp := fun vs H Q _ => ∃ (a : Addr) (ns : List Int) (k : Int), vs = [.ref a, .int k] ∧ SqL K H a (ns.map V.int) ∧ 0 ≤ k ∧ ∀ r : Int, Q (.int r) H
def sp_law_step (K : PySem.W.Frag) : Sp := fun vs H Q _ => ∃ c : Int, vs = [.int c] ∧ ∀ r : Int, 1 ≤ r → Q (.int r) H
def sp_law_start (K : PySem.W.Frag) : Sp := fun vs H Q _ => ∃ c : Int, vs = [.int c] ∧ ∀ r : Int, Q (.int r) H
def sp_law_runs (K : PySem.W.Frag) : Sp := fun vs H Q _ => ∃ (a m : Addr) (xs : List V) (ts : List (Int × Int × Int)) (ms : List Int), vs = [.ref a, .ref m] ∧ SqL K H a xs ∧ TL H xs ts ∧ Walk ts ∧ SqL K H m (ms.map V.int) ∧ xs.length ≤ 900 ∧
  ∀ (r : Addr) (H' : Hp) (ys : List V) (R : List (Int × Int)), Same H H' → H r = none → H' r = some (.lst ys) → PL H' ys R → Apart R → (∀ n, inP R n = pcs (fun s => inV (.int s) (ms.map V.int)) ts n) → 2 * ys.length ≤ xs.length + 1 → Q (.ref r) H'
def sp_law_whole (K : PySem.W.Frag) : Sp := fun vs H Q _ => ∃ i : Int, vs = [.int i] ∧ Q (.bl true) H
def sp_law_steps (K : PySem.W.Frag) : Sp := fun vs H Q _ => ∃ (a : Addr) (st : Int) (xs : List V) (ts : List (Int × Int × Int)), vs = [.ref a, .int st] ∧ SqL K H a xs ∧ TL H xs ts ∧ Walk ts ∧ xs.length ≤ 900 ∧ (∀ t, ts[0]? = some t → t.1 = st) ∧ ∀ (r : Addr) (H' : Hp) (ys : List V) (D : List (Int × Int)), Same H H' → H' r = some (.lst ys) → PL H' ys D → Stp st ts D → Q (.ref r) H'
def sp_either (K : PySem.W.Frag) : Sp := fun vs H Q _ => ∃ (a b : Addr) (xs ys : List V) (A B : List (Int × Int)), vs = [.ref a, .ref b] ∧ H a = some (.lst xs) ∧ H b = some (.lst ys) ∧ PL H xs A ∧ PL H ys B ∧ xs.length + ys.length < 64 ∧
  ∀ (r : Addr) (H' : Hp) (zs : List V) (R : List (Int × Int)), Same H H' → H r = none → H' r = some (.lst zs) → PL H' zs R → Apart R → (∀ n, inP R n = (inP A n || inP B n)) → zs.length ≤ xs.length + ys.length → Q (.ref r) H'
def sp_without (K : PySem.W.Frag) : Sp := fun vs H Q _ => ∃ (a b : Addr) (xs ys : List V) (A B : List (Int × Int)), vs = [.ref a, .ref b] ∧ SqL K H a xs ∧ SqL K H b ys ∧ PL H xs A ∧ PL H ys B ∧ Apart A ∧ Apart B ∧ xs.length ≤ 450 ∧ ys.length ≤ 449 ∧
  ∀ (r : Addr) (H' : Hp) (zs : List V) (R : List (Int × Int)), Same H H' → H r = none → H' r = some (.lst zs) → PL H' zs R → Apart R → (∀ n, inP R n = (inP A n && !inP B n)) → zs.length ≤ xs.length + (ys.length + 1) → Q (.ref r) H'
def sp_law_pieces (K : PySem.W.Frag) : Sp := fun vs H Q _ => ∃ (a : Addr) (ns : List Int) (st : Int), vs = [.ref a, .int st] ∧ SqL K H a (ns.map V.int) ∧ ns.length ≤ 63 ∧
  ∀ (r : Addr) (H' : Hp) (xs : List V) (ts : List (Int × Int × Int)), Same H H' → H r = none → H' r = some (.lst xs) → TL H' xs ts → Walk ts → (∀ t ∈ ts, 0 ≤ t.2.2 ∧ t.2.2 ≤ 3) → (∀ t, ts[0]? = some t → t.1 = st) → xs.length ≤ ns.length → Q (.ref r) H'
def sp_law_apart (K : PySem.W.Frag) : Sp := fun vs H Q _ => ∃ (a : Addr) (xs : List V) (R : List (Int × Int)), vs = [.ref a] ∧ H a = some (.lst xs) ∧ PL H xs R ∧ Apart R ∧ xs.length ≤ 1000 ∧ Q (.bl true) H
def sp_law_pair_list (K : PySem.W.Frag) : Sp := fun vs H Q _ => ∃ (a : Addr) (xs : List V) (R : List (Int × Int)), vs = [.ref a] ∧ H a = some (.lst xs) ∧ PL H xs R ∧ Q (.bl true) H
def sp_law_same (K : PySem.W.Frag) : Sp := fun vs H Q _ => ∃ (a b : Addr) (xs ys : List V) (R : List (Int × Int)), vs = [.ref a, .ref b] ∧ H a = some (.lst xs) ∧ H b = some (.lst ys) ∧ a ≠ b ∧ PL H xs R ∧ PL H ys R ∧ Apart R ∧ xs.length ≤ 900 ∧ ∀ H' : Hp, Kp H H' a → Q (.bl true) H'
def sp_law (K : PySem.W.Frag) : Sp := fun vs H Q _ => ∃ (a : Addr) (ns : List Int), vs = [.ref a] ∧ SqL K H a (ns.map V.int) ∧ ns.length ≤ 63 ∧ ∀ H', Q (.bl true) H'
section
variable {P : Program} {w : World} {K : PySem.W.Frag} {mg : Str → Option Value} {base : Heap} {f : Addr} {fd : FuncData}
theorem ok_tidy (F : Fun K "tidy" "tidy" s_tidy f fd) (bl : Bl K mg)  : FnOk P w K mg base CX0 1 f fd ["pairs"] (sp_tidy K) := by
  refine F.ok sc_tidy (fun vs H Q E h => ?_) (fun cdv A outer s H vs Q E hr h => ?_)
  · obtain ⟨a, xs, ps, rfl, hS, hP, h64, q⟩ := h
    rfl
  obtain ⟨a, xs, ps, rfl, hS, hP, h64, q⟩ := h
  refine ⟨_, (pss_cons (ps_set (i := 1) sc_tidy.nd rfl (Or.inl rfl) (pe_lst pa_nil))
     (pss_cons (ps_for PassesOwn.never rfl (pi_list (pe_callB call_sorted_pairs rfl bl.sorted_ PyProof.Rows.boot_sorted (pa_cons (pv 0) pa_nil))) (pg_tup rfl (pgs_cons (pg_name (i := 2) sc_tidy.nd rfl (Or.inl rfl)) (pgs_cons (pg_name (i := 3) sc_tidy.nd rfl (Or.inl rfl)) pgs_nil)))
     (pss_cons (ps_if (pt_cmpR op_gt (pv 2) (pv 3) (nomark _))
     (pss_one ps_continue)
     pss_nil)
     (pss_one (ps_if (PW.pt (pw_and (pt_truth (pv 1) (by intro _; rfl)) (pw_and1 (pt_cmpR op_le (pv 2) (pe_op op_add (pe_ix ix_tup (pe_ix ix_list (pv 1) (pe_un un_neg pe_int) (fun _ _ => rfl)) pe_int (fun _ _ => rfl)) pe_int) (nomark _)))))
     (pss_one (ps_asg (pe_tup (pa_cons (pe_ix ix_tup (pe_ix ix_list (pv 1) (pe_un un_neg pe_int) (fun _ _ => rfl)) pe_int (fun _ _ => rfl)) (pa_cons (pe_callB (call_max2 rfl) rfl bl.max_ PyProof.Rows.boot_max (pa_cons (pe_ix ix_tup (pe_ix ix_list (pv 1) (pe_un un_neg pe_int) (fun _ _ => rfl)) pe_int (fun _ _ => rfl)) (pa_cons (pv 3) pa_nil))) pa_nil))) (pg_sub (pv 1) (pe_un un_neg pe_int) set_list)))
     (pss_one (ps_expr (pe_bm PySem.F.plainAttrs_list PySem.F.slot_list_append PySem.F.type_list_append mt_append (pv 1) (pa_cons (pe_tup (pa_cons (pv 2) (pa_cons (pv 3) pa_nil))) pa_nil))))))))
     (pss_one (ps_ret (pv 1))))), ?_⟩
  refine ⟨(by show 0 ≤ sizeLine; decide), fun sp hsp => ?_⟩
  have s0 : Same H (upd H sp (.lst [])) := same_new hsp _
  refine ⟨_, rfl, a, xs, ps, rfl, s0.seq hS, hP.mono s0.tups, h64, fun D zs qs hD hZ hperm hsort => ?_⟩
  have eD : H D = none := s0.free hD
  have nDs : sp ≠ D := ne_of_none upd_same hD
  have hlen : zs.length = xs.length := by rw [hZ.length, hperm.length_eq, ← hP.length]
  refine ⟨D, rfl, ⟨_, SqL.of upd_same⟩, for_list (xs := zs) (fun i σ H' => ∃ (c2 c3 : Option V) (ys : List V) (R : List (Int × Int)), σ = [some (.ref a), some (.ref sp), c2, c3] ∧ Same H H' ∧ H' D = some (.lst zs) ∧ H' sp = some (.lst ys) ∧ PL H' ys R ∧ PL H' zs qs ∧ TidI R (qs.take i) ∧ ys.length ≤ i)
    ⟨none, none, [], [], rfl, s0.trans (same_new hD _), upd_same, ret_r1 upd_same hD, .nil, hZ, TidI.nil, Nat.zero_le _⟩
    (fun i σ H' _ h => by obtain ⟨_, _, _, _, _, _, e, _⟩ := h; exact SqL.of e) (fun i x σ H' e h => ?_) (fun σ H' h => ?_)⟩
  · obtain ⟨c2, c3, ys, R, rfl, sm, eZ, eY, hY, hZ', ti, hl⟩ := h
    obtain ⟨p, r, e1, rfl, hr'⟩ := hZ'.get e
    have hle := sorted_le hsort e1
    have hi : i < zs.length := (List.getElem?_eq_some_iff.mp e).1
    refine ⟨r, _, rfl, SqT.of hr', rfl, _, _, rfl, _, _, rfl, rfl, ?_⟩
    refine ⟨_, rfl, _, rfl, _, _, rfl, rfl, _, rfl, ?_⟩
    refine ite2 (fun c => ?_) (fun c => ?_)
    · have c' : p.2 < p.1 := dec_t c
      exact ⟨_, _, ys, R, rfl, sm, eZ, eY, hY, hZ', by rw [take_snoc e1]; exact ti.skip c', by omega⟩
    have c' : p.1 ≤ p.2 := Int.not_lt.mp (dec_f c)
    -- behind: the pair is put at the end
    have put : (∀ r0 ∈ R, r0.2 + 2 ≤ p.1) → ∀ t, H' t = none → ∃ (c2 c3 : Option V) (ys2 : List V) (R2 : List (Int × Int)), [some (V.ref a), some (V.ref sp), some (V.int p.1), some (V.int p.2)] = [some (.ref a), some (.ref sp), c2, c3] ∧ Same H (upd (upd H' t (.tup [.int p.1, .int p.2])) sp (.lst (ys ++ [.ref t]))) ∧ upd (upd H' t (.tup [.int p.1, .int p.2])) sp (.lst (ys ++ [.ref t])) D = some (.lst zs) ∧
        upd (upd H' t (.tup [.int p.1, .int p.2])) sp (.lst (ys ++ [.ref t])) sp = some (.lst ys2) ∧ PL (upd (upd H' t (.tup [.int p.1, .int p.2])) sp (.lst (ys ++ [.ref t]))) ys2 R2 ∧ PL (upd (upd H' t (.tup [.int p.1, .int p.2])) sp (.lst (ys ++ [.ref t]))) zs qs ∧ TidI R2 (qs.take (i + 1)) ∧ ys2.length ≤ i + 1 := fun hgap t ht => by
      have e3 : upd H' t (.tup [.int p.1, .int p.2]) sp = some (.lst ys) := ret_r1 eY ht
      have st1 : SameT H' (upd (upd H' t (.tup [.int p.1, .int p.2])) sp (.lst (ys ++ [.ref t]))) := (sameT_new ht).trans (sameT_lst e3)
      refine ⟨_, _, ys ++ [.ref t], R ++ [p], rfl, (sm.trans (same_new ht _)).upd hsp, by rw [upd_ne nDs.symm]; exact ret_r1 eZ ht, upd_same, (hY.mono st1).snoc (sameT_lst e3 _ _ upd_same), hZ'.mono st1, by rw [take_snoc e1]; exact ti.add c' hgap, ?_⟩
      rw [List.length_append, List.length_singleton]; omega
    refine ⟨_, rfl, !ys.isEmpty, .inl ⟨ys, SqL.of eY, rfl⟩, ?_⟩
    by_cases hne : ys = []
    · have hR : R = [] := by
        have := hY.length
        rw [hne] at this
        exact List.eq_nil_of_length_eq_zero this.symm
      have eE : (!ys.isEmpty) = false := by rw [hne]; rfl
      rw [eE]
      refine iteF (iteF ?_)
      refine ⟨_, rfl, .inl ⟨rfl, _, SqL.of eY⟩, _, rfl, _, rfl, (by show 2 ≤ sizeLine; decide), fun t ht => ?_⟩
      refine ⟨sp, ys, _, rfl, rfl, ret_r1 eY ht, small1000 (by omega), ?_⟩
      exact put (by rw [hR]; intro r0 h0; cases h0) t ht
    · obtain ⟨ys', rl, R', l, rfl, rfl, hY2, hrl⟩ := PL.last hY hne
      have eE : (!(ys' ++ [V.ref rl]).isEmpty) = true := by cases ys' <;> rfl
      rw [eE]
      refine iteT ?_
      refine ⟨_, rfl, _, rfl, _, rfl, sp, _, _, _, rfl, rfl, SqL.of eY, atI_last _ _, rl, _, _, _, rfl, rfl, SqT.of hrl, z1 _ _, _, _, rfl, rfl, _, _, rfl, rfl, _, rfl, ?_⟩
      refine ite2 (fun d => ?_) (fun d => ?_)
      · have d' : p.1 ≤ l.2 + 1 := dec_t d
        have hl1 : l.1 ≤ p.1 := by
          obtain ⟨q0, hq0, e0⟩ := ti.low l (by simp)
          rw [e0]; exact hle q0 hq0
        refine ⟨_, rfl, _, rfl, sp, _, _, _, rfl, rfl, SqL.of eY, atI_last _ _, rl, _, _, _, rfl, rfl, SqT.of hrl, z0 _ _, _, rfl, _, rfl, sp, _, _, _, rfl, rfl, SqL.of eY, atI_last _ _, rl, _, _, _, rfl, rfl, SqT.of hrl, z1 _ _, _, rfl, _, _, rfl, (by show 2 ≤ sizeLine; decide), fun t ht => ?_⟩
        have e3 : upd H' t (.tup [.int l.1, .int (if p.2 > l.2 then p.2 else l.2)]) sp = some (.lst (ys' ++ [.ref rl])) := ret_r1 eY ht
        refine ⟨_, rfl, _, rfl, sp, _, _, _, rfl, rfl, e3, ixN_last (by simp), ?_⟩
        rw [set_last]
        have st1 : SameT H' (upd (upd H' t (.tup [.int l.1, .int (if p.2 > l.2 then p.2 else l.2)])) sp (.lst (ys' ++ [.ref t]))) := (sameT_new ht).trans (sameT_lst e3)
        refine ⟨_, _, ys' ++ [.ref t], R' ++ [(l.1, if p.2 > l.2 then p.2 else l.2)], rfl, (sm.trans (same_new ht _)).upd hsp, by rw [upd_ne nDs.symm]; exact ret_r1 eZ ht, upd_same, (hY2.mono st1).snoc (sameT_lst e3 _ _ upd_same), hZ'.mono st1, ?_, ?_⟩
        · rw [take_snoc e1]
          exact ti.join hl1 d' c' (by split <;> omega)
        · rw [List.length_append, List.length_singleton] at hl ⊢; omega
      · have d' : ¬ p.1 ≤ l.2 + 1 := dec_f d
        refine ⟨_, rfl, .inl ⟨rfl, _, SqL.of eY⟩, _, rfl, _, rfl, (by show 2 ≤ sizeLine; decide), fun t ht => ?_⟩
        refine ⟨sp, _, _, rfl, rfl, ret_r1 eY ht, small1000 (by omega), ?_⟩
        exact put (ti.ap.last (by omega)) t ht
  · obtain ⟨c2, c3, ys, R, rfl, sm, eZ, eY, hY, hZ', ti, hl⟩ := h
    rw [hZ'.length, List.take_length] at ti
    exact ⟨_, rfl, q sp H' ys R sm hsp eY hY (ti.perm hperm) (by omega)⟩
theorem ok_both (F : Fun K "both" "both" s_both f fd) (bl : Bl K mg)  : FnOk P w K mg base CX0 1 f fd ["ones", "others"] (sp_both K) := by
  refine F.ok sc_both (fun vs H Q E h => ?_) (fun cdv A outer s H vs Q E hr h => ?_)
  · obtain ⟨a, b, xs, ys, A0, B0, rfl, hA, hB, PA, PB, aA, aB, hl, q⟩ := h
    rfl
  obtain ⟨a, b, xs, ys, A0, B0, rfl, hA, hB, PA, PB, aA, aB, hl, q⟩ := h
  refine ⟨_, (pss_cons (ps_set (i := 2) sc_both.nd rfl (Or.inl rfl) (pe_lst pa_nil))
     (pss_cons (ps_set (i := 3) sc_both.nd rfl (Or.inl rfl) pe_int)
     (pss_cons (ps_set (i := 4) sc_both.nd rfl (Or.inl rfl) pe_int)
     (pss_cons (ps_while PassesOwn.never (PW.pt (pw_and (pt_cmpR op_lt (pv 3) (pe_callB call_len_seq rfl bl.len_ PySem.boot_len (pa_cons (pv 0) pa_nil)) (nomark _)) (pw_and1 (pt_cmpR op_lt (pv 4) (pe_callB call_len_seq rfl bl.len_ PySem.boot_len (pa_cons (pv 1) pa_nil)) (nomark _)))))
     (pss_cons (ps_set (i := 5) sc_both.nd rfl (Or.inl rfl) (pe_ix ix_list (pv 0) (pv 3) (fun _ _ => rfl)))
     (pss_cons (ps_set (i := 6) sc_both.nd rfl (Or.inl rfl) (pe_ix ix_list (pv 1) (pv 4) (fun _ _ => rfl)))
     (pss_cons (ps_set (i := 7) sc_both.nd rfl (Or.inl rfl) (pe_callB (call_max2 rfl) rfl bl.max_ PyProof.Rows.boot_max (pa_cons (pe_ix ix_tup (pv 5) pe_int (fun _ _ => rfl)) (pa_cons (pe_ix ix_tup (pv 6) pe_int (fun _ _ => rfl)) pa_nil))))
     (pss_cons (ps_set (i := 8) sc_both.nd rfl (Or.inl rfl) (pe_callB (call_min2 rfl) rfl bl.min_ PyProof.Rows.boot_min (pa_cons (pe_ix ix_tup (pv 5) pe_int (fun _ _ => rfl)) (pa_cons (pe_ix ix_tup (pv 6) pe_int (fun _ _ => rfl)) pa_nil))))
     (pss_cut (ps_if (pt_cmpR op_le (pv 7) (pv 8) (nomark _))
     (pss_one (ps_expr (pe_bm PySem.F.plainAttrs_list PySem.F.slot_list_append PySem.F.type_list_append mt_append (pv 2) (pa_cons (pe_tup (pa_cons (pv 7) (pa_cons (pv 8) pa_nil))) pa_nil))))
     pss_nil)
     (pss_one (ps_if (pt_cmpR op_lt (pe_ix ix_tup (pv 5) pe_int (fun _ _ => rfl)) (pe_ix ix_tup (pv 6) pe_int (fun _ _ => rfl)) (nomark _))
     (pss_one (ps_aug (i := 3) sc_both.nd rfl (Or.inl rfl) pe_int ip_add))
     (pss_one (ps_aug (i := 4) sc_both.nd rfl (Or.inl rfl) pe_int ip_add))))))))))
     (pss_one (ps_ret (pv 2))))))), ?_⟩
  refine ⟨(by show 0 ≤ sizeLine; decide), fun sh hsh => ?_⟩
  have s0 : Same H (upd H sh (.lst [])) := same_new hsh _
  have lA := PA.length
  have lB := PB.length
  refine ⟨fun m σ H' => ∃ (i j : Nat) (c5 c6 c7 c8 : Option V) (zs : List V) (S : List (Int × Int)), σ = [some (.ref a), some (.ref b), some (.ref sh), some (.int i), some (.int j), c5, c6, c7, c8] ∧ Same H H' ∧ H' sh = some (.lst zs) ∧ PL H' zs S ∧ BothI S (A0.drop i) (B0.drop j) A0 B0 ∧ i ≤ A0.length ∧ j ≤ B0.length ∧ zs.length ≤ i + j ∧ m = (A0.length - i) + (B0.length - j),
    ⟨_, 0, 0, none, none, none, none, [], [], rfl, s0, upd_same, .nil, BothI.start aA aB, Nat.zero_le _, Nat.zero_le _, Nat.zero_le _, rfl⟩, ?_⟩
  rintro m σ H' ⟨i, j, c5, c6, c7, c8, zs, S, rfl, sm, eS, hP, bi, hi, hj, hz, hm⟩
  have hA' := sm.seq hA
  have hB' := sm.seq hB
  have PA' := PA.mono sm.tups
  have PB' := PB.mono sm.tups
  have done : (i = A0.length ∨ j = B0.length) → Q (.ref sh) H' := fun e => q sh H' zs S sm hsh eS hP bi.ap (bi.fin (by
    rcases e with e | e
    · exact .inl (by rw [e]; exact List.drop_length)
    · exact .inr (by rw [e]; exact List.drop_length))) (by omega)
  refine ⟨_, rfl, _, rfl, a, _, rfl, .inl (hA'), _, _, rfl, rfl, _, rfl, ?_⟩
  refine ite2 (fun c => ?_) (fun c => ?_)
  · have ci : i < A0.length := by have : (i : Int) < ((xs.length : Nat) : Int) := dec_t c; omega
    refine ⟨_, rfl, _, rfl, b, _, rfl, .inl (hB'), _, _, rfl, rfl, _, rfl, ?_⟩
    refine ite2 (fun d => ?_) (fun d => ?_)
    · have cj : j < B0.length := by have : (j : Int) < ((ys.length : Nat) : Int) := dec_t d; omega
      have ex : xs[i]? = some xs[i] := List.getElem?_eq_getElem (by omega)
      have ey : ys[j]? = some ys[j] := List.getElem?_eq_getElem (by omega)
      obtain ⟨pa, ra, f1, f2, f3⟩ := PA'.get ex
      obtain ⟨pb, rb, g1, g2, g3⟩ := PB'.get ey
      have va : atI xs (i : Int) = some (.ref ra) := by rw [← f2]; exact atI_nat ex
      have vb : atI ys (j : Int) = some (.ref rb) := by rw [← g2]; exact atI_nat ey
      have dA : A0.drop i = pa :: A0.drop (i + 1) := by
        obtain ⟨h1, h2⟩ := List.getElem?_eq_some_iff.mp f1
        rw [List.drop_eq_getElem_cons h1, h2]
      have dB : B0.drop j = pb :: B0.drop (j + 1) := by
        obtain ⟨h1, h2⟩ := List.getElem?_eq_some_iff.mp g1
        rw [List.drop_eq_getElem_cons h1, h2]
      rw [dA, dB] at bi
      have hc : ((if pb.1 > pa.1 then pb.1 else pa.1), (if pb.2 < pa.2 then pb.2 else pa.2)).1 = max pa.1 pb.1 ∧ ((if pb.1 > pa.1 then pb.1 else pa.1), (if pb.2 < pa.2 then pb.2 else pa.2)).2 = min pa.2 pb.2 := by
        constructor
        · show (if pb.1 > pa.1 then pb.1 else pa.1) = _; split <;> omega
        · show (if pb.2 < pa.2 then pb.2 else pa.2) = _; split <;> omega
      generalize hcl : (if pb.1 > pa.1 then pb.1 else pa.1) = cl at hc
      generalize hch : (if pb.2 < pa.2 then pb.2 else pa.2) = ch at hc
      refine ⟨_, fun σ' H2 w => w, ?_⟩
      refine ⟨_, rfl, _, rfl, a, _, _, _, rfl, rfl, hA', va, ?_⟩
      refine ⟨_, rfl, _, rfl, b, _, _, _, rfl, rfl, hB', vb, ?_⟩
      refine ⟨_, rfl, ra, _, _, _, rfl, rfl, SqT.of f3, z0 _ _, _, rfl, rb, _, _, _, rfl, rfl, SqT.of g3, z0 _ _, _, _, rfl, ?_⟩
      rw [hcl]
      refine ⟨_, rfl, ra, _, _, _, rfl, rfl, SqT.of f3, z1 _ _, _, rfl, rb, _, _, _, rfl, rfl, SqT.of g3, z1 _ _, _, _, rfl, ?_⟩
      rw [hch]
      refine ⟨fun σ' H2 => σ' = [some (.ref a), some (.ref b), some (.ref sh), some (.int i), some (.int j), some (.ref ra), some (.ref rb), some (.int cl), some (.int ch)] ∧ Same H H2 ∧ H2 ra = some (.tup [.int pa.1, .int pa.2]) ∧ H2 rb = some (.tup [.int pb.1, .int pb.2]) ∧ ∃ zs2 S2, H2 sh = some (.lst zs2) ∧ PL H2 zs2 S2 ∧ zs2.length ≤ i + j + 1 ∧
        ((cl ≤ ch ∧ S2 = S ++ [(cl, ch)]) ∨ (¬ cl ≤ ch ∧ S2 = S)), ?_, ?_⟩
      · refine ⟨_, rfl, _, rfl, _, _, rfl, rfl, _, rfl, ?_⟩
        refine ite2 (fun e => ?_) (fun e => ?_)
        · refine ⟨_, rfl, .inl ⟨rfl, _, SqL.of eS⟩, _, rfl, _, rfl, (by show 2 ≤ sizeLine; decide), fun t ht => ?_⟩
          have e3 : upd H' t (.tup [.int cl, .int ch]) sh = some (.lst zs) := ret_r1 eS ht
          refine ⟨sh, zs, _, rfl, rfl, e3, small1000 (by omega), ?_⟩
          have st1 : SameT H' (upd (upd H' t (.tup [.int cl, .int ch])) sh (.lst (zs ++ [.ref t]))) := (sameT_new ht).trans (sameT_lst e3)
          exact ⟨rfl, (sm.trans (same_new ht _)).upd hsh, st1 _ _ f3, st1 _ _ g3, zs ++ [.ref t], S ++ [(cl, ch)], upd_same, (hP.mono st1).snoc (sameT_lst e3 _ _ upd_same), by rw [List.length_append, List.length_singleton]; omega, .inl ⟨dec_t e, rfl⟩⟩
        · exact ⟨rfl, sm, f3, g3, zs, S, eS, hP, by omega, .inr ⟨dec_f e, rfl⟩⟩
      rintro σ2 H2 ⟨rfl, sm2, f4, g4, zs2, S2, eS2, hP2, hz2, hor⟩
      refine ⟨_, rfl, ra, _, _, _, rfl, rfl, SqT.of f4, z1 _ _, _, rfl, rb, _, _, _, rfl, rfl, SqT.of g4, z1 _ _, _, _, rfl, rfl, _, rfl, ?_⟩
      refine ite2 (fun e => ?_) (fun e => ?_)
      · refine ⟨_, rfl, _, _, rfl, rfl, ?_⟩
        have bl2 := bi.left (dec_t e) hc
        rw [← dB] at bl2
        refine ⟨_, ?_, i + 1, j, _, _, _, _, zs2, S2, rfl, sm2, eS2, hP2, ?_, ci, hj, by omega, rfl⟩
        · omega
        · rcases hor with ⟨h1, h2⟩ | ⟨h1, h2⟩
          · rw [h2]; exact bl2.1 h1
          · rw [h2]; exact bl2.2 h1
      · refine ⟨_, rfl, _, _, rfl, rfl, ?_⟩
        have bl2 := bi.right (dec_f e) hc
        rw [← dA] at bl2
        refine ⟨_, ?_, i, j + 1, _, _, _, _, zs2, S2, rfl, sm2, eS2, hP2, ?_, hi, cj, by omega, rfl⟩
        · omega
        · rcases hor with ⟨h1, h2⟩ | ⟨h1, h2⟩
          · rw [h2]; exact bl2.1 h1
          · rw [h2]; exact bl2.2 h1
    · have cj : j = B0.length := by have : ¬ (j : Int) < ((ys.length : Nat) : Int) := dec_f d; omega
      exact ⟨_, rfl, done (.inr cj)⟩
  · have ci : i = A0.length := by have : ¬ (i : Int) < ((xs.length : Nat) : Int) := dec_f c; omega
    exact iteF ⟨_, rfl, done (.inl ci)⟩
theorem ok_gaps (F : Fun K "gaps" "gaps" s_gaps f fd) (bl : Bl K mg)  : FnOk P w K mg base CX0 1 f fd ["spans", "low", "high"] (sp_gaps K) := by
  refine F.ok sc_gaps (fun vs H Q E h => ?_) (fun cdv A outer s H vs Q E hr h => ?_)
  · obtain ⟨a, xs, T0, lo, hi, rfl, hS, hP, ap, hl, q⟩ := h
    rfl
  obtain ⟨a, xs, T0, lo, hi, rfl, hS, hP, ap, hl, q⟩ := h
  refine ⟨_, (pss_cons (ps_set (i := 3) sc_gaps.nd rfl (Or.inl rfl) (pe_lst pa_nil))
     (pss_cons (ps_set (i := 4) sc_gaps.nd rfl (Or.inl rfl) (pv 1))
     (pss_cons (ps_for PassesOwn.never rfl (pi_list (pv 0)) (pg_tup rfl (pgs_cons (pg_name (i := 5) sc_gaps.nd rfl (Or.inl rfl)) (pgs_cons (pg_name (i := 6) sc_gaps.nd rfl (Or.inl rfl)) pgs_nil)))
     (pss_cons (ps_set (i := 7) sc_gaps.nd rfl (Or.inl rfl) (pe_callB (call_min2 rfl) rfl bl.min_ PyProof.Rows.boot_min (pa_cons (pe_op op_sub (pv 5) pe_int) (pa_cons (pv 2) pa_nil))))
     (pss_cut (ps_if (pt_cmpR op_le (pv 4) (pv 7) (nomark _))
     (pss_one (ps_expr (pe_bm PySem.F.plainAttrs_list PySem.F.slot_list_append PySem.F.type_list_append mt_append (pv 3) (pa_cons (pe_tup (pa_cons (pv 4) (pa_cons (pv 7) pa_nil))) pa_nil))))
     pss_nil)
     (pss_one (ps_set (i := 4) sc_gaps.nd rfl (Or.inl rfl) (pe_callB (call_max2 rfl) rfl bl.max_ PyProof.Rows.boot_max (pa_cons (pv 4) (pa_cons (pe_op op_add (pv 6) pe_int) pa_nil))))))))
     (pss_cons (ps_if (pt_cmpR op_le (pv 4) (pv 2) (nomark _))
     (pss_one (ps_expr (pe_bm PySem.F.plainAttrs_list PySem.F.slot_list_append PySem.F.type_list_append mt_append (pv 3) (pa_cons (pe_tup (pa_cons (pv 4) (pa_cons (pv 2) pa_nil))) pa_nil))))
     pss_nil)
     (pss_one (ps_ret (pv 3))))))), ?_⟩
  refine ⟨(by show 0 ≤ sizeLine; decide), fun fr hfr => ?_⟩
  have s0 : Same H (upd H fr (.lst [])) := same_new hfr _
  refine ⟨_, rfl, ?_⟩
  refine ⟨_, rfl, a, rfl, ⟨_, s0.seq hS⟩, for_list (xs := xs) (fun i σ H' => ∃ (st : Int) (c5 c6 c7 : Option V) (zs : List V) (F : List (Int × Int)), σ = [some (.ref a), some (.int lo), some (.int hi), some (.ref fr), some (.int st), c5, c6, c7] ∧ Same H H' ∧ H' fr = some (.lst zs) ∧ PL H' zs F ∧ GapI F (T0.take i) lo hi st ∧ zs.length ≤ i)
    ⟨lo, none, none, none, [], [], rfl, s0, upd_same, .nil, GapI.start lo hi, Nat.zero_le _⟩
    (fun i σ H' _ h => by obtain ⟨_, _, _, _, _, _, _, sm, _⟩ := h; exact sm.seq hS) (fun i x σ H' e h => ?_) (fun σ H' h => ?_)⟩
  · obtain ⟨st, c5, c6, c7, zs, F0, rfl, sm, eF, hF, gi, hz⟩ := h
    obtain ⟨p, r, e1, rfl, hr'⟩ := (hP.mono sm.tups).get e
    have hi' : i < xs.length := (List.getElem?_eq_some_iff.mp e).1
    refine ⟨r, _, rfl, SqT.of hr', rfl, _, _, rfl, _, _, rfl, rfl, ?_⟩
    refine ⟨_, rfl, _, _, rfl, rfl, _, rfl, _, _, rfl, ?_⟩
    have tk := take_snoc e1
    have ap' : Apart (T0.take i ++ [p]) := by rw [← tk]; exact ap.take _
    generalize he : (if hi < p.1 - 1 then hi else p.1 - 1) = en
    have he' : en = min (p.1 - 1) hi := by rw [← he]; split <;> omega
    have hs' : (if p.2 + 1 > st then p.2 + 1 else st) = max st (p.2 + 1) := by split <;> omega
    have gt := gi.turn (st' := if p.2 + 1 > st then p.2 + 1 else st) (e := en) ap' he' hs'
    refine ⟨fun σ' H2 => σ' = [some (.ref a), some (.int lo), some (.int hi), some (.ref fr), some (.int st), some (.int p.1), some (.int p.2), some (.int en)] ∧ Same H H2 ∧ ∃ zs2 F2, H2 fr = some (.lst zs2) ∧ PL H2 zs2 F2 ∧ zs2.length ≤ i + 1 ∧ GapI F2 (T0.take i ++ [p]) lo hi (if p.2 + 1 > st then p.2 + 1 else st), ?_, ?_⟩
    · refine ⟨_, rfl, _, rfl, _, _, rfl, rfl, _, rfl, ?_⟩
      refine ite2 (fun c => ?_) (fun c => ?_)
      · refine ⟨_, rfl, .inl ⟨rfl, _, SqL.of eF⟩, _, rfl, _, rfl, (by show 2 ≤ sizeLine; decide), fun t ht => ?_⟩
        have e3 : upd H' t (.tup [.int st, .int en]) fr = some (.lst zs) := ret_r1 eF ht
        refine ⟨fr, zs, _, rfl, rfl, e3, small1000 (by omega), ?_⟩
        have st1 : SameT H' (upd (upd H' t (.tup [.int st, .int en])) fr (.lst (zs ++ [.ref t]))) := (sameT_new ht).trans (sameT_lst e3)
        exact ⟨rfl, (sm.trans (same_new ht _)).upd hfr, zs ++ [.ref t], F0 ++ [(st, en)], upd_same, (hF.mono st1).snoc (sameT_lst e3 _ _ upd_same), by rw [List.length_append, List.length_singleton]; omega, gt.1 (dec_t c)⟩
      · exact ⟨rfl, sm, zs, F0, eF, hF, by omega, gt.2 (dec_f c)⟩
    rintro σ2 H2 ⟨rfl, sm2, zs2, F2, eF2, hF2, hz2, g2⟩
    refine ⟨_, rfl, _, rfl, _, _, rfl, rfl, _, _, rfl, ?_⟩
    exact ⟨_, _, _, _, zs2, F2, rfl, sm2, eF2, hF2, by rw [tk]; exact g2, hz2⟩
  · obtain ⟨st, c5, c6, c7, zs, F0, rfl, sm, eF, hF, gi, hz⟩ := h
    rw [hP.length, List.take_length] at gi
    have gf := gi.fin
    refine ⟨_, rfl, _, rfl, _, _, rfl, rfl, _, rfl, ?_⟩
    refine ite2 (fun c => ?_) (fun c => ?_)
    · refine ⟨_, rfl, .inl ⟨rfl, _, SqL.of eF⟩, _, rfl, _, rfl, (by show 2 ≤ sizeLine; decide), fun t ht => ?_⟩
      have e3 : upd H' t (.tup [.int st, .int hi]) fr = some (.lst zs) := ret_r1 eF ht
      refine ⟨fr, zs, _, rfl, rfl, e3, small1000 (by omega), ?_⟩
      have st1 : SameT H' (upd (upd H' t (.tup [.int st, .int hi])) fr (.lst (zs ++ [.ref t]))) := (sameT_new ht).trans (sameT_lst e3)
      have g1 := gf.1 (dec_t c)
      exact ⟨_, rfl, q fr _ (zs ++ [.ref t]) (F0 ++ [(st, hi)]) ((sm.trans (same_new ht _)).upd hfr) hfr upd_same ((hF.mono st1).snoc (sameT_lst e3 _ _ upd_same)) g1.1 g1.2 (by rw [List.length_append, List.length_singleton]; omega)⟩
    · have g1 := gf.2 (dec_f c)
      exact ⟨_, rfl, q fr H' zs F0 sm hfr eF hF g1.1 g1.2 (by omega)⟩
theorem ok_edges (F : Fun K "edges" "edges" s_edges f fd) (bl : Bl K mg)  : FnOk P w K mg base CX0 1 f fd ["spans", "low", "high"] (sp_edges K) := by
  refine F.ok sc_edges (fun vs H Q E h => ?_) (fun cdv A outer s H vs Q E hr h => ?_)
  · obtain ⟨a, xs, R, lo, hi, rfl, hS, hP, hl, q⟩ := h
    rfl
  obtain ⟨a, xs, R, lo, hi, rfl, hS, hP, hl, q⟩ := h
  refine ⟨_, (pss_cons (ps_set (i := 3) sc_edges.nd rfl (Or.inl rfl) (pe_lst pa_nil))
     (pss_cons (ps_for PassesOwn.never rfl (pi_list (pv 0)) (pg_tup rfl (pgs_cons (pg_name (i := 4) sc_edges.nd rfl (Or.inl rfl)) (pgs_cons (pg_name (i := 5) sc_edges.nd rfl (Or.inl rfl)) pgs_nil)))
     (pss_cons (ps_expr (pe_bm PySem.F.plainAttrs_list PySem.F.slot_list_append PySem.F.type_list_append mt_append (pv 3) (pa_cons (pv 4) pa_nil)))
     (pss_one (ps_expr (pe_bm PySem.F.plainAttrs_list PySem.F.slot_list_append PySem.F.type_list_append mt_append (pv 3) (pa_cons (pe_op op_add (pv 5) pe_int) pa_nil))))))
     (pss_one (ps_ret (pe_comp (pi_list (pv 3)) (cmpOk_free (N := ["turn", "low", "high"]) (fr := [1, 2]) (cl := [("low", s.heap.objs.size + 1), ("high", s.heap.objs.size + 1 + 1)]) rfl rfl (by decide +kernel) (by decide +kernel) rfl (by decide +kernel) rfl rfl rfl (List.forall_mem_cons.mpr ⟨rfl, List.forall_mem_cons.mpr ⟨rfl, List.forall_mem_nil _⟩⟩) rfl) rfl (fun _ _ _ _ => (pif_one (pt_chain op_lt op_le (pv 1) (pv 0) (pv 2)))) (fun _ _ _ _ => (pv 0))))))), ?_⟩
  refine ⟨(by show 0 ≤ sizeLine; decide), fun tn htn => ?_⟩
  have s0 : Same H (upd H tn (.lst [])) := same_new htn _
  refine ⟨_, rfl, a, rfl, ⟨_, s0.seq hS⟩, for_list (xs := xs) (fun i σ H' => ∃ (c4 c5 : Option V), σ = [some (.ref a), some (.int lo), some (.int hi), some (.ref tn), c4, c5] ∧ Same H H' ∧ H' tn = some (.lst ((ends (R.take i)).map V.int)) ∧ (ends (R.take i)).length ≤ 2 * i)
    ⟨none, none, rfl, s0, upd_same, Nat.le_refl _⟩ (fun i σ H' _ h => by obtain ⟨_, _, _, sm, _⟩ := h; exact sm.seq hS) (fun i x σ H' e h => ?_) (fun σ H' h => ?_)⟩
  · obtain ⟨c4, c5, rfl, sm, ht, hle⟩ := h
    obtain ⟨p, r, e1, rfl, hr'⟩ := (hP.mono sm.tups).get e
    have hi' : i < xs.length := (List.getElem?_eq_some_iff.mp e).1
    refine ⟨r, _, rfl, SqT.of hr', rfl, _, _, rfl, _, _, rfl, rfl, ?_⟩
    refine ⟨_, rfl, .inl ⟨rfl, _, SqL.of ht⟩, _, rfl, tn, _, _, rfl, rfl, ht, small1000 (by rw [List.length_map]; omega), ?_⟩
    refine ⟨_, rfl, .inl ⟨rfl, _, SqL.of upd_same⟩, _, rfl, _, _, rfl, rfl, tn, _, _, rfl, rfl, upd_same, small1000 (by rw [List.length_append, List.length_map, List.length_singleton]; omega), ?_⟩
    rw [upd_upd]
    refine ⟨_, _, rfl, sm.upd htn, ?_, ?_⟩
    · rw [upd_same, take_snoc e1, ends_snoc]; simp
    · rw [take_snoc e1, ends_snoc, List.length_append]; simp; omega
  · obtain ⟨c4, c5, rfl, sm, ht, hle⟩ := h
    rw [hP.length, List.take_length] at ht hle
    refine ⟨_, rfl, tn, rfl, ⟨_, SqL.of ht⟩, comp_list (xs := (ends R).map V.int) (fun D i zs H2 => Same H' H2 ∧ H2 D = some (.lst zs) ∧ zs = (((ends R).take i).filter (fun t => decide (lo < t) && decide (t ≤ hi))).map V.int ∧ zs.length ≤ i)
      (fun D hD => ⟨same_new hD _, upd_same, rfl, Nat.zero_le _⟩) (fun D i zs H2 hD _ h => SqL.of (h.1 _ _ ht)) (fun D i x zs H2 hD e h => ?_) (fun D zs H2 hD h => ?_)⟩
    · obtain ⟨sm2, eD, hz, hlz⟩ := h
      obtain ⟨c, rfl, ec⟩ := of_map e
      have hi' : i < ((ends R).map V.int).length := (List.getElem?_eq_some_iff.mp e).1
      have hi2 : i < (ends R).length := by rw [List.length_map] at hi'; exact hi'
      have hno : (decide (lo < c) && decide (c ≤ hi)) = false → CNext (fun D i zs H2 => Same H' H2 ∧ H2 D = some (.lst zs) ∧ zs = (((ends R).take i).filter (fun t => decide (lo < t) && decide (t ≤ hi))).map V.int ∧ zs.length ≤ i) D i ((ends R).map V.int).length H2 := fun hf => by
        refine CNext.mk (zs := zs) hi' ⟨sm2, eD, ?_, by omega⟩
        rw [take_snoc ec, List.filter_append, List.filter_cons_of_neg (by simpa using hf)]
        simpa using hz
      refine ⟨_, rfl, _, rfl, _, _, rfl, rfl, _, rfl, ?_⟩
      refine ite2 (fun g1 => ?_) (fun g1 => ?_)
      · refine ⟨_, rfl, _, _, rfl, rfl, _, rfl, ?_⟩
        refine ite2 (fun g2 => ?_) (fun g2 => hno (by rw [Bool.eq_false_iff.mpr g2, Bool.and_false]))
        have hpl := hP.length
        refine ⟨_, rfl, CYes.mk hi' eD (small1000 (by omega)) ⟨sm2.upd hD, upd_same, ?_, by rw [List.length_append, List.length_singleton]; omega⟩⟩
        rw [take_snoc ec, List.filter_append, List.filter_cons_of_pos (by rw [g1, g2]; rfl), hz]
        simp
      · exact ⟨_, rfl, iteF (hno (by rw [Bool.eq_false_iff.mpr g1, Bool.false_and]))⟩
    · obtain ⟨sm2, eD, hz, hlz⟩ := h
      rw [List.length_map, List.take_length] at hz
      rw [hz] at eD
      exact q D H2 _ (sm.trans sm2) (sm.free hD) eD rfl
theorem ok_stretches (F : Fun K "stretches" "stretches" s_stretches f fd) (bl : Bl K mg)  : FnOk P w K mg base CX0 1 f fd ["low", "high", "marks"] (sp_stretches K) := by
  refine F.ok sc_stretches (fun vs H Q E h => ?_) (fun cdv A outer s H vs Q E hr h => ?_)
  · obtain ⟨a, ms, L, lo, hi, rfl, hS, hl, hL, hsub, q⟩ := h
    rfl
  obtain ⟨a, ms, L, lo, hi, rfl, hS, hl, hL, hsub, q⟩ := h
  refine ⟨_, (pss_cons (ps_set (i := 3) sc_stretches.nd rfl (Or.inl rfl) (pe_callB (call_sorted_setZ (w := w) rfl rfl) rfl bl.sorted_ PyProof.Rows.boot_sorted (pa_cons (pe_callTy (call_setZ (w := w) rfl rfl) rfl bl.set_ PyProof.Rows.boot_set (pa_cons (pe_comp (pi_list (pv 2)) (cmpOk_free (N := ["mark", "low", "high"]) (fr := [0, 1]) (cl := [("low", s.heap.objs.size + 1), ("high", s.heap.objs.size + 1 + 1)]) rfl rfl (by decide +kernel) (by decide +kernel) rfl (by decide +kernel) rfl rfl rfl (List.forall_mem_cons.mpr ⟨rfl, List.forall_mem_cons.mpr ⟨rfl, List.forall_mem_nil _⟩⟩) rfl) rfl (fun _ _ _ _ => (pif_one (pt_chain op_lt op_le (pv 1) (pv 0) (pv 2)))) (fun _ _ _ _ => (pv 0))) pa_nil)) pa_nil)))
     (pss_cons (ps_set (i := 4) sc_stretches.nd rfl (Or.inl rfl) (pe_op op_cat (pe_lst (pa_cons (pv 0) pa_nil)) (pv 3)))
     (pss_cons (ps_set (i := 5) sc_stretches.nd rfl (Or.inl rfl) (pe_op op_cat (pe_comp (pi_list (pv 3)) (cmpOk_plain rfl (by decide +kernel) (by decide +kernel) (by decide +kernel) rfl) rfl (fun _ _ _ _ => pif_nil) (fun _ _ _ _ => (pe_op op_sub (pv 0) pe_int))) (pe_lst (pa_cons (pv 1) pa_nil))))
     (pss_one (ps_ret (pe_listzip rfl rfl bl.list_ rfl bl.zip_ (pa_cons (pv 4) (pa_cons (pv 5) pa_nil)))))))), ?_⟩
  refine ⟨_, rfl, a, rfl, ⟨_, hS⟩, comp_list (xs := ms.map V.int) (fun D i zs H2 => Same H H2 ∧ H2 D = some (.lst zs) ∧ zs = ((ms.take i).filter (fun t => decide (lo < t) && decide (t ≤ hi))).map V.int ∧ zs.length ≤ i)
    (fun D hD => ⟨same_new hD _, upd_same, rfl, Nat.zero_le _⟩) (fun D i zs H2 hD _ h => h.1.seq hS) (fun D i x zs H2 hD e h => ?_) (fun D zs H2 hD h => ?_)⟩
  · obtain ⟨sm2, eD, hz, hlz⟩ := h
    obtain ⟨c, rfl, ec⟩ := of_map e
    have hi' : i < (ms.map V.int).length := (List.getElem?_eq_some_iff.mp e).1
    have hi2 : i < ms.length := by rw [List.length_map] at hi'; exact hi'
    have hno : (decide (lo < c) && decide (c ≤ hi)) = false → CNext (fun D i zs H2 => Same H H2 ∧ H2 D = some (.lst zs) ∧ zs = ((ms.take i).filter (fun t => decide (lo < t) && decide (t ≤ hi))).map V.int ∧ zs.length ≤ i) D i (ms.map V.int).length H2 := fun hf => by
      refine CNext.mk (zs := zs) hi' ⟨sm2, eD, ?_, by omega⟩
      rw [take_snoc ec, List.filter_append, List.filter_cons_of_neg (by simpa using hf)]
      simpa using hz
    refine ⟨_, rfl, _, rfl, _, _, rfl, rfl, _, rfl, ?_⟩
    refine ite2 (fun g1 => ?_) (fun g1 => ?_)
    · refine ⟨_, rfl, _, _, rfl, rfl, _, rfl, ?_⟩
      refine ite2 (fun g2 => ?_) (fun g2 => hno (by rw [Bool.eq_false_iff.mpr g2, Bool.and_false]))
      refine ⟨_, rfl, CYes.mk hi' eD (small1000 (by omega)) ⟨sm2.upd hD, upd_same, ?_, by rw [List.length_append, List.length_singleton]; omega⟩⟩
      rw [take_snoc ec, List.filter_append, List.filter_cons_of_pos (by rw [g1, g2]; rfl), hz]
      simp
    · exact ⟨_, rfl, iteF (hno (by rw [Bool.eq_false_iff.mpr g1, Bool.false_and]))⟩
  · obtain ⟨s2, eD, hz, hlz⟩ := h
    rw [List.length_map] at hlz hz
    rw [List.take_length] at hz
    rw [hz] at eD
    generalize hks : ms.filter (fun t => decide (lo < t) && decide (t ≤ hi)) = ks at eD hz
    have hmem : ∀ c, c ∈ ks ↔ (c ∈ ms ∧ lo < c ∧ c ≤ hi) := fun c => by rw [← hks, List.mem_filter]; simp
    have hkl : ks.length ≤ ms.length := by rw [← hks]; exact List.length_filter_le ..
    refine ⟨D, ks, rfl, SqL.of eD, by omega, fun l hl' => ?_⟩
    have s3 : Same H (upd H2 l (SetZ w l ks)) := s2.trans (same_new hl' _)
    refine ⟨l, ks, L, rfl, upd_same, hL, fun k hk => let ⟨a1, a2, a3⟩ := (hmem k).mp hk; hsub k a1 a2 a3, fun D2 cs hD2 pw mem => ?_⟩
    have s4 := s3.trans (same_new hD2 (.lst (cs.map V.int)))
    have e4 : upd (upd H2 l (SetZ w l ks)) D2 (.lst (cs.map V.int)) D2 = some (.lst (cs.map V.int)) := upd_same
    generalize upd (upd H2 l (SetZ w l ks)) D2 (.lst (cs.map V.int)) = H3 at s4 e4 ⊢
    have hcl : cs.length < 64 := Nat.lt_of_le_of_lt (nodup_sub_len (pw.imp fun h => Int.ne_of_lt h) fun k hk => let ⟨a1, a2, a3⟩ := (hmem k).mp ((mem k).mp hk); hsub k a1 a2 a3) hL
    refine ⟨_, rfl, (by show 1 ≤ sizeLine; decide), fun t1 ht1 => ?_⟩
    have e5 := ret_r1 (o := .lst [.int lo]) e4 ht1
    have s5 := s4.trans (same_new ht1 (.lst [.int lo]))
    refine ⟨_, rfl, t1, D2, _, _, rfl, rfl, upd_same, e5, Nat.le_of_lt (small1000 (by rw [List.length_map]; show 1 + cs.length ≤ 1000; omega)), fun t2 ht2 => ?_⟩
    have e6 := ret_r1 (o := .lst ([V.int lo] ++ cs.map V.int)) e5 ht2
    have s6 := s5.trans (same_new ht2 (.lst ([V.int lo] ++ cs.map V.int)))
    have e7 : upd (upd H3 t1 (.lst [.int lo])) t2 (.lst ([V.int lo] ++ cs.map V.int)) t2 = some (.lst ([V.int lo] ++ cs.map V.int)) := upd_same
    generalize upd (upd H3 t1 (.lst [.int lo])) t2 (.lst ([V.int lo] ++ cs.map V.int)) = H4 at s6 e6 e7 ⊢
    refine ⟨_, rfl, D2, rfl, ⟨_, SqL.of e6⟩, comp_list (xs := cs.map V.int) (fun D i zs H5 => Same H4 H5 ∧ H5 D = some (.lst zs) ∧ zs = ((cs.take i).map (· - 1)).map V.int ∧ zs.length ≤ i)
      (fun D hD => ⟨same_new hD _, upd_same, rfl, Nat.zero_le _⟩) (fun D i zs H5 hD _ h => SqL.of (h.1 _ _ e6)) (fun D i x zs H5 hD e h => ?_) (fun D zs H5 hD h => ?_)⟩
    · obtain ⟨sm2, eD5, hz5, hlz5⟩ := h
      obtain ⟨c, rfl, ec⟩ := of_map e
      have hi' : i < (cs.map V.int).length := (List.getElem?_eq_some_iff.mp e).1
      have hi2 : i < cs.length := by rw [List.length_map] at hi'; exact hi'
      refine ⟨_, rfl, _, _, rfl, rfl, CYes.mk hi' eD5 (small1000 (by omega)) ⟨sm2.upd hD, upd_same, ?_, by rw [List.length_append, List.length_singleton]; omega⟩⟩
      rw [take_snoc ec, List.map_append, List.map_append, hz5]
      rfl
    · obtain ⟨sm5, eD5, hz5, hlz5⟩ := h
      rw [List.length_map, List.take_length] at hz5
      rw [hz5] at eD5
      refine ⟨_, rfl, (by show 1 ≤ sizeLine; decide), fun t3 ht3 => ?_⟩
      have s7 := sm5.trans (same_new ht3 (.lst [.int hi]))
      refine ⟨D, t3, _, _, rfl, rfl, ret_r1 eD5 ht3, upd_same, Nat.le_of_lt (small1000 (by rw [List.length_map, List.length_map]; show cs.length + 1 ≤ 1000; omega)), fun t4 ht4 => ?_⟩
      have s8 := s7.trans (same_new ht4 (.lst ((cs.map (· - 1)).map V.int ++ [.int hi])))
      have e8 : upd (upd H5 t3 (.lst [.int hi])) t4 (.lst ((cs.map (· - 1)).map V.int ++ [.int hi])) t4 = some (.lst ((cs.map (· - 1)).map V.int ++ [.int hi])) := upd_same
      generalize upd (upd H5 t3 (.lst [.int hi])) t4 (.lst ((cs.map (· - 1)).map V.int ++ [.int hi])) = H6 at s8 e8 ⊢
      have e9 := s8 _ _ e7
      refine ⟨_, rfl, _, rfl, t2, t4, (lo :: cs).map V.int, (cs.map (· - 1) ++ [hi]).map V.int, rfl, SqL.of e9, by rw [List.map_append]; exact SqL.of e8, fun D9 ts H9 hlen k9 hD9 eD9 f9 => ?_⟩
      have s9 : Same H H9 := (s6.trans s8).trans fun c o e => k9 c o e
      refine q D9 H9 cs (ts.map V.ref) s9 ((s6.trans s8).free hD9) eD9 (PL.of_get (by rw [hlen, stre_len]; simp) fun j p hj => ?_) pw (fun c => (mem c).trans (hmem c)) hcl
      obtain ⟨z1, z2⟩ := zip_get hj
      obtain ⟨T, h1, _, h2⟩ := f9 j _ _ z1 z2
      exact ⟨T, h1, h2⟩
theorem ok_law_cell (F : Fun K "_law_cell" "_law_cell" s_law_cell f fd) (bl : Bl K mg)  : FnOk P w K mg base CX0 1 f fd ["script", "k"] (sp_law_cell K) := by
  refine F.ok sc_law_cell (fun vs H Q E h => ?_) (fun cdv A outer s H vs Q E hr h => ?_)
  · obtain ⟨a, ns, k, rfl, hS, h0, q⟩ := h
    rfl
  obtain ⟨a, ns, k, rfl, hS, h0, q⟩ := h
  refine ⟨_, (pss_cons (ps_if (pt_cmpR op_lt (pv 1) (pe_callB call_len_seq rfl bl.len_ PySem.boot_len (pa_cons (pv 0) pa_nil)) (nomark _))
     (pss_one (ps_ret (pe_ix ix_list (pv 0) (pv 1) (fun _ _ => rfl))))
     pss_nil)
     (pss_one (ps_ret pe_int))), ?_⟩
  refine ⟨_, rfl, _, rfl, a, _, rfl, .inl hS, _, _, rfl, rfl, _, rfl, ?_⟩
  refine ite2 (fun c => ?_) (fun c => ?_)
  · have c' : k < (((ns.map V.int).length : Nat) : Int) := dec_t c
    rw [List.length_map] at c'
    obtain ⟨v, hv⟩ := atI_int h0 c'
    exact ⟨_, rfl, _, rfl, a, _, _, _, rfl, rfl, hS, hv, q v⟩
  · exact q 0
theorem ok_law_step (F : Fun K "_law_step" "_law_step" s_law_step f fd) (bl : Bl K mg)  : FnOk P w K mg base CX0 1 f fd ["cell"] (sp_law_step K) := by
  refine F.ok sc_law_step (fun vs H Q E h => ?_) (fun cdv A outer s H vs Q E hr h => ?_)
  · obtain ⟨c, rfl, q⟩ := h
    rfl
  obtain ⟨c, rfl, q⟩ := h
  refine ⟨_, (pss_cons (ps_if (pt_cmpR op_eq (pe_op op_mod (pv 0) pe_int) pe_int (nomark _))
     (pss_one (ps_ret pe_int))
     pss_nil)
     (pss_cons (ps_if (pt_cmpR op_eq (pe_op op_mod (pv 0) pe_int) pe_int (nomark _))
     (pss_one (ps_ret (pe_op op_add pe_int (pe_op op_mod (pe_op op_fdiv (pv 0) pe_int) pe_int))))
     pss_nil)
     (pss_cons (ps_if (pt_cmpR op_eq (pe_op op_mod (pv 0) pe_int) pe_int (nomark _))
     (pss_one (ps_ret (pe_op op_add pe_int (pe_op op_mod (pe_op op_fdiv (pv 0) pe_int) pe_int))))
     pss_nil)
     (pss_one (ps_ret (pe_op op_add pe_int (pe_op op_mod (pe_op op_fdiv (pv 0) pe_int) (pe_op op_pow pe_int pe_int)))))))), ?_⟩
  refine ⟨_, rfl, _, _, rfl, rfl, (by show (0 : Int) < 4; decide), rfl, _, rfl, ?_⟩
  refine ite2 (fun _ => q 1 (by decide)) (fun _ => ?_)
  refine ⟨_, rfl, _, _, rfl, rfl, (by show (0 : Int) < 4; decide), rfl, _, rfl, ?_⟩
  refine ite2 (fun _ => ?_) (fun _ => ?_)
  · refine ⟨_, rfl, _, _, rfl, rfl, ⟨by decide, by decide⟩, _, _, rfl, rfl, (by show (0 : Int) < 3; decide), _, _, rfl, rfl, q _ ?_⟩
    have := Int.emod_nonneg (c / 4) (show (3 : Int) ≠ 0 by decide)
    omega
  refine ⟨_, rfl, _, _, rfl, rfl, (by show (0 : Int) < 4; decide), rfl, _, rfl, ?_⟩
  refine ite2 (fun _ => ?_) (fun _ => ?_)
  · refine ⟨_, rfl, _, _, rfl, rfl, ⟨by decide, by decide⟩, _, _, rfl, rfl, (by show (0 : Int) < 1000; decide), _, _, rfl, rfl, q _ ?_⟩
    have := Int.emod_nonneg (c / 4) (show (1000 : Int) ≠ 0 by decide)
    omega
  · refine ⟨_, rfl, _, _, rfl, rfl, ⟨by decide, by decide⟩, _, _, rfl, rfl, ⟨by decide, by decide, by decide⟩, _, _, rfl, rfl, p10 _, _, _, rfl, rfl, q _ ?_⟩
    have := Int.emod_nonneg (c / 4) (Int.ne_of_gt (p10 (54 : Int).toNat))
    omega
theorem ok_law_start (F : Fun K "_law_start" "_law_start" s_law_start f fd) (bl : Bl K mg)  : FnOk P w K mg base CX0 1 f fd ["cell"] (sp_law_start K) := by
  refine F.ok sc_law_start (fun vs H Q E h => ?_) (fun cdv A outer s H vs Q E hr h => ?_)
  · obtain ⟨c, rfl, q⟩ := h
    rfl
  obtain ⟨c, rfl, q⟩ := h
  refine ⟨_, (pss_one (ps_ret (pe_op op_sub (pe_op op_mod (pv 0) (pe_op op_mul pe_int (pe_op op_pow pe_int pe_int))) (pe_op op_pow pe_int pe_int)))), ?_⟩
  exact ⟨_, rfl, _, _, rfl, rfl, ⟨by decide, by decide, by decide⟩, _, _, rfl, rfl, .inl ⟨by decide, by decide⟩, _, _, rfl, rfl, Int.mul_pos (by decide) (p10 _), _, _, rfl, rfl, ⟨by decide, by decide, by decide⟩, _, _, rfl, rfl, q _⟩
theorem ok_law_runs (F : Fun K "_law_runs" "_law_runs" s_law_runs f fd) (bl : Bl K mg)  : FnOk P w K mg base CX0 1 f fd ["pieces", "masks"] (sp_law_runs K) := by
  refine F.ok sc_law_runs (fun vs H Q E h => ?_) (fun cdv A outer s H vs Q E hr h => ?_)
  · obtain ⟨a, m, xs, ts, ms, rfl, hS, hT, hw, hM, hl, q⟩ := h
    rfl
  obtain ⟨a, m, xs, ts, ms, rfl, hS, hT, hw, hM, hl, q⟩ := h
  refine ⟨_, (pss_cons (ps_set (i := 2) sc_law_runs.nd rfl (Or.inl rfl) (pe_lst pa_nil))
     (pss_cons (ps_for PassesOwn.never rfl (pi_list (pv 0)) (pg_name (i := 3) sc_law_runs.nd rfl (Or.inl rfl))
     (pss_one (ps_if (pt_cmpR op_in_seq (pe_ix ix_tup (pv 3) pe_int (fun _ _ => rfl)) (pv 1) (by with_unfolding_all rfl))
     (pss_one (ps_if (PW.pt (pw_and (pt_cmpR op_gt (pe_callB call_len_seq rfl bl.len_ PySem.boot_len (pa_cons (pv 2) pa_nil)) pe_int (nomark _)) (pw_and1 (pt_cmpR op_eq (pe_ix ix_tup (pe_ix ix_list (pv 2) (pe_un un_neg pe_int) (fun _ _ => rfl)) pe_int (fun _ _ => rfl)) (pe_op op_sub (pe_ix ix_tup (pv 3) pe_int (fun _ _ => rfl)) pe_int) (nomark _)))))
     (pss_one (ps_asg (pe_tup (pa_cons (pe_ix ix_tup (pe_ix ix_list (pv 2) (pe_un un_neg pe_int) (fun _ _ => rfl)) pe_int (fun _ _ => rfl)) (pa_cons (pe_ix ix_tup (pv 3) pe_int (fun _ _ => rfl)) pa_nil))) (pg_sub (pv 2) (pe_un un_neg pe_int) set_list)))
     (pss_one (ps_expr (pe_bm PySem.F.plainAttrs_list PySem.F.slot_list_append PySem.F.type_list_append mt_append (pv 2) (pa_cons (pe_tup (pa_cons (pe_ix ix_tup (pv 3) pe_int (fun _ _ => rfl)) (pa_cons (pe_ix ix_tup (pv 3) pe_int (fun _ _ => rfl)) pa_nil))) pa_nil))))))
     pss_nil)))
     (pss_one (ps_ret (pv 2))))), ?_⟩
  refine ⟨(by show 0 ≤ sizeLine; decide), fun tl htl => ?_⟩
  have s0 : Same H (upd H tl (.lst [])) := same_new htl _
  have lt := hT.length
  generalize hmk : (fun s => inV (.int s) (ms.map V.int)) = msk at q
  refine ⟨_, rfl, a, rfl, ⟨_, s0.seq hS⟩, for_list (xs := xs) (fun i σ H' => ∃ (c3 : Option V) (ys : List V) (R : List (Int × Int)) (at_ : Int), σ = [some (.ref a), some (.ref m), some (.ref tl), c3] ∧ Same H H' ∧ H' tl = some (.lst ys) ∧ PL H' ys R ∧ RunI R ts msk i at_ ∧ (∀ t, ts[i]? = some t → t.1 = at_))
    ⟨none, [], [], (ts.headD (0, 0, 0)).1, rfl, s0, upd_same, .nil, RunI.start _ _ _, (fun t e => by cases ts with | nil => cases e | cons y ys => cases e; rfl)⟩
    (fun i σ H' _ h => by obtain ⟨_, _, _, _, _, sm, _⟩ := h; exact sm.seq hS) (fun i x σ H' e h => ?_) (fun σ H' h => ?_)⟩
  · obtain ⟨c3, ys, R, at_, rfl, sm, eY, hP, ri, hat⟩ := h
    obtain ⟨t, r, e1, rfl, hr'⟩ := (hT.mono sm.tups).get e
    have ha := hat t e1
    have htl' := hw.le t (List.mem_of_getElem? e1)
    have hi : i < xs.length := (List.getElem?_eq_some_iff.mp e).1
    have hat' : ∀ u, ts[i + 1]? = some u → u.1 = t.2.1 + 1 := fun u eu => hw.nx i t u e1 eu
    have hly : ys.length ≤ i + 1 := by
      rw [hP.length]
      rcases ri.few with z | z <;> omega
    refine ⟨_, rfl, r, _, _, _, rfl, rfl, SqT.of hr', w2 _ _ _, _, rfl, m, _, rfl, .inl (sm.seq hM), rfl, flat_ints ms, _, rfl, ?_⟩
    have emk : (if false = true then !inV (V.int t.2.2) (ms.map V.int) else inV (V.int t.2.2) (ms.map V.int)) = msk t.2.2 := by rw [← hmk]; rfl
    rw [emk]
    refine ite2 (fun c => ?_) (fun c => ?_)
    · -- the pair is put at the end
      have put : (∀ R' l, R = R' ++ [l] → l.2 ≠ t.1 - 1) → ∀ tp, H' tp = none → ∃ (c3 : Option V) (ys2 : List V) (R2 : List (Int × Int)) (at2 : Int), [some (V.ref a), some (V.ref m), some (V.ref tl), some (V.ref r)] = [some (.ref a), some (.ref m), some (.ref tl), c3] ∧ Same H (upd (upd H' tp (.tup [.int t.1, .int t.2.1])) tl (.lst (ys ++ [.ref tp]))) ∧
          upd (upd H' tp (.tup [.int t.1, .int t.2.1])) tl (.lst (ys ++ [.ref tp])) tl = some (.lst ys2) ∧ PL (upd (upd H' tp (.tup [.int t.1, .int t.2.1])) tl (.lst (ys ++ [.ref tp]))) ys2 R2 ∧ RunI R2 ts msk (i + 1) at2 ∧ (∀ u, ts[i + 1]? = some u → u.1 = at2) := fun hn tp htp => by
        have e3 : upd H' tp (.tup [.int t.1, .int t.2.1]) tl = some (.lst ys) := ret_r1 eY htp
        have st1 : SameT H' (upd (upd H' tp (.tup [.int t.1, .int t.2.1])) tl (.lst (ys ++ [.ref tp]))) := (sameT_new htp).trans (sameT_lst e3)
        exact ⟨_, ys ++ [.ref tp], R ++ [(t.1, t.2.1)], t.2.1 + 1, rfl, (sm.trans (same_new htp _)).upd htl, upd_same, (hP.mono st1).snoc (sameT_lst e3 _ _ upd_same), ri.add e1 ha htl' c hn, hat'⟩
      refine ⟨_, rfl, tl, _, rfl, .inl (SqL.of eY), _, _, rfl, rfl, _, rfl, ?_⟩
      refine ite2 (fun g => ?_) (fun g => ?_)
      · have hne : ys ≠ [] := fun z => by rw [z] at g; exact absurd (dec_t g) (by decide)
        obtain ⟨ys', rl, R', l, rfl, rfl, hY2, hrl⟩ := PL.last hP hne
        refine ⟨_, rfl, _, rfl, tl, _, _, _, rfl, rfl, SqL.of eY, atI_last _ _, rl, _, _, _, rfl, rfl, SqT.of hrl, z1 _ _, _, rfl, r, _, _, _, rfl, rfl, SqT.of hr', w0 _ _ _, _, _, rfl, rfl, rfl, _, rfl, ?_⟩
        refine ite2 (fun g2 => ?_) (fun g2 => ?_)
        · have g2' : l.2 = t.1 - 1 := dec_int_t g2
          refine ⟨_, rfl, _, rfl, tl, _, _, _, rfl, rfl, SqL.of eY, atI_last _ _, rl, _, _, _, rfl, rfl, SqT.of hrl, z0 _ _, _, rfl, r, _, _, _, rfl, rfl, SqT.of hr', w1 _ _ _, (by show 2 ≤ sizeLine; decide), fun tp htp => ?_⟩
          have e3 : upd H' tp (.tup [.int l.1, .int t.2.1]) tl = some (.lst (ys' ++ [.ref rl])) := ret_r1 eY htp
          refine ⟨_, rfl, _, rfl, tl, _, _, _, rfl, rfl, e3, ixN_last (by simp), ?_⟩
          rw [set_last]
          have st1 : SameT H' (upd (upd H' tp (.tup [.int l.1, .int t.2.1])) tl (.lst (ys' ++ [.ref tp]))) := (sameT_new htp).trans (sameT_lst e3)
          exact ⟨_, ys' ++ [.ref tp], R' ++ [(l.1, t.2.1)], t.2.1 + 1, rfl, (sm.trans (same_new htp _)).upd htl, upd_same, (hY2.mono st1).snoc (sameT_lst e3 _ _ upd_same), ri.join e1 ha htl' c g2', hat'⟩
        · have g2' : l.2 ≠ t.1 - 1 := dec_int_f g2
          refine ⟨_, rfl, .inl ⟨rfl, _, SqL.of eY⟩, _, rfl, r, _, _, _, rfl, rfl, SqT.of hr', w0 _ _ _, _, rfl, r, _, _, _, rfl, rfl, SqT.of hr', w1 _ _ _, (by show 2 ≤ sizeLine; decide), fun tp htp => ?_⟩
          refine ⟨tl, _, _, rfl, rfl, ret_r1 eY htp, small1000 (by omega), ?_⟩
          exact put (fun R2 l2 e2 => by
            have := (List.append_inj_right' e2 rfl)
            have e5 : l = l2 := by simpa using this
            rw [← e5]; exact g2') tp htp
      · have hy0 : ys = [] := by
          cases ys with
          | nil => rfl
          | cons y ys => exact absurd (show (0 : Int) < (((y :: ys).length : Nat) : Int) by simp) (dec_f g)
        have hR0 : R = [] := by
          have := hP.length
          rw [hy0] at this
          exact List.eq_nil_of_length_eq_zero this.symm
        refine iteF ?_
        refine ⟨_, rfl, .inl ⟨rfl, _, SqL.of eY⟩, _, rfl, r, _, _, _, rfl, rfl, SqT.of hr', w0 _ _ _, _, rfl, r, _, _, _, rfl, rfl, SqT.of hr', w1 _ _ _, (by show 2 ≤ sizeLine; decide), fun tp htp => ?_⟩
        refine ⟨tl, _, _, rfl, rfl, ret_r1 eY htp, small1000 (by omega), ?_⟩
        exact put (fun R2 l2 e2 => by rw [hR0] at e2; exact absurd (congrArg List.length e2) (by simp)) tp htp
    · exact ⟨_, ys, R, t.2.1 + 1, rfl, sm, eY, hP, ri.no e1 ha htl' (Bool.eq_false_iff.mpr c), hat'⟩
  · obtain ⟨c3, ys, R, at_, rfl, sm, eY, hP, ri, hat⟩ := h
    have hmem := ri.mem
    rw [lt, List.take_length] at hmem
    have hf : 2 * ys.length ≤ xs.length + 1 := by
      rw [hP.length]
      rcases ri.few with z | z <;> omega
    exact ⟨_, rfl, q tl H' ys R sm htl eY hP ri.ap hmem hf⟩
theorem ok_law_whole (F : Fun K "_law_whole" "_law_whole" s_law_whole f fd) (bl : Bl K mg)  : FnOk P w K mg base CX0 1 f fd ["found"] (sp_law_whole K) := by
  refine F.ok sc_law_whole (fun vs H Q E h => ?_) (fun cdv A outer s H vs Q E hr h => ?_)
  · obtain ⟨i, rfl, q⟩ := h
    rfl
  obtain ⟨i, rfl, q⟩ := h
  refine ⟨_, (pss_one (ps_ret (pe_and (pe_callB call_isinst rfl bl.isinstance_ PyProof.Rows.boot_isinstance (pa_cons (pv 0) (pa_cons (pe_bltn (v := .ty "int") rfl bl.int_ PyProof.Rows.boot_int rfl) pa_nil))) (pe_one (pe_not (pe_callB call_isinst rfl bl.isinstance_ PyProof.Rows.boot_isinstance (pa_cons (pv 0) (pa_cons (pe_bltn (v := .ty "bool") rfl bl.bool_ PyProof.Rows.boot_bool rfl) pa_nil)))))))), ?_⟩
  refine ⟨_, rfl, _, "int", _, true, rfl, .int _, (by first | rfl | with_unfolding_all rfl | decide +kernel), _, rfl, iteT ?_⟩
  exact ⟨_, rfl, _, "bool", _, false, rfl, .int _, (by first | rfl | with_unfolding_all rfl | decide +kernel), _, rfl, q⟩
theorem ok_law_steps (F : Fun K "_law_steps" "_law_steps" s_law_steps f fd) (bl : Bl K mg)  : FnOk P w K mg base CX0 1 f fd ["pieces", "start"] (sp_law_steps K) := by
  refine F.ok sc_law_steps (fun vs H Q E h => ?_) (fun cdv A outer s H vs Q E hr h => ?_)
  · obtain ⟨a, st, xs, ts, rfl, hS, hT, hw, hl, hhd, q⟩ := h
    rfl
  obtain ⟨a, st, xs, ts, rfl, hS, hT, hw, hl, hhd, q⟩ := h
  refine ⟨_, (pss_cons (ps_set (i := 2) sc_law_steps.nd rfl (Or.inl rfl) (pe_lst pa_nil))
     (pss_cut (ps_for PassesOwn.never rfl (pi_list (pv 0)) (pg_name (i := 3) sc_law_steps.nd rfl (Or.inl rfl))
     (pss_one (ps_if (PW.pt (pw_and (pt_cmpR op_gt (pe_callB call_len_seq rfl bl.len_ PySem.boot_len (pa_cons (pv 2) pa_nil)) pe_int (nomark _)) (pw_and1 (pt_cmpR op_eq (pe_ix ix_tup (pe_ix ix_list (pv 2) (pe_un un_neg pe_int) (fun _ _ => rfl)) pe_int (fun _ _ => rfl)) (pe_ix ix_tup (pv 3) pe_int (fun _ _ => rfl)) (nomark _)))))
     (pss_one (ps_asg (pe_tup (pa_cons (pe_ix ix_tup (pe_ix ix_list (pv 2) (pe_un un_neg pe_int) (fun _ _ => rfl)) pe_int (fun _ _ => rfl)) (pa_cons (pe_ix ix_tup (pv 3) pe_int (fun _ _ => rfl)) (pa_cons (pe_ix ix_tup (pv 3) pe_int (fun _ _ => rfl)) pa_nil)))) (pg_sub (pv 2) (pe_un un_neg pe_int) set_list)))
     (pss_one (ps_expr (pe_bm PySem.F.plainAttrs_list PySem.F.slot_list_append PySem.F.type_list_append mt_append (pv 2) (pa_cons (pv 3) pa_nil)))))))
     (pss_cons (ps_if (pt_cmpR op_eq (pe_callB call_len_seq rfl bl.len_ PySem.boot_len (pa_cons (pv 2) pa_nil)) pe_int (nomark _))
     (pss_one (ps_ret (pe_lst (pa_cons (pe_tup (pa_cons (pv 1) (pa_cons (pv 1) pa_nil))) pa_nil))))
     pss_nil)
     (pss_one (ps_ret (pe_comp (pi_list (pv 2)) (cmpOk_plain rfl (by decide +kernel) (by decide +kernel) (by decide +kernel) rfl) rfl (fun _ _ _ _ => pif_nil) (fun _ _ _ _ => (pe_tup (pa_cons (pe_ix (ix_tupK (K := K) rfl) (pv 0) pe_int (fun _ _ => rfl)) (pa_cons (pe_ix (ix_tupK (K := K) rfl) (pv 0) pe_int (fun _ _ => rfl)) pa_nil)))))))))), ?_⟩
  refine ⟨(by show 0 ≤ sizeLine; decide), fun tl htl => ?_⟩
  have s0 : Same H (upd H tl (.lst [])) := same_new htl _
  have lt := hT.length
  refine ⟨fun σ' H' => ∃ (c3 : Option V) (ys : List V) (G : List (Int × Int × Int)), σ' = [some (.ref a), some (.int st), some (.ref tl), c3] ∧ Same H H' ∧ H' tl = some (.lst ys) ∧ TL H' ys G ∧ StepI G ts ts.length, ?_, ?_⟩
  · refine ⟨_, rfl, a, rfl, ⟨_, s0.seq hS⟩, for_list (xs := xs) (fun i σ H' => ∃ (c3 : Option V) (ys : List V) (G : List (Int × Int × Int)), σ = [some (.ref a), some (.int st), some (.ref tl), c3] ∧ Same H H' ∧ H' tl = some (.lst ys) ∧ TL H' ys G ∧ StepI G ts i) ⟨none, [], [], rfl, s0, upd_same, .nil, StepI.start ts⟩ (fun i σ H' _ h => by obtain ⟨_, _, _, _, sm, _⟩ := h; exact sm.seq hS) (fun i x σ H' e h => ?_) (fun σ H' h => ?_)⟩
    · obtain ⟨c3, ys, G, rfl, sm, eY, hG, si⟩ := h
      obtain ⟨t, r, e1, rfl, hr'⟩ := (hT.mono sm.tups).get e
      have hi : i < xs.length := (List.getElem?_eq_some_iff.mp e).1
      have hyl := hG.length
      have hsl := si.len
      have put : (∀ G' g, G = G' ++ [g] → g.2.2 ≠ t.2.2) → ∃ (c3 : Option V) (ys2 : List V) (G2 : List (Int × Int × Int)), ([some (V.ref a), some (.int st), some (.ref tl), some (.ref r)] : St) = [some (.ref a), some (.int st), some (.ref tl), c3] ∧ Same H (upd H' tl (.lst (ys ++ [.ref r]))) ∧ upd H' tl (.lst (ys ++ [.ref r])) tl = some (.lst ys2) ∧ TL (upd H' tl (.lst (ys ++ [.ref r]))) ys2 G2 ∧ StepI G2 ts (i + 1) := fun hn =>
        ⟨_, ys ++ [.ref r], G ++ [t], rfl, sm.upd htl, upd_same, (hG.mono (sameT_lst eY)).snoc (sameT_lst eY _ _ hr'), si.add hw e1 hn⟩
      refine ⟨_, rfl, tl, _, rfl, .inl (SqL.of eY), _, _, rfl, rfl, _, rfl, ?_⟩
      refine ite2 (fun g => ?_) (fun g => ?_)
      · have hne : ys ≠ [] := fun z => by rw [z] at g; exact absurd (dec_t g) (by decide)
        obtain ⟨ys', rl, G', l, rfl, rfl, hY2, hrl⟩ := TL.last hG hne
        refine ⟨_, rfl, _, rfl, tl, _, _, _, rfl, rfl, SqL.of eY, atI_last _ _, rl, _, _, _, rfl, rfl, SqT.of hrl, w2 _ _ _, _, rfl, r, _, _, _, rfl, rfl, SqT.of hr', w2 _ _ _, rfl, _, rfl, ?_⟩
        refine ite2 (fun g2 => ?_) (fun g2 => ?_)
        · have g2' : l.2.2 = t.2.2 := dec_int_t g2
          refine ⟨_, rfl, _, rfl, tl, _, _, _, rfl, rfl, SqL.of eY, atI_last _ _, rl, _, _, _, rfl, rfl, SqT.of hrl, w0 _ _ _, _, rfl, r, _, _, _, rfl, rfl, SqT.of hr', w1 _ _ _, _, rfl, r, _, _, _, rfl, rfl, SqT.of hr', w2 _ _ _, (by show 3 ≤ sizeLine; decide), fun tp htp => ?_⟩
          have e3 : upd H' tp (.tup [.int l.1, .int t.2.1, .int t.2.2]) tl = some (.lst (ys' ++ [.ref rl])) := ret_r1 eY htp
          refine ⟨_, rfl, _, rfl, tl, _, _, _, rfl, rfl, e3, ixN_last (by simp), ?_⟩
          rw [set_last]
          have st1 : SameT H' (upd (upd H' tp (.tup [.int l.1, .int t.2.1, .int t.2.2])) tl (.lst (ys' ++ [.ref tp]))) := (sameT_new htp).trans (sameT_lst e3)
          exact ⟨_, ys' ++ [.ref tp], G' ++ [(l.1, t.2.1, t.2.2)], rfl, (sm.trans (same_new htp _)).upd htl, upd_same, (hY2.mono st1).snoc (sameT_lst e3 _ _ upd_same), si.join hw e1 g2'⟩
        · have g2' : l.2.2 ≠ t.2.2 := dec_int_f g2
          refine ⟨_, rfl, .inl ⟨rfl, _, SqL.of eY⟩, _, rfl, tl, _, _, rfl, rfl, eY, small1000 (by omega), put fun G2 l2 e2 => ?_⟩
          have := (List.append_inj_right' e2 rfl)
          have e5 : l = l2 := by simpa using this
          rw [← e5]; exact g2'
      · have hy0 : ys = [] := by
          cases ys with
          | nil => rfl
          | cons y ys => exact absurd (show (0 : Int) < (((y :: ys).length : Nat) : Int) by simp) (dec_f g)
        have hG0 : G = [] := List.eq_nil_of_length_eq_zero (by rw [← hyl, hy0]; rfl)
        refine iteF ?_
        refine ⟨_, rfl, .inl ⟨rfl, _, SqL.of eY⟩, _, rfl, tl, _, _, rfl, rfl, eY, small1000 (by omega), put fun G2 l2 e2 => ?_⟩
        rw [hG0] at e2
        exact absurd (congrArg List.length e2) (by simp)
    · obtain ⟨c3, ys, G, rfl, sm, eY, hG, si⟩ := h
      rw [lt] at si
      exact ⟨c3, ys, G, rfl, sm, eY, hG, si⟩
  rintro σ1 H1 ⟨c3, ys, G, rfl, sm, eY, hG, si⟩
  have hyl := hG.length
  have hsl := si.len
  refine ⟨_, rfl, tl, _, rfl, .inl (SqL.of eY), rfl, _, rfl, ?_⟩
  cases G with
  | nil =>
    have hy0 : ys = [] := List.eq_nil_of_length_eq_zero hyl
    subst hy0
    have ht0 : ts = [] := by
      cases ts with
      | nil => rfl
      | cons t ts =>
        obtain ⟨u, eu⟩ : ∃ u, (t :: ts)[(t :: ts).length - 1]? = some u := ⟨_, List.getElem?_eq_getElem (by simp)⟩
        obtain ⟨G', g, z, _⟩ := si.lst u eu (by simp)
        exact absurd (congrArg List.length z) (by simp)
    refine iteTS rfl ⟨_, rfl, _, rfl, small2, fun t ht => ?_⟩
    have u1 := same_new ht (.tup [.int st, .int st])
    have e1 : upd H1 t (.tup [.int st, .int st]) t = some (.tup [.int st, .int st]) := upd_same
    generalize upd H1 t (.tup [.int st, .int st]) = H2 at u1 e1 ⊢
    refine ⟨(by show 1 ≤ sizeLine; decide), fun l hl => ?_⟩
    have u2 := same_new hl (.lst [.ref t])
    exact q l _ [.ref t] [(st, st)] ((sm.trans u1).trans u2) upd_same (.cons ⟨t, rfl, u2 _ _ e1⟩ .nil) (.inl ⟨ht0, rfl⟩)
  | cons g G =>
  refine iteFS (by rw [hyl]; simp; omega) ?_
  have hts : ts ≠ [] := fun z => by rw [z] at hsl; simp at hsl
  refine ⟨_, rfl, tl, rfl, ⟨_, SqL.of eY⟩, comp_list (xs := ys) (fun D i zs H' => Same H1 H' ∧ H' D = some (.lst zs) ∧ PL H' zs (((g :: G).take i).map fun t => (t.1, t.2.1))) (fun D hD => ⟨same_new hD _, upd_same, .nil⟩) (fun D i zs H' hD _ h => SqL.of (h.1 _ _ eY)) (fun D i x zs H' hD e h => ?_) (fun D zs H' hD h => ?_)⟩
  · obtain ⟨s2, eD, hz⟩ := h
    obtain ⟨t, r, e1, rfl, hr'⟩ := (hG.mono s2.tups).get e
    have hi : i < ys.length := (List.getElem?_eq_some_iff.mp e).1
    refine ⟨_, rfl, r, _, _, _, rfl, rfl, SqT.of hr', w0 _ _ _, _, rfl, r, _, _, _, rfl, rfl, SqT.of hr', w1 _ _ _, small2, fun tp htp => ?_⟩
    have e3 : upd H' tp (.tup [.int t.1, .int t.2.1]) D = some (.lst zs) := ret_r1 eD htp
    have st1 : SameT H' (upd (upd H' tp (.tup [.int t.1, .int t.2.1])) D (.lst (zs ++ [.ref tp]))) := (sameT_new htp).trans (sameT_lst e3)
    have hzl : zs.length ≤ i := by rw [hz.length, List.length_map, List.length_take]; omega
    refine CYes.mk hi e3 (small1000 (by omega)) ⟨(s2.trans (same_new htp _)).upd hD, upd_same, ?_⟩
    rw [take_snoc e1, List.map_append]
    exact (hz.mono st1).snoc (sameT_lst e3 _ _ upd_same)
  · obtain ⟨s2, eD, hz⟩ := h
    rw [hyl, List.take_length] at hz
    refine q D H' zs _ (sm.trans s2) eD hz (.inr ⟨g, G, si, ?_, rfl⟩)
    obtain ⟨t, et⟩ : ∃ t, ts[0]? = some t := by
      cases ts with
      | nil => exact absurd rfl hts
      | cons t ts => exact ⟨t, rfl⟩
    obtain ⟨g', e1, e2⟩ := si.hd t et (List.length_pos_iff.mpr hts)
    have : g = g' := by simpa using e1
    rw [this, e2]
    exact hhd t et
theorem ok_either (F : Fun K "either" "either" s_either f fd) (bl : Bl K mg) (c_tidy : Callee P w K mg base 1 "tidy" ["pairs"] (sp_tidy K)) : FnOk P w K mg base CX0 2 f fd ["ones", "others"] (sp_either K) := by
  refine F.ok sc_either (fun vs H Q E h => ?_) (fun cdv A outer s H vs Q E hr h => ?_)
  · obtain ⟨a, b, xs, ys, A0, B0, rfl, hA, hB, PA, PB, h64, q⟩ := h
    rfl
  obtain ⟨a, b, xs, ys, A0, B0, rfl, hA, hB, PA, PB, h64, q⟩ := h
  refine ⟨_, (pss_one (ps_ret (pe_fn c_tidy hr rfl (pa_cons (pe_op op_cat (pv 0) (pv 1)) pa_nil)))), ?_⟩
  refine ⟨_, rfl, _, rfl, a, b, xs, ys, rfl, rfl, hA, hB, Nat.le_of_lt (small1000 (by omega)), fun c hc => ?_⟩
  have s1 : Same H (upd H c (.lst (xs ++ ys))) := same_new hc _
  refine ⟨c, xs ++ ys, A0 ++ B0, rfl, SqL.of upd_same, PL.app (PA.mono s1.tups) (PB.mono s1.tups), by rw [List.length_append]; exact h64, fun r H' zs R s2 hr' e P ti l => ?_⟩
  refine q r H' zs R (s1.trans s2) (s1.free hr') e P ti.ap (fun n => ?_) (by rw [List.length_append] at l; exact l)
  rw [ti.mem n]; unfold inP; rw [List.any_append]
theorem ok_without (F : Fun K "without" "without" s_without f fd) (bl : Bl K mg) (c_both : Callee P w K mg base 1 "both" ["ones", "others"] (sp_both K)) (c_gaps : Callee P w K mg base 1 "gaps" ["spans", "low", "high"] (sp_gaps K)) : FnOk P w K mg base CX0 2 f fd ["ones", "others"] (sp_without K) := by
  refine F.ok sc_without (fun vs H Q E h => ?_) (fun cdv A outer s H vs Q E hr h => ?_)
  · obtain ⟨a, b, xs, ys, A0, B0, rfl, hA, hB, PA, PB, aA, aB, hl1, hl2, q⟩ := h
    rfl
  obtain ⟨a, b, xs, ys, A0, B0, rfl, hA, hB, PA, PB, aA, aB, hl1, hl2, q⟩ := h
  refine ⟨_, (pss_cons (ps_if (pt_not (pt_truth (pv 0) (by intro _; rfl)))
     (pss_one (ps_ret (pe_lst pa_nil)))
     pss_nil)
     (pss_one (ps_ret (pe_fn c_both hr rfl (pa_cons (pv 0) (pa_cons (pe_fn c_gaps hr rfl (pa_cons (pv 1) (pa_cons (pe_ix ix_tup (pe_ix ix_list (pv 0) pe_int (fun _ _ => rfl)) pe_int (fun _ _ => rfl)) (pa_cons (pe_ix ix_tup (pe_ix ix_list (pv 0) (pe_un un_neg pe_int) (fun _ _ => rfl)) pe_int (fun _ _ => rfl)) pa_nil)))) pa_nil)))))), ?_⟩
  refine ⟨_, rfl, !xs.isEmpty, .inl ⟨xs, hA, rfl⟩, ?_⟩
  by_cases hne : xs = []
  · have eE : (!xs.isEmpty) = false := by rw [hne]; rfl
    rw [eE]
    refine ⟨(by show 0 ≤ sizeLine; decide), fun r hr' => ?_⟩
    have eA : A0 = [] := by
      have := PA.length
      rw [hne] at this
      exact List.eq_nil_of_length_eq_zero this.symm
    exact q r _ [] [] (same_new hr' _) hr' upd_same .nil Apart.nil (fun n => by rw [eA]; rfl) (Nat.zero_le _)
  · have eE : (!xs.isEmpty) = true := by cases xs with | nil => exact absurd rfl hne | cons _ _ => rfl
    rw [eE]
    refine iteF ?_
    obtain ⟨xs', rl, A', l, ex, eA, PA2, hrl⟩ := PL.last PA hne
    obtain ⟨p0, r0, f1, f2, f3⟩ := PA.get (i := 0) (x := xs[0]'(by cases xs with | nil => exact absurd rfl hne | cons _ _ => simp)) (List.getElem?_eq_getElem _)
    have v0 : atI xs 0 = some (.ref r0) := by rw [← f2]; exact atI_nat (j := 0) (List.getElem?_eq_getElem _)
    have vl : atI xs (-1) = some (.ref rl) := by rw [ex]; exact atI_last _ _
    refine ⟨_, rfl, _, rfl, _, rfl, a, _, _, _, rfl, rfl, hA, v0, r0, _, _, _, rfl, rfl, SqT.of f3, z0 _ _, _, rfl, _, rfl, a, _, _, _, rfl, rfl, hA, vl, rl, _, _, _, rfl, rfl, SqT.of hrl, z1 _ _, ?_⟩
    refine ⟨b, ys, B0, p0.1, l.2, rfl, hB, PB, aB, by omega, fun r1 H1 zs F1 s1 hr1 e1 P1 ap1 mem1 l1 => ?_⟩
    refine ⟨a, r1, xs, zs, A0, F1, rfl, s1.seq hA, SqL.of e1, PA.mono s1.tups, P1, aA, ap1, by omega, fun r2 H2 ws R s2 hr2 e2 P2 ap2 mem2 l2 => ?_⟩
    refine q r2 H2 ws R (s1.trans s2) (s1.free hr2) e2 P2 ap2 (fun n => ?_) (by omega)
    rw [mem2 n, mem1 n]
    cases z : inP A0 n with
    | false => rfl
    | true =>
      obtain ⟨A1, rfl⟩ : ∃ A1, A0 = p0 :: A1 := by
        cases A0 with
        | nil => cases f1
        | cons y ys => cases f1; exact ⟨ys, rfl⟩
      have en := aA.ends (M := A') (z := l) eA z
      rw [decide_eq_true en.1, decide_eq_true en.2]
      rfl
theorem ok_law_pieces (F : Fun K "_law_pieces" "_law_pieces" s_law_pieces f fd) (bl : Bl K mg) (c__law_step : Callee P w K mg base 1 "_law_step" ["cell"] (sp_law_step K)) : FnOk P w K mg base CX0 2 f fd ["cells", "start"] (sp_law_pieces K) := by
  refine F.ok sc_law_pieces (fun vs H Q E h => ?_) (fun cdv A outer s H vs Q E hr h => ?_)
  · obtain ⟨a, ns, st, rfl, hS, h63, q⟩ := h
    rfl
  obtain ⟨a, ns, st, rfl, hS, h63, q⟩ := h
  refine ⟨_, (pss_cons (ps_set (i := 2) sc_law_pieces.nd rfl (Or.inl rfl) (pe_lst pa_nil))
     (pss_cons (ps_set (i := 3) sc_law_pieces.nd rfl (Or.inl rfl) (pv 1))
     (pss_cons (ps_set (i := 4) sc_law_pieces.nd rfl (Or.inl rfl) pe_int)
     (pss_cons (ps_for PassesOwn.never rfl (pi_list (pv 0)) (pg_name (i := 5) sc_law_pieces.nd rfl (Or.inl rfl))
     (pss_cons (ps_set (i := 4) sc_law_pieces.nd rfl (Or.inl rfl) (pe_op op_xor (pv 4) (pe_op op_mod (pv 5) pe_int)))
     (pss_cons (ps_set (i := 6) sc_law_pieces.nd rfl (Or.inl rfl) (pe_fn c__law_step hr rfl (pa_cons (pe_op op_fdiv (pv 5) pe_int) pa_nil)))
     (pss_cons (ps_expr (pe_bm PySem.F.plainAttrs_list PySem.F.slot_list_append PySem.F.type_list_append mt_append (pv 2) (pa_cons (pe_tup (pa_cons (pv 3) (pa_cons (pe_op op_sub (pe_op op_add (pv 3) (pv 6)) pe_int) (pa_cons (pv 4) pa_nil)))) pa_nil)))
     (pss_one (ps_set (i := 3) sc_law_pieces.nd rfl (Or.inl rfl) (pe_op op_add (pv 3) (pv 6))))))))
     (pss_one (ps_ret (pv 2))))))), ?_⟩
  refine ⟨(by show 0 ≤ sizeLine; decide), fun tl htl => ?_⟩
  have s0 : Same H (upd H tl (.lst [])) := same_new htl _
  have hlen : (ns.map V.int).length = ns.length := List.length_map _
  refine ⟨_, rfl, ?_⟩
  refine ⟨_, rfl, a, rfl, ⟨_, s0.seq hS⟩, for_list (xs := ns.map V.int) (fun i σ H' => ∃ (at_ se : Int) (c5 c6 : Option V) (xs : List V) (ts : List (Int × Int × Int)), σ = [some (.ref a), some (.int st), some (.ref tl), some (.int at_), some (.int se), c5, c6] ∧ Same H H' ∧ H' tl = some (.lst xs) ∧ xs.length = i ∧ TL H' xs ts ∧ Walk ts ∧ (∀ t, ts[i - 1]? = some t → 0 < i → at_ = t.2.1 + 1) ∧ (0 ≤ se ∧ se ≤ 3) ∧ (∀ t ∈ ts, 0 ≤ t.2.2 ∧ t.2.2 ≤ 3) ∧ (∀ t, ts[0]? = some t → t.1 = st) ∧ (i = 0 → at_ = st))
    ⟨st, 0, none, none, [], [], rfl, s0, upd_same, rfl, .nil, ⟨(fun t ht => by cases ht), (fun i a b e => by cases e)⟩, (fun t e h => absurd h (Nat.lt_irrefl _)), ⟨by decide, by decide⟩, (fun t ht => by cases ht), (fun t e => by cases e), fun _ => rfl⟩
    (fun i σ H' _ h => by obtain ⟨_, _, _, _, _, _, _, sm, _⟩ := h; exact sm.seq hS) (fun i x σ H' e h => ?_) (fun σ H' h => ?_)⟩
  · obtain ⟨at_, se, c5, c6, xs, ts, rfl, sm, ht, hl, hT, hw, hat, hse, hst, hhd, h00⟩ := h
    obtain ⟨c, rfl⟩ := int_of_map e
    have hi : i < ns.length := by rw [← hlen]; exact (List.getElem?_eq_some_iff.mp e).1
    have lt := hT.length
    have hx4 := xor4 hse (b := c % 4) ⟨Int.emod_nonneg c (by decide), by have := Int.emod_lt_of_pos c (show (0 : Int) < 4 by decide); omega⟩
    refine ⟨_, rfl, _, rfl, _, _, rfl, rfl, (by show (0 : Int) < 4; decide), _, _, rfl, rfl, ?_⟩
    refine ⟨_, rfl, _, _, rfl, rfl, ⟨by decide, by decide⟩, c / 4, rfl, fun d hd => ?_⟩
    refine ⟨_, rfl, .inl ⟨rfl, _, SqL.of ht⟩, _, rfl, _, rfl, _, rfl, _, _, rfl, rfl, _, _, rfl, rfl, _, rfl, (by show 3 ≤ sizeLine; decide), fun t ht2 => ?_⟩
    have ht3 : upd H' t (.tup [.int at_, .int (at_ + d - 1), .int (Builtin.bitXor se (c % 4))]) tl = some (.lst xs) := ret_r1 ht ht2
    refine ⟨tl, xs, _, rfl, rfl, ht3, small1000 (by omega), ?_⟩
    have st1 : SameT H' (upd (upd H' t (.tup [.int at_, .int (at_ + d - 1), .int (Builtin.bitXor se (c % 4))])) tl (.lst (xs ++ [.ref t]))) := (sameT_new ht2).trans (sameT_lst ht3)
    refine ⟨_, rfl, _, rfl, _, _, rfl, rfl, ?_⟩
    refine ⟨at_ + d, (Builtin.bitXor se (c % 4)), _, _, xs ++ [.ref t], ts ++ [(at_, at_ + d - 1, (Builtin.bitXor se (c % 4)))], rfl, (sm.trans (same_new ht2 _)).upd htl, upd_same, ?_, (hT.mono st1).snoc (sameT_lst ht3 _ _ upd_same), ⟨fun u hu => ?_, fun j u v e1 e2 => ?_⟩, fun u e1 h1 => ?_, hx4, fun u hu => ?_, fun u e1 => ?_, fun z => absurd z (Nat.succ_ne_zero _)⟩
    · rw [List.length_append, List.length_singleton]; omega
    · rcases List.mem_append.mp hu with hu | hu
      · exact hw.le u hu
      · have eu : u = (at_, at_ + d - 1, (Builtin.bitXor se (c % 4))) := by simpa using hu
        rw [eu]; show at_ ≤ at_ + d - 1; omega
    · by_cases hj : j + 1 < ts.length
      · rw [List.getElem?_append_left (by omega)] at e1
        rw [List.getElem?_append_left hj] at e2
        exact hw.nx j u v e1 e2
      · have hj2 : j + 1 = ts.length := by
          have := (List.getElem?_eq_some_iff.mp e2).1
          rw [List.length_append, List.length_singleton] at this
          omega
        rw [List.getElem?_append_left (by omega)] at e1
        rw [hj2, List.getElem?_append_right (Nat.le_refl _), Nat.sub_self] at e2
        have ev : v = (at_, at_ + d - 1, (Builtin.bitXor se (c % 4))) := (Option.some.inj e2).symm
        have h3 := hat u (by rw [show i - 1 = j by omega]; exact e1) (by omega)
        rw [ev]; exact h3
    · rw [Nat.add_sub_cancel, ← hl, lt, List.getElem?_append_right (Nat.le_refl _), Nat.sub_self] at e1
      have eu : u = (at_, at_ + d - 1, (Builtin.bitXor se (c % 4))) := (Option.some.inj e1).symm
      rw [eu]; show at_ + d = at_ + d - 1 + 1; omega
    · rcases List.mem_append.mp hu with hu | hu
      · exact hst u hu
      · rw [show u = (at_, at_ + d - 1, (Builtin.bitXor se (c % 4))) by simpa using hu]; exact hx4
    · cases ts with
      | nil =>
        have hi0 : i = 0 := by rw [← hl, lt]; rfl
        have eu : u = (at_, at_ + d - 1, (Builtin.bitXor se (c % 4))) := by simpa using e1.symm
        rw [eu]; exact h00 hi0
      | cons t0 ts => exact hhd u (by simpa using e1)
  · obtain ⟨at_, se, c5, c6, xs, ts, rfl, sm, ht, hl, hT, hw, hat, hse, hst, hhd, h00⟩ := h
    exact ⟨_, rfl, q tl H' xs ts sm htl ht hT hw hst hhd (by omega)⟩
theorem ok_law_apart (F : Fun K "_law_apart" "_law_apart" s_law_apart f fd) (bl : Bl K mg) (c__law_whole : Callee P w K mg base 1 "_law_whole" ["found"] (sp_law_whole K)) : FnOk P w K mg base CX0 2 f fd ["found"] (sp_law_apart K) := by
  refine F.ok sc_law_apart (fun vs H Q E h => ?_) (fun cdv A outer s H vs Q E hr h => ?_)
  · obtain ⟨a, xs, R, rfl, hA, hP, ap, hl, q⟩ := h
    rfl
  obtain ⟨a, xs, R, rfl, hA, hP, ap, hl, q⟩ := h
  refine ⟨_, (pss_cons (ps_if (pt_not (pt_val (pe_callB call_isinst rfl bl.isinstance_ PyProof.Rows.boot_isinstance (pa_cons (pv 0) (pa_cons (pe_bltn (v := .ty "list") rfl bl.list_ PyProof.Rows.boot_list rfl) pa_nil)))))
     (pss_one (ps_ret pe_bl))
     pss_nil)
     (pss_cons (ps_for PassesOwn.never rfl (pi_range1 rfl bl.range_ (pa_cons (pe_callB call_len_seq rfl bl.len_ PySem.boot_len (pa_cons (pv 0) pa_nil)) pa_nil)) (pg_name (i := 1) sc_law_apart.nd rfl (Or.inl rfl))
     (pss_cons (ps_if (PW.pt (pw_or (pt_not (pt_val (pe_callB call_isinst rfl bl.isinstance_ PyProof.Rows.boot_isinstance (pa_cons (pe_ix ix_list (pv 0) (pv 1) (fun _ _ => rfl)) (pa_cons (pe_bltn (v := .ty "tuple") rfl bl.tuple_ PyProof.Rows.boot_tuple rfl) pa_nil))))) (pw_or1 (pt_cmpR op_ne (pe_callB call_len_seq rfl bl.len_ PySem.boot_len (pa_cons (pe_ix ix_list (pv 0) (pv 1) (fun _ _ => rfl)) pa_nil)) pe_int (nomark _)))))
     (pss_one (ps_ret pe_bl))
     pss_nil)
     (pss_cons (ps_if (PW.pt (pw_or (pt_not (pt_val (pe_fn c__law_whole hr rfl (pa_cons (pe_ix ix_tup (pe_ix ix_list (pv 0) (pv 1) (fun _ _ => rfl)) pe_int (fun _ _ => rfl)) pa_nil)))) (pw_or1 (pt_not (pt_val (pe_fn c__law_whole hr rfl (pa_cons (pe_ix ix_tup (pe_ix ix_list (pv 0) (pv 1) (fun _ _ => rfl)) pe_int (fun _ _ => rfl)) pa_nil)))))))
     (pss_one (ps_ret pe_bl))
     pss_nil)
     (pss_cons (ps_if (pt_cmpR op_gt (pe_ix ix_tup (pe_ix ix_list (pv 0) (pv 1) (fun _ _ => rfl)) pe_int (fun _ _ => rfl)) (pe_ix ix_tup (pe_ix ix_list (pv 0) (pv 1) (fun _ _ => rfl)) pe_int (fun _ _ => rfl)) (nomark _))
     (pss_one (ps_ret pe_bl))
     pss_nil)
     (pss_one (ps_if (PW.pt (pw_and (pt_cmpR op_gt (pv 1) pe_int (nomark _)) (pw_and1 (pt_cmpR op_lt (pe_ix ix_tup (pe_ix ix_list (pv 0) (pv 1) (fun _ _ => rfl)) pe_int (fun _ _ => rfl)) (pe_op op_add (pe_ix ix_tup (pe_ix ix_list (pv 0) (pe_op op_sub (pv 1) pe_int) (fun _ _ => rfl)) pe_int (fun _ _ => rfl)) pe_int) (nomark _)))))
     (pss_one (ps_ret pe_bl))
     pss_nil))))))
     (pss_one (ps_ret pe_bl)))), ?_⟩
  have hS : SqL K H a xs := SqL.of hA
  refine ⟨_, rfl, _, "list", _, true, rfl, .lst hA, (by first | rfl | with_unfolding_all rfl | decide +kernel), _, rfl, iteF ?_⟩
  refine ⟨_, rfl, a, _, rfl, .inl hS, _, rfl, by omega, by omega, for_range (fun i σ H' => (∃ c1, σ = [some (.ref a), c1]) ∧ H' = H) ⟨⟨_, rfl⟩, rfl⟩ (fun i σ H' hi h => ?_) (fun σ H' h => ?_)⟩
  · obtain ⟨⟨c1, rfl⟩, e0⟩ := h
    rw [e0]
    have hi' : i < xs.length := by simpa using hi
    have ex : xs[i]? = some xs[i] := List.getElem?_eq_getElem hi'
    obtain ⟨p, r, e1, e2, hr'⟩ := hP.get ex
    have hv : atI xs (0 + (i : Int)) = some (.ref r) := by rw [← e2]; exact getI ex
    have hp := ap.le p (List.mem_of_getElem? e1)
    refine ⟨_, rfl, _, rfl, a, _, _, _, rfl, rfl, hS, hv, _, "tuple", _, true, rfl, .tup hr', (by first | rfl | with_unfolding_all rfl | decide +kernel), _, rfl, iteF ?_⟩
    refine ⟨_, rfl, _, rfl, a, _, _, _, rfl, rfl, hS, hv, r, _, rfl, .inr (SqT.of hr'), rfl, _, rfl, iteNS rfl ?_⟩
    refine ⟨_, rfl, _, rfl, a, _, _, _, rfl, rfl, hS, hv, r, _, _, _, rfl, rfl, SqT.of hr', z0 _ _, _, rfl, _, rfl, iteF ?_⟩
    refine ⟨_, rfl, _, rfl, a, _, _, _, rfl, rfl, hS, hv, r, _, _, _, rfl, rfl, SqT.of hr', z1 _ _, _, rfl, _, rfl, iteF ?_⟩
    refine ⟨_, rfl, _, rfl, a, _, _, _, rfl, rfl, hS, hv, r, _, _, _, rfl, rfl, SqT.of hr', z0 _ _, _, rfl, _, rfl, a, _, _, _, rfl, rfl, hS, hv, r, _, _, _, rfl, rfl, SqT.of hr', z1 _ _, _, _, rfl, rfl, _, rfl, ?_⟩
    refine ite2 (fun c => absurd (show p.2 < p.1 from dec_t c) (by omega)) (fun _ => ?_)
    refine ⟨_, rfl, _, _, rfl, rfl, _, rfl, ?_⟩
    refine ite2 (fun c => ?_) (fun c => iteF ⟨⟨_, rfl⟩, rfl⟩)
    have hk : 0 < i := by have : (0 : Int) < 0 + (i : Int) := dec_t c; omega
    have ex2 : xs[i - 1]? = some xs[i - 1] := List.getElem?_eq_getElem (by omega)
    obtain ⟨p2, r2, e3, e4, hr2⟩ := hP.get ex2
    have hv2 : atI xs (0 + (i : Int) - 1) = some (.ref r2) := by
      rw [← e4, show (0 : Int) + (i : Int) - 1 = ((i - 1 : Nat) : Int) by omega]
      exact atI_nat ex2
    refine ⟨_, rfl, _, rfl, a, _, _, _, rfl, rfl, hS, hv, r, _, _, _, rfl, rfl, SqT.of hr', z0 _ _, _, rfl, _, rfl, _, _, rfl, rfl, a, _, _, _, rfl, rfl, hS, hv2, r2, _, _, _, rfl, rfl, SqT.of hr2, z1 _ _, _, _, rfl, rfl, _, _, rfl, rfl, _, rfl, ?_⟩
    refine ite2 (fun d => ?_) (fun _ => ⟨⟨_, rfl⟩, rfl⟩)
    obtain ⟨h1, z1'⟩ := List.getElem?_eq_some_iff.mp e1
    obtain ⟨h2, z2'⟩ := List.getElem?_eq_some_iff.mp e3
    have g := List.pairwise_iff_getElem.mp ap.gap (i - 1) i h2 h1 (by omega)
    rw [z1', z2'] at g
    exact absurd (show p.1 < p2.2 + 2 from dec_t d) (by omega)
  · obtain ⟨⟨c1, rfl⟩, e0⟩ := h
    rw [e0]; exact q
theorem ok_law_pair_list (F : Fun K "_law_pair_list" "_law_pair_list" s_law_pair_list f fd) (bl : Bl K mg) (c__law_whole : Callee P w K mg base 1 "_law_whole" ["found"] (sp_law_whole K)) : FnOk P w K mg base CX0 2 f fd ["found"] (sp_law_pair_list K) := by
  refine F.ok sc_law_pair_list (fun vs H Q E h => ?_) (fun cdv A outer s H vs Q E hr h => ?_)
  · obtain ⟨a, xs, R, rfl, hA, hP, q⟩ := h
    rfl
  obtain ⟨a, xs, R, rfl, hA, hP, q⟩ := h
  refine ⟨_, (pss_cons (ps_if (pt_not (pt_val (pe_callB call_isinst rfl bl.isinstance_ PyProof.Rows.boot_isinstance (pa_cons (pv 0) (pa_cons (pe_bltn (v := .ty "list") rfl bl.list_ PyProof.Rows.boot_list rfl) pa_nil)))))
     (pss_one (ps_ret pe_bl))
     pss_nil)
     (pss_cons (ps_for PassesOwn.never rfl (pi_list (pv 0)) (pg_name (i := 1) sc_law_pair_list.nd rfl (Or.inl rfl))
     (pss_cons (ps_if (PW.pt (pw_or (pt_not (pt_val (pe_callB call_isinst rfl bl.isinstance_ PyProof.Rows.boot_isinstance (pa_cons (pv 1) (pa_cons (pe_bltn (v := .ty "tuple") rfl bl.tuple_ PyProof.Rows.boot_tuple rfl) pa_nil))))) (pw_or1 (pt_cmpR op_ne (pe_callB call_len_seq rfl bl.len_ PySem.boot_len (pa_cons (pv 1) pa_nil)) pe_int (nomark _)))))
     (pss_one (ps_ret pe_bl))
     pss_nil)
     (pss_one (ps_if (PW.pt (pw_or (pt_not (pt_val (pe_fn c__law_whole hr rfl (pa_cons (pe_ix ix_tup (pv 1) pe_int (fun _ _ => rfl)) pa_nil)))) (pw_or1 (pt_not (pt_val (pe_fn c__law_whole hr rfl (pa_cons (pe_ix ix_tup (pv 1) pe_int (fun _ _ => rfl)) pa_nil)))))))
     (pss_one (ps_ret pe_bl))
     pss_nil))))
     (pss_one (ps_ret pe_bl)))), ?_⟩
  refine ⟨_, rfl, _, "list", _, true, rfl, .lst hA, (by first | rfl | with_unfolding_all rfl | decide +kernel), _, rfl, iteF ?_⟩
  refine ⟨_, rfl, a, rfl, ⟨_, SqL.of hA⟩, for_list (xs := xs) (fun i σ H' => (∃ c1, σ = [some (.ref a), c1]) ∧ H' = H) ⟨⟨_, rfl⟩, rfl⟩ (fun i σ H' _ h => by rw [h.2]; exact SqL.of hA) (fun i x σ H' e h => ?_) (fun σ H' h => ?_)⟩
  · obtain ⟨⟨c1, rfl⟩, e0⟩ := h
    rw [e0]
    obtain ⟨p, r, e1, rfl, hr'⟩ := hP.get e
    refine ⟨_, rfl, _, "tuple", _, true, rfl, .tup hr', (by first | rfl | with_unfolding_all rfl | decide +kernel), _, rfl, iteF ?_⟩
    refine ⟨_, rfl, r, _, rfl, .inr (SqT.of hr'), rfl, _, rfl, iteNS rfl ?_⟩
    refine ⟨_, rfl, r, _, _, _, rfl, rfl, SqT.of hr', z0 _ _, _, rfl, _, rfl, iteF ?_⟩
    exact ⟨_, rfl, r, _, _, _, rfl, rfl, SqT.of hr', z1 _ _, _, rfl, _, rfl, iteF ⟨⟨_, rfl⟩, rfl⟩⟩
  · obtain ⟨⟨c1, rfl⟩, e0⟩ := h
    rw [e0]
    exact q
theorem ok_law_same (F : Fun K "_law_same" "_law_same" s_law_same f fd) (bl : Bl K mg) (c__law_apart : Callee P w K mg base 2 "_law_apart" ["found"] (sp_law_apart K)) : FnOk P w K mg base CX0 3 f fd ["found", "due"] (sp_law_same K) := by
  refine F.ok sc_law_same (fun vs H Q E h => ?_) (fun cdv A outer s H vs Q E hr h => ?_)
  · obtain ⟨a, b, xs, ys, R, rfl, hA, hB, hab, hP, hQ, ap, hl, q⟩ := h
    rfl
  obtain ⟨a, b, xs, ys, R, rfl, hA, hB, hab, hP, hQ, ap, hl, q⟩ := h
  refine ⟨_, (pss_cons (ps_if (PW.pt (pw_or (pt_not (pt_val (pe_fn c__law_apart hr rfl (pa_cons (pv 0) pa_nil)))) (pw_or1 (pt_cmpR (op_neL hr) (pv 0) (pv 1) (nomark _)))))
     (pss_one (ps_ret pe_bl))
     pss_nil)
     (pss_cons (ps_expr (pe_bm PySem.F.plainAttrs_list PySem.F.slot_list_append PySem.F.type_list_append mt_append (pv 0) (pa_cons (pe_tup (pa_cons pe_int (pa_cons pe_int pa_nil))) pa_nil)))
     (pss_one (ps_ret (pe_cmpR op_eq (pe_callB call_len_seq rfl bl.len_ PySem.boot_len (pa_cons (pv 0) pa_nil)) (pe_op op_add (pe_callB call_len_seq rfl bl.len_ PySem.boot_len (pa_cons (pv 1) pa_nil)) pe_int) (nomark _)))))), ?_⟩
  have l1 := hP.length
  have l2 := hQ.length
  refine ⟨_, rfl, a, xs, R, rfl, hA, hP, ap, by omega, _, rfl, iteF ?_⟩
  refine ⟨_, rfl, _, rfl, rNeL_pl true (SqL.of hA) (SqL.of hB) hP hQ ⟨_, rfl, iteF ?_⟩⟩
  refine ⟨_, rfl, .inl ⟨rfl, _, SqL.of hA⟩, small2, fun t ht => ?_⟩
  have u1 := same_new ht (.tup [.int 0, .int 0])
  generalize upd H t (.tup [.int 0, .int 0]) = H1 at u1 ⊢
  refine ⟨a, _, _, rfl, rfl, u1 _ _ hA, small1000 (by omega), ?_⟩
  refine ⟨_, rfl, a, _, rfl, .inl (SqL.of upd_same), _, rfl, b, _, rfl, .inl (SqL.of ((upd_ne hab.symm).trans (u1 _ _ hB))), _, _, rfl, rfl, rfl, ?_⟩
  rw [decide_eq_true (congrArg V.int (by rw [List.length_append, List.length_singleton]; omega))]
  exact q _ fun c o hc e => (upd_ne hc).trans (u1 _ _ e)
theorem ok_law (F : Fun K "law" "law" s_law f fd) (bl : Bl K mg) (c__law_start : Callee P w K mg base 3 "_law_start" ["cell"] (sp_law_start K)) (c__law_pieces : Callee P w K mg base 3 "_law_pieces" ["cells", "start"] (sp_law_pieces K)) (c__law_runs : Callee P w K mg base 3 "_law_runs" ["pieces", "masks"] (sp_law_runs K)) (c__law_steps : Callee P w K mg base 3 "_law_steps" ["pieces", "start"] (sp_law_steps K)) (c_stretches : Callee P w K mg base 3 "stretches" ["low", "high", "marks"] (sp_stretches K)) (c__law_cell : Callee P w K mg base 3 "_law_cell" ["script", "k"] (sp_law_cell K)) (c__law_same : Callee P w K mg base 3 "_law_same" ["found", "due"] (sp_law_same K)) (c_edges : Callee P w K mg base 3 "edges" ["spans", "low", "high"] (sp_edges K)) (c__law_pair_list : Callee P w K mg base 3 "_law_pair_list" ["found"] (sp_law_pair_list K)) (c_either : Callee P w K mg base 3 "either" ["ones", "others"] (sp_either K)) (c_both : Callee P w K mg base 3 "both" ["ones", "others"] (sp_both K)) (c_without : Callee P w K mg base 3 "without" ["ones", "others"] (sp_without K)) : FnOk P w K mg base CX0 4 f fd ["script"] (sp_law K) := by
  refine F.ok sc_law (fun vs H Q E h => ?_) (fun cdv A outer s H vs Q E hr h => ?_)
  · obtain ⟨a, ns, rfl, hS, h63, q⟩ := h
    rfl
  obtain ⟨a, ns, rfl, hS, h63, q⟩ := h
  refine ⟨_, (pss_cut (ps_set (i := 1) sc_law.nd rfl (Or.inl rfl) (pe_fn c__law_start hr rfl (pa_cons (pe_fn c__law_cell hr rfl (pa_cons (pv 0) (pa_cons pe_int pa_nil))) pa_nil)))
     (pss_cut (ps_set (i := 2) sc_law.nd rfl (Or.inl rfl) (pe_fn c__law_pieces hr rfl (pa_cons (pe_slice sl_list (pv 0) (po_some pe_int) (po_some pe_int)) (pa_cons (pv 1) pa_nil))))
     (pss_cut (ps_set (i := 3) sc_law.nd rfl (Or.inl rfl) (pe_fn c__law_runs hr rfl (pa_cons (pv 2) (pa_cons (pe_lst (pa_cons pe_int (pa_cons pe_int pa_nil))) pa_nil))))
     (pss_cut (ps_set (i := 4) sc_law.nd rfl (Or.inl rfl) (pe_fn c__law_runs hr rfl (pa_cons (pv 2) (pa_cons (pe_lst (pa_cons pe_int (pa_cons pe_int pa_nil))) pa_nil))))
     (pss_cut (ps_set (i := 5) sc_law.nd rfl (Or.inl rfl) (pe_lst (pa_cons (pe_callTy call_list_of rfl bl.list_ PyProof.Rows.boot_list (pa_cons (pv 3) pa_nil)) (pa_cons (pe_callTy call_list_of rfl bl.list_ PyProof.Rows.boot_list (pa_cons (pv 4) pa_nil)) pa_nil))))
     (pss_cut (ps_if (pt_not (pt_val (pe_fn c__law_same hr rfl (pa_cons (pe_fn c_either hr rfl (pa_cons (pe_ix ix_list (pv 5) pe_int (fun _ _ => rfl)) (pa_cons (pe_ix ix_list (pv 5) pe_int (fun _ _ => rfl)) pa_nil))) (pa_cons (pe_fn c__law_runs hr rfl (pa_cons (pv 2) (pa_cons (pe_lst (pa_cons pe_int (pa_cons pe_int (pa_cons pe_int pa_nil)))) pa_nil))) pa_nil)))))
     (pss_one (ps_ret pe_bl))
     pss_nil)
     (pss_cut (ps_if (pt_not (pt_val (pe_fn c__law_same hr rfl (pa_cons (pe_fn c_both hr rfl (pa_cons (pe_ix ix_list (pv 5) pe_int (fun _ _ => rfl)) (pa_cons (pe_ix ix_list (pv 5) pe_int (fun _ _ => rfl)) pa_nil))) (pa_cons (pe_fn c__law_runs hr rfl (pa_cons (pv 2) (pa_cons (pe_lst (pa_cons pe_int pa_nil)) pa_nil))) pa_nil)))))
     (pss_one (ps_ret pe_bl))
     pss_nil)
     (pss_cut (ps_if (pt_not (pt_val (pe_fn c__law_same hr rfl (pa_cons (pe_fn c_without hr rfl (pa_cons (pe_ix ix_list (pv 5) pe_int (fun _ _ => rfl)) (pa_cons (pe_ix ix_list (pv 5) pe_int (fun _ _ => rfl)) pa_nil))) (pa_cons (pe_fn c__law_runs hr rfl (pa_cons (pv 2) (pa_cons (pe_lst (pa_cons pe_int pa_nil)) pa_nil))) pa_nil)))))
     (pss_one (ps_ret pe_bl))
     pss_nil)
     (pss_cons (ps_if (PW.pt (pw_or (pt_cmpR (op_neL hr) (pe_ix ix_list (pv 5) pe_int (fun _ _ => rfl)) (pv 3) (nomark _)) (pw_or1 (pt_cmpR (op_neL hr) (pe_ix ix_list (pv 5) pe_int (fun _ _ => rfl)) (pv 4) (nomark _)))))
     (pss_one (ps_ret pe_bl))
     pss_nil)
     (pss_cut (ps_set (i := 6) sc_law.nd rfl (Or.inl rfl) (pe_fn c__law_steps hr rfl (pa_cons (pv 2) (pa_cons (pv 1) pa_nil))))
     (pss_cut (ps_set (i := 7) sc_law.nd rfl (Or.inl rfl) (pe_op op_cat (pe_fn c_edges hr rfl (pa_cons (pe_ix ix_list (pv 5) pe_int (fun _ _ => rfl)) (pa_cons (pv 1) (pa_cons (pe_ix ix_tup (pe_ix ix_list (pv 6) (pe_un un_neg pe_int) (fun _ _ => rfl)) pe_int (fun _ _ => rfl)) pa_nil)))) (pe_fn c_edges hr rfl (pa_cons (pe_ix ix_list (pv 5) pe_int (fun _ _ => rfl)) (pa_cons (pv 1) (pa_cons (pe_ix ix_tup (pe_ix ix_list (pv 6) (pe_un un_neg pe_int) (fun _ _ => rfl)) pe_int (fun _ _ => rfl)) pa_nil))))))
     (pss_cut (ps_set (i := 8) sc_law.nd rfl (Or.inl rfl) (pe_fn c_stretches hr rfl (pa_cons (pv 1) (pa_cons (pe_ix ix_tup (pe_ix ix_list (pv 6) (pe_un un_neg pe_int) (fun _ _ => rfl)) pe_int (fun _ _ => rfl)) (pa_cons (pv 7) pa_nil)))))
     (pss_one (ps_ret (pe_and (pe_fn c__law_pair_list hr rfl (pa_cons (pv 8) pa_nil)) (pe_one (pe_cmpR (op_eqL hr) (pv 8) (pv 6) (nomark _)))))))))))))))))), ?_⟩
  obtain ⟨ms, em0, lm⟩ := cut_from ns 1 (some 201)
  have em : cutV (ns.map V.int) (some 1) (some 201) = ms.map V.int := em0
  refine ⟨fun σ' H' => H' = H ∧ ∃ st : Int, σ' = [some (.ref a), some (.int st), none, none, none, none, none, none, none], ⟨_, rfl, a, ns, 0, rfl, hS, Int.le_refl _, fun v0 => ⟨v0, rfl, fun st => ⟨rfl, st, rfl⟩⟩⟩, ?_⟩
  rintro σ0 H0 ⟨rfl, st, rfl⟩
  refine ⟨fun σ' H' => Same H0 H' ∧ ∃ (r1 : Addr) (xs : List V) (ts : List (Int × Int × Int)), H' r1 = some (.lst xs) ∧ TL H' xs ts ∧ Walk ts ∧ (∀ t ∈ ts, 0 ≤ t.2.2 ∧ t.2.2 ≤ 3) ∧ (∀ t, ts[0]? = some t → t.1 = st) ∧ xs.length ≤ 62 ∧ σ' = [some (.ref a), some (.int st), some (.ref r1), none, none, none, none, none, none], ?_, ?_⟩
  · refine ⟨_, rfl, _, rfl, _, rfl, a, _, rfl, hS, fun c1 hc1 => ?_⟩
    rw [em]
    have s1 : Same H0 (upd H0 c1 (.lst (ms.map V.int))) := same_new hc1 _
    exact ⟨_, rfl, c1, ms, st, rfl, SqL.of upd_same, by omega, fun r1 H1 xs ts s2 _ e1 T1 hw h4 hh l1 => ⟨s1.trans s2, r1, xs, ts, e1, T1, hw, h4, hh, by omega, rfl⟩⟩
  rintro σ1 H1 ⟨s1, r1, xs, ts, e1, T1, hw, h4, hhd, hxl, rfl⟩
  have hmem : ∀ {R R' : List (Int × Int)}, Apart R → Apart R' → (∀ n, inP R n = inP R' n) → R = R' := fun a b c => Apart.uniq a b c
  refine ⟨fun σ' H' => Same H1 H' ∧ ∃ (r2 : Addr) (ys : List V) (A : List (Int × Int)), H' r2 = some (.lst ys) ∧ PL H' ys A ∧ Apart A ∧ (∀ n, inP A n = pcs (mk [1, 3]) ts n) ∧ 2 * ys.length ≤ 63 ∧ σ' = [some (.ref a), some (.int st), some (.ref r1), some (.ref r2), none, none, none, none, none], ?_, ?_⟩
  · refine ⟨_, rfl, small2, fun m1 hm1 => ?_⟩
    have s3 : Same H1 (upd H1 m1 (.lst [.int 1, .int 3])) := same_new hm1 _
    exact ⟨r1, m1, xs, ts, [1, 3], rfl, SqL.of (s3 _ _ e1), T1.mono s3.tups, hw, SqL.of upd_same, by omega, fun r2 H2 ys A0 s4 _ e2 PA aA mA lA => ⟨s3.trans s4, r2, ys, A0, e2, PA, aA, mA, by omega, rfl⟩⟩
  rintro σ2 H2 ⟨s2, r2, ys, A, e2, PA, aA, mA, lA, rfl⟩
  refine ⟨fun σ' H' => Same H2 H' ∧ ∃ (r3 : Addr) (zs : List V) (B : List (Int × Int)), H' r3 = some (.lst zs) ∧ PL H' zs B ∧ Apart B ∧ (∀ n, inP B n = pcs (mk [2, 3]) ts n) ∧ 2 * zs.length ≤ 63 ∧ σ' = [some (.ref a), some (.int st), some (.ref r1), some (.ref r2), some (.ref r3), none, none, none, none], ?_, ?_⟩
  · refine ⟨_, rfl, small2, fun m1 hm1 => ?_⟩
    have s3 : Same H2 (upd H2 m1 (.lst [.int 2, .int 3])) := same_new hm1 _
    exact ⟨r1, m1, xs, ts, [2, 3], rfl, SqL.of (s3 _ _ (s2 _ _ e1)), T1.mono (s2.trans s3).tups, hw, SqL.of upd_same, by omega, fun r2 H2 ys A0 s4 _ e2 PA aA mA lA => ⟨s3.trans s4, r2, ys, A0, e2, PA, aA, mA, by omega, rfl⟩⟩
  rintro σ3 H3 ⟨s3, r3, zs, B, e3, PB, aB, mB, lB, rfl⟩
  have e13 := s3 _ _ (s2 _ _ e1)
  have T13 := T1.mono (s2.trans s3).tups
  have e23 := s3 _ _ e2
  have PA3 := PA.mono s3.tups
  refine ⟨fun σ' H' => Same H3 H' ∧ ∃ d1 d2 hn : Addr, H' d1 = some (.lst ys) ∧ H' d2 = some (.lst zs) ∧ H' hn = some (.lst [.ref d1, .ref d2]) ∧ σ' = [some (.ref a), some (.int st), some (.ref r1), some (.ref r2), some (.ref r3), some (.ref hn), none, none, none], ?_, ?_⟩
  · refine ⟨_, rfl, r2, _, rfl, .inl (SqL.of e23), fun d1 hd1 => ?_⟩
    have t1 : Same H3 (upd H3 d1 (.lst ys)) := same_new hd1 _
    refine ⟨_, rfl, r3, _, rfl, .inl (SqL.of (t1 _ _ e3)), fun d2 hd2 => ?_⟩
    have t2 : Same (upd H3 d1 (.lst ys)) (upd (upd H3 d1 (.lst ys)) d2 (.lst zs)) := same_new hd2 _
    refine ⟨small2, fun hn hhn => ?_⟩
    have t3 : Same (upd (upd H3 d1 (.lst ys)) d2 (.lst zs)) (upd (upd (upd H3 d1 (.lst ys)) d2 (.lst zs)) hn (.lst [.ref d1, .ref d2])) := same_new hhn _
    exact ⟨(t1.trans t2).trans t3, d1, d2, hn, t3 _ _ (t2 _ _ upd_same), t3 _ _ upd_same, upd_same, rfl⟩
  rintro σ4 H4 ⟨s4, d1, d2, hn, k1, k2, k3, rfl⟩
  have x0 : atI [V.ref d1, V.ref d2] 0 = some (.ref d1) := rfl
  have x1 : atI [V.ref d1, V.ref d2] 1 = some (.ref d2) := rfl
  have PA4 := PA3.mono s4.tups
  have PB4 := PB.mono s4.tups
  have e14 := s4 _ _ e13
  have T14 := T13.mono s4.tups
  -- either
  refine ⟨fun σ' H' => Same H4 H' ∧ σ' = [some (.ref a), some (.int st), some (.ref r1), some (.ref r2), some (.ref r3), some (.ref hn), none, none, none], ?_, ?_⟩
  · refine ⟨_, rfl, hn, _, _, _, rfl, rfl, SqL.of k3, x0, _, rfl, hn, _, _, _, rfl, rfl, SqL.of k3, x1, d1, d2, ys, zs, A, B, rfl, k1, k2, PA4, PB4, by omega, fun r7 H7 us7 R7 w7 n7 e7 P7 ap7 mem7 l7 => ?_⟩
    refine ⟨_, rfl, (by show 3 ≤ sizeLine; decide), fun m1 hm1 => ?_⟩
    have v1 := same_new hm1 (.lst [.int 1, .int 2, .int 3])
    refine ⟨r1, m1, xs, ts, [1, 2, 3], rfl, SqL.of (v1 _ _ (w7 _ _ e14)), T14.mono (w7.trans v1).tups, hw, SqL.of upd_same, by omega, fun r8 H8 us8 R8 w8 n8 e8 P8 ap8 mem8 l8 => ?_⟩
    have eR : R7 = R8 := hmem ap7 ap8 fun n => by rw [mem7, mA, mB]; exact (pcs_two hw h4 (fun x y => x || y) rfl (fun s hs => mk_or hs) n).trans (mem8 n).symm
    subst eR
    have e7' := w8 _ _ (v1 _ _ e7)
    refine ⟨r7, r8, us7, us8, R7, rfl, e7', e8, ne_of_none (v1 _ _ e7) n8, P7.mono (v1.trans w8).tups, P8, ap7, by omega, fun H9 k9 => ⟨_, rfl, iteF ⟨fun c o e => k9 c o (ne_of_none e n7) (w8 _ _ (v1 _ _ (w7 _ _ e))), rfl⟩⟩⟩
  rintro σ5 H5 ⟨s5, rfl⟩
  -- both
  refine ⟨fun σ' H' => Same H4 H' ∧ σ' = [some (.ref a), some (.int st), some (.ref r1), some (.ref r2), some (.ref r3), some (.ref hn), none, none, none], ?_, ?_⟩
  · refine ⟨_, rfl, hn, _, _, _, rfl, rfl, SqL.of (s5 _ _ k3), x0, _, rfl, hn, _, _, _, rfl, rfl, SqL.of (s5 _ _ k3), x1, d1, d2, ys, zs, A, B, rfl, SqL.of (s5 _ _ k1), SqL.of (s5 _ _ k2), PA4.mono s5.tups, PB4.mono s5.tups, aA, aB, by omega, fun r7 H7 us7 R7 w7 n7 e7 P7 ap7 mem7 l7 => ?_⟩
    refine ⟨_, rfl, (by show 1 ≤ sizeLine; decide), fun m1 hm1 => ?_⟩
    have v1 := same_new hm1 (.lst [.int 3])
    have w57 := s5.trans w7
    refine ⟨r1, m1, xs, ts, [3], rfl, SqL.of (v1 _ _ (w57 _ _ e14)), T14.mono (w57.trans v1).tups, hw, SqL.of upd_same, by omega, fun r8 H8 us8 R8 w8 n8 e8 P8 ap8 mem8 l8 => ?_⟩
    have eR : R7 = R8 := hmem ap7 ap8 fun n => by rw [mem7, mA, mB]; exact (pcs_two hw h4 (fun x y => x && y) rfl (fun s hs => mk_and hs) n).trans (mem8 n).symm
    subst eR
    have e7' := w8 _ _ (v1 _ _ e7)
    refine ⟨r7, r8, us7, us8, R7, rfl, e7', e8, ne_of_none (v1 _ _ e7) n8, P7.mono (v1.trans w8).tups, P8, ap7, by omega, fun H9 k9 => ⟨_, rfl, iteF ⟨fun c o e => k9 c o (ne_of_none (s5 _ _ e) n7) (w8 _ _ (v1 _ _ (w57 _ _ e))), rfl⟩⟩⟩
  rintro σ6 H6 ⟨s6, rfl⟩
  -- without
  refine ⟨fun σ' H' => Same H4 H' ∧ σ' = [some (.ref a), some (.int st), some (.ref r1), some (.ref r2), some (.ref r3), some (.ref hn), none, none, none], ?_, ?_⟩
  · refine ⟨_, rfl, hn, _, _, _, rfl, rfl, SqL.of (s6 _ _ k3), x0, _, rfl, hn, _, _, _, rfl, rfl, SqL.of (s6 _ _ k3), x1, d1, d2, ys, zs, A, B, rfl, SqL.of (s6 _ _ k1), SqL.of (s6 _ _ k2), PA4.mono s6.tups, PB4.mono s6.tups, aA, aB, by omega, by omega, fun r7 H7 us7 R7 w7 n7 e7 P7 ap7 mem7 l7 => ?_⟩
    refine ⟨_, rfl, (by show 1 ≤ sizeLine; decide), fun m1 hm1 => ?_⟩
    have v1 := same_new hm1 (.lst [.int 1])
    have w67 := s6.trans w7
    refine ⟨r1, m1, xs, ts, [1], rfl, SqL.of (v1 _ _ (w67 _ _ e14)), T14.mono (w67.trans v1).tups, hw, SqL.of upd_same, by omega, fun r8 H8 us8 R8 w8 n8 e8 P8 ap8 mem8 l8 => ?_⟩
    have eR : R7 = R8 := hmem ap7 ap8 fun n => by rw [mem7, mA, mB]; exact (pcs_two hw h4 (fun x y => x && !y) rfl (fun s hs => mk_no hs) n).trans (mem8 n).symm
    subst eR
    have e7' := w8 _ _ (v1 _ _ e7)
    refine ⟨r7, r8, us7, us8, R7, rfl, e7', e8, ne_of_none (v1 _ _ e7) n8, P7.mono (v1.trans w8).tups, P8, ap7, by omega, fun H9 k9 => ⟨_, rfl, iteF ⟨fun c o e => k9 c o (ne_of_none (s6 _ _ e) n7) (w8 _ _ (v1 _ _ (w67 _ _ e))), rfl⟩⟩⟩
  rintro σ7 H7 ⟨s7, rfl⟩
  have s37 := s4.trans s7
  refine ⟨_, rfl, hn, _, _, _, rfl, rfl, SqL.of (s7 _ _ k3), x0, _, rfl, rNeL_same (SqL.of (s7 _ _ k1)) (SqL.of (s37 _ _ e23)) PA.refs ⟨_, rfl, iteF ?_⟩⟩
  refine ⟨_, rfl, hn, _, _, _, rfl, rfl, SqL.of (s7 _ _ k3), x1, _, rfl, rNeL_same (SqL.of (s7 _ _ k2)) (SqL.of (s37 _ _ e3)) PB.refs ⟨_, rfl, iteF ?_⟩⟩
  refine ⟨fun σ' H' => Same H7 H' ∧ ∃ (du : Addr) (dy : List V) (D : List (Int × Int)), H' du = some (.lst dy) ∧ PL H' dy D ∧ Stp st ts D ∧ σ' = [some (.ref a), some (.int st), some (.ref r1), some (.ref r2), some (.ref r3), some (.ref hn), some (.ref du), none, none], ?_, ?_⟩
  · exact ⟨_, rfl, _, rfl, r1, st, xs, ts, rfl, SqL.of (s7 _ _ e14), T14.mono s7.tups, hw, by omega, hhd, fun r H' dy D s' er hP hD => ⟨s', r, dy, D, er, hP, hD, rfl⟩⟩
  rintro σ8 H8 ⟨s8, du, dy, D, edu, PD, hD, rfl⟩
  have hne : dy ≠ [] := fun z => by
    have := PD.length
    rw [z] at this
    rcases hD with ⟨_, e⟩ | ⟨g, G, _, _, e⟩ <;> (rw [e] at this; simp at this)
  obtain ⟨dy', rl, D', l, edy, eD, PD', hrl⟩ := PL.last PD hne
  have ixl : atI dy (-1) = some (.ref rl) := by rw [edy]; exact atI_last _ _
  -- the places where the walk is cut
  obtain ⟨L, hL, hLm, hLs⟩ : ∃ L : List Int, L.length < 64 ∧ (L.Pairwise (· < ·) ∧ ∀ c, c ∈ L ↔ ((c ∈ ends A ∨ c ∈ ends B) ∧ st < c ∧ c ≤ l.2)) ∧ stre st l.2 L = D := by
    rcases hD with ⟨e0, e⟩ | ⟨g, G, si, hg, e⟩
    · rw [e] at eD
      have el : (st, st) = l := by
        cases D' with
        | nil => simpa using eD
        | cons d D' => simp at eD
      refine ⟨[], by decide, ⟨List.Pairwise.nil, fun c => ⟨(fun h => by cases h), fun h => ?_⟩⟩, ?_⟩
      · obtain ⟨_, h1, h2⟩ := h
        rw [← el] at h2
        exact absurd (show c ≤ st from h2) (by omega)
      · rw [e, ← el]; rfl
    · have eW : ∃ W' z, g :: G = W' ++ [z] ∧ l = (z.1, z.2.1) := by
        rcases List.eq_nil_or_concat (g :: G) with z | ⟨W', z, h⟩
        · cases z
        · rw [List.concat_eq_append] at h
          refine ⟨W', z, h, ?_⟩
          rw [e, h, List.map_append] at eD
          have := List.append_inj_right' eD rfl
          simpa using this.symm
      obtain ⟨W', z, hW, el⟩ := eW
      have hts : ts.take ts.length = ts := List.take_length
      have stt : ∀ s ∈ g :: G, 0 ≤ s.2.2 ∧ s.2.2 ≤ 3 := fun s hs => let ⟨t, ht, q⟩ := si.stt s hs; q ▸ h4 t ht
      have hlen := si.len
      have lt := T1.length
      refine ⟨G.map (·.1), by rw [List.length_map]; simp at hlen; omega, ⟨(List.pairwise_cons.mp (Walk.up si.walk)).2, fun c => ?_⟩, ?_⟩
      · have := cuts_are (mA := mk [1, 3]) (mB := mk [2, 3]) si.walk hW si.ne aA aB (fun n => by rw [mA n, si.pcs, hts]) (fun n => by rw [mB n, si.pcs, hts]) (fun s hs t ht ne => mk_sep (stt s hs) (stt t ht) ne) c
        rw [hg] at this
        rw [el]
        exact this
      · rw [el, ← hg, e]
        exact stre_steps si.walk hW
  have s48 := s7.trans s8
  have k38 := s48 _ _ k3
  have la := PA.length
  have lb := PB.length
  have ends_len : ∀ R : List (Int × Int), (ends R).length = 2 * R.length := fun R => by
    induction R with
    | nil => rfl
    | cons p R ih => rw [ends_cons]; simp [ih]; omega
  obtain ⟨fA, hfA⟩ : ∃ fA, fA = (ends A).filter (fun t => decide (st < t) && decide (t ≤ l.2)) := ⟨_, rfl⟩
  obtain ⟨fB, hfB⟩ : ∃ fB, fB = (ends B).filter (fun t => decide (st < t) && decide (t ≤ l.2)) := ⟨_, rfl⟩
  have lfA : fA.length ≤ 2 * A.length := by rw [hfA, ← ends_len]; exact List.length_filter_le ..
  have lfB : fB.length ≤ 2 * B.length := by rw [hfB, ← ends_len]; exact List.length_filter_le ..
  refine ⟨fun σ' H' => Same H8 H' ∧ ∃ mk_ : Addr, H' mk_ = some (.lst ((fA ++ fB).map V.int)) ∧ σ' = [some (.ref a), some (.int st), some (.ref r1), some (.ref r2), some (.ref r3), some (.ref hn), some (.ref du), some (.ref mk_), none], ?_, ?_⟩
  · refine ⟨_, rfl, hn, _, _, _, rfl, rfl, SqL.of k38, x0, _, rfl, _, rfl, _, rfl, du, _, _, _, rfl, rfl, SqL.of edu, ixl, rl, _, _, _, rfl, rfl, SqT.of hrl, z1 _ _, d1, ys, A, st, l.2, rfl, SqL.of (s48 _ _ k1), PA4.mono s48.tups, by omega, fun m1 H9 es1 w9 _ e9 he1 => ?_⟩
    have v9 := s48.trans w9
    refine ⟨_, rfl, hn, _, _, _, rfl, rfl, SqL.of (w9 _ _ k38), x1, _, rfl, _, rfl, _, rfl, du, _, _, _, rfl, rfl, SqL.of (w9 _ _ edu), ixl, rl, _, _, _, rfl, rfl, SqT.of (w9 _ _ hrl), z1 _ _, d2, zs, B, st, l.2, rfl, SqL.of (v9 _ _ k2), PB4.mono v9.tups, by omega, fun m2 H10 es2 w10 _ e10 he2 => ?_⟩
    rw [← hfA] at he1
    rw [← hfB] at he2
    subst he1
    subst he2
    refine ⟨m1, m2, _, _, rfl, rfl, w10 _ _ e9, e10, Nat.le_of_lt (small1000 (by rw [List.length_map, List.length_map]; omega)), fun t ht => ⟨(w9.trans w10).trans (same_new ht _), t, ?_, rfl⟩⟩
    rw [upd_same, List.map_append]
  rintro σ9 H9 ⟨s9, mk_, emk, rfl⟩
  have mm : ∀ c, c ∈ fA ++ fB ↔ ((c ∈ ends A ∨ c ∈ ends B) ∧ st < c ∧ c ≤ l.2) := fun c => by
    rw [List.mem_append, hfA, hfB, List.mem_filter, List.mem_filter]
    simp only [Bool.and_eq_true, decide_eq_true_eq]
    constructor
    · rintro (⟨h, h'⟩ | ⟨h, h'⟩)
      · exact ⟨.inl h, h'⟩
      · exact ⟨.inr h, h'⟩
    · rintro ⟨h | h, h'⟩
      · exact .inl ⟨h, h'⟩
      · exact .inr ⟨h, h'⟩
  refine ⟨fun σ' H' => Same H9 H' ∧ ∃ (fo : Addr) (fy : List V), H' fo = some (.lst fy) ∧ PL H' fy D ∧ σ' = [some (.ref a), some (.int st), some (.ref r1), some (.ref r2), some (.ref r3), some (.ref hn), some (.ref du), some (.ref mk_), some (.ref fo)], ?_, ?_⟩
  · refine ⟨_, rfl, _, rfl, _, rfl, du, _, _, _, rfl, rfl, SqL.of (s9 _ _ edu), ixl, rl, _, _, _, rfl, rfl, SqT.of (s9 _ _ hrl), z1 _ _, _, rfl, mk_, fA ++ fB, L, st, l.2, rfl, SqL.of emk, by rw [List.length_append]; omega, hL, fun m hm h1 h2 => (hLm.2 m).mpr ((mm m).mp hm), fun r H' cs ts' s' _ er hp hpw hcs hcl => ⟨s', r, ts', er, ?_, rfl⟩⟩
    have : cs = L := sorted_uniq hpw hLm.1 fun c => by
      rw [hcs c, hLm.2 c, mm c]
      exact ⟨fun h => h.1, fun h => ⟨h, h.2⟩⟩
    rw [this, hLs] at hp
    exact hp
  rintro σ10 H10 ⟨s10, fo, fy, efo, PF, rfl⟩
  refine ⟨_, rfl, fo, fy, D, rfl, efo, PF, _, rfl, iteT ?_⟩
  exact ⟨_, rfl, _, rfl, rNeL_pl false (SqL.of efo) (SqL.of (s10 _ _ (s9 _ _ edu))) PF (PD.mono (s9.trans s10).tups) (q H10)⟩
end
theorem all_mk {l : PySem.W.OpenLaw} {w : World} {K : PySem.W.Frag} {h : Heap} {mg : Str → Option Value} {fa f0 f1 f2 f3 f4 f5 f6 f7 f8 f9 f10 f11 f12 f13 f14 f15 f16 f17 : Addr} (X : K.In h) (G : h.Ns mainGlobals mg) (hfa : mg "law" = some (.ref fa))
    {od0 an0 od1 an1 od2 an2 od3 an3 od4 an4 od5 an5 od6 an6 od7 an7 od8 an8 od9 an9 od10 an10 od11 an11 od12 an12 od13 an13 od14 an14 od15 an15 od16 an16 od17 an17 : Option Addr} {sl0 sl1 sl2 sl3 sl4 sl5 sl6 sl7 sl8 sl9 sl10 sl11 sl12 sl13 sl14 sl15 sl16 sl17 : Array (Option Value)} {oc0 kV0 dc0 pm0 cd0 ct0 oc1 kV1 dc1 pm1 cd1 ct1 oc2 kV2 dc2 pm2 cd2 ct2 oc3 kV3 dc3 pm3 cd3 ct3 oc4 kV4 dc4 pm4 cd4 ct4 oc5 kV5 dc5 pm5 cd5 ct5 oc6 kV6 dc6 pm6 cd6 ct6 oc7 kV7 dc7 pm7 cd7 ct7 oc8 kV8 dc8 pm8 cd8 ct8 oc9 kV9 dc9 pm9 cd9 ct9 oc10 kV10 dc10 pm10 cd10 ct10 oc11 kV11 dc11 pm11 cd11 ct11 oc12 kV12 dc12 pm12 cd12 ct12 oc13 kV13 dc13 pm13 cd13 ct13 oc14 kV14 dc14 pm14 cd14 ct14 oc15 kV15 dc15 pm15 cd15 ct15 oc16 kV16 dc16 pm16 cd16 ct16 oc17 kV17 dc17 pm17 cd17 ct17 : Value}
    (a0 : PySem.W.nsIn K mainGlobals "tidy" = some (some (.ref f0))) (l0 : K.lookup f0 = some ⟨oc0, od0, .func (PySem.W.fnOf "tidy" "tidy" (defArgs s_tidy) (defBody s_tidy) (defScope s_tidy) .none kV0 dc0 pm0 an0 cd0 ct0), sl0⟩) (c0 : PySem.W.codeIn K cd0 "tidy" = true) (k0 : PySem.W.keepIn K (.ref f0) = true)
    (a1 : PySem.W.nsIn K mainGlobals "either" = some (some (.ref f1))) (l1 : K.lookup f1 = some ⟨oc1, od1, .func (PySem.W.fnOf "either" "either" (defArgs s_either) (defBody s_either) (defScope s_either) .none kV1 dc1 pm1 an1 cd1 ct1), sl1⟩) (c1 : PySem.W.codeIn K cd1 "either" = true) (k1 : PySem.W.keepIn K (.ref f1) = true)
    (a2 : PySem.W.nsIn K mainGlobals "both" = some (some (.ref f2))) (l2 : K.lookup f2 = some ⟨oc2, od2, .func (PySem.W.fnOf "both" "both" (defArgs s_both) (defBody s_both) (defScope s_both) .none kV2 dc2 pm2 an2 cd2 ct2), sl2⟩) (c2 : PySem.W.codeIn K cd2 "both" = true) (k2 : PySem.W.keepIn K (.ref f2) = true)
    (a3 : PySem.W.nsIn K mainGlobals "without" = some (some (.ref f3))) (l3 : K.lookup f3 = some ⟨oc3, od3, .func (PySem.W.fnOf "without" "without" (defArgs s_without) (defBody s_without) (defScope s_without) .none kV3 dc3 pm3 an3 cd3 ct3), sl3⟩) (c3 : PySem.W.codeIn K cd3 "without" = true) (k3 : PySem.W.keepIn K (.ref f3) = true)
    (a4 : PySem.W.nsIn K mainGlobals "gaps" = some (some (.ref f4))) (l4 : K.lookup f4 = some ⟨oc4, od4, .func (PySem.W.fnOf "gaps" "gaps" (defArgs s_gaps) (defBody s_gaps) (defScope s_gaps) .none kV4 dc4 pm4 an4 cd4 ct4), sl4⟩) (c4 : PySem.W.codeIn K cd4 "gaps" = true) (k4 : PySem.W.keepIn K (.ref f4) = true)
    (a5 : PySem.W.nsIn K mainGlobals "edges" = some (some (.ref f5))) (l5 : K.lookup f5 = some ⟨oc5, od5, .func (PySem.W.fnOf "edges" "edges" (defArgs s_edges) (defBody s_edges) (defScope s_edges) .none kV5 dc5 pm5 an5 cd5 ct5), sl5⟩) (c5 : PySem.W.codeIn K cd5 "edges" = true) (k5 : PySem.W.keepIn K (.ref f5) = true)
    (a6 : PySem.W.nsIn K mainGlobals "stretches" = some (some (.ref f6))) (l6 : K.lookup f6 = some ⟨oc6, od6, .func (PySem.W.fnOf "stretches" "stretches" (defArgs s_stretches) (defBody s_stretches) (defScope s_stretches) .none kV6 dc6 pm6 an6 cd6 ct6), sl6⟩) (c6 : PySem.W.codeIn K cd6 "stretches" = true) (k6 : PySem.W.keepIn K (.ref f6) = true)
    (a7 : PySem.W.nsIn K mainGlobals "_law_cell" = some (some (.ref f7))) (l7 : K.lookup f7 = some ⟨oc7, od7, .func (PySem.W.fnOf "_law_cell" "_law_cell" (defArgs s_law_cell) (defBody s_law_cell) (defScope s_law_cell) .none kV7 dc7 pm7 an7 cd7 ct7), sl7⟩) (c7 : PySem.W.codeIn K cd7 "_law_cell" = true) (k7 : PySem.W.keepIn K (.ref f7) = true)
    (a8 : PySem.W.nsIn K mainGlobals "_law_step" = some (some (.ref f8))) (l8 : K.lookup f8 = some ⟨oc8, od8, .func (PySem.W.fnOf "_law_step" "_law_step" (defArgs s_law_step) (defBody s_law_step) (defScope s_law_step) .none kV8 dc8 pm8 an8 cd8 ct8), sl8⟩) (c8 : PySem.W.codeIn K cd8 "_law_step" = true) (k8 : PySem.W.keepIn K (.ref f8) = true)
    (a9 : PySem.W.nsIn K mainGlobals "_law_start" = some (some (.ref f9))) (l9 : K.lookup f9 = some ⟨oc9, od9, .func (PySem.W.fnOf "_law_start" "_law_start" (defArgs s_law_start) (defBody s_law_start) (defScope s_law_start) .none kV9 dc9 pm9 an9 cd9 ct9), sl9⟩) (c9 : PySem.W.codeIn K cd9 "_law_start" = true) (k9 : PySem.W.keepIn K (.ref f9) = true)
    (a10 : PySem.W.nsIn K mainGlobals "_law_pieces" = some (some (.ref f10))) (l10 : K.lookup f10 = some ⟨oc10, od10, .func (PySem.W.fnOf "_law_pieces" "_law_pieces" (defArgs s_law_pieces) (defBody s_law_pieces) (defScope s_law_pieces) .none kV10 dc10 pm10 an10 cd10 ct10), sl10⟩) (c10 : PySem.W.codeIn K cd10 "_law_pieces" = true) (k10 : PySem.W.keepIn K (.ref f10) = true)
    (a11 : PySem.W.nsIn K mainGlobals "_law_runs" = some (some (.ref f11))) (l11 : K.lookup f11 = some ⟨oc11, od11, .func (PySem.W.fnOf "_law_runs" "_law_runs" (defArgs s_law_runs) (defBody s_law_runs) (defScope s_law_runs) .none kV11 dc11 pm11 an11 cd11 ct11), sl11⟩) (c11 : PySem.W.codeIn K cd11 "_law_runs" = true) (k11 : PySem.W.keepIn K (.ref f11) = true)
    (a12 : PySem.W.nsIn K mainGlobals "_law_whole" = some (some (.ref f12))) (l12 : K.lookup f12 = some ⟨oc12, od12, .func (PySem.W.fnOf "_law_whole" "_law_whole" (defArgs s_law_whole) (defBody s_law_whole) (defScope s_law_whole) .none kV12 dc12 pm12 an12 cd12 ct12), sl12⟩) (c12 : PySem.W.codeIn K cd12 "_law_whole" = true) (k12 : PySem.W.keepIn K (.ref f12) = true)
    (a13 : PySem.W.nsIn K mainGlobals "_law_apart" = some (some (.ref f13))) (l13 : K.lookup f13 = some ⟨oc13, od13, .func (PySem.W.fnOf "_law_apart" "_law_apart" (defArgs s_law_apart) (defBody s_law_apart) (defScope s_law_apart) .none kV13 dc13 pm13 an13 cd13 ct13), sl13⟩) (c13 : PySem.W.codeIn K cd13 "_law_apart" = true) (k13 : PySem.W.keepIn K (.ref f13) = true)
    (a14 : PySem.W.nsIn K mainGlobals "_law_same" = some (some (.ref f14))) (l14 : K.lookup f14 = some ⟨oc14, od14, .func (PySem.W.fnOf "_law_same" "_law_same" (defArgs s_law_same) (defBody s_law_same) (defScope s_law_same) .none kV14 dc14 pm14 an14 cd14 ct14), sl14⟩) (c14 : PySem.W.codeIn K cd14 "_law_same" = true) (k14 : PySem.W.keepIn K (.ref f14) = true)
    (a15 : PySem.W.nsIn K mainGlobals "_law_steps" = some (some (.ref f15))) (l15 : K.lookup f15 = some ⟨oc15, od15, .func (PySem.W.fnOf "_law_steps" "_law_steps" (defArgs s_law_steps) (defBody s_law_steps) (defScope s_law_steps) .none kV15 dc15 pm15 an15 cd15 ct15), sl15⟩) (c15 : PySem.W.codeIn K cd15 "_law_steps" = true) (k15 : PySem.W.keepIn K (.ref f15) = true)
    (a16 : PySem.W.nsIn K mainGlobals "_law_pair_list" = some (some (.ref f16))) (l16 : K.lookup f16 = some ⟨oc16, od16, .func (PySem.W.fnOf "_law_pair_list" "_law_pair_list" (defArgs s_law_pair_list) (defBody s_law_pair_list) (defScope s_law_pair_list) .none kV16 dc16 pm16 an16 cd16 ct16), sl16⟩) (c16 : PySem.W.codeIn K cd16 "_law_pair_list" = true) (k16 : PySem.W.keepIn K (.ref f16) = true)
    (a17 : PySem.W.nsIn K mainGlobals "law" = some (some (.ref f17))) (l17 : K.lookup f17 = some ⟨oc17, od17, .func (PySem.W.fnOf "law" "law" (defArgs s_law) (defBody s_law) (defScope s_law) .none kV17 dc17 pm17 an17 cd17 ct17), sl17⟩) (c17 : PySem.W.codeIn K cd17 "law" = true) (k17 : PySem.W.keepIn K (.ref f17) = true)
    (z0 : PySem.W.nsIn K mainGlobals "sorted" = some none)
    (z1 : PySem.W.nsIn K mainGlobals "max" = some none)
    (z2 : PySem.W.nsIn K mainGlobals "min" = some none)
    (z3 : PySem.W.nsIn K mainGlobals "len" = some none)
    (z4 : PySem.W.nsIn K mainGlobals "list" = some none)
    (z5 : PySem.W.nsIn K mainGlobals "set" = some none)
    (z6 : PySem.W.nsIn K mainGlobals "zip" = some none)
    (z7 : PySem.W.nsIn K mainGlobals "isinstance" = some none)
    (z8 : PySem.W.nsIn K mainGlobals "int" = some none)
    (z9 : PySem.W.nsIn K mainGlobals "bool" = some none)
    (z10 : PySem.W.nsIn K mainGlobals "range" = some none)
    (z11 : PySem.W.nsIn K mainGlobals "tuple" = some none)
    : ∃ fd : FuncData, (∀ (s : Shared) (v : Value), BindsTo s fd ⟨[v], []⟩ [("script", v)]) ∧ ∀ base : Heap, K.In base → base.Ns mainGlobals mg → FnOk l.prog w K mg base CX0 4 fa fd ["script"] (sp_law K) := by
  have e := hfa.symm.trans (PySem.W.mg_of X G a17)
  cases e
  have F0 := fun_mk (st := s_tidy) l0 c0 k0
  have b0 := F0.binds (ps := ["pairs"]) fun _ _ _ _ _ _ us hl => match us, hl with | [_], _ => rfl
  have F1 := fun_mk (st := s_either) l1 c1 k1
  have b1 := F1.binds (ps := ["ones", "others"]) fun _ _ _ _ _ _ us hl => match us, hl with | [_, _], _ => rfl
  have F2 := fun_mk (st := s_both) l2 c2 k2
  have b2 := F2.binds (ps := ["ones", "others"]) fun _ _ _ _ _ _ us hl => match us, hl with | [_, _], _ => rfl
  have F3 := fun_mk (st := s_without) l3 c3 k3
  have b3 := F3.binds (ps := ["ones", "others"]) fun _ _ _ _ _ _ us hl => match us, hl with | [_, _], _ => rfl
  have F4 := fun_mk (st := s_gaps) l4 c4 k4
  have b4 := F4.binds (ps := ["spans", "low", "high"]) fun _ _ _ _ _ _ us hl => match us, hl with | [_, _, _], _ => rfl
  have F5 := fun_mk (st := s_edges) l5 c5 k5
  have b5 := F5.binds (ps := ["spans", "low", "high"]) fun _ _ _ _ _ _ us hl => match us, hl with | [_, _, _], _ => rfl
  have F6 := fun_mk (st := s_stretches) l6 c6 k6
  have b6 := F6.binds (ps := ["low", "high", "marks"]) fun _ _ _ _ _ _ us hl => match us, hl with | [_, _, _], _ => rfl
  have F7 := fun_mk (st := s_law_cell) l7 c7 k7
  have b7 := F7.binds (ps := ["script", "k"]) fun _ _ _ _ _ _ us hl => match us, hl with | [_, _], _ => rfl
  have F8 := fun_mk (st := s_law_step) l8 c8 k8
  have b8 := F8.binds (ps := ["cell"]) fun _ _ _ _ _ _ us hl => match us, hl with | [_], _ => rfl
  have F9 := fun_mk (st := s_law_start) l9 c9 k9
  have b9 := F9.binds (ps := ["cell"]) fun _ _ _ _ _ _ us hl => match us, hl with | [_], _ => rfl
  have F10 := fun_mk (st := s_law_pieces) l10 c10 k10
  have b10 := F10.binds (ps := ["cells", "start"]) fun _ _ _ _ _ _ us hl => match us, hl with | [_, _], _ => rfl
  have F11 := fun_mk (st := s_law_runs) l11 c11 k11
  have b11 := F11.binds (ps := ["pieces", "masks"]) fun _ _ _ _ _ _ us hl => match us, hl with | [_, _], _ => rfl
  have F12 := fun_mk (st := s_law_whole) l12 c12 k12
  have b12 := F12.binds (ps := ["found"]) fun _ _ _ _ _ _ us hl => match us, hl with | [_], _ => rfl
  have F13 := fun_mk (st := s_law_apart) l13 c13 k13
  have b13 := F13.binds (ps := ["found"]) fun _ _ _ _ _ _ us hl => match us, hl with | [_], _ => rfl
  have F14 := fun_mk (st := s_law_same) l14 c14 k14
  have b14 := F14.binds (ps := ["found", "due"]) fun _ _ _ _ _ _ us hl => match us, hl with | [_, _], _ => rfl
  have F15 := fun_mk (st := s_law_steps) l15 c15 k15
  have b15 := F15.binds (ps := ["pieces", "start"]) fun _ _ _ _ _ _ us hl => match us, hl with | [_, _], _ => rfl
  have F16 := fun_mk (st := s_law_pair_list) l16 c16 k16
  have b16 := F16.binds (ps := ["found"]) fun _ _ _ _ _ _ us hl => match us, hl with | [_], _ => rfl
  have F17 := fun_mk (st := s_law) l17 c17 k17
  have b17 := F17.binds (ps := ["script"]) fun _ _ _ _ _ _ us hl => match us, hl with | [_], _ => rfl
  have bl : Bl K mg := ⟨PySem.W.mg_none_of X G z0, PySem.W.mg_none_of X G z1, PySem.W.mg_none_of X G z2, PySem.W.mg_none_of X G z3, PySem.W.mg_none_of X G z4, PySem.W.mg_none_of X G z5, PySem.W.mg_none_of X G z6, PySem.W.mg_none_of X G z7, PySem.W.mg_none_of X G z8, PySem.W.mg_none_of X G z9, PySem.W.mg_none_of X G z10, PySem.W.mg_none_of X G z11⟩
  refine ⟨PySem.W.fnOf "law" "law" (defArgs s_law) (defBody s_law) (defScope s_law) .none kV17 dc17 pm17 an17 cd17 ct17, fun s v => .of_eq rfl, fun base _ _ => ?_⟩
  have O0 := ok_tidy (P := l.prog) (w := w) (base := base) F0 bl 
  have C_tidy : Callee l.prog w K mg base 1 "tidy" ["pairs"] (sp_tidy K) := ⟨_, _, O0, b0, k0, PySem.W.mg_of X G a0⟩
  have O2 := ok_both (P := l.prog) (w := w) (base := base) F2 bl 
  have C_both : Callee l.prog w K mg base 1 "both" ["ones", "others"] (sp_both K) := ⟨_, _, O2, b2, k2, PySem.W.mg_of X G a2⟩
  have O4 := ok_gaps (P := l.prog) (w := w) (base := base) F4 bl 
  have C_gaps : Callee l.prog w K mg base 1 "gaps" ["spans", "low", "high"] (sp_gaps K) := ⟨_, _, O4, b4, k4, PySem.W.mg_of X G a4⟩
  have O5 := ok_edges (P := l.prog) (w := w) (base := base) F5 bl 
  have C_edges : Callee l.prog w K mg base 1 "edges" ["spans", "low", "high"] (sp_edges K) := ⟨_, _, O5, b5, k5, PySem.W.mg_of X G a5⟩
  have O6 := ok_stretches (P := l.prog) (w := w) (base := base) F6 bl 
  have C_stretches : Callee l.prog w K mg base 1 "stretches" ["low", "high", "marks"] (sp_stretches K) := ⟨_, _, O6, b6, k6, PySem.W.mg_of X G a6⟩
  have O7 := ok_law_cell (P := l.prog) (w := w) (base := base) F7 bl 
  have C_law_cell : Callee l.prog w K mg base 1 "_law_cell" ["script", "k"] (sp_law_cell K) := ⟨_, _, O7, b7, k7, PySem.W.mg_of X G a7⟩
  have O8 := ok_law_step (P := l.prog) (w := w) (base := base) F8 bl 
  have C_law_step : Callee l.prog w K mg base 1 "_law_step" ["cell"] (sp_law_step K) := ⟨_, _, O8, b8, k8, PySem.W.mg_of X G a8⟩
  have O9 := ok_law_start (P := l.prog) (w := w) (base := base) F9 bl 
  have C_law_start : Callee l.prog w K mg base 1 "_law_start" ["cell"] (sp_law_start K) := ⟨_, _, O9, b9, k9, PySem.W.mg_of X G a9⟩
  have O11 := ok_law_runs (P := l.prog) (w := w) (base := base) F11 bl 
  have C_law_runs : Callee l.prog w K mg base 1 "_law_runs" ["pieces", "masks"] (sp_law_runs K) := ⟨_, _, O11, b11, k11, PySem.W.mg_of X G a11⟩
  have O12 := ok_law_whole (P := l.prog) (w := w) (base := base) F12 bl 
  have C_law_whole : Callee l.prog w K mg base 1 "_law_whole" ["found"] (sp_law_whole K) := ⟨_, _, O12, b12, k12, PySem.W.mg_of X G a12⟩
  have O15 := ok_law_steps (P := l.prog) (w := w) (base := base) F15 bl 
  have C_law_steps : Callee l.prog w K mg base 1 "_law_steps" ["pieces", "start"] (sp_law_steps K) := ⟨_, _, O15, b15, k15, PySem.W.mg_of X G a15⟩
  have O1 := ok_either (P := l.prog) (w := w) (base := base) F1 bl (C_tidy.mono (by decide))
  have C_either : Callee l.prog w K mg base 2 "either" ["ones", "others"] (sp_either K) := ⟨_, _, O1, b1, k1, PySem.W.mg_of X G a1⟩
  have O3 := ok_without (P := l.prog) (w := w) (base := base) F3 bl (C_both.mono (by decide)) (C_gaps.mono (by decide))
  have C_without : Callee l.prog w K mg base 2 "without" ["ones", "others"] (sp_without K) := ⟨_, _, O3, b3, k3, PySem.W.mg_of X G a3⟩
  have O10 := ok_law_pieces (P := l.prog) (w := w) (base := base) F10 bl (C_law_step.mono (by decide))
  have C_law_pieces : Callee l.prog w K mg base 2 "_law_pieces" ["cells", "start"] (sp_law_pieces K) := ⟨_, _, O10, b10, k10, PySem.W.mg_of X G a10⟩
  have O13 := ok_law_apart (P := l.prog) (w := w) (base := base) F13 bl (C_law_whole.mono (by decide))
  have C_law_apart : Callee l.prog w K mg base 2 "_law_apart" ["found"] (sp_law_apart K) := ⟨_, _, O13, b13, k13, PySem.W.mg_of X G a13⟩
  have O16 := ok_law_pair_list (P := l.prog) (w := w) (base := base) F16 bl (C_law_whole.mono (by decide))
  have C_law_pair_list : Callee l.prog w K mg base 2 "_law_pair_list" ["found"] (sp_law_pair_list K) := ⟨_, _, O16, b16, k16, PySem.W.mg_of X G a16⟩
  have O14 := ok_law_same (P := l.prog) (w := w) (base := base) F14 bl (C_law_apart.mono (by decide))
  have C_law_same : Callee l.prog w K mg base 3 "_law_same" ["found", "due"] (sp_law_same K) := ⟨_, _, O14, b14, k14, PySem.W.mg_of X G a14⟩
  exact ok_law F17 bl (C_law_start.mono (by decide)) (C_law_pieces.mono (by decide)) (C_law_runs.mono (by decide)) (C_law_steps.mono (by decide)) (C_stretches.mono (by decide)) (C_law_cell.mono (by decide)) (C_law_same.mono (by decide)) (C_edges.mono (by decide)) (C_law_pair_list.mono (by decide)) (C_either.mono (by decide)) (C_both.mono (by decide)) (C_without.mono (by decide))
theorem walk {l : PySem.W.OpenLaw} {q : Program} {loose : List Str} {XP : (Str → Option Value) → Heap → Prop} {YP : World → Heap → Prop} {d : DefRec} {K : Params → PySem.W.Frag} (hn : l.most = some 63) (hdf : d.params.defaults = [])
    (hY : ∀ (w : World) (h : Heap), YP w h → (K w.params).In h)
    (F : ∀ (w : World) (mg : Str → Option Value) (fa : Addr) (h : Heap), (K w.params).In h → h.Ns mainGlobals mg → mg d.name = some (.ref fa) →
      ∃ fd : FuncData, (∀ (s : Shared) (u : Value), BindsTo s fd ⟨[u], []⟩ [("script", u)]) ∧ ∀ base : Heap, (K w.params).In base → base.Ns mainGlobals mg → FnOk l.prog w (K w.params) mg base CX0 4 fa fd ["script"] (sp_law (K w.params))) :
    PySem.W.WalkO q loose XP YP l.row.toRowW d [] (fun f vs => PySem.call f vs) :=
  L2.walk_of (n := 63) (k := 4) (x := "script") (CX := fun _ => CX0) (sp := fun w => sp_law (K w.params)) hn (by decide) hdf ⟨rfl, by decide, by decide⟩ hY F (fun _ _ a ns hl _ hS => ⟨a, ns, rfl, hS, hl, fun _ => rfl⟩) fun _ _ _ _ _ z => z
end My
open PySem PySem.W PyProof.Rows
set_option maxRecDepth 100000 in
set_option maxHeartbeats 0 in
theorem PySem.Challenge.cw_rowjudge_k08_whole_walk_holds : PySem.Challenge.rw_rowjudge_k08_whole_walk.Holds := by
  w_on; o_law; k_head; (case hw => w_witness2)
  k_fill
  refine My.walk (l := PySem.Challenge.rw_rowjudge_k08_whole_walk) rfl rfl (fun w h Y => PySem.W.kIn_of Y) ?F
  case F =>
    intro w mg fa h KX G hmg
    refine' My.all_mk KX G hmg ?a0 ?l0 ?c0 ?k0 ?a1 ?l1 ?c1 ?k1 ?a2 ?l2 ?c2 ?k2 ?a3 ?l3 ?c3 ?k3 ?a4 ?l4 ?c4 ?k4 ?a5 ?l5 ?c5 ?k5 ?a6 ?l6 ?c6 ?k6 ?a7 ?l7 ?c7 ?k7 ?a8 ?l8 ?c8 ?k8 ?a9 ?l9 ?c9 ?k9 ?a10 ?l10 ?c10 ?k10 ?a11 ?l11 ?c11 ?k11 ?a12 ?l12 ?c12 ?k12 ?a13 ?l13 ?c13 ?k13 ?a14 ?l14 ?c14 ?k14 ?a15 ?l15 ?c15 ?k15 ?a16 ?l16 ?c16 ?k16 ?a17 ?l17 ?c17 ?k17 ?z0 ?z1 ?z2 ?z3 ?z4 ?z5 ?z6 ?z7 ?z8 ?z9 ?z10 ?z11 
    (case a0 => k_is); (case l0 => k_is); (case c0 => k_is); (case k0 => k_is)
    (case a1 => k_is); (case l1 => k_is); (case c1 => k_is); (case k1 => k_is)
    (case a2 => k_is); (case l2 => k_is); (case c2 => k_is); (case k2 => k_is)
    (case a3 => k_is); (case l3 => k_is); (case c3 => k_is); (case k3 => k_is)
    (case a4 => k_is); (case l4 => k_is); (case c4 => k_is); (case k4 => k_is)
    (case a5 => k_is); (case l5 => k_is); (case c5 => k_is); (case k5 => k_is)
    (case a6 => k_is); (case l6 => k_is); (case c6 => k_is); (case k6 => k_is)
    (case a7 => k_is); (case l7 => k_is); (case c7 => k_is); (case k7 => k_is)
    (case a8 => k_is); (case l8 => k_is); (case c8 => k_is); (case k8 => k_is)
    (case a9 => k_is); (case l9 => k_is); (case c9 => k_is); (case k9 => k_is)
    (case a10 => k_is); (case l10 => k_is); (case c10 => k_is); (case k10 => k_is)
    (case a11 => k_is); (case l11 => k_is); (case c11 => k_is); (case k11 => k_is)
    (case a12 => k_is); (case l12 => k_is); (case c12 => k_is); (case k12 => k_is)
    (case a13 => k_is); (case l13 => k_is); (case c13 => k_is); (case k13 => k_is)
    (case a14 => k_is); (case l14 => k_is); (case c14 => k_is); (case k14 => k_is)
    (case a15 => k_is); (case l15 => k_is); (case c15 => k_is); (case k15 => k_is)
    (case a16 => k_is); (case l16 => k_is); (case c16 => k_is); (case k16 => k_is)
    (case a17 => k_is); (case l17 => k_is); (case c17 => k_is); (case k17 => k_is)
    (case z0 => k_is)
    (case z1 => k_is)
    (case z2 => k_is)
    (case z3 => k_is)
    (case z4 => k_is)
    (case z5 => k_is)
    (case z6 => k_is)
    (case z7 => k_is)
    (case z8 => k_is)
    (case z9 => k_is)
    (case z10 => k_is)
    (case z11 => k_is)


