import PyProof.Rows.All
import Wide.All
import OpenK.AllK
import Wide.FinOn
import Lean
import PyProof.EqAt
import PyProof.EqKinds
import PyProof.TupleCall
import KE.KIntText
import KE.KTryMore
import KE.KIsAll
import PyProof.ZipIter
import KE.KRevIter
import PyProof.AttrMissHeap
import KE.KDictOf
import PyProof.DictUpdate
import PyProof.DictList
import PySem.Challenge.RW_rowjudge_k71_tables_of_a_book
set_option Elab.async false
set_option linter.all false
set_option maxRecDepth 100000
namespace L2
open PySem PySem.Spec PyProof.Rows
abbrev Key:=Sum Int Str
def keyIs:Key→Value→Bool
  | .inl k,v=>Value.isInt k v
  | .inr x,v=>Value.isStrOf x v
def keyH (w:World):Key→Int
  | .inl k=>hashInt k
  | .inr x=>hashStr w x
theorem keyIs_shape:∀ {k:Key} {v:Value},keyIs k v = true→(∃ i t,k = Sum.inl i∧v = Value.int i t)∨(∃ x t,k = Sum.inr x∧v = Value.str x t)
  | .inl i,v,h=>by
    obtain ⟨t,e⟩:=Value.isInt_shape (k:=i) (v:=v) h
    exact .inl ⟨i,t,rfl,e⟩
  | .inr x,v,h=>by
    obtain ⟨t,e⟩:=Value.isStrOf_shape (x:=x) (v:=v) h
    exact .inr ⟨x,t,rfl,e⟩
theorem keyIs_str (x:Str) (t:Tok):keyIs (.inr x) (.str x t) = true:=by simp [keyIs,Value.isStrOf]
theorem key_ll (a b:Int):decide ((Sum.inl a:Key) = Sum.inl b) = (a == b):=by
  by_cases e:a = b
  · subst e; simp
  · have h:¬ (Sum.inl a:Key) = Sum.inl b:=fun q=>e (Sum.inl.inj q)
    rw [decide_eq_false h]
    exact (beq_eq_false_iff_ne.mpr e).symm
theorem key_rr (a b:Str):decide ((Sum.inr a:Key) = Sum.inr b) = decide (a = b):=by
  by_cases e:a = b
  · subst e; simp
  · have h:¬ (Sum.inr a:Key) = Sum.inr b:=fun q=>e (Sum.inr.inj q)
    rw [decide_eq_false h,decide_eq_false e]
theorem key_lr (a:Int) (b:Str):decide ((Sum.inl a:Key) = Sum.inr b) = false:=decide_eq_false (fun q=>nomatch q)
theorem key_rl (a:Str) (b:Int):decide ((Sum.inr a:Key) = Sum.inl b) = false:=decide_eq_false (fun q=>nomatch q)
def mixKind (prog:Program) (w:World):PySem.KeyKind prog w Key where
  is:=keyIs
  hash:=keyH w
  inj:=fun v a b ha hb=>by
    rcases keyIs_shape ha with ⟨i,t,rfl,rfl⟩ | ⟨x,t,rfl,rfl⟩
    · rcases keyIs_shape hb with ⟨j,u,rfl,e⟩ | ⟨y,u,rfl,e⟩
      · injection e with e1 _; rw [e1]
      · exact nomatch e
    · rcases keyIs_shape hb with ⟨j,u,rfl,e⟩ | ⟨y,u,rfl,e⟩
      · exact nomatch e
      · injection e with e1 _; rw [e1]
  byValue:=fun k v h=>by
    rcases keyIs_shape h with ⟨i,t,rfl,rfl⟩ | ⟨x,t,rfl,rfl⟩ <;> rfl
  pyHash:=fun hv h=>by
    rcases keyIs_shape hv with ⟨i,t,rfl,rfl⟩ | ⟨x,t,rfl,rfl⟩
    · exact wpAny_pyHash_int h
    · exact wpAny_pyHash_str h
  eqBool:=fun hu hv h=>by
    rcases keyIs_shape hu with ⟨i,t,rfl,rfl⟩ | ⟨x,t,rfl,rfl⟩
    · rcases keyIs_shape hv with ⟨j,u,rfl,rfl⟩ | ⟨y,u,rfl,rfl⟩
      · rw [key_ll] at h; exact wpAny_eqBool_int h
      · rw [key_lr] at h; exact SeqAt.EqAt.int_str i t y u _ _ _ _ h
    · rcases keyIs_shape hv with ⟨j,u,rfl,rfl⟩ | ⟨y,u,rfl,rfl⟩
      · rw [key_rl] at h; exact SeqAt.EqAt.str_int x t j u _ _ _ _ h
      · rw [key_rr] at h; exact wpAny_eqBool_str h
  «strs»:=fun k x t v h=>by
    rcases keyIs_shape h with ⟨i,u,rfl,e⟩ | ⟨y,u,rfl,e⟩
    · exact nomatch e
    · injection e with e1 _
      subst e1
      cases v <;> rfl
theorem mixKind_str (prog:Program) (w:World) (x:Str) (t:Tok):(mixKind prog w).is (.inr x) (.str x t) = true:=keyIs_str x t
end L2
namespace L2
open PySem PySem.Spec PyProof.Rows
inductive V where
  | non | bl (b:Bool) | int (i:Int) | str (x:Str) | byt (b:Array UInt8) | flt (b:UInt64) | ref (a:Addr) | ty (n:String)
  deriving DecidableEq
def RelV:V→Value→Prop
  | .non,u=>u = Value.none
  | .bl b,u=>u = Value.bool b
  | .int i,u=>∃ t,u = Value.int i t
  | .str x,u=>∃ t,u = Value.str x t
  | .byt b,u=>∃ t,u = Value.bytes b t
  | .flt b,u=>∃ t,u = Value.float b t
  | .ref a,u=>u = Value.ref a
  | .ty n,u=>u = Value.type n
abbrev Vals:List V→List Value→Prop:=Paired RelV
theorem Vals.length {xs:List V} {us:List Value} (r:Vals xs us):xs.length = us.length:=Paired.length r
theorem Vals.get:∀ {xs:List V} {us:List Value} {i:Nat} {x:V},Vals xs us→xs[i]? = some x→∃ u,us[i]? = some u∧RelV x u
  | _,_,_,_,.nil,e=>by simp at e
  | _,_,0,_,.cons r _,e=>by simp at e; subst e; exact ⟨_,rfl,r⟩
  | _,_,i + 1,x,.cons _ t,e=>by
    obtain ⟨u,h1,h2⟩:=Vals.get (i:=i) (x:=x) t (by simpa using e)
    exact ⟨u,by simpa using h1,h2⟩
theorem Vals.append:∀ {xs ys:List V} {us ws:List Value},Vals xs us→Vals ys ws→Vals (xs ++ ys) (us ++ ws)
  | _,_,_,_,.nil,s=>s
  | _,_,_,_,.cons r t,s=>.cons r (Vals.append t s)
def RelO:Option V→Option Value→Prop
  | some v,some u=>RelV v u
  | none,none=>True
  | _,_=>False
def KV {κ:Type} : List (κ × V)→List (κ × Value)→Prop:=Paired fun (p:κ × V) (q:κ × Value)=>p.1 = q.1∧RelV p.2 q.2
def kV:Key→V
  | .inl i=>.int i
  | .inr x=>.str x
inductive HO where
  | lst (xs:List V)
  | tup (xs:List V)
  | dK (kvs:List (Key × V)) | dT (kvs:List (List Key × V))
  | set (S:Int→Bool) (n:Nat)
  | ins (C dx:Addr) (fs:List (Str × V))
  | own (x:Addr)
  | xd (fs:List (Str × V))
  | met (f x:Addr)
  | rng (lo hi:Int)
  | frz (o:Obj) (u:HO)
  | tbl (ps:Array Value)
  | ext (φ:Heap→Prop)
abbrev Hp:=Addr→Option HO
def upd (H:Hp) (a:Addr) (o:HO):Hp:=fun b=>if b = a then some o else H b
theorem upd_same {H:Hp} {a:Addr} {o:HO} : upd H a o a = some o:=by unfold upd; rw [if_pos rfl]
theorem upd_ne {H:Hp} {a b:Addr} {o:HO} (h:b ≠ a):upd H a o b = H b:=by unfold upd; rw [if_neg h]
theorem ne_of {H:Hp} {a b:Addr} {o u:HO} (h:H a = some o) (h' : H b = some u) (d:o ≠ u):a ≠ b:=by
  intro e; subst e; rw [h] at h'; exact d (Option.some.inj h')
theorem ne_of_none {H:Hp} {a b:Addr} {o:HO} (h:H a = some o) (h' : H b = none):a ≠ b:=by
  intro e; subst e; rw [h] at h'; cases h'
section
variable (P:Program) (w:World)
def ObjOk (H:Hp) (h:Heap) (a:Addr):HO→Prop
  | .lst xs=>xs.length ≤ sizeLine∧∃ (its:List Value) (n:Nat),Vals xs its∧h.get? a = some { cls:=.type "list",data:=.seq its.toArray n }
  | .tup xs=>xs.length ≤ sizeLine∧∃ its:List Value,Vals xs its∧IsTup h a its.toArray
  | .dK kvs=>kvs.length ≤ sizeLine∧(a == sysModules) = false∧∃ vs,KV kvs vs∧h.DictOf (mixKind P w) a vs
  | .dT kvs=>kvs.length ≤ sizeLine∧(a == sysModules) = false∧∃ xs:List (List Key × Addr × Value),
      Paired (fun (p:List Key × V) (q:List Key × Addr × Value)=>p.1 = q.1∧H q.2.1 = some (.tup (p.1.map kV))∧RelV p.2 q.2.2) kvs xs ∧
      ∃ o es ep,h.get? a = some o∧o.ExactDict∧o.data = .dict es ep∧es.toList = xs.map (entryOfKey (tupleKind (mixKind P w)))∧(xs.map (·.1)).Nodup
  | .set S n=>h.SetOf (intKind P w) a S n
  | .ins C dx fs=>H dx = some (.own a)∧fs.length ≤ 1000∧dx ≠ a∧h.get? a = some (PySem.W.instObj C dx) ∧
      ∃ mA,h.Ns1 dx mA∧(∀ f,RelO (fs.lookup f) (mA f))∧PySem.Within mA (fs.map (·.1))
  | .own _=>∃ o,h.get? a = some o
  | .xd fs=>∃ mA,h.Ns1 a mA∧∀ f,RelO (fs.lookup f) (mA f)
  | .rng lo hi=>∃ t u v,h.get? a = some { cls:=.type "range",data:=.fields #[.int lo t,.int hi u,.int 1 v] }
  | .frz o u=>h.get? a = some o∧ObjOk H h a u
  | .tbl ps=>h.get? a = some { cls:=.none,data:=.fields ps }
  | .met f x=>h.get? a = some (PySem.W.methodObj (.ref f) (.ref x))
  | .ext φ=>φ h∧(∃ o,h.get? a = some o)∧∀ h1 h2:Heap,φ h1→(∀ o,h1.get? a = some o→h2.get? a = some o)→φ h2
def HOk (H:Hp) (h:Heap):Prop:=∀ a o,H a = some o→ObjOk P w H h a o
end
section
variable {P:Program} {w:World} {H H' : Hp} {h h' : Heap} {a:Addr} {o:HO}
theorem ObjOk.lt (x:ObjOk P w H h a o):a < h.objs.size:=by
  cases o with
  | lst xs=>obtain ⟨_,_,_,_,e⟩:=x; exact Heap.lt_size e
  | tup xs=>obtain ⟨_,_,_,p⟩:=x; exact p.lt
  | dK kvs=>obtain ⟨_,_,_,_,o,_,_,e,_⟩:=x; exact Heap.lt_size e
  | dT kvs=>obtain ⟨_,_,_,_,o,_,_,e,_⟩:=x; exact Heap.lt_size e
  | set S n=>obtain ⟨o,_,_,_,e,_⟩:=x; exact Heap.lt_size e
  | ins C dx fs=>obtain ⟨_,_,_,e,_⟩:=x; exact Heap.lt_size e
  | own y=>obtain ⟨_,e⟩:=x; exact Heap.lt_size e
  | xd fs=>obtain ⟨_,⟨_,_,_,e,_⟩,_⟩:=x; exact Heap.lt_size e
  | rng lo hi=>obtain ⟨_,_,_,e⟩:=x; exact Heap.lt_size e
  | frz ob u=>obtain ⟨e,_⟩:=x; exact Heap.lt_size e
  | tbl ps=>exact Heap.lt_size (show h.get? a = some _ from x)
  | met f y=>exact Heap.lt_size (show h.get? a = some _ from x)
  | ext φ=>obtain ⟨_,⟨_,e⟩,_⟩:=x; exact Heap.lt_size e
theorem Paired.mapP {α β:Type} {F G:α→β→Prop} : ∀ {l₁:List α} {l₂:List β},Paired F l₁ l₂→(∀ a b,F a b→G a b)→Paired G l₁ l₂
  | _,_,.nil,_=>.nil
  | _,_,.cons r t,f=>.cons (f _ _ r) (Paired.mapP t f)
theorem ObjOk.stay (x:ObjOk P w H h a o) (k:∀ b u,(b = a∨H b = some (.own a))→h.get? b = some u→h'.get? b = some u)
    (ho:∀ b,H b = some (.own a)→H' b = some (.own a)) (ht:∀ b xs,H b = some (.tup xs)→H' b = some (.tup xs)):ObjOk P w H' h' a o:=by
  induction o with
  | lst xs=>obtain ⟨z,its,n,r,e⟩:=x; exact ⟨z,its,n,r,k _ _ (.inl rfl) e⟩
  | tup xs=>obtain ⟨z,its,r,ob,e,c⟩:=x; exact ⟨z,its,r,ob,k _ _ (.inl rfl) e,c⟩
  | dK kvs=>obtain ⟨z,y,vs,r,ob,es,ep,e,c⟩:=x; exact ⟨z,y,vs,r,ob,es,ep,k _ _ (.inl rfl) e,c⟩
  | dT kvs =>
    obtain ⟨z,y,xs,r,ob,es,ep,e,c⟩:=x
    exact ⟨z,y,xs,Paired.mapP r fun p q z=>⟨z.1,ht _ _ z.2.1,z.2.2⟩,ob,es,ep,k _ _ (.inl rfl) e,c⟩
  | set S n=>obtain ⟨ob,es,ep,t,e,c⟩:=x; exact ⟨ob,es,ep,t,k _ _ (.inl rfl) e,c⟩
  | ins C dx fs =>
    obtain ⟨d,z,ne,e,mA,⟨od,es,ep,e2,c⟩,r⟩:=x
    exact ⟨ho _ d,z,ne,k _ _ (.inl rfl) e,mA,⟨od,es,ep,k _ _ (.inr d) e2,c⟩,r⟩
  | own y=>obtain ⟨ob,e⟩:=x; exact ⟨ob,k _ _ (.inl rfl) e⟩
  | xd fs=>obtain ⟨mA,⟨od,es,ep,e,c⟩,r⟩:=x; exact ⟨mA,⟨od,es,ep,k _ _ (.inl rfl) e,c⟩,r⟩
  | rng lo hi=>obtain ⟨t,u,v,e⟩:=x; exact ⟨t,u,v,k _ _ (.inl rfl) e⟩
  | frz ob u ih=>obtain ⟨e,q⟩:=x; exact ⟨k _ _ (.inl rfl) e,ih q⟩
  | tbl ps =>
    have e:h.get? a = some { cls:=.none,data:=.fields ps }:=x
    show h'.get? a = some { cls:=.none,data:=.fields ps }
    exact k a _ (.inl rfl) e
  | met f y =>
    have e:h.get? a = some (PySem.W.methodObj (.ref f) (.ref y)):=x
    show h'.get? a = some (PySem.W.methodObj (.ref f) (.ref y))
    exact k a _ (.inl rfl) e
  | ext φ=>obtain ⟨p,⟨o,e⟩,st⟩:=x; exact ⟨st _ _ p fun o q=>k _ _ (.inl rfl) q,⟨o,k _ _ (.inl rfl) e⟩,st⟩
theorem HOk.lt (x:HOk P w H h) (e:H a = some o):a < h.objs.size:=(x a o e).lt
theorem HOk.fresh (x:HOk P w H h) (e:h.objs.size ≤ a):H a = none:=by
  cases q:H a with
  | none=>rfl
  | some u=>exact absurd (Nat.lt_of_lt_of_le (x.lt q) e) (Nat.lt_irrefl _)
theorem HOk.kept (x:HOk P w H h) (k:∀ b u,h.get? b = some u→h'.get? b = some u):HOk P w H h':=fun a o e =>
  (x a o e).stay (fun b u _ q=>k b u q) (fun _ q=>q) fun _ _ q=>q
theorem HOk.laid (x:HOk P w H h) (k:∀ b u,h.get? b = some u→h'.get? b = some u) (hp:h.objs.size ≤ a) (new:ObjOk P w (upd H a o) h' a o):HOk P w (upd H a o) h':=fun b u e=>by
  have hn:=x.fresh hp
  by_cases hb:b = a
  · subst hb; rw [upd_same] at e; cases e; exact new
  · rw [upd_ne hb] at e
    exact (x b u e).stay (fun c v _ q=>k c v q) (fun c q=>by rw [upd_ne (ne_of_none q hn)]; exact q) fun c xs q=>by rw [upd_ne (ne_of_none q hn)]; exact q
end
def Rd (H:Hp) (a:Addr) (u:HO):Prop:=H a = some u∨∃ o,H a = some (.frz o u)
theorem Rd.ok {P:Program} {w:World} {H:Hp} {h:Heap} {a:Addr} {u:HO} (r:Rd H a u) (x:HOk P w H h):ObjOk P w H h a u:=by
  rcases r with r | ⟨o,r⟩
  · exact x a u r
  · obtain ⟨_,q⟩:=x a _ r
    exact q
def Mut:Option HO→Prop
  | some (.lst _)=>True
  | some (.dK _)=>True
  | some (.dT _)=>True
  | some (.set _ _)=>True
  | some (.ins _ _ _)=>True
  | some (.ext _)=>True
  | _=>False
section
variable {P:Program} {w:World} {H:Hp} {h h' : Heap} {x e:Addr} {o' : HO}
theorem HOk.write (ok:HOk P w H h) (mu:Mut (H x)) (he:e = x∨H e = some (.own x)) (k:∀ b u,b ≠ e→h.get? b = some u→h'.get? b = some u) (heo:∃ u,h'.get? e = some u)
    (new:ObjOk P w (upd H x o') h' x o'):HOk P w (upd H x o') h':=fun b u q=>by
  have nown:∀ c y,H c = some (.own y)→c ≠ x:=fun c y r z=>by subst z; rw [r] at mu; exact mu
  have ntup:∀ c xs,H c = some (.tup xs)→c ≠ x:=fun c xs r z=>by subst z; rw [r] at mu; exact mu
  by_cases hb:b = x
  · subst hb; rw [upd_same] at q; cases q; exact new
  · rw [upd_ne hb] at q
    by_cases hbe:b = e
    · have q' : H b = some (.own x):=by
        rcases he with z | z
        · exact absurd (hbe.trans z) hb
        · rw [hbe]; exact z
      rw [q] at q'; cases q'
      obtain ⟨v,hv⟩:=heo
      exact ⟨v,by rw [hbe]; exact hv⟩
    · refine (ok b u q).stay (fun c v hc r=>k c v ?_ r) (fun c r=>by rw [upd_ne (nown c b r)]; exact r) fun c xs r=>by rw [upd_ne (ntup c xs r)]; exact r
      rcases hc with rfl | hc
      · exact hbe
      · rintro rfl
        rcases he with z | z
        · exact nown c b hc z
        · rw [hc] at z; cases z; exact hb rfl
end
structure Un (fs ex:List Addr) (H H' : Hp) (h h' : Heap):Prop where
  keep:∀ b o,h.get? b = some o→H b = none→b ∉ fs→b ∉ ex→h'.get? b = some o
  slot:∀ b o,h.get? b = some o→H b = none→b ∈ fs→b ∉ ex→∃ sl,h'.get? b = some { o with slots:=sl }
  free:∀ b o,h.get? b = some o→H b = none→b ∉ ex→H' b = none
  there:∀ b o,h.get? b = some o→b ∉ ex→∃ o',h'.get? b = some o'
  tups:∀ b xs,H b = some (.tup xs)→H' b = some (.tup xs)
  frzs:∀ b o u,H b = some (.frz o u)→H' b = some (.frz o u)
  tbls:∀ b ps,H b = some (.tbl ps)→∃ more,H' b = some (.tbl (ps ++ more))
section
variable {fs fs' ex ex' : List Addr} {H H1 H2:Hp} {h h1 h2 h' : Heap} {a x e:Addr} {o:HO}
theorem Un.any (u:Un fs ex H H1 h h1) {b:Addr} {ob:Obj} (q:h.get? b = some ob) (n:H b = none) (hx:b ∉ ex):∃ sl,h1.get? b = some { ob with slots:=sl }:=by
  by_cases hb:b ∈ fs
  · exact u.slot b ob q n hb hx
  · exact ⟨ob.slots,u.keep b ob q n hb hx⟩
theorem Un.kept (k:∀ b u,h.get? b = some u→h'.get? b = some u):Un fs ex H H h h' :=
  ⟨fun b ob q _ _ _=>k b ob q,fun b ob q _ _ _=>⟨ob.slots,k b ob q⟩,fun _ _ _ n _=>n,fun b ob q _=>⟨ob,k b ob q⟩,fun _ _ q=>q,fun _ _ _ q=>q,fun _ ps q=>⟨#[],by rw [q]; simp⟩⟩
theorem Un.refl:Un fs ex H H h h:=Un.kept fun _ _ q=>q
theorem Un.laid (k:∀ b u,h.get? b = some u→h'.get? b = some u) (hp:h.objs.size ≤ a) (hn:H a = none):Un fs ex H (upd H a o) h h' where
  keep:=fun b u q _ _ _=>k b u q
  slot:=fun b u q _ _ _=>⟨u.slots,k b u q⟩
  free:=fun b u q n _=>by rw [upd_ne (Nat.ne_of_lt (Nat.lt_of_lt_of_le (Heap.lt_size q) hp))]; exact n
  there:=fun b u q _=>⟨u,k b u q⟩
  tups:=fun b xs q=>by rw [upd_ne (ne_of_none q hn)]; exact q
  frzs:=fun b u xs q=>by rw [upd_ne (ne_of_none q hn)]; exact q
  tbls:=fun b ps q=>⟨#[],by rw [upd_ne (ne_of_none q hn),q]; simp⟩
theorem Un.write (mu:Mut (H x)) (he:e = x∨H e = some (.own x)) (k:∀ b u,b ≠ e→h.get? b = some u→h'.get? b = some u) (heo:∃ u,h'.get? e = some u):Un fs ex H (upd H x o) h h':=by
  have hx:∀ b,H b = none→b ≠ x:=fun b n z=>by subst z; rw [n] at mu; exact mu
  have hb:∀ b,H b = none→b ≠ e:=fun b n z=>by
    subst z
    rcases he with r | r
    · exact hx b n r
    · rw [n] at r; cases r
  have hm:∀ b u,H b = some u→¬ Mut (some u)→b ≠ x:=fun b u q nm z=>by subst z; rw [q] at mu; exact nm mu
  refine ⟨fun b u q n _ _=>k b u (hb b n) q,fun b u q n _ _=>⟨u.slots,k b u (hb b n) q⟩,fun b u q n _=>by rw [upd_ne (hx b n)]; exact n,fun b u q _=>?_,
    fun b xs q=>by rw [upd_ne (hm b _ q fun z=>z)]; exact q,fun b u xs q=>by rw [upd_ne (hm b _ q fun z=>z)]; exact q,fun b ps q=>⟨#[],by rw [upd_ne (hm b _ q fun z=>z),q]; simp⟩⟩
  by_cases hbe:b = e
  · subst hbe; exact heo
  · exact ⟨u,k b u hbe q⟩
end
def trk (h:Heap) (H:Hp):List Addr:=(List.range h.objs.size).filter fun a=>(H a).isSome
def hidT (h:Heap) (H:Hp):Heap:=PySem.W.hideAll h (trk h H)
theorem hidT_size (h:Heap) (H:Hp):(hidT h H).objs.size = h.objs.size:=PySem.W.hideAll_size _ _
theorem hidT_get {h:Heap} {H:Hp} {b:Addr} {o:Obj} (e:h.get? b = some o) (n:H b = none):(hidT h H).get? b = some o :=
  PySem.W.hideAll_get _ e fun hm=>by
    have q:(H b).isSome = true:=(List.mem_filter.mp hm).2
    rw [n] at q; simp at q
theorem of_hidT {h:Heap} {H:Hp} {b:Addr} {o:Obj} (e:(hidT h H).get? b = some o):h.get? b = some o∧H b = none:=by
  have e' : h.get? b = some o:=PySem.W.of_hideAll (trk h H) e
  refine ⟨e',?_⟩
  cases q:H b with
  | none=>rfl
  | some x =>
    have hm:b ∈ trk h H:=List.mem_filter.mpr ⟨List.mem_range.mpr (Heap.lt_size e'),by simp [q]⟩
    have z:(hidT h H).get? b = none:=PySem.W.hideAll_none (trk h H) hm
    rw [z] at e; cases e
def allNews (g h:Heap) (L:Addr):List (Addr × Obj):=(List.range h.objs.size).filterMap fun a=>if a = L∨(g.get? a).isSome = true then none else (h.get? a).map fun o=>(a,o)
def rest (g h:Heap) (L d:Addr):List (Addr × Obj):=(allNews g h L).filter fun p=>decide (p.1 ≠ d)
end L2
namespace L2
open PySem PySem.Spec PyProof.Rows
structure Mod (K:PySem.W.Frag) (mg:Str→Option Value) (base:Heap):Prop where
  kin:K.In base
  glob:base.Ns mainGlobals mg
  blt:∃ mb,base.Ns builtinsNs mb∧∀ x:Str,x ≠ "__name__" → mb x = bootBuiltins x
  nolimit:base.NoLimit
structure Cx where
  prog:Program
  w:World
  K:PySem.W.Frag
  mg:Str→Option Value
  base:Heap
  A:Around
  N:List Str
  s₀:Shared
  H₀:Hp
  env:Env
  outer:List Env
  stack:List Env
  ex:List Addr
  fn:Str→Bool
  calm:Bool
  pn:List (Addr × Obj)
  xe:Value→Shared→Prop
def frs (l:List Env):List Addr:=l.filterMap (·.frame)
abbrev Cx.fs (X:Cx):List Addr:=frs X.outer
def Vis (sc:Scope) (x:Str):Prop:=sc.names.lookup x = some .local∨sc.names.lookup x = some .cell∨sc.names.lookup x = some .free
def Loc (sc:Scope) (x:Str):Prop:=sc.names.lookup x = some .local∨sc.names.lookup x = some .cell
def Look (env:Env) (h:Heap) (m:Str→Option Value) (x:Str) (u:Value):Prop :=
  (env.kindOf x = some .local∧m x = some u)∨((env.kindOf x = some .cell∨env.kindOf x = some .free)∧∃ c,env.cells.lookup x = some c∧h.IsCell c (some u))
structure Cx.Ok (X:Cx):Prop where
  mod:Mod X.K X.mg X.base
  kind:X.env.scope.kind = .function
  glob:X.env.globals = mainGlobals
  blt:X.env.builtins = builtinsNs
  above:X.s₀.heap.objs.size ≤ X.env.locals
  inj:∀ x y c,X.env.cells.lookup x = some c→X.env.cells.lookup y = some c→x = y
  has:∀ x,(X.env.kindOf x = some .cell∨X.env.kindOf x = some .free)→∃ c,X.env.cells.lookup x = some c
  cab:∀ x c,X.fn x = true→X.env.cells.lookup x = some c→X.s₀.heap.objs.size ≤ c
  hd:X.calm = true→X.A.handled = none
  frames:X.A.frames = some X.stack
  stk:X.stack = X.outer∨(X.stack = X.env :: X.outer∧X.env.frame = some X.env.locals)
  exf:∀ b ∈ X.ex,b ≠ X.env.locals∧∀ x c,X.env.cells.lookup x = some c→c ≠ b
  bs:∀ b o,X.base.get? b = some o→X.s₀.heap.get? b = some o∧X.H₀ b = none
  bsz:X.base.objs.size ≤ X.s₀.heap.objs.size
  noex:∀ b o,X.base.get? b = some o→b ∉ X.ex
  exfs:∀ b ∈ X.ex,b ∉ X.fs
  funs:X.s₀.heap.FunFrames X.base X.outer
  frf:∀ b ∈ X.fs,X.H₀ b = none
structure Inv (X:Cx) (pins:List (Addr × Obj)) (σ:List (Option V)) (H:Hp) (s:Shared):Prop where
  ok:X.Ok
  os:s.os = X.s₀.os
  bare:AllBare s.gens
  base:Un X.fs X.ex X.H₀ H X.s₀.heap s.heap
  loc:∃ m,s.heap.Ns X.env.locals m∧∀ (i:Nat) (x:Str) (v:V),X.N[i]? = some x→σ[i]? = some (some v)→Vis X.env.scope x→∃ u,RelV v u∧Look X.env s.heap m x u
  cell:∀ x c,X.env.cells.lookup x = some c→∃ v,s.heap.IsCell c v
  free:H X.env.locals = none
  freeC:∀ x c,X.env.cells.lookup x = some c→H c = none
  pin:∀ p ∈ X.pn ++ pins,s.heap.get? p.1 = some p.2∧H p.1 = none∧p.1 ≠ X.env.locals∧p.1 ∉ X.fs∧∀ v,p.2.data ≠ .cell v
  hok:HOk X.prog X.w H s.heap
  len:σ.length = X.N.length
section
variable {X:Cx} {pins:List (Addr × Obj)} {σ:List (Option V)} {H H' : Hp} {s:Shared} {h' : Heap}
theorem Cx.Ok.nofr (ok:X.Ok) {b:Addr} {o:Obj} (e:X.base.get? b = some o):b ∉ X.fs:=fun hb=>by
  have:=(ok.funs.mem hb).1
  rw [e] at this; cases this
theorem Inv.bs (I:Inv X pins σ H s):∀ b o,X.base.get? b = some o→s.heap.get? b = some o∧H b = none:=fun b o e =>
  ⟨I.base.keep b o (I.ok.bs b o e).1 (I.ok.bs b o e).2 (I.ok.nofr e) (I.ok.noex b o e),I.base.free b o (I.ok.bs b o e).1 (I.ok.bs b o e).2 (I.ok.noex b o e)⟩
theorem Inv.bk (I:Inv X pins σ H s):∀ b o,X.base.get? b = some o→s.heap.get? b = some o:=fun b o e=>(I.bs b o e).1
theorem Inv.mod (I:Inv X pins σ H s):Mod X.K X.mg X.base:=I.ok.mod
theorem Inv.kIn (I:Inv X pins σ H s):X.K.In s.heap:=I.ok.mod.kin.keeps I.bk
theorem Inv.lt (I:Inv X pins σ H s):X.env.locals < s.heap.objs.size:=let ⟨_,hn,_⟩:=I.loc; hn.lt
theorem Inv.sz (I:Inv X pins σ H s):X.s₀.heap.objs.size ≤ s.heap.objs.size:=Nat.le_trans I.ok.above (Nat.le_of_lt I.lt)
theorem Inv.nofs (I:Inv X pins σ H s) {a:Addr} (h:s.heap.objs.size ≤ a):a ∉ X.fs:=fun hb=>by
  obtain ⟨_,o,ho,_⟩:=I.ok.funs.mem hb
  exact absurd (Nat.lt_of_lt_of_le (Heap.lt_size ho) (Nat.le_trans I.sz h)) (Nat.lt_irrefl _)
theorem Inv.cne (I:Inv X pins σ H s):∀ x c,X.env.cells.lookup x = some c→c ≠ X.env.locals:=fun x c e z=>by
  obtain ⟨v,o,ho,hd⟩:=I.cell x c e
  obtain ⟨m,⟨o',es,ep,ho',hd',_⟩,_⟩:=I.loc
  rw [z,ho'] at ho; cases ho; rw [hd'] at hd; cases hd
theorem Inv.funs (I:Inv X pins σ H s):s.heap.FunFrames X.base X.outer:=by
  have all:∀ (l:List Env),(∀ b ∈ frs l,b ∈ X.fs)→X.s₀.heap.FunFrames X.base l→s.heap.FunFrames X.base l:=by
    intro l
    induction l with
    | nil=>intro _ _; trivial
    | cons env r ih =>
      intro hs hl
      obtain ⟨hk,⟨L,o,hf,hn,ho,hd⟩,hr⟩:=hl
      have hL:L ∈ X.fs:=hs L (by unfold frs; rw [List.filterMap_cons,hf]; exact List.mem_cons_self)
      obtain ⟨sl,e⟩:=I.base.slot L o ho (I.ok.frf L hL) hL fun z=>I.ok.exfs L z hL
      exact ⟨hk,⟨L,_,hf,hn,e,hd⟩,ih (fun b hb=>hs b (by unfold frs; rw [List.filterMap_cons,hf]; exact List.mem_cons_of_mem _ hb)) hr⟩
  exact all X.outer (fun _ hb=>hb) I.ok.funs
theorem Inv.stack (I:Inv X pins σ H s):s.heap.FunFrames X.base X.stack:=by
  rcases I.ok.stk with e | ⟨e,hf⟩
  · rw [e]; exact I.funs
  · rw [e]
    obtain ⟨m,hn,_⟩:=I.loc
    refine .cons (by rw [I.ok.kind]; decide) hf hn ?_ I.funs
    exact Heap.get?_none_of_le (Nat.le_trans I.ok.bsz I.ok.above)
theorem Inv.stkSub (I:Inv X pins σ H s):∀ b ∈ frs X.stack,b ∈ X.env.locals :: X.fs:=fun b hb=>by
  rcases I.ok.stk with e | ⟨e,hf⟩
  · rw [e] at hb; exact List.mem_cons_of_mem _ hb
  · rw [e] at hb
    unfold frs at hb
    rw [List.filterMap_cons,hf] at hb
    exact hb
theorem Inv.stkFree (I:Inv X pins σ H s):∀ b ∈ frs X.stack,H b = none:=fun b hb=>by
  rcases List.mem_cons.mp (I.stkSub b hb) with e | hb
  · rw [e]; exact I.free
  · obtain ⟨_,o,ho,_⟩:=I.ok.funs.mem hb
    exact I.base.free b o ho (I.ok.frf b hb) fun z=>I.ok.exfs b z hb
theorem Inv.step {g' : Array GenState} {t' : Nat} {d' : Drawn} {ch:List Addr} (I:Inv X pins σ H s)
    (hch:∀ b ∈ ch,(b ∈ X.ex∨X.s₀.heap.objs.size ≤ b)∧b ≠ X.env.locals∧(∀ x c,X.env.cells.lookup x = some c→c ≠ b)∧∀ p ∈ X.pn ++ pins,p.1 ≠ b)
    (keep:∀ b o,b ≠ X.env.locals→b ∉ X.fs→b ∉ ch→s.heap.get? b = some o→H b = none→h'.get? b = some o)
    (slot:∀ b o,b ≠ X.env.locals→b ∈ X.fs→b ∉ ch→s.heap.get? b = some o→H b = none→∃ sl,h'.get? b = some { o with slots:=sl }) (free:∀ b o,b ∉ ch→s.heap.get? b = some o→H b = none→H' b = none)
    (there:∀ b o,b ∉ ch→s.heap.get? b = some o→∃ o',h'.get? b = some o')
    (tups:∀ b xs,H b = some (.tup xs)→H' b = some (.tup xs)) (frzs:∀ b o u,H b = some (.frz o u)→H' b = some (.frz o u)) (tbls:∀ b ps,H b = some (.tbl ps)→∃ more,H' b = some (.tbl (ps ++ more)))
    (ns:∀ m,s.heap.Ns X.env.locals m→h'.Ns X.env.locals m) (hok:HOk X.prog X.w H' h') (hg:AllBare g') :
    Inv X pins σ H' { s with heap:=h',gens:=g',drawn:=d',toks:=t' }:=by
  have neL:∀ b o,X.s₀.heap.get? b = some o→b ≠ X.env.locals:=fun b o e=>Nat.ne_of_lt (Nat.lt_of_lt_of_le (Heap.lt_size e) I.ok.above)
  have neC:∀ b o,X.s₀.heap.get? b = some o→b ∉ X.ex→b ∉ ch:=fun b o e hx hb=>by
    rcases (hch b hb).1 with z | z
    · exact hx z
    · exact absurd (Nat.lt_of_lt_of_le (Heap.lt_size e) z) (Nat.lt_irrefl _)
  have cellK:∀ x c,X.env.cells.lookup x = some c→∀ v,s.heap.IsCell c v→h'.IsCell c v:=fun x c e v ⟨o,ho,hd⟩=>by
    have nch:c ∉ ch:=fun z=>(hch c z).2.2.1 x c e rfl
    by_cases hc:c ∈ X.fs
    · obtain ⟨sl,q⟩:=slot c o (I.cne x c e) hc nch ho (I.freeC x c e)
      exact ⟨_,q,hd⟩
    · exact ⟨o,keep c o (I.cne x c e) hc nch ho (I.freeC x c e),hd⟩
  refine ⟨I.ok,I.os,hg,⟨fun b o e n hb hx=>?_,fun b o e n hb hx=>?_,fun b o e n hx=>?_,fun b o e hx=>?_,fun b xs e=>tups b xs (I.base.tups b xs e),fun b o xs e=>frzs b o xs (I.base.frzs b o xs e),fun b ps e=>?_⟩,?_,fun x c e=>?_,?_,fun x c e=>?_,fun p hp=>?_,hok,I.len⟩
  · exact keep b o (neL b o e) hb (neC b o e hx) (I.base.keep b o e n hb hx) (I.base.free b o e n hx)
  · obtain ⟨sl,e1⟩:=I.base.slot b o e n hb hx
    obtain ⟨sl',e2⟩:=slot b _ (neL b o e) hb (neC b o e hx) e1 (I.base.free b o e n hx)
    exact ⟨sl',e2⟩
  · obtain ⟨o',e1⟩:=I.base.there b o e hx
    exact free b o' (neC b o e hx) e1 (I.base.free b o e n hx)
  · obtain ⟨o',e1⟩:=I.base.there b o e hx
    exact there b o' (neC b o e hx) e1
  · obtain ⟨m1,e1⟩:=I.base.tbls b ps e
    obtain ⟨m2,e2⟩:=tbls b _ e1
    exact ⟨m1 ++ m2,by rw [e2,Array.append_assoc]⟩
  · obtain ⟨m,hn,hl⟩:=I.loc
    refine ⟨m,ns m hn,fun i x v e1 e2 e3=>?_⟩
    obtain ⟨u,r,l⟩:=hl i x v e1 e2 e3
    refine ⟨u,r,?_⟩
    rcases l with l | ⟨k,c,e,z⟩
    · exact .inl l
    · exact .inr ⟨k,c,e,cellK x c e _ z⟩
  · obtain ⟨v,z⟩:=I.cell x c e
    exact ⟨v,cellK x c e v z⟩
  · obtain ⟨m,⟨o,_,_,ho,_⟩,_⟩:=I.loc
    exact free _ o (fun z=>(hch _ z).2.1 rfl) ho I.free
  · obtain ⟨v,o,ho,hd⟩:=I.cell x c e
    exact free c o (fun z=>(hch c z).2.2.1 x c e rfl) ho (I.freeC x c e)
  · obtain ⟨e,n,ne,nf,d⟩:=I.pin p hp
    have nch:p.1 ∉ ch:=fun z=>(hch p.1 z).2.2.2 p hp rfl
    exact ⟨keep p.1 p.2 ne nf nch e n,free p.1 p.2 nch e n,ne,nf,d⟩
theorem Inv.un {t' : Nat} (I:Inv X pins σ H s) (u:Un X.fs [] H H' s.heap h') (hok:HOk X.prog X.w H' h'):Inv X pins σ H' { s with heap:=h',toks:=t' }:=by
  obtain ⟨m,⟨o,es,ep,ho,r⟩,_⟩:=id I.loc
  obtain ⟨sl,hL⟩:=u.any ho I.free (by simp)
  exact I.step (g':=s.gens) (d':=s.drawn) (ch:=[]) (fun _ z=>nomatch z) (fun b o _ hb _ e n=>u.keep b o e n hb (by simp)) (fun b o _ hb _ e n=>u.slot b o e n hb (by simp)) (fun b o _ e n=>u.free b o e n (by simp)) (fun b o _ e=>u.there b o e (by simp)) u.tups u.frzs u.tbls (fun m' hm=>by
    obtain ⟨o',es',ep',ho',r'⟩:=hm
    rw [ho] at ho'; cases ho'
    exact ⟨_,es',ep',hL,r'⟩) hok I.bare
theorem Inv.call {g' : Array GenState} {t' : Nat} {d' : Drawn} {ch:List Addr} (I:Inv X pins σ H s) (u:Un (frs X.stack) ch H H' s.heap h') (hok:HOk X.prog X.w H' h') (hg:AllBare g')
    (hch:∀ b ∈ ch,(b ∈ X.ex∨X.s₀.heap.objs.size ≤ b)∧b ≠ X.env.locals∧(∀ x c,X.env.cells.lookup x = some c→c ≠ b)∧∀ p ∈ X.pn ++ pins,p.1 ≠ b) :
    Inv X pins σ H' { s with heap:=h',gens:=g',drawn:=d',toks:=t' }:=by
  obtain ⟨m,⟨o,es,ep,ho,r⟩,_⟩:=id I.loc
  obtain ⟨sl,hL⟩:=u.any ho I.free fun z=>(hch _ z).2.1 rfl
  exact I.step (ch:=ch) hch (fun b o hL hb hc e n=>u.keep b o e n (fun z=>(List.mem_cons.mp (I.stkSub b z)).elim hL hb) hc) (fun b o _ _ hc e n=>u.any e n hc) (fun b o hc e n=>u.free b o e n hc) (fun b o hc e=>u.there b o e hc) u.tups u.frzs u.tbls (fun m' hm=>by
    obtain ⟨o',es',ep',ho',r'⟩:=hm
    rw [ho] at ho'; cases ho'
    exact ⟨_,es',ep',hL,r'⟩) hok hg
theorem Inv.turned {t' : Nat} {it:Addr} (I:Inv X pins σ H s) (k:∀ b o,b ≠ it→s.heap.get? b = some o→h'.get? b = some o) (hn:H it = none) (hL:it ≠ X.env.locals)
    (h1:it ∈ X.ex∨X.s₀.heap.objs.size ≤ it) (h2:∀ x c,X.env.cells.lookup x = some c→c ≠ it) (h3:∀ p ∈ X.pn ++ pins,p.1 ≠ it):Inv X pins σ H { s with heap:=h',toks:=t' }:=by
  have nit:∀ b u,H b = some u→b ≠ it:=fun b u e z=>by rw [z,hn] at e; cases e
  refine I.step (g':=s.gens) (d':=s.drawn) (ch:=[it]) (fun b hb=>?_) (fun b o _ _ hc e _=>k b o (fun z=>hc (by simp [z])) e) (fun b o _ _ hc e _=>⟨o.slots,k b o (fun z=>hc (by simp [z])) e⟩) (fun _ _ _ _ n=>n)
    (fun b o hc e=>⟨o,k b o (fun z=>hc (by simp [z])) e⟩) (fun _ _ e=>e) (fun _ _ _ e=>e) (fun b ps e=>⟨#[],by rw [e]; simp⟩) (fun m hm=>?_) (fun b u e=>?_) I.bare
  · have e:b = it:=by simpa using hb
    subst e
    exact ⟨h1,hL,h2,h3⟩
  · obtain ⟨o,es,ep,ho,r⟩:=hm
    exact ⟨o,es,ep,k _ o (Ne.symm hL) ho,r⟩
  · refine (I.hok b u e).stay (fun c v hc q=>k c v ?_ q) (fun _ q=>q) fun _ _ q=>q
    rcases hc with z | z
    · rw [z]; exact nit b u e
    · exact nit c _ z
theorem Inv.tok (I:Inv X pins σ H s) (t:Nat):Inv X pins σ H { s with toks:=t }:=I.un (h':=s.heap) (t':=t) Un.refl I.hok
theorem Inv.kept {t' : Nat} (I:Inv X pins σ H s) (k:∀ b u,s.heap.get? b = some u→h'.get? b = some u):Inv X pins σ H { s with heap:=h',toks:=t' }:=I.un (Un.kept k) (I.hok.kept k)
theorem Inv.laid {a:Addr} {o:HO} {t' : Nat} (I:Inv X pins σ H s) (k:∀ b u,s.heap.get? b = some u→h'.get? b = some u) (hp:s.heap.objs.size ≤ a) (new:ObjOk X.prog X.w (upd H a o) h' a o) :
    Inv X pins σ (upd H a o) { s with heap:=h',toks:=t' }:=I.un (Un.laid k hp (I.hok.fresh hp)) (I.hok.laid k hp new)
theorem Inv.write {x e:Addr} {o:HO} {t' : Nat} (I:Inv X pins σ H s) (mu:Mut (H x)) (he:e = x∨H e = some (.own x)) (k:∀ b u,b ≠ e→s.heap.get? b = some u→h'.get? b = some u) (heo:∃ u,h'.get? e = some u)
    (new:ObjOk X.prog X.w (upd H x o) h' x o):Inv X pins σ (upd H x o) { s with heap:=h',toks:=t' }:=I.un (Un.write mu he k heo) (I.hok.write mu he k heo new)
theorem Inv.pins_of {pins' : List (Addr × Obj)} (I:Inv X pins σ H s) (h:∀ p ∈ pins',s.heap.get? p.1 = some p.2∧H p.1 = none∧p.1 ≠ X.env.locals∧p.1 ∉ X.fs∧∀ v,p.2.data ≠ .cell v):Inv X pins' σ H s :=
  ⟨I.ok,I.os,I.bare,I.base,I.loc,I.cell,I.free,I.freeC,fun p hp=>(List.mem_append.mp hp).elim (fun z=>I.pin p (List.mem_append_left _ z)) (h p),I.hok,I.len⟩
theorem nodup_ix {N:List Str} (hN:N.Nodup) {i j:Nat} {x:Str} (a:N[i]? = some x) (b:N[j]? = some x):i = j:=by
  obtain ⟨h1,e1⟩:=List.getElem?_eq_some_iff.mp a
  obtain ⟨h2,e2⟩:=List.getElem?_eq_some_iff.mp b
  exact (List.getElem_inj hN).mp (e1.trans e2.symm)
theorem store_ok2 {M:Model} {A:Around} {E:Value→Shared→Prop} {i:Nat} {x:Str} {v:V} {u:Value} {Q:Unit→Shared→Prop} (I:Inv X pins σ H s) (hN:X.N.Nodup) (hi:X.N[i]? = some x) (hx:Loc X.env.scope x) (r:RelV v u)
    (h:∀ s',Inv X pins (σ.set i (some v)) H s'→(∃ a,Heap.SameBut a s.heap s'.heap∧(a = X.env.locals∨X.env.cells.lookup x = some a))→Q () s') (hf:X.fn x = true∨X.env.scope.names.lookup x = some .local:=by first | exact .inl rfl | exact .inr rfl | assumption):wpAny M A (storeName X.env x u) Q E s:=by
  obtain ⟨m,hn,hl⟩:=id I.loc
  have hcls:(X.env.scope.kind == .class || (X.env.scope.kind == .module && X.env.locals != X.env.globals)) = false:=by rw [I.ok.kind]; rfl
  have hiσ:i < σ.length:=by rw [I.len]; exact (List.getElem?_eq_some_iff.mp hi).1
  have cne:=I.cne
  have tracked:∀ {a:Addr} {h' : Heap},(∃ o,s.heap.get? a = some o∧H a = none)→Heap.SameBut a s.heap h'→HOk X.prog X.w H h':=fun {a h'} ha hs b ob e=>by
    obtain ⟨_,_,hfree⟩:=ha
    refine (I.hok b ob e).stay (fun c w' hc q=>(hs.2 c ?_).trans q) (fun _ q=>q) fun _ _ q=>q
    rintro rfl
    rcases hc with rfl | hc
    · rw [hfree] at e; cases e
    · rw [hfree] at hc; cases hc
  rcases hx with hk | hk
  · refine wpAny_storeName_local hk hn (fun h' hn' hs=>?_) hcls
    obtain ⟨oL,_,_,hoL,_⟩:=id hn
    refine h _ ⟨I.ok,I.os,I.bare,⟨fun b o e n hb hx=>?_,fun b o e n hb hx=>?_,I.base.free,fun b o e hx=>?_,I.base.tups,I.base.frzs,I.base.tbls⟩,⟨_,hn',fun j y v' e1 e2 e3=>?_⟩,fun y c e=>?_,I.free,I.freeC,fun p hp=>?_,tracked ⟨oL,hoL,I.free⟩ hs,by simpa using I.len⟩ ⟨_,hs,.inl rfl⟩
    · exact (hs.2 b (Nat.ne_of_lt (Nat.lt_of_lt_of_le (Heap.lt_size e) I.ok.above))).trans (I.base.keep b o e n hb hx)
    · obtain ⟨sl,e1⟩:=I.base.slot b o e n hb hx
      exact ⟨sl,(hs.2 b (Nat.ne_of_lt (Nat.lt_of_lt_of_le (Heap.lt_size e) I.ok.above))).trans e1⟩
    · obtain ⟨o',e1⟩:=I.base.there b o e hx
      exact ⟨o',(hs.2 b (Nat.ne_of_lt (Nat.lt_of_lt_of_le (Heap.lt_size e) I.ok.above))).trans e1⟩
    · by_cases hj:j = i
      · subst hj
        rw [hi] at e1; cases e1
        rw [List.getElem?_set_self hiσ] at e2
        cases e2
        exact ⟨u,r,.inl ⟨hk,by simp⟩⟩
      · rw [List.getElem?_set_ne (Ne.symm hj)] at e2
        obtain ⟨u',r',q⟩:=hl j y v' e1 e2 e3
        refine ⟨u',r',?_⟩
        rcases q with ⟨k,e⟩ | ⟨k,c,e,z⟩
        · refine .inl ⟨k,?_⟩
          have:y ≠ x:=fun e=>hj (nodup_ix hN e1 (e ▸ hi))
          simp [this,e]
        · exact .inr ⟨k,c,e,z.sameBut hs (cne y c e)⟩
    · obtain ⟨w',z⟩:=I.cell y c e
      exact ⟨w',z.sameBut hs (cne y c e)⟩
    · obtain ⟨e,n,ne,nf,d⟩:=I.pin p hp
      exact ⟨(hs.2 p.1 ne).trans e,n,ne,nf,d⟩
  · have hfn:X.fn x = true:=by
      rcases hf with z | z
      · exact z
      · rw [z] at hk; cases hk
    obtain ⟨c,hc⟩:=I.ok.has x (.inl hk)
    obtain ⟨w',z⟩:=I.cell x c hc
    refine wpAny_storeName_cell I.ok.kind hk hc z (fun h' hc' hs=>?_)
    obtain ⟨oc,hoc,hocd⟩:=id z
    refine h { s with heap:=h' } ⟨I.ok,I.os,I.bare,⟨fun b o e n hb hx=>?_,fun b o e n hb hx=>?_,I.base.free,fun b o e hx=>?_,I.base.tups,I.base.frzs,I.base.tbls⟩,⟨m,hn.sameBut hs (Ne.symm (cne x c hc)),fun j y v' e1 e2 e3=>?_⟩,fun y c' e=>?_,I.free,I.freeC,fun p hp=>?_,tracked ⟨oc,hoc,I.freeC x c hc⟩ hs,by simpa using I.len⟩ ⟨c,hs,.inr hc⟩
    · exact (hs.2 b (Nat.ne_of_lt (Nat.lt_of_lt_of_le (Heap.lt_size e) (I.ok.cab x c hfn hc)))).trans (I.base.keep b o e n hb hx)
    · obtain ⟨sl,e1⟩:=I.base.slot b o e n hb hx
      exact ⟨sl,(hs.2 b (Nat.ne_of_lt (Nat.lt_of_lt_of_le (Heap.lt_size e) (I.ok.cab x c hfn hc)))).trans e1⟩
    · obtain ⟨o',e1⟩:=I.base.there b o e hx
      exact ⟨o',(hs.2 b (Nat.ne_of_lt (Nat.lt_of_lt_of_le (Heap.lt_size e) (I.ok.cab x c hfn hc)))).trans e1⟩
    · by_cases hj:j = i
      · subst hj
        rw [hi] at e1; cases e1
        rw [List.getElem?_set_self hiσ] at e2
        cases e2
        exact ⟨u,r,.inr ⟨.inl hk,c,hc,hc'⟩⟩
      · rw [List.getElem?_set_ne (Ne.symm hj)] at e2
        obtain ⟨u',r',q⟩:=hl j y v' e1 e2 e3
        refine ⟨u',r',?_⟩
        rcases q with q | ⟨k,c',e,z'⟩
        · exact .inl q
        · refine .inr ⟨k,c',e,z'.sameBut hs ?_⟩
          rintro rfl
          exact hj (nodup_ix hN e1 (I.ok.inj _ _ _ e hc ▸ hi))
    · by_cases hcc:c' = c
      · subst hcc; exact ⟨_,hc'⟩
      · obtain ⟨w2,z2⟩:=I.cell y c' e
        exact ⟨w2,z2.sameBut hs hcc⟩
    · obtain ⟨e,n,ne,nf,d⟩:=I.pin p hp
      refine ⟨(hs.2 p.1 ?_).trans e,n,ne,nf,d⟩
      intro q
      rw [q,hoc] at e
      have q' : oc = p.2:=Option.some.inj e
      exact d w' (by rw [← q']; exact hocd)
theorem store_ok {M:Model} {A:Around} {E:Value→Shared→Prop} {i:Nat} {x:Str} {v:V} {u:Value} {Q:Unit→Shared→Prop} (I:Inv X pins σ H s) (hN:X.N.Nodup) (hi:X.N[i]? = some x) (hx:Loc X.env.scope x) (r:RelV v u)
    (h:∀ s',Inv X pins (σ.set i (some v)) H s'→Q () s') (hf:X.fn x = true∨X.env.scope.names.lookup x = some .local:=by first | exact .inl rfl | exact .inr rfl | assumption):wpAny M A (storeName X.env x u) Q E s :=
  store_ok2 I hN hi hx r (fun s' I' _=>h s' I') hf
theorem Inv.call' {s' : Shared} {ch:List Addr} (I:Inv X pins σ H s) (ho:s'.os = s.os) (u:Un (frs X.stack) ch H H' s.heap s'.heap) (hok:HOk X.prog X.w H' s'.heap) (hg:AllBare s'.gens)
    (hch:∀ b ∈ ch,(b ∈ X.ex∨X.s₀.heap.objs.size ≤ b)∧b ≠ X.env.locals∧(∀ x c,X.env.cells.lookup x = some c→c ≠ b)∧∀ p ∈ X.pn ++ pins,p.1 ≠ b):Inv X pins σ H' s':=by
  obtain ⟨h',g',d',t',o'⟩:=s'
  have e:o' = s.os:=ho
  subst e
  exact I.call (g':=g') (t':=t') (d':=d') u hok hg hch
end
abbrev XK:=Value→Option Addr→Hp→Prop
abbrev St:=List (Option V)
abbrev VK:=V→Hp→Prop
abbrev TE:=St→Hp→VK→Prop
abbrev TT:=St→Hp→(Bool→Hp→Prop)→Prop
abbrev TA:=St→Hp→(List V→Hp→Prop)→Prop
structure Ends where
  nx:St→Hp→Prop
  rt:VK
  bk:St→Hp→Prop:=fun _ _=>False
  ct:St→Hp→Prop:=fun _ _=>False
abbrev TS:=Ends→St→Hp→Prop
def EP (X:Cx) (pins:List (Addr × Obj)) (σ:St) (Q:VK) (u:Value) (s' : Shared):Prop:=∃ v H',Inv X pins σ H' s'∧RelV v u∧Q v H'
def TP (X:Cx) (pins:List (Addr × Obj)) (σ:St) (Q:Bool→Hp→Prop) (b:Bool) (s' : Shared):Prop:=∃ H',Inv X pins σ H' s'∧Q b H'
def AP (X:Cx) (pins:List (Addr × Obj)) (σ:St) (Q:List V→Hp→Prop) (us:List Value) (s' : Shared):Prop:=∃ vs H',Inv X pins σ H' s'∧Vals vs us∧Q vs H'
def SP (X:Cx) (pins:List (Addr × Obj)) (D:Ends) (f:Flow) (s' : Shared):Prop :=
  match f with
  | .next=>∃ σ' H',Inv X pins σ' H' s'∧D.nx σ' H'
  | .brk=>∃ σ' H',Inv X pins σ' H' s'∧D.bk σ' H'
  | .cont=>∃ σ' H',Inv X pins σ' H' s'∧D.ct σ' H'
  | .ret u=>∃ v σ' H',Inv X pins σ' H' s'∧RelV v u∧D.rt v H'
def PE (X:Cx) (e:Expr) (t:TE):Prop :=
  ∀ (pins:List (Addr × Obj)) (s:Shared) (σ:St) (H:Hp) (Q:VK),Inv X pins σ H s→t σ H Q→wpAny (model X.prog X.w) X.A (eval e X.env) (EP X pins σ Q) X.xe s
def PT (X:Cx) (e:Expr) (t:TT):Prop :=
  ∀ (pins:List (Addr × Obj)) (s:Shared) (σ:St) (H:Hp) (Q:Bool→Hp→Prop),Inv X pins σ H s→t σ H Q→wpAny (model X.prog X.w) X.A (isTrue e X.env (eval e X.env)) (TP X pins σ Q) X.xe s
def PW (X:Cx) (e:Expr) (t:TT):Prop :=
  ∀ (whole:Sem Value) (pins:List (Addr × Obj)) (s:Shared) (σ:St) (H:Hp) (Q:Bool→Hp→Prop),Inv X pins σ H s→t σ H Q→wpAny (model X.prog X.w) X.A (isTrue e X.env whole) (TP X pins σ Q) X.xe s
theorem PW.pt {X:Cx} {e:Expr} {t:TT} (h:PW X e t):PT X e t:=h _
def PA (X:Cx) (es:List Expr) (t:TA):Prop :=
  ∀ (pos:Pos) (pins:List (Addr × Obj)) (s:Shared) (σ:St) (H:Hp) (Q:List V→Hp→Prop),Inv X pins σ H s→t σ H Q→wpAny (model X.prog X.w) X.A (spliced (backTo pos (starEach es X.env))) (AP X pins σ Q) X.xe s
def PS (X:Cx) (st:Stmt) (t:TS):Prop :=
  ∀ (pins:List (Addr × Obj)) (s:Shared) (σ:St) (H:Hp) (D:Ends),Inv X pins σ H s→t D σ H→wpAny (model X.prog X.w) X.A (exec st X.env) (SP X pins D) X.xe s
def PSs (X:Cx) (st:List Stmt) (t:TS):Prop :=
  ∀ (pins:List (Addr × Obj)) (s:Shared) (σ:St) (H:Hp) (D:Ends),Inv X pins σ H s→t D σ H→wpAny (model X.prog X.w) X.A (execs st X.env) (SP X pins D) X.xe s
theorem thn {α:Type} {t:Sem α} {Q Q' : α→Shared→Prop} {M:Model} {A:Around} {E:Value→Shared→Prop} {s:Shared} (h:wpAny M A t Q E s) (hQ:∀ a s,Q a s→Q' a s):wpAny M A t Q' E s:=wpAny_mono h hQ fun _ _ x=>x
end L2
namespace L2
open PySem PySem.Spec PyProof.Rows
section
variable {X:Cx}
def tVar (i:Nat):TE:=fun σ H Q=>∃ v,σ[i]? = some (some v)∧Q v H
def tC (v:V):TE:=fun _ H Q=>Q v H
theorem pe_var {i:Nat} {x:Str} {pos:Pos} (hN:X.N[i]? = some x) (hv:Vis X.env.scope x) (hd:(x == ("__debug__" : Str)) = false:=by decide) (hcd:(x == ("__classdict__" : Str)) = false:=by decide):PE X (.Name x pos) (tVar i):=by
  intro pins s σ H Q I h
  obtain ⟨v,e,h⟩:=h
  obtain ⟨m,hn,hl⟩:=I.loc
  obtain ⟨u,r,l⟩:=hl i x v hN e hv
  have fin:EP X pins σ Q u s:=⟨v,H,I,r,h⟩
  rcases l with ⟨hk,hm⟩ | ⟨hk,c,hc,hcell⟩
  · exact wpAny_Name (wpAny_loadName_local I.ok.kind hk hn hm fin) hd
  · rcases hk with hk | hk
    · exact wpAny_Name (wpAny_loadName_cell I.ok.kind hk hc hcell fin) hd
    · exact wpAny_Name (wpAny_loadName_free I.ok.kind hk hc hcell fin hcd) hd
theorem pe_int {i j pos} : PE X (.Constant (.int i) j pos) (tC (.int i)):=fun _ _ _ H _ I h=>wpAny_Constant_int ⟨.int i,H,I.tok _,⟨_,rfl⟩,h⟩
theorem pe_bl {b j pos} : PE X (.Constant (.bool b) j pos) (tC (.bl b)):=fun _ _ _ H _ I h=>Constant_bool ⟨.bl b,H,I,rfl,h⟩
theorem pe_str {x j pos} : PE X (.Constant (.str x) j pos) (tC (.str x)):=fun _ _ _ H _ I h=>Calls.Constant_str ⟨.str x,H,I.tok _,⟨_,rfl⟩,h⟩
def Gl (X:Cx) (x:Str):Prop:=X.env.kindOf x = some .globalImplicit
theorem ld_glob {E:Value→Shared→Prop} {pins:List (Addr × Obj)} {s:Shared} {σ:St} {H:Hp} {x:Str} {u:Value} {pos:Pos} {Q:Value→Shared→Prop} (I:Inv X pins σ H s) (hg:Gl X x) (hm:X.mg x = some u) (h:Q u s)
    (hd:(x == ("__debug__" : Str)) = false:=by decide):wpAny (model X.prog X.w) X.A (eval (.Name x pos) X.env) Q E s :=
  Calls.Name_function_global I.ok.kind hg (Calls.loadGlobal_global (by rw [I.ok.glob]; exact I.mod.glob.keeps I.bk) hm h) hd
theorem ld_blt {E:Value→Shared→Prop} {pins:List (Addr × Obj)} {s:Shared} {σ:St} {H:Hp} {x:Str} {u:Value} {pos:Pos} {Q:Value→Shared→Prop} (I:Inv X pins σ H s) (hg:Gl X x) (hm:X.mg x = none) (hv:bootBuiltins x = some u) (h:Q u s)
    (hn:x ≠ "__name__" := by decide) (hd:(x == ("__debug__" : Str)) = false:=by decide):wpAny (model X.prog X.w) X.A (eval (.Name x pos) X.env) Q E s:=by
  obtain ⟨mb,h1,h2⟩:=I.mod.blt
  exact Calls.Name_function_global I.ok.kind hg (Calls.loadGlobal_builtin (by rw [I.ok.glob]; exact I.mod.glob.keeps I.bk) hm (by rw [I.ok.blt]; exact h1.keeps I.bk) ((h2 x hn).trans hv) h) hd
theorem pe_glob {x:Str} {v:V} {u:Value} {pos:Pos} (hg:Gl X x) (hm:X.mg x = some u) (r:RelV v u) (hd:(x == ("__debug__" : Str)) = false:=by decide):PE X (.Name x pos) (tC v) :=
  fun _ _ _ H _ I h=>ld_glob I hg hm ⟨v,H,I,r,h⟩ hd
theorem pe_bltn {x:Str} {v:V} {u:Value} {pos:Pos} (hg:Gl X x) (hm:X.mg x = none) (hv:bootBuiltins x = some u) (r:RelV v u) (hn:x ≠ "__name__" := by decide) (hd:(x == ("__debug__" : Str)) = false:=by decide):PE X (.Name x pos) (tC v) :=
  fun _ _ _ H _ I h=>ld_blt I hg hm hv ⟨v,H,I,r,h⟩ hn hd
def t2I (ta tb:TE) (k:Int→Int→Hp→Prop):St→Hp→Prop:=fun σ H=>ta σ H fun x H1=>tb σ H1 fun y H2=>∃ i j,x = .int i∧y = .int j∧k i j H2
def tAdd (ta tb:TE):TE:=fun σ H Q=>t2I ta tb (fun i j H2=>Q (.int (i + j)) H2) σ H
def tSub (ta tb:TE):TE:=fun σ H Q=>t2I ta tb (fun i j H2=>Q (.int (i - j)) H2) σ H
def tMul (ta tb:TE):TE:=fun σ H Q=>t2I ta tb (fun i j H2=>(-(2 ^ 64) < i∧i < 2 ^ 64)∧Q (.int (i * j)) H2) σ H
variable {a b:Expr} {ta tb:TE} {pos:Pos}
def PC (X:Cx) (op:CmpOp) (a b:Expr) (t:TE):Prop :=
  ∀ (pins:List (Addr × Obj)) (s:Shared) (σ:St) (H:Hp) (Q:VK),Inv X pins σ H s→t σ H Q →
    wpAny (model X.prog X.w) X.A (eval a X.env) (fun v s₁=>wpAny (model X.prog X.w) X.A (eval b X.env) (fun u s₂=>wpAny (model X.prog X.w) X.A (compareOp op v u) (EP X pins σ Q) X.xe s₂) X.xe s₁) X.xe s
def tCmp (p:Int→Int→Bool) (ta tb:TE):TE:=fun σ H Q=>t2I ta tb (fun i j H2=>Q (.bl (p i j)) H2) σ H
abbrev tLt:TE→TE→TE:=tCmp fun i j=>decide (i < j)
abbrev tLe:TE→TE→TE:=tCmp fun i j=>decide (i ≤ j)
abbrev tGt:TE→TE→TE:=tCmp fun i j=>decide (j < i)
abbrev tGe:TE→TE→TE:=tCmp fun i j=>decide (j ≤ i)
abbrev tEqI:TE→TE→TE:=tCmp fun i j=>decide (i = j)
abbrev tNeI:TE→TE→TE:=tCmp fun i j=>!decide (i = j)
def tIsN (ta:TE):TE:=fun σ H Q=>ta σ H fun x H1=>Q (.bl (decide (x = .non))) H1
def tNotN (ta:TE):TE:=fun σ H Q=>ta σ H fun x H1=>Q (.bl (!decide (x = .non))) H1
def tB (t:TE):TT:=fun σ H Q=>t σ H fun x H1=>∃ c,x = .bl c∧Q c H1
theorem pt_val {e:Expr} {t:TE} (h:PE X e t) (he:∀ whole,isTrue e X.env whole = (do let v ← whole; standAt e.pos; holding [v] (truthy v)):=by intro _; rfl):PT X e (tB t):=by
  intro pins s σ H Q I hw
  refine isTrue_plain (thn (h pins s σ H _ I hw) fun v s1 ⟨x,H1,I1,r1,q1⟩=>?_) (he _)
  obtain ⟨d,rfl,q⟩:=q1
  cases r1
  exact wpAny_truthy_bool ⟨H1,I1,q⟩
variable {tA tB' : TT} {rest:List Expr}
def tAnd (t u:TT):TT:=fun σ H Q=>t σ H fun c H1=>if c = true then u σ H1 Q else Q false H1
def tOr (t u:TT):TT:=fun σ H Q=>t σ H fun c H1=>if c = true then Q true H1 else u σ H1 Q
def tNot (t:TT):TT:=fun σ H Q=>t σ H fun c H1=>Q (!c) H1
theorem pw_and1 (ha:PT X a tA):PW X (.BoolOp .And [a] pos) tA:=by
  intro wh pins s σ H Q I h
  refine isTrue_and (thn (ha pins s σ H Q I h) fun c s1 e=>?_)
  cases c with
  | true=>exact isTrue_and_nil e
  | false=>exact e
theorem pw_or1 (ha:PT X a tA):PW X (.BoolOp .Or [a] pos) tA:=by
  intro wh pins s σ H Q I h
  refine isTrue_or (thn (ha pins s σ H Q I h) fun c s1 e=>?_)
  cases c with
  | false=>exact isTrue_or_nil e
  | true=>exact e
theorem pw_and (ha:PT X a tA) (hb:PW X (.BoolOp .And (b :: rest) pos) tB'):PW X (.BoolOp .And (a :: b :: rest) pos) (tAnd tA tB'):=by
  intro wh pins s σ H Q I h
  refine isTrue_and (thn (ha pins s σ H _ I h) fun c s1 ⟨H1,I1,q1⟩=>?_)
  cases c with
  | true=>exact hb wh pins s1 σ H1 Q I1 q1
  | false=>exact ⟨H1,I1,q1⟩
theorem pw_or (ha:PT X a tA) (hb:PW X (.BoolOp .Or (b :: rest) pos) tB'):PW X (.BoolOp .Or (a :: b :: rest) pos) (tOr tA tB'):=by
  intro wh pins s σ H Q I h
  refine isTrue_or (thn (ha pins s σ H _ I h) fun c s1 ⟨H1,I1,q1⟩=>?_)
  cases c with
  | true=>exact ⟨H1,I1,q1⟩
  | false=>exact hb wh pins s1 σ H1 Q I1 q1
theorem pt_not (ha:PT X a tA):PT X (.UnaryOp .Not a pos) (tNot tA):=by
  intro pins s σ H Q I h
  exact isTrue_not (ha pins s σ H (fun c H1=>Q (!c) H1) I h)
def tAndV (ta tb:TE):TE:=fun σ H Q=>ta σ H fun x H1=>∃ c,x = .bl c∧if c = true then tb σ H1 Q else Q (.bl false) H1
def tOrV (ta tb:TE):TE:=fun σ H Q=>ta σ H fun x H1=>∃ c,x = .bl c∧if c = true then Q (.bl true) H1 else tb σ H1 Q
def tNotV (ta:TE):TE:=fun σ H Q=>ta σ H fun x H1=>∃ c,x = .bl c∧Q (.bl (!c)) H1
theorem pe_one {op} {t:TE} (h:PE X a t):PE X (.BoolOp op [a] pos) t:=fun pins s σ H Q I hw=>BoolOp_one (h pins s σ H Q I hw)
theorem pe_and (ha:PE X a ta) (hb:PE X (.BoolOp .And (b :: rest) pos) tb):PE X (.BoolOp .And (a :: b :: rest) pos) (tAndV ta tb):=by
  intro pins s σ H Q I h
  refine BoolOp_and (thn (ha pins s σ H _ I h) fun v s1 ⟨x,H1,I1,r1,q1⟩=>?_)
  obtain ⟨c,rfl,q1⟩:=q1
  cases r1
  refine wpAny_truthy_bool ?_
  cases c with
  | true=>exact hb pins s1 σ H1 Q I1 q1
  | false=>exact ⟨.bl false,H1,I1,rfl,q1⟩
theorem pe_not (ha:PE X a ta):PE X (.UnaryOp .Not a pos) (tNotV ta):=by
  intro pins s σ H Q I h
  refine UnaryOp_ (thn (ha pins s σ H _ I h) fun v s1 ⟨x,H1,I1,r1,q1⟩=>?_)
  obtain ⟨c,rfl,q1⟩:=q1
  cases r1
  exact not_of (wpAny_truthy_bool ⟨.bl (!c),H1,I1,rfl,q1⟩)
def tIf (t:TT) (ta tb:TE):TE:=fun σ H Q=>t σ H fun c H1=>if c = true then ta σ H1 Q else tb σ H1 Q
end
end L2
namespace L2
open PySem PySem.Spec PyProof.Rows
def SqL (K:PySem.W.Frag) (H:Hp) (a:Addr) (xs:List V):Prop :=
  Rd H a (.lst xs) ∨
    ∃ (o:Obj) (its:Array Value) (n:Nat),K.lookup a = some o∧o.cls = .type "list" ∧ o.dict = none∧o.data = .seq its n∧its.size ≤ sizeLine∧Vals xs its.toList
def SqT (K:PySem.W.Frag) (H:Hp) (a:Addr) (xs:List V):Prop :=
  Rd H a (.tup xs) ∨
    ∃ (o:Obj) (its:Array Value) (n:Nat),K.lookup a = some o∧o.cls = .type "tuple" ∧ o.data = .seq its n∧its.size ≤ sizeLine∧Vals xs its.toList
def absV:Value→Option V
  | .none=>some .non
  | .bool b=>some (.bl b)
  | .int i _=>some (.int i)
  | .str x _=>some (.str x)
  | .bytes b _=>some (.byt b)
  | .float b _=>some (.flt b)
  | .ref a=>some (.ref a)
  | .type n=>some (.ty n)
  | _=>none
theorem RelV.abs {x:V} {u:Value} (r:RelV x u):absV u = some x:=by
  cases x with
  | non=>cases r; rfl
  | bl _=>cases r; rfl
  | int _=>obtain ⟨t,rfl⟩:=r; rfl
  | str _=>obtain ⟨t,rfl⟩:=r; rfl
  | byt _=>obtain ⟨t,rfl⟩:=r; rfl
  | flt _=>obtain ⟨t,rfl⟩:=r; rfl
  | ref _=>cases r; rfl
  | ty _=>cases r; rfl
theorem RelV.inj {x y:V} {u:Value} (r:RelV x u) (q:RelV y u):x = y:=Option.some.inj (r.abs.symm.trans q.abs)
theorem Vals.inj:∀ {xs ys:List V} {us:List Value},Vals xs us→Vals ys us→xs = ys
  | _,_,_,.nil,.nil=>rfl
  | _,_,_,.cons r t,.cons r' t'=>by rw [r.inj r',Vals.inj t t']
section
variable {X:Cx} {pins:List (Addr × Obj)} {σ:St} {H:Hp} {s:Shared} {a:Addr} {xs ys:List V}
theorem SqL.of {K:PySem.W.Frag} (h:H a = some (.lst xs)):SqL K H a xs:=.inl (.inl h)
theorem SqT.of {K:PySem.W.Frag} (h:H a = some (.tup xs)):SqT K H a xs:=.inl (.inl h)
theorem Inv.list (I:Inv X pins σ H s) (h:SqL X.K H a xs):∃ its:List Value,Vals xs its∧PlainL s.heap a its.toArray∧xs.length ≤ sizeLine:=by
  rcases h with h | ⟨o,its,n,hk,hc,hd,hs,hz,r⟩
  · obtain ⟨z,its,n,r,e⟩:=h.ok I.hok
    exact ⟨its,r,⟨_,n,e,rfl,rfl,rfl⟩,z⟩
  · refine ⟨its.toList,r,⟨o,n,I.kIn a o hk,hc,hd,by simpa using hs⟩,?_⟩
    have e:=r.length
    simp only [Array.length_toList] at e
    omega
theorem Inv.tuple (I:Inv X pins σ H s) (h:SqT X.K H a xs):∃ its:List Value,Vals xs its∧IsTup s.heap a its.toArray∧xs.length ≤ sizeLine:=by
  rcases h with h | ⟨o,its,n,hk,hc,hs,hz,r⟩
  · obtain ⟨z,its,r,p⟩:=h.ok I.hok
    exact ⟨its,r,p,z⟩
  · refine ⟨its.toList,r,⟨o,I.kIn a o hk,hc,n,by simpa using hs⟩,?_⟩
    have e:=r.length
    simp only [Array.length_toList] at e
    omega
theorem Inv.list_inj (I:Inv X pins σ H s) (h:SqL X.K H a xs) (h' : SqL X.K H a ys):xs = ys:=by
  obtain ⟨its,r,⟨o,n,e,_,_,d⟩,_⟩:=I.list h
  obtain ⟨its',r',⟨o',n',e',_,_,d'⟩,_⟩:=I.list h'
  rw [e] at e'; cases e'
  rw [d] at d'
  injection d' with d1 _
  have:its = its':=by simpa using congrArg Array.toList d1
  subst this
  exact r.inj r'
theorem Inv.tuple_inj (I:Inv X pins σ H s) (h:SqT X.K H a xs) (h' : SqT X.K H a ys):xs = ys:=by
  obtain ⟨its,r,⟨o,e,_,n,d⟩,_⟩:=I.tuple h
  obtain ⟨its',r',⟨o',e',_,n',d'⟩,_⟩:=I.tuple h'
  rw [e] at e'; cases e'
  rw [d] at d'
  injection d' with d1 _
  have:its = its':=by simpa using congrArg Array.toList d1
  subst this
  exact r.inj r'
end
abbrev Cx.wish (X:Cx) (E:Value→Shared→Prop):Cx:={ X with xe:=E }
abbrev Cx.nox (X:Cx):Cx:=X.wish fun _ _=>False
theorem Cx.Ok.wish {X:Cx} (ok:X.Ok) (E:Value→Shared→Prop):(X.wish E).Ok :=
  ⟨ok.mod,ok.kind,ok.glob,ok.blt,ok.above,ok.inj,ok.has,ok.cab,ok.hd,ok.frames,ok.stk,ok.exf,ok.bs,ok.bsz,ok.noex,ok.exfs,ok.funs,ok.frf⟩
theorem Cx.Ok.unwish {X:Cx} {E:Value→Shared→Prop} (ok:(X.wish E).Ok):X.Ok :=
  ⟨ok.mod,ok.kind,ok.glob,ok.blt,ok.above,ok.inj,ok.has,ok.cab,ok.hd,ok.frames,ok.stk,ok.exf,ok.bs,ok.bsz,ok.noex,ok.exfs,ok.funs,ok.frf⟩
section
variable {X:Cx} {pins:List (Addr × Obj)} {σ:St} {H:Hp} {s:Shared} {E:Value→Shared→Prop}
theorem Inv.wish (I:Inv X pins σ H s) (E:Value→Shared→Prop):Inv (X.wish E) pins σ H s:=⟨I.ok.wish E,I.os,I.bare,I.base,I.loc,I.cell,I.free,I.freeC,I.pin,I.hok,I.len⟩
theorem Inv.unwish (I:Inv (X.wish E) pins σ H s):Inv X pins σ H s:=⟨I.ok.unwish,I.os,I.bare,I.base,I.loc,I.cell,I.free,I.freeC,I.pin,I.hok,I.len⟩
theorem SP.unwish {D:Ends} {f:Flow} {s' : Shared} (h:SP (X.wish E) pins D f s'):SP X pins D f s':=by
  cases f with
  | next=>obtain ⟨σ',H',I,q⟩:=h; exact ⟨σ',H',I.unwish,q⟩
  | brk=>obtain ⟨σ',H',I,q⟩:=h; exact ⟨σ',H',I.unwish,q⟩
  | cont=>obtain ⟨σ',H',I,q⟩:=h; exact ⟨σ',H',I.unwish,q⟩
  | ret u=>obtain ⟨v,σ',H',I,r,q⟩:=h; exact ⟨v,σ',H',I.unwish,r,q⟩
theorem PSs.nox {st:List Stmt} {t:TS} (h:PSs X.nox st t):PSs X st t:=fun pins s σ H D I hw =>
  wpAny_mono (h pins s σ H D (I.wish _) hw) (fun _ _ q=>q.unwish) fun _ _ z=>False.elim z
end
section
variable {X:Cx} {st:Stmt} {rest:List Stmt} {t u:TS} {e:Expr} {te:TE} {pos:Pos}
def tNext:TS:=fun D σ H=>D.nx σ H
def tSeq (t u:TS):TS:=fun D σ H=>t { D with nx:=u D } σ H
theorem pss_nil:PSs X [] tNext:=fun _ _ σ H _ I h=>wpAny_execs_nil ⟨σ,H,I,h⟩
theorem pss_cons (h1:PS X st t) (h2:PSs X rest u):PSs X (st :: rest) (tSeq t u):=by
  intro pins s σ H D I h
  refine wpAny_execs_cons (thn (h1 pins s σ H { D with nx:=u D } I h) fun f s1 q=>?_)
  cases f with
  | next =>
    obtain ⟨σ',H',I',q⟩:=q
    exact h2 pins s1 σ' H' D I' q
  | ret v=>exact q
  | brk=>exact q
  | cont=>exact q
theorem pss_one (h1:PS X st t):PSs X [st] t:=by
  intro pins s σ H D I h
  refine wpAny_execs_cons (thn (h1 pins s σ H D I h) fun f s1 q=>?_)
  cases f with
  | next=>exact wpAny_execs_nil q
  | ret v=>exact q
  | brk=>exact q
  | cont=>exact q
def tBreak:TS:=fun D σ H=>D.bk σ H
def tCont:TS:=fun D σ H=>D.ct σ H
theorem Inv.quiet {pins:List (Addr × Obj)} {σ:St} {H:Hp} {s:Shared} (I:Inv X pins σ H s):interactive X.env = false:=by simp [interactive,I.ok.kind]
def tDrop (te:TE):TS:=fun D σ H=>te σ H fun _ H1=>D.nx σ H1
theorem ps_expr (he:PE X e te) (hs:swapsWith e none pos.line X.env = pure false:=by rfl):PS X (.Expr e pos) (tDrop te):=by
  intro pins s σ H D I h
  exact wpAny_Expr_any (thn (he pins s σ H _ I h) fun v s1 ⟨x,H1,I1,r1,q1⟩=>⟨σ,H1,I1,q1⟩) I.quiet hs
def tRet (te:TE):TS:=fun D σ H=>te σ H D.rt
theorem ps_ret (he:PE X e te):PS X (.Return (some e) pos) (tRet te):=by
  intro pins s σ H D I h
  exact wpAny_Return_some (thn (he pins s σ H _ I h) fun v s1 ⟨x,H1,I1,r1,q1⟩=>⟨x,σ,H1,I1,r1,q1⟩)
def tRetN:TS:=fun D _ H=>D.rt .non H
def tIfS (c:TT) (t u:TS):TS:=fun D σ H=>c σ H fun b H1=>if b = true then t D σ H1 else u D σ H1
theorem ps_if {c:Expr} {a b:List Stmt} {tc:TT} (hc:PT X c tc) (ha:PSs X a t) (hb:PSs X b u):PS X (.If c a b pos) (tIfS tc t u):=by
  intro pins s σ H D I h
  refine wpAny_If (thn (hc pins s σ H _ I h) fun d s1 ⟨H1,I1,q1⟩=>?_)
  cases d with
  | true=>exact ha pins s1 σ H1 D I1 q1
  | false=>exact hb pins s1 σ H1 D I1 q1
def tNever:TS:=fun _ _ _=>False
theorem ps_never:PS X st tNever:=fun _ _ _ _ _ _ h=>h.elim
end
abbrev TG:=V→St→Hp→(St→Hp→Prop)→Prop
abbrev TGs:=List V→St→Hp→(St→Hp→Prop)→Prop
def PG (X:Cx) (target:Expr) (t:TG):Prop :=
  ∀ (pins:List (Addr × Obj)) (s:Shared) (σ:St) (H:Hp) (v:V) (u:Value) (Q:St→Hp→Prop),Inv X pins σ H s→RelV v u→t v σ H Q →
    wpAny (model X.prog X.w) X.A (assign target X.env u) (fun _ s'=>∃ σ' H',Inv X pins σ' H' s'∧Q σ' H') X.xe s
def PGs (X:Cx) (ts:List Expr) (t:TGs):Prop :=
  ∀ (pins:List (Addr × Obj)) (s:Shared) (σ:St) (H:Hp) (vs:List V) (us:List Value) (Q:St→Hp→Prop),Inv X pins σ H s→Vals vs us→t vs σ H Q →
    wpAny (model X.prog X.w) X.A (assignInOrder ((assignEach ts X.env).map (·.2)) us) (fun _ s'=>∃ σ' H',Inv X pins σ' H' s'∧Q σ' H') X.xe s
abbrev TSet:=V→V→V→Hp→(Hp→Prop)→Prop
def PSet (X:Cx) (t:TSet):Prop :=
  ∀ (pins:List (Addr × Obj)) (s:Shared) (σ:St) (H:Hp) (o i v:V) (ov iv u:Value) (Q:Hp→Prop),Inv X pins σ H s→RelV o ov→RelV i iv→RelV v u→t o i v H Q →
    wpAny (model X.prog X.w) X.A (setItem ov iv u) (fun _ s'=>∃ H',Inv X pins σ H' s'∧Q H') X.xe s
abbrev TIp:=V→V→Hp→VK→Prop
def PIp (X:Cx) (op:Operator) (t:TIp):Prop :=
  ∀ (pins:List (Addr × Obj)) (s:Shared) (σ:St) (H:Hp) (x y:V) (v u:Value) (Q:VK),Inv X pins σ H s→RelV x v→RelV y u→t x y H Q →
    wpAny (model X.prog X.w) X.A (inplaceOp op v u) (EP X pins σ Q) X.xe s
section
variable {X:Cx} {pos:Pos}
def gName (i:Nat):TG:=fun v σ H Q=>Q (σ.set i (some v)) H
theorem pg_name {i:Nat} {x:Str} (hN:X.N.Nodup) (hi:X.N[i]? = some x) (hx:Loc X.env.scope x) (hf:X.fn x = true∨X.env.scope.names.lookup x = some .local:=by first | exact .inl rfl | exact .inr rfl | assumption):PG X (.Name x pos) (gName i):=by
  intro pins s σ H v u Q I r h
  exact wpAny_assign_Name (store_ok I hN hi hx r (fun s' I'=>⟨_,H,I',h⟩) hf)
def gNil:TGs:=fun vs σ H Q=>vs = []∧Q σ H
def gCons (t:TG) (u:TGs):TGs:=fun vs σ H Q=>∃ v r,vs = v :: r∧t v σ H fun σ' H'=>u r σ' H' Q
theorem pgs_nil:PGs X [] gNil:=by
  intro pins s σ H vs us Q I r h
  obtain ⟨e,h⟩:=h
  subst e
  cases r
  exact assignInOrder_nil ⟨σ,H,I,h⟩
theorem pgs_cons {e:Expr} {es:List Expr} {t:TG} {u:TGs} (h1:PG X e t) (h2:PGs X es u)
    (hs:(assignEach (e :: es) X.env).map (·.2) = assign e X.env :: (assignEach es X.env).map (·.2):=by rfl):PGs X (e :: es) (gCons t u):=by
  intro pins s σ H vs us Q I r h
  obtain ⟨v,vr,e1,h⟩:=h
  subst e1
  cases r with
  | cons r rr =>
    rw [hs]
    refine assignInOrder_cons (thn (h1 pins s σ H _ _ _ I r h) fun _ s1 ⟨σ1,H1,I1,q1⟩=>?_)
    exact h2 pins s1 σ1 H1 _ _ Q I1 rr q1
def gTup (K:PySem.W.Frag) (n:Nat) (t:TGs):TG:=fun v σ H Q=>∃ a xs,v = .ref a∧SqT K H a xs∧xs.length = n∧t xs σ H Q
theorem pg_tup {es:List Expr} {k:Nat} {t:TGs} {n:Nat} (hc:X.calm = true) (h:PGs X es t)
    (hn:(assignEach es X.env).length = n:=by rfl) (hst:(assignEach es X.env).findIdx? (·.1) = none:=by rfl):PG X (.Tuple es k pos) (gTup X.K n t):=by
  intro pins s σ H v u Q I r hw
  obtain ⟨a,xs,e1,hq,hl,hw⟩:=hw
  subst e1
  cases r
  obtain ⟨its,rv,ht,hz⟩:=I.tuple hq
  refine assign_Tuple_tuple (I.ok.hd hc) ht (by simp [hn,← hl,rv.length]) hst fun h' hx=>?_
  have I1:Inv X pins σ H { s with heap:=h' }:=I.kept (t':=s.toks) fun b o e=>hx b o (Nat.ne_of_lt (Heap.lt_size e)) e
  exact h pins _ σ H xs _ Q I1 (by simpa using rv) hw
def gSub (to ti:TE) (t:TSet):TG:=fun v σ H Q=>to σ H fun o H1=>ti σ H1 fun i H2=>t o i v H2 fun H3=>Q σ H3
def tAsg (te:TE) (g:TG):TS:=fun D σ H=>te σ H fun x H1=>g x σ H1 D.nx
theorem ps_asg {tg e:Expr} {te:TE} {g:TG} (he:PE X e te) (hg:PG X tg g) (hs:swapsWithSole [tg] e pos.line X.env = pure false:=by rfl) (hw:swappedStores [tg] e X.env = pure none:=by rfl)
    (h1:(assignEach [tg] X.env).map (·.2) = [assign tg X.env]:=by rfl):PS X (.Assign [tg] e pos) (tAsg te g):=by
  intro pins s σ H D I h
  refine wpAny_Assign_stores (thn (he pins s σ H _ I h) fun v s1 ⟨x,H1,I1,r1,q1⟩=>?_) hs hw
  rw [h1]
  exact thn (hg pins s1 σ H1 x v _ I1 r1 q1) fun _ s2 q=>q
theorem ps_set {i:Nat} {x:Str} {e:Expr} {te:TE} {pos' : Pos} (hN:X.N.Nodup) (hi:X.N[i]? = some x) (hx:Loc X.env.scope x) (he:PE X e te) (hs:swapsWith e (some (.Name x pos')) pos.line X.env = pure false:=by rfl) (hf:X.fn x = true∨X.env.scope.names.lookup x = some .local:=by first | exact .inl rfl | exact .inr rfl | assumption) :
    PS X (.Assign [.Name x pos'] e pos) (tAsg te (gName i)):=by
  intro pins s σ H D I h
  refine wpAny_Assign_Name (thn (he pins s σ H _ I h) fun v s1 ⟨y,H1,I1,r1,q1⟩=>?_) hs
  exact store_ok I1 hN hi hx r1 (fun s2 I2=>⟨_,H1,I2,q1⟩) hf
def tPar (i j:Nat) (ta:TA):TS:=fun D σ H=>ta σ H fun vs H1=>∃ v w,vs = [v,w]∧D.nx ((σ.set i (some v)).set j (some w)) H1
def tAug (i:Nat) (te:TE) (ti:TIp):TS:=fun D σ H=>∃ x,σ[i]? = some (some x)∧te σ H fun y H1=>ti x y H1 fun z H2=>D.nx (σ.set i (some z)) H2
def tAugS (to ti te:TE) (tget:V→V→Hp→VK→Prop) (tip:TIp) (tset:TSet):TS:=fun D σ H=>to σ H fun o H1=>ti σ H1 fun i H2=>tget o i H2 fun x H3=>te σ H3 fun y H4=>tip x y H4 fun z H5=>tset o i z H5 fun H6=>D.nx σ H6
def PGet (X:Cx) (t:V→V→Hp→VK→Prop):Prop :=
  ∀ (pins:List (Addr × Obj)) (s:Shared) (σ:St) (H:Hp) (o i:V) (ov iv:Value) (Q:VK),Inv X pins σ H s→RelV o ov→RelV i iv→t o i H Q →
    wpAny (model X.prog X.w) X.A (getItem ov iv) (EP X pins σ Q) X.xe s
def ipI (f:Int→Int→Int):TIp:=fun x y H Q=>∃ i j,x = .int i∧y = .int j∧Q (.int (f i j)) H
end
section
variable {X:Cx} {pos:Pos}
def tWhile (c:TT) (tb:TS):TS:=fun D σ H=>∃ W:Nat→St→Hp→Prop,(∃ m,W m σ H)∧∀ m σ H,W m σ H →
  c σ H fun b H1=>if b = true then ∃ N:St→Hp→Prop,(∀ σ' H',N σ' H'→∃ m',m' < m∧W m' σ' H')∧tb { D with nx:=N,ct:=N,bk:=D.nx } σ H1 else D.nx σ H1
theorem ps_while {c:Expr} {body:List Stmt} {tc:TT} {tb:TS} (hp:PassesOwn (model X.prog X.w) X.A X.env X.xe) (hc:PT X c tc) (hb:PSs X body tb):PS X (.While c body [] pos) (tWhile tc tb):=by
  intro pins s σ H D I h
  obtain ⟨W,⟨m0,w0⟩,turn⟩:=h
  refine wpAny_While (codeAny_whileLoop (fun n s'=>∃ σ' H',Inv X pins σ' H' s'∧W n σ' H') ?_ m0 ⟨σ,H,I,w0⟩)
  rintro n s1 ⟨σ1,H1,I1,w1⟩
  refine wpAny_passesOwn hp (thn (hc pins s1 σ1 H1 _ I1 (turn n σ1 H1 w1)) fun b s2 ⟨H2,I2,q2⟩=>?_)
  cases b with
  | true =>
    obtain ⟨N,hN,q2⟩:=q2
    rw [if_pos rfl]
    refine wpAny_passesOwn hp (thn (hb pins s2 σ1 H2 _ I2 q2) fun f s3 q3=>?_)
    cases f with
    | next =>
      obtain ⟨σ3,H3,I3,n3⟩:=q3
      obtain ⟨m',hm,w3⟩:=hN σ3 H3 n3
      exact ⟨m',hm,σ3,H3,I3,w3⟩
    | cont =>
      obtain ⟨σ3,H3,I3,n3⟩:=q3
      obtain ⟨m',hm,w3⟩:=hN σ3 H3 n3
      exact ⟨m',hm,σ3,H3,I3,w3⟩
    | brk=>exact q3
    | ret v=>exact q3
  | false =>
    rw [if_neg Bool.false_ne_true]
    exact wpAny_execs_nil ⟨σ1,H2,I2,q2⟩
end
structure It where
  go:Nat→Hp→Prop
  yld:Nat→Hp→V→Hp→Prop
  stop:Nat→Hp→Prop
def FpOk (X:Cx) (pins:List (Addr × Obj)) (H:Hp) (b:Addr):Prop :=
  H b = none∧b ≠ X.env.locals∧b ∉ X.fs∧(b ∈ X.ex∨X.s₀.heap.objs.size ≤ b)∧(∀ x c,X.env.cells.lookup x = some c→c ≠ b)∧∀ p ∈ X.pn ++ pins,p.1 ≠ b
theorem Inv.fpOk {X:Cx} {pins:List (Addr × Obj)} {σ:St} {H H' : Hp} {s:Shared} {b:Addr} (I:Inv X pins σ H s) (hb:s.heap.objs.size ≤ b) (hn:H' b = none):FpOk X pins H' b:=by
  refine ⟨hn,Nat.ne_of_gt (Nat.lt_of_lt_of_le I.lt hb),I.nofs hb,.inr (Nat.le_trans I.sz hb),fun x c e z=>?_,fun p hp z=>?_⟩
  · obtain ⟨v,q⟩:=I.cell x c e
    exact absurd (Nat.lt_of_lt_of_le q.lt (by rw [z]; exact hb)) (Nat.lt_irrefl _)
  · exact absurd (Nat.lt_of_lt_of_le (Heap.lt_size (I.pin p hp).1) (by rw [z]; exact hb)) (Nat.lt_irrefl _)
structure Turn (P:Program) (w:World) (K:PySem.W.Frag) (tg:Expr) (J:It) (fp:List Addr) (it:Addr) (tn:Nat→Heap→Prop):Prop where
  mem:it ∈ fp
  obj:∀ i h,tn i h→∀ b ∈ fp,∃ o,h.get? b = some o∧∀ v,o.data ≠ .cell v
  keep:∀ i h h',tn i h→(∀ b ∈ fp,∀ o,h.get? b = some o→h'.get? b = some o)→tn i h'
  item:∀ (X:Cx),X.prog = P→X.w = w→X.K = K→X.calm = true→∀ (i:Nat) (pins:List (Addr × Obj)) (s:Shared) (σ:St) (H:Hp) (E:Value→Shared→Prop),Inv X pins σ H s→(∀ b ∈ fp,FpOk X pins H b)→tn i s.heap→J.go i H →
    wpAny (model P w) X.A (pyNext (.ref it)) (fun r s1=>∃ u,r = some u ∧
      wpAny (model P w) X.A (letOwnedTupleGo tg (.ref it) u) (fun _ s2=>∃ x H',Inv X pins σ H' s2∧RelV x u∧J.yld i H x H'∧tn (i + 1) s2.heap∧∀ b ∈ fp,H' b = none) E s1) E s
  done:∀ (X:Cx),X.prog = P→X.w = w→X.K = K→X.calm = true→∀ (i:Nat) (pins:List (Addr × Obj)) (s:Shared) (σ:St) (H:Hp) (E:Value→Shared→Prop),Inv X pins σ H s→(∀ b ∈ fp,FpOk X pins H b)→tn i s.heap→J.stop i H →
    wpAny (model P w) X.A (pyNext (.ref it)) (fun r s1=>r = none∧Inv X pins σ H s1) E s
  self:∀ (A:Around) (i:Nat) (s:Shared) (Q:Value→Shared→Prop) (E:Value→Shared→Prop),tn i s.heap→Q (.ref it) s→wpAny (model P w) A (pyIter (.ref it)) Q E s
abbrev TI:=St→Hp→(It→Hp→Prop)→Prop
def PIE (X:Cx) (pins:List (Addr × Obj)) (σ:St) (tg:Expr) (R:It→Hp→Prop) (itv:Value) (s2:Shared):Prop :=
  ∃ (it:Addr) (fp:List Addr) (tn:Nat→Heap→Prop) (J:It) (H' : Hp),itv = .ref it∧Inv X pins σ H' s2∧Turn X.prog X.w X.K tg J fp it tn∧tn 0 s2.heap∧(∀ b ∈ fp,FpOk X pins H' b)∧R J H'
def PI (X:Cx) (tg iter:Expr) (wi:TI):Prop :=
  ∀ (pins:List (Addr × Obj)) (s:Shared) (σ:St) (H:Hp) (R:It→Hp→Prop),Inv X pins σ H s→wi σ H R →
    wpAny (model X.prog X.w) X.A (eval iter X.env) (fun v s1=>wpAny (model X.prog X.w) X.A (pyIter v) (PIE X pins σ tg R) X.xe s1) X.xe s
theorem go_of {M:Model} {A:Around} {E:Value→Shared→Prop} {s:Shared} {tg:Expr} {it:Addr} {u:Value} {o:Obj} {n:String} {vs:Array Value} {Q:Unit→Shared→Prop} (ho:s.heap.get? it = some o) (hc:o.cls = .type n) (hd:o.data = .fields vs)
    (hn:["enumerate", "zip", "dict_itemiterator", "dict_reverseitemiterator", "odict_iterator", "itertools.zip_longest", "itertools.pairwise"].contains n = false) (hQ:Q () s):wpAny M A (letOwnedTupleGo tg (.ref it) u) Q E s:=by
  unfold letOwnedTupleGo
  cases tg <;> first
    | exact wpAny_pure hQ
    | (cases u <;> first
        | exact wpAny_pure hQ
        | (refine wpAny_bind (wpAny_load ho ?_)
           rw [hc,hd]
           show wpAny M A (if (["enumerate", "zip", "dict_itemiterator", "dict_reverseitemiterator", "odict_iterator", "itertools.zip_longest", "itertools.pairwise"].contains n && vs[0]? == some (rawInt _)) = true then _ else _) Q E s
           rw [if_neg (by intro h; rw [hn,Bool.false_and] at h; cases h)]
           exact wpAny_pure hQ))
def Itl (K:PySem.W.Frag) (a:Addr):It :=
  ⟨fun i H=>∃ xs x,SqL K H a xs∧xs[i]? = some x,fun i H x H'=>H' = H∧∀ xs,SqL K H a xs→xs[i]? = some x,fun i H=>∃ xs,SqL K H a xs∧xs.length ≤ i⟩
def Itt (K:PySem.W.Frag) (a:Addr):It :=
  ⟨fun i H=>∃ xs x,SqT K H a xs∧xs[i]? = some x,fun i H x H'=>H' = H∧∀ xs,SqT K H a xs→xs[i]? = some x,fun i H=>∃ xs,SqT K H a xs∧xs.length ≤ i⟩
def Itr (lo:Int) (n:Nat):It:=⟨fun i _=>i < n,fun i H x H'=>H' = H∧x = .int (lo + i),fun i _=>n ≤ i⟩
theorem turn_list {P:Program} {w:World} {K:PySem.W.Frag} {tg:Expr} (a it:Addr):Turn P w K tg (Itl K a) [it] it (fun i h=>h.IsListIter it a i) where
  mem:=by simp
  obj:=fun i h st b hb=>by
    have e:b = it:=by simpa using hb
    subst e
    obtain ⟨o,e,c,d⟩:=st
    exact ⟨o,e,fun v z=>by rw [d] at z; cases z⟩
  keep:=fun i h h' st k=>st.at fun o e=>k it (by simp) o e
  item:=by
    intro X hP hw hK hc i pins s σ H E I hf st hg
    subst hP hw hK
    obtain ⟨xs,x,hq,hx⟩:=hg
    obtain ⟨its,rv,p,hz⟩:=I.list hq
    obtain ⟨u,hu,ru⟩:=rv.get hx
    obtain ⟨f0,f1,f2,f3,f4,f5⟩:=hf it (by simp)
    refine wpAny_pyNext_list_item st p.isList (x:=u) (by simpa using hu) fun h' st' sb=>?_
    have I1:Inv X pins σ H { s with heap:=h' }:=I.turned (t':=s.toks) (fun b o hb e=>(sb.2 b hb).trans e) f0 f1 f3 f4 f5
    obtain ⟨o,e,c,d⟩:=id st'
    exact ⟨u,rfl,go_of (s:={ s with heap:=h' }) e c d (by decide) ⟨x,H,I1,ru,⟨rfl,fun ys hy=>by rw [I.list_inj hy hq]; exact hx⟩,st',fun b hb=>(hf b hb).1⟩⟩
  done:=by
    intro X hP hw hK hc i pins s σ H E I hf st hg
    subst hP hw hK
    obtain ⟨xs,hq,hx⟩:=hg
    obtain ⟨its,rv,p,hz⟩:=I.list hq
    obtain ⟨f0,f1,f2,f3,f4,f5⟩:=hf it (by simp)
    have hl:=rv.length
    exact wpAny_pyNext_list_end (I.ok.hd hc) st p.isList (by simp; omega) fun h' eb=>⟨rfl,I.turned (t':=s.toks) (fun b o hb e=>eb b o hb e) f0 f1 f3 f4 f5⟩
  self:=fun _ _ _ _ _ st h=>wpAny_pyIter_listiter st h
theorem turn_range {P:Program} {w:World} {K:PySem.W.Frag} {tg:Expr} (it:Addr) (lo:Int) (n:Nat):Turn P w K tg (Itr lo n) [it] it (fun i h=>IsRangeIter h it (lo + (i:Nat) * 1) ((n:Int) - (i:Nat)) 1) where
  mem:=by simp
  obj:=fun i h st b hb=>by
    have e:b = it:=by simpa using hb
    subst e
    exact ⟨_,st,fun v z=>by
      have z' : Data.fields _ = Data.cell v:=z
      cases z'⟩
  keep:=fun i h h' st k=>k it (by simp) _ st
  item:=by
    intro X hP hw hK hc i pins s σ H E I hf st hg
    subst hP hw hK
    obtain ⟨f0,f1,f2,f3,f4,f5⟩:=hf it (by simp)
    have W:=Walks.range (prog:=X.prog) (w:=X.w) (I.ok.hd hc) it lo 1 n
    refine W.item i s _ _ hg st fun v h' tk hv st' kk=>?_
    obtain ⟨t,rfl⟩:=hv
    have I1:Inv X pins σ H { s with heap:=h',toks:=tk }:=I.turned (fun b o hb e=>kk b o (by simpa using hb) e) f0 f1 f3 f4 f5
    refine ⟨_,rfl,go_of (s:={ s with heap:=h',toks:=tk }) (n := "range_iterator") st' rfl rfl (by decide) ⟨.int (lo + i),H,I1,⟨t,?_⟩,⟨rfl,rfl⟩,st',fun b hb=>(hf b hb).1⟩⟩
    rw [Int.mul_one]
  done:=by
    intro X hP hw hK hc i pins s σ H E I hf st hg
    subst hP hw hK
    obtain ⟨f0,f1,f2,f3,f4,f5⟩:=hf it (by simp)
    exact wpAny_pyNext_range_end (I.ok.hd hc) st (by have:n ≤ i:=hg; omega) fun h' eb=>⟨rfl,I.turned (t':=s.toks) (fun b o hb e=>eb b o hb e) f0 f1 f3 f4 f5⟩
  self:=fun _ _ _ _ _ st h=>wpAny_pyIter_rangeiter st h
end L2
namespace L2
open PySem PySem.Spec PyProof.Rows
section
variable {X:Cx} {tg:Expr}
def iList (K:PySem.W.Frag) (tl:TE):TI:=fun σ H R=>tl σ H fun x H1=>∃ a,x = .ref a∧(∃ xs,SqL K H1 a xs)∧R (Itl K a) H1
def iTup (K:PySem.W.Frag) (tl:TE):TI:=fun σ H R=>tl σ H fun x H1=>∃ a,x = .ref a∧(∃ xs,SqT K H1 a xs)∧R (Itt K a) H1
theorem pi_list {l:Expr} {tl:TE} (hl:PE X l tl):PI X tg l (iList X.K tl):=by
  intro pins s σ H R I h
  refine thn (hl pins s σ H _ I h) fun v s1 ⟨x,H1,I1,r1,q1⟩=>?_
  obtain ⟨a,e,⟨xs,hq⟩,q⟩:=q1
  subst e
  cases r1
  obtain ⟨its,rv,p,hz⟩:=I1.list hq
  refine wpAny_pyIter_list p.isList ?_
  refine ⟨s1.heap.objs.size,[s1.heap.objs.size],_,_,H1,rfl,I1.kept (t':=s1.toks) fun b o e=>Heap.get?_push_of_some _ e,turn_list a _,⟨_,Heap.get?_push_size _ rfl,rfl,rfl⟩,fun b hb=>?_,q⟩
  have e:b = s1.heap.objs.size:=by simpa using hb
  subst e
  exact I1.fpOk (Nat.le_refl _) (I1.hok.fresh (Nat.le_refl _))
theorem range_it {pins:List (Addr × Obj)} {σ:St} {H:Hp} {s:Shared} {R:It→Hp→Prop} {E:Value→Shared→Prop} {lo hi:Int} {t u v:Tok} {tk:Nat} (I:Inv X pins σ H s) (h1 : -(2 ^ 62) ≤ lo) (h2:lo < 2 ^ 62) (h3 : -(2 ^ 62) ≤ hi) (h4:hi < 2 ^ 62)
    (q:R (Itr lo (hi - lo).toNat) H):wpAny (model X.prog X.w) X.A (pyIter (.ref s.heap.objs.size)) (PIE X pins σ tg R) E { s with heap:=s.heap.push { cls:=.type "range",data:=.fields #[.int lo t,.int hi u,.int 1 v] },toks:=tk }:=by
  refine wpAny_pyIter_range (IsRange.new ..) (small_one h1 h2 h3 h4) ?_
  have I1:Inv X pins σ H { s with heap:=s.heap.push { cls:=.type "range",data:=.fields #[.int lo t,.int hi u,.int 1 v] },toks:=tk }:=I.kept fun b o e=>Heap.get?_push_of_some _ e
  refine ⟨(s.heap.push { cls:=.type "range",data:=.fields #[.int lo t,.int hi u,.int 1 v] }).objs.size,[(s.heap.push { cls:=.type "range",data:=.fields #[.int lo t,.int hi u,.int 1 v] }).objs.size],_,_,H,rfl,
    I1.kept (t':=tk) fun b o e=>Heap.get?_push_of_some _ e,turn_range _ lo (hi - lo).toNat,?_,fun b hb=>?_,q⟩
  · have e1:lo + ((0:Nat):Int) * 1 = lo:=by simp
    have e2:(((hi - lo).toNat:Nat):Int) - ((0:Nat):Int) = Builtin.Range.rangeSize lo hi 1:=by rw [rangeSize_one]; split <;> omega
    show IsRangeIter _ _ (lo + ((0:Nat):Int) * 1) ((((hi - lo).toNat:Nat):Int) - ((0:Nat):Int)) 1
    rw [e1,e2]
    exact Heap.get?_push_size _ rfl
  · have e:b = (s.heap.push { cls:=.type "range",data:=.fields #[.int lo t,.int hi u,.int 1 v] }).objs.size:=by simpa using hb
    subst e
    exact I1.fpOk (Nat.le_refl _) (I1.hok.fresh (Nat.le_refl _))
def iRng1 (ta:TA):TI:=fun σ H R=>ta σ H fun vs H1=>∃ j:Int,vs = [.int j]∧-(2 ^ 62) ≤ j∧j < 2 ^ 62∧R (Itr 0 j.toNat) H1
def iRng2 (ta:TA):TI:=fun σ H R=>ta σ H fun vs H1=>∃ i j:Int,vs = [.int i,.int j]∧(-(2 ^ 62) ≤ i∧i < 2 ^ 62∧-(2 ^ 62) ≤ j∧j < 2 ^ 62)∧R (Itr i (j - i).toNat) H1
theorem pi_range1 {a:Expr} {ta:TA} {p pos:Pos} (hg:Gl X "range") (hm:X.mg "range" = none) (ha:PA X [a] ta) (hs:starEach [a] X.env = [(false,eval a X.env)]:=by rfl):PI X tg (.Call (.Name "range" p) [a] [] pos) (iRng1 ta):=by
  intro pins s σ H R I h
  refine Call_ (ld_blt I hg hm boot_range (PyProof.Rows.callWith_type1 (thn (ha pos pins s σ H _ I h) fun us s1 ⟨vs,H1,I1,r1,q1⟩=>?_) hs rfl))
  obtain ⟨j,e,q1,q2,q⟩:=q1
  subst e
  cases r1 with
  | cons r rr =>
    cases rr
    obtain ⟨t,rfl⟩:=r
    exact call_range_1 (range_it I1 (by omega) (by omega) q1 q2 (by simpa using q))
theorem pi_range2 {a b:Expr} {ta:TA} {p pos:Pos} (hg:Gl X "range") (hm:X.mg "range" = none) (ha:PA X [a,b] ta) (hs:starEach [a,b] X.env = [(false,eval a X.env),(false,eval b X.env)]:=by rfl) (hs2:starEach [b] X.env = [(false,eval b X.env)]:=by rfl) :
    PI X tg (.Call (.Name "range" p) [a,b] [] pos) (iRng2 ta):=by
  intro pins s σ H R I h
  refine Call_ (ld_blt I hg hm boot_range (PyProof.Rows.callWith_type1 (thn (ha pos pins s σ H _ I h) fun us s1 ⟨vs,H1,I1,r1,q1⟩=>?_) (by rw [hs,hs2]) (by rw [hs2]; rfl)))
  obtain ⟨i,j,e,⟨q1,q2,q3,q4⟩,q⟩:=q1
  subst e
  cases r1 with
  | cons r rr =>
    cases rr with
    | cons r' rr =>
      cases rr
      obtain ⟨t,rfl⟩:=r
      obtain ⟨t',rfl⟩:=r'
      exact call_range_2 (range_it I1 q1 q2 q3 q4 q)
def tFor (wi:TI) (g:TG) (tb:TS):TS:=fun D σ H=>wi σ H fun J H1=>∃ W:Nat→Nat→St→Hp→Prop,(∃ m,W 0 m σ H1)∧∀ i m σ H,W i m σ H →
  (J.stop i H∧D.nx σ H)∨(J.go i H∧∃ N:St→Hp→Prop,(∀ σ' H',N σ' H'→∃ m',m' < m∧W (i + 1) m' σ' H')∧∀ x H',J.yld i H x H'→g x σ H' fun σ2 H2=>tb { D with nx:=N,ct:=N,bk:=D.nx } σ2 H2)
def pinsAt (fp:List Addr) (h:Heap):List (Addr × Obj):=fp.filterMap fun b=>(h.get? b).map fun o=>(b,o)
theorem mem_pinsAt {fp:List Addr} {h:Heap} {b:Addr} {o:Obj} (hb:b ∈ fp) (e:h.get? b = some o):(b,o) ∈ pinsAt fp h:=List.mem_filterMap.mpr ⟨b,hb,by rw [e]; rfl⟩
theorem of_pinsAt {fp:List Addr} {h:Heap} {p:Addr × Obj} (hp:p ∈ pinsAt fp h):p.1 ∈ fp∧h.get? p.1 = some p.2:=by
  obtain ⟨b,hb,e⟩:=List.mem_filterMap.mp hp
  cases q:h.get? b with
  | none=>rw [q] at e; cases e
  | some o =>
    rw [q] at e
    have e' : (b,o) = p:=Option.some.inj e
    subst e'
    exact ⟨hb,q⟩
theorem Inv.pinned {pins:List (Addr × Obj)} {σ:St} {H:Hp} {s:Shared} {fp:List Addr} (I:Inv X pins σ H s) (hf:∀ b ∈ fp,FpOk X pins H b) (ho:∀ b ∈ fp,∃ o,s.heap.get? b = some o∧∀ v,o.data ≠ .cell v):Inv X (pins ++ pinsAt fp s.heap) σ H s :=
  I.pins_of fun p hp=>(List.mem_append.mp hp).elim (fun z=>I.pin p (List.mem_append_right _ z)) fun z=>by
    obtain ⟨hb,e⟩:=of_pinsAt z
    obtain ⟨f0,f1,f2,_⟩:=hf p.1 hb
    obtain ⟨o,e',d⟩:=ho p.1 hb
    rw [e] at e'; cases e'
    exact ⟨e,f0,f1,f2,d⟩
theorem Inv.unpinned {pins pl:List (Addr × Obj)} {σ:St} {H:Hp} {s:Shared} (I:Inv X (pins ++ pl) σ H s):Inv X pins σ H s:=I.pins_of fun p hp=>I.pin p (List.mem_append_right _ (List.mem_append_left _ hp))
theorem ps_for {iter:Expr} {body:List Stmt} {wi:TI} {g:TG} {tb:TS} {pos:Pos} (hp:PassesOwn (model X.prog X.w) X.A X.env X.xe) (hc:X.calm = true) (hi:PI X tg iter wi) (hg:PG X tg g) (hb:PSs X body tb)
    (hs:∀ x,foldedSetIterable iter X.env x = pure x:=by intro _; rfl):PS X (.For tg iter body [] pos) (tFor wi g tb):=by
  intro pins s σ H D I h
  refine wpAny_For (thn (hi pins s σ H _ I h) fun v s1 h1=>thn h1 fun itv s2 h2=>?_) hs
  obtain ⟨it,fp,tn,J,H2,e,I2,T,st2,f2,W,⟨m0,w0⟩,turn⟩:=h2
  subst e
  have stat:∀ {H' : Hp},(∀ b ∈ fp,H' b = none)→∀ b ∈ fp,FpOk X pins H' b:=fun hn b hb=>⟨hn b hb,(f2 b hb).2⟩
  refine codeAny_forLoop_any (fun n s'=>∃ i σ' H',Inv X pins σ' H' s'∧tn i s'.heap∧(∀ b ∈ fp,H' b = none)∧W i n σ' H') ?_ m0 ⟨0,σ,H2,I2,st2,fun b hb=>(f2 b hb).1,w0⟩
  rintro n s3 ⟨i,σ3,H3,I3,st3,fr3,w3⟩
  rcases turn i n σ3 H3 w3 with ⟨stop,qn⟩ | ⟨go,N,hN,step⟩
  · refine wpAny_passesOwn hp (thn (T.done X rfl rfl rfl hc i pins s3 σ3 H3 X.xe I3 (stat fr3) st3 stop) fun r s4 ⟨hr,I4⟩=>?_)
    subst hr
    exact wpAny_execs_nil ⟨σ3,H3,I4,qn⟩
  · refine wpAny_passesOwn hp (thn (T.item X rfl rfl rfl hc i pins s3 σ3 H3 X.xe I3 (stat fr3) st3 go) fun r s4 ⟨u,hr,h4⟩=>?_)
    subst hr
    refine wpAny_passesOwn hp (thn h4 fun _ s5 ⟨x,H5,I5,r5,y5,st5,fr5⟩=>?_)
    have I5':=I5.pinned (stat fr5) (T.obj _ _ st5)
    refine wpAny_passesOwn hp (thn (hg _ s5 σ3 H5 x u _ I5' r5 (step x H5 y5)) fun _ s6 ⟨σ6,H6,I6,q6⟩=>?_)
    refine wpAny_passesOwn hp (thn (hb _ s6 σ6 H6 _ I6 q6) fun f s7 q7=>?_)
    have again:∀ {σ7:St} {H7:Hp},Inv X (pins ++ pinsAt fp s5.heap) σ7 H7 s7→N σ7 H7→∃ m,m < n∧∃ i σ' H',Inv X pins σ' H' s7∧tn i s7.heap∧(∀ b ∈ fp,H' b = none)∧W i m σ' H':=fun {σ7 H7} I7 n7=>by
      obtain ⟨m',hm,w7⟩:=hN σ7 H7 n7
      refine ⟨m',hm,i + 1,σ7,H7,I7.unpinned,T.keep _ _ _ st5 fun b hb o e=>(I7.pin (b,o) (List.mem_append_right _ (List.mem_append_right _ (mem_pinsAt hb e)))).1,fun b hb=>?_,w7⟩
      obtain ⟨o,e,d⟩:=T.obj _ _ st5 b hb
      exact (I7.pin (b,o) (List.mem_append_right _ (List.mem_append_right _ (mem_pinsAt hb e)))).2.1
    cases f with
    | next=>obtain ⟨σ7,H7,I7,n7⟩:=q7; exact again I7 n7
    | cont=>obtain ⟨σ7,H7,I7,n7⟩:=q7; exact again I7 n7
    | brk=>obtain ⟨σ7,H7,I7,q7⟩:=q7; exact ⟨σ7,H7,I7.unpinned,q7⟩
    | ret v=>obtain ⟨x7,σ7,H7,I7,r7,q7⟩:=q7; exact ⟨x7,σ7,H7,I7.unpinned,r7,q7⟩
end
theorem for_list {K:PySem.W.Frag} {a:Addr} {xs:List V} {g:TG} {tb:TS} {D:Ends} {σ:St} {H:Hp} (Pv:Nat→St→Hp→Prop) (h0:Pv 0 σ H) (hl:∀ i σ H,i ≤ xs.length→Pv i σ H→SqL K H a xs)
    (hs:∀ i x σ H,xs[i]? = some x→Pv i σ H→g x σ H fun σ2 H2=>tb { D with nx:=Pv (i + 1),ct:=Pv (i + 1),bk:=D.nx } σ2 H2) (hd:∀ σ H,Pv xs.length σ H→D.nx σ H) :
    ∃ W:Nat→Nat→St→Hp→Prop,(∃ m,W 0 m σ H)∧∀ i m σ H,W i m σ H →
      ((Itl K a).stop i H∧D.nx σ H)∨((Itl K a).go i H∧∃ N:St→Hp→Prop,(∀ σ' H',N σ' H'→∃ m',m' < m∧W (i + 1) m' σ' H')∧∀ x H',(Itl K a).yld i H x H'→g x σ H' fun σ2 H2=>tb { D with nx:=N,ct:=N,bk:=D.nx } σ2 H2):=by
  refine ⟨fun i m σ H=>m = xs.length - i∧i ≤ xs.length∧Pv i σ H,⟨xs.length,by simp,Nat.zero_le _,h0⟩,?_⟩
  rintro i m σ H ⟨rfl,hi,p⟩
  have q:=hl i σ H hi p
  by_cases hlt:i < xs.length
  · refine .inr ⟨⟨xs,xs[i],q,by simp [hlt]⟩,Pv (i + 1),fun σ' H' p'=>⟨xs.length - (i + 1),by omega,rfl,hlt,p'⟩,fun x H' y=>?_⟩
    obtain ⟨e,y⟩:=y
    subst e
    exact hs i x σ _ (y xs q) p
  · have e:i = xs.length:=by omega
    subst e
    exact .inl ⟨⟨xs,q,Nat.le_refl _⟩,hd σ H p⟩
theorem for_range {lo:Int} {n:Nat} {g:TG} {tb:TS} {D:Ends} {σ:St} {H:Hp} (Pv:Nat→St→Hp→Prop) (h0:Pv 0 σ H)
    (hs:∀ i σ H,i < n→Pv i σ H→g (.int (lo + i)) σ H fun σ2 H2=>tb { D with nx:=Pv (i + 1),ct:=Pv (i + 1),bk:=D.nx } σ2 H2) (hd:∀ σ H,Pv n σ H→D.nx σ H) :
    ∃ W:Nat→Nat→St→Hp→Prop,(∃ m,W 0 m σ H)∧∀ i m σ H,W i m σ H →
      ((Itr lo n).stop i H∧D.nx σ H)∨((Itr lo n).go i H∧∃ N:St→Hp→Prop,(∀ σ' H',N σ' H'→∃ m',m' < m∧W (i + 1) m' σ' H')∧∀ x H',(Itr lo n).yld i H x H'→g x σ H' fun σ2 H2=>tb { D with nx:=N,ct:=N,bk:=D.nx } σ2 H2):=by
  refine ⟨fun i m σ H=>m = n - i∧i ≤ n∧Pv i σ H,⟨n,by simp,Nat.zero_le _,h0⟩,?_⟩
  rintro i m σ H ⟨rfl,hi,p⟩
  by_cases hlt:i < n
  · refine .inr ⟨hlt,Pv (i + 1),fun σ' H' p'=>⟨n - (i + 1),by omega,rfl,hlt,p'⟩,fun x H' y=>?_⟩
    obtain ⟨e,y⟩:=y
    subst e y
    exact hs i σ _ hlt p
  · have e:i = n:=by omega
    subst e
    exact .inl ⟨Nat.le_refl _,hd σ H p⟩
end L2
namespace L2
open PySem PySem.Spec PyProof.Rows
abbrev R2:=V→V→Hp→VK→Prop
def OpR (X:Cx) (f:Value→Value→Sem Value) (r:R2):Prop :=
  ∀ (pins:List (Addr × Obj)) (s:Shared) (σ:St) (H:Hp) (x y:V) (v u:Value) (Q:VK),Inv X pins σ H s→RelV x v→RelV y u→r x y H Q →
    wpAny (model X.prog X.w) X.A (f v u) (EP X pins σ Q) X.xe s
def UnR (X:Cx) (f:Value→Sem Value) (r:V→Hp→VK→Prop):Prop :=
  ∀ (pins:List (Addr × Obj)) (s:Shared) (σ:St) (H:Hp) (x:V) (v:Value) (Q:VK),Inv X pins σ H s→RelV x v→r x H Q →
    wpAny (model X.prog X.w) X.A (f v) (EP X pins σ Q) X.xe s
def CallR (X:Cx) (f:Value) (r:List V→Hp→VK→Prop):Prop :=
  ∀ (pins:List (Addr × Obj)) (s:Shared) (σ:St) (H:Hp) (xs:List V) (us:List Value) (Q:VK),Inv X pins σ H s→Vals xs us→r xs H Q →
    wpAny (model X.prog X.w) X.A (call f us) (EP X pins σ Q) X.xe s
def TruR (X:Cx) (r:V→Hp→(Bool→Hp→Prop)→Prop):Prop :=
  ∀ (pins:List (Addr × Obj)) (s:Shared) (σ:St) (H:Hp) (x:V) (v:Value) (Q:Bool→Hp→Prop),Inv X pins σ H s→RelV x v→r x H Q →
    wpAny (model X.prog X.w) X.A (truthy v) (TP X pins σ Q) X.xe s
def tOp (r:R2) (ta tb:TE):TE:=fun σ H Q=>ta σ H fun x H1=>tb σ H1 fun y H2=>r x y H2 Q
def tUn (r:V→Hp→VK→Prop) (ta:TE):TE:=fun σ H Q=>ta σ H fun x H1=>r x H1 Q
def rI (C:Int→Int→Prop) (g:Int→Int→V):R2:=fun x y H Q=>∃ i j,x = .int i∧y = .int j∧C i j∧Q (g i j) H
def rI0 (g:Int→Int→V):R2:=fun x y H Q=>∃ i j,x = .int i∧y = .int j∧Q (g i j) H
def rU (g:Int→V):V→Hp→VK→Prop:=fun x H Q=>∃ i,x = .int i∧Q (g i) H
section
variable {X:Cx} {a b c:Expr} {ta tb tc:TE} {pos:Pos}
theorem binT (ha:PE X a ta) (hb:PE X b tb) {pins:List (Addr × Obj)} {s:Shared} {σ:St} {H:Hp} {R:V→V→Hp→Prop} (I:Inv X pins σ H s)
    (h:ta σ H fun x H1=>tb σ H1 fun y H2=>R x y H2) {Q:Value→Shared→Prop} {f:Value→Value→Sem Value}
    (hf:∀ v u s2 x y H2,Inv X pins σ H2 s2→RelV x v→RelV y u→R x y H2→wpAny (model X.prog X.w) X.A (f v u) Q X.xe s2) :
    wpAny (model X.prog X.w) X.A (eval a X.env) (fun v s₁=>wpAny (model X.prog X.w) X.A (eval b X.env) (fun u s₂=>wpAny (model X.prog X.w) X.A (f v u) Q X.xe s₂) X.xe s₁) X.xe s:=by
  refine thn (ha pins s σ H _ I h) fun v s1 ⟨x,H1,I1,r1,q1⟩=>?_
  refine thn (hb pins s1 σ H1 _ I1 q1) fun u s2 ⟨y,H2,I2,r2,q2⟩=>?_
  exact hf v u s2 x y H2 I2 r1 r2 q2
theorem pe_op {op:Operator} {r:R2} (ho:OpR X (binaryOp op) r) (ha:PE X a ta) (hb:PE X b tb):PE X (.BinOp a op b pos) (tOp r ta tb):=by
  intro pins s σ H Q I h
  exact wpAny_BinOp (binT ha hb I h fun v u s2 x y H2 I2 rx ry q=>ho pins s2 σ H2 x y v u Q I2 rx ry q)
theorem opI {f:Value→Value→Sem Value} {C:Int→Int→Prop} {g:Int→Int→Int}
    (rule:∀ (i j:Int) (t u:Tok) (s:Shared) (Q:Value→Shared→Prop) (E:Value→Shared→Prop),C i j→Q (.int (g i j) s.toks) { s with toks:=s.toks + 1 }→wpAny (model X.prog X.w) X.A (f (.int i t) (.int j u)) Q E s) :
    OpR X f (rI C fun i j=>.int (g i j)):=by
  intro pins s σ H x y v u Q I rx ry h
  obtain ⟨i,j,rfl,rfl,hc,q⟩:=h
  obtain ⟨t,rfl⟩:=rx
  obtain ⟨t',rfl⟩:=ry
  exact rule i j t t' s _ _ hc ⟨.int (g i j),H,I.tok _,⟨_,rfl⟩,q⟩
theorem opI0 {f:Value→Value→Sem Value} {g:Int→Int→Int}
    (rule:∀ (i j:Int) (t u:Tok) (s:Shared) (Q:Value→Shared→Prop) (E:Value→Shared→Prop),Q (.int (g i j) s.toks) { s with toks:=s.toks + 1 }→wpAny (model X.prog X.w) X.A (f (.int i t) (.int j u)) Q E s) :
    OpR X f (rI0 fun i j=>.int (g i j)):=by
  intro pins s σ H x y v u Q I rx ry h
  obtain ⟨i,j,rfl,rfl,q⟩:=h
  obtain ⟨t,rfl⟩:=rx
  obtain ⟨t',rfl⟩:=ry
  exact rule i j t t' s _ _ ⟨.int (g i j),H,I.tok _,⟨_,rfl⟩,q⟩
theorem opB0 {f:Value→Value→Sem Value} {g:Int→Int→Bool}
    (rule:∀ (i j:Int) (t u:Tok) (s:Shared) (Q:Value→Shared→Prop) (E:Value→Shared→Prop),Q (.bool (g i j)) s→wpAny (model X.prog X.w) X.A (f (.int i t) (.int j u)) Q E s) :
    OpR X f (rI0 fun i j=>.bl (g i j)):=by
  intro pins s σ H x y v u Q I rx ry h
  obtain ⟨i,j,rfl,rfl,q⟩:=h
  obtain ⟨t,rfl⟩:=rx
  obtain ⟨t',rfl⟩:=ry
  exact rule i j t t' s _ _ ⟨.bl (g i j),H,I,rfl,q⟩
def CDiv (i j:Int):Prop:=0 < j∧j < 1073741824
def CDivN (i j:Int):Prop:=j ≠ 0∧j.natAbs < 1073741824
def CPow (i j:Int):Prop:=0 ≤ j∧j ≤ 1000000∧i.natAbs < 2 ^ 64
def CMul (i j:Int):Prop:=(-(2 ^ 64) < i∧i < 2 ^ 64)∨(-(2 ^ 64) < j∧j < 2 ^ 64)
theorem CMul.ok {i j:Int} (h:CMul i j):IntMulOk i j:=by
  rcases h with ⟨h1,h2⟩ | ⟨h1,h2⟩
  · exact .of_left (intBits_le_64 h1 h2)
  · exact .of_right (intBits_le_64 h1 h2)
theorem op_add:OpR X (binaryOp .Add) (rI0 fun i j=>.int (i + j)):=opI0 fun _ _ _ _ _ _ _ q=>add_int q
theorem op_sub:OpR X (binaryOp .Sub) (rI0 fun i j=>.int (i - j)):=opI0 fun _ _ _ _ _ _ _ q=>sub_int q
theorem op_mul:OpR X (binaryOp .Mult) (rI CMul fun i j=>.int (i * j)):=opI fun _ _ _ _ _ _ _ hc q=>mul_int q hc.ok
theorem op_fdiv:OpR X (binaryOp .FloorDiv) (rI CDiv fun i j=>.int (i / j)):=opI fun i j _ _ _ _ _ hc q=>by
  have h1:(0:Int) < j:=hc.1
  have h2:j < 1073741824:=hc.2
  exact floordiv_int (by omega) (by rw [Int.fdiv_eq_ediv_of_nonneg i (by omega)]; exact q) (.inl (PyProof.noPylong_small (by omega)))
theorem op_mod:OpR X (binaryOp .Mod) (rI (fun _ j=>0 < j) fun i j=>.int (i % j)):=opI fun i j _ _ _ _ _ hc q=>by
  have h1:(0:Int) < j:=hc
  exact mod_int' (by omega) (by rw [Int.fmod_eq_emod_of_nonneg i (by omega)]; exact q)
theorem op_pow:OpR X (binaryOp .Pow) (rI CPow fun i j=>.int (i ^ j.toNat)):=opI fun _ _ _ _ _ _ _ hc q=>pow_int_small hc.1 hc.2.1 hc.2.2 q
end
def scal:V→V→Bool
  | .non,.non=>true | .non,.int _=>true | .int _,.non=>true | .non,.bl _=>true | .bl _,.non=>true | .non,.str _=>true | .str _,.non=>true
  | .int _,.int _=>true | .bl _,.bl _=>true | .str _,.str _=>true | .byt _,.byt _=>true
  | .int _,.str _=>true | .str _,.int _=>true | .bl _,.str _=>true | .str _,.bl _=>true
  | _,_=>false
def rEq:R2:=fun x y H Q=>scal x y = true∧Q (.bl (decide (x = y))) H
def rNe:R2:=fun x y H Q=>scal x y = true∧Q (.bl (!decide (x = y))) H
theorem dec_int {i j:Int} : decide (V.int i = V.int j) = (i == j):=by
  rw [Bool.eq_iff_iff]
  simp
theorem dec_bl {i j:Bool} : decide (V.bl i = V.bl j) = (i == j):=by
  rw [Bool.eq_iff_iff]
  simp
theorem dec_str {i j:Str} : decide (V.str i = V.str j) = (i == j):=by
  rw [Bool.eq_iff_iff]
  simp
theorem dec_byt {i j:Array UInt8} : decide (V.byt i = V.byt j) = (i.toList == j.toList):=by
  rw [Bool.eq_iff_iff]
  cases i
  cases j
  simp
section
variable {X:Cx} {a b c:Expr} {ta tb tc:TE} {pos:Pos}
theorem fin_bl {pins:List (Addr × Obj)} {σ:St} {H:Hp} {s:Shared} {Q:VK} {k k' : Bool} (I:Inv X pins σ H s) (q:Q (.bl k) H) (e:k = k'):EP X pins σ Q (.bool k') s:=by
  subst e
  exact ⟨.bl k,H,I,rfl,q⟩
theorem op_eq:OpR X (compareOp .Eq) rEq:=by
  intro pins s σ H x y v u Q I rx ry h
  obtain ⟨hs,q⟩:=h
  cases x with
  | non =>
    cases rx
    cases y with
    | non=>cases ry; exact PySem.EqNone.eq_none_none (fin_bl I q (by simp))
    | bl j=>cases ry; exact PySem.EqNone.eq_none_bool (fin_bl I q (by simp))
    | int j=>obtain ⟨t',rfl⟩:=ry; exact PySem.EqNone.eq_none_int (fin_bl I q (by simp))
    | str j=>obtain ⟨t',rfl⟩:=ry; exact PySem.EqNone.eq_none_str (fin_bl I q (by simp))
    | _=>exact absurd (show false = true from hs) Bool.false_ne_true
  | bl i =>
    cases rx
    cases y with
    | non=>cases ry; exact PySem.EqNone.eq_bool_none (fin_bl I q (by simp))
    | bl j=>cases ry; exact eq_bool (fin_bl I q dec_bl)
    | str j=>obtain ⟨t',rfl⟩:=ry; exact PySem.EqMixed.eq_bool_str (fin_bl I q (by simp))
    | _=>exact absurd (show false = true from hs) Bool.false_ne_true
  | int i =>
    obtain ⟨t,rfl⟩:=rx
    cases y with
    | non=>cases ry; exact PySem.EqNone.eq_int_none (fin_bl I q (by simp))
    | int j=>obtain ⟨t',rfl⟩:=ry; exact eq_int (fin_bl I q dec_int)
    | str j=>obtain ⟨t',rfl⟩:=ry; exact PySem.EqMixed.eq_int_str (fin_bl I q (by simp))
    | _=>exact absurd (show false = true from hs) Bool.false_ne_true
  | str i =>
    obtain ⟨t,rfl⟩:=rx
    cases y with
    | non=>cases ry; exact PySem.EqNone.eq_str_none (fin_bl I q (by simp))
    | bl j=>cases ry; exact PySem.EqMixed.eq_str_bool (fin_bl I q (by simp))
    | int j=>obtain ⟨t',rfl⟩:=ry; exact PySem.EqMixed.eq_str_int (fin_bl I q (by simp))
    | str j=>obtain ⟨t',rfl⟩:=ry; exact eq_str (fin_bl I q dec_str)
    | _=>exact absurd (show false = true from hs) Bool.false_ne_true
  | byt i =>
    obtain ⟨t,rfl⟩:=rx
    cases y with
    | byt j=>obtain ⟨t',rfl⟩:=ry; exact PySem.W.eq_bytes (fin_bl I q dec_byt)
    | _=>exact absurd (show false = true from hs) Bool.false_ne_true
  | _=>cases y <;> exact absurd (show false = true from hs) Bool.false_ne_true
theorem op_ne:OpR X (compareOp .NotEq) rNe:=by
  intro pins s σ H x y v u Q I rx ry h
  obtain ⟨hs,q⟩:=h
  cases x with
  | non =>
    cases rx
    cases y with
    | non=>cases ry; exact PySem.EqNone.ne_none_none (fin_bl I q (by simp))
    | bl j=>cases ry; exact PySem.EqNone.ne_none_bool (fin_bl I q (by simp))
    | int j=>obtain ⟨t',rfl⟩:=ry; exact PySem.EqNone.ne_none_int (fin_bl I q (by simp))
    | str j=>obtain ⟨t',rfl⟩:=ry; exact PySem.EqNone.ne_none_str (fin_bl I q (by simp))
    | _=>exact absurd (show false = true from hs) Bool.false_ne_true
  | bl i =>
    cases rx
    cases y with
    | non=>cases ry; exact PySem.EqNone.ne_bool_none (fin_bl I q (by simp))
    | bl j=>cases ry; exact ne_bool (fin_bl I q (congrArg not dec_bl))
    | str j=>obtain ⟨t',rfl⟩:=ry; exact PySem.EqMixed.ne_bool_str (fin_bl I q (by simp))
    | _=>exact absurd (show false = true from hs) Bool.false_ne_true
  | int i =>
    obtain ⟨t,rfl⟩:=rx
    cases y with
    | non=>cases ry; exact PySem.EqNone.ne_int_none (fin_bl I q (by simp))
    | int j=>obtain ⟨t',rfl⟩:=ry; exact ne_int (fin_bl I q (congrArg not dec_int))
    | str j=>obtain ⟨t',rfl⟩:=ry; exact PySem.EqMixed.ne_int_str (fin_bl I q (by simp))
    | _=>exact absurd (show false = true from hs) Bool.false_ne_true
  | str i =>
    obtain ⟨t,rfl⟩:=rx
    cases y with
    | non=>cases ry; exact PySem.EqNone.ne_str_none (fin_bl I q (by simp))
    | bl j=>cases ry; exact PySem.EqMixed.ne_str_bool (fin_bl I q (by simp))
    | int j=>obtain ⟨t',rfl⟩:=ry; exact PySem.EqMixed.ne_str_int (fin_bl I q (by simp))
    | str j=>obtain ⟨t',rfl⟩:=ry; exact ne_str (fin_bl I q (congrArg not dec_str))
    | _=>exact absurd (show false = true from hs) Bool.false_ne_true
  | byt i =>
    obtain ⟨t,rfl⟩:=rx
    cases y with
    | byt j=>obtain ⟨t',rfl⟩:=ry; exact PySem.W.ne_bytes (fin_bl I q (congrArg not dec_byt))
    | _=>exact absurd (show false = true from hs) Bool.false_ne_true
  | _=>cases y <;> exact absurd (show false = true from hs) Bool.false_ne_true
theorem op_lt:OpR X (compareOp .Lt) (rI0 fun i j=>.bl (decide (i < j))):=opB0 fun _ _ _ _ _ _ _ q=>lt_int q
theorem op_le:OpR X (compareOp .LtE) (rI0 fun i j=>.bl (decide (i ≤ j))):=opB0 fun _ _ _ _ _ _ _ q=>le_int q
theorem op_gt:OpR X (compareOp .Gt) (rI0 fun i j=>.bl (decide (j < i))):=opB0 fun _ _ _ _ _ _ _ q=>gt_int q
theorem op_ge:OpR X (compareOp .GtE) (rI0 fun i j=>.bl (decide (j ≤ i))):=opB0 fun _ _ _ _ _ _ _ q=>ge_int q
theorem op_notin_str:OpR X (compareOp .NotIn) (fun x y H Q=>∃ i j,x = .str i∧y = .str j∧Q (.bl (!(!(Builtin.Str.occurrences j i 0 j.length 1).isEmpty))) H):=by
  intro pins s σ H x y v u Q I rx ry h
  obtain ⟨i,j,rfl,rfl,q⟩:=h
  obtain ⟨t,rfl⟩:=rx
  obtain ⟨t',rfl⟩:=ry
  exact notIn_str (fin_bl I q rfl)
def isObj:HO→Bool
  | .lst _=>true
  | .ins _ _ _=>true
  | _=>false
theorem nomark (b:Expr) {op:CmpOp} (h:op ≠ .In:=by decide) (h2:op ≠ .NotIn:=by decide):behindInMarks op b = false:=by
  have e1:(op == CmpOp.In) = false:=by cases op <;> first | rfl | exact absurd rfl h
  have e2:(op == CmpOp.NotIn) = false:=by cases op <;> first | rfl | exact absurd rfl h2
  cases b <;> simp [behindInMarks,e1,e2]
theorem pe_cmpR {op:CmpOp} {r:R2} (ho:OpR X (compareOp op) r) (ha:PE X a ta) (hb:PE X b tb) (hm:behindInMarks op b = false):PE X (.Compare a [op] [b] pos) (tOp r ta tb):=by
  intro pins s σ H Q I h
  exact wpAny_Compare1 (binT ha hb I h fun v u s2 x y H2 I2 rx ry q=>ho pins s2 σ H2 x y v u Q I2 rx ry q) hm
def tTest (t:TE):TT:=fun σ H Q=>t σ H fun x H'=>∃ k,x = .bl k∧Q k H'
theorem pt_cmpR {op:CmpOp} {r:R2} (ho:OpR X (compareOp op) r) (ha:PE X a ta) (hb:PE X b tb) (hm:behindInMarks op b = false):PT X (.Compare a [op] [b] pos) (tTest (tOp r ta tb)):=by
  intro pins s σ H Q I h
  refine wpAny_isTrue_Compare1 (thn (ha pins s σ H _ I h) fun v s1 ⟨x,H1,I1,r1,q1⟩=>thn (hb pins s1 σ H1 _ I1 q1) fun u s2 ⟨y,H2,I2,r2,q2⟩ =>
    thn (ho pins s2 σ H2 x y v u _ I2 r1 r2 q2) fun c s3 ⟨z,H3,I3,r3,k,e,q3⟩=>?_) hm
  subst e
  cases r3
  exact wpAny_truthy_bool ⟨H3,I3,q3⟩
def tChain (r r' : R2) (ta tb tc:TE):TE:=fun σ H Q=>ta σ H fun x H1=>tb σ H1 fun y H2=>r x y H2 fun z H3=>∃ k,z = .bl k ∧
  (if k = true then tc σ H3 fun w' H4=>r' y w' H4 Q else Q (.bl false) H3)
theorem pe_chain {op op' : CmpOp} {r r' : R2} (ho:OpR X (compareOp op) r) (ho' : OpR X (compareOp op') r') (ha:PE X a ta) (hb:PE X b tb) (hc:PE X c tc)
    (hm:lastMarks [op,op'] [b,c] = false:=by with_unfolding_all rfl):PE X (.Compare a [op,op'] [b,c] pos) (tChain r r' ta tb tc):=by
  intro pins s σ H Q I h
  refine Compare_chain (thn (ha pins s σ H _ I h) fun v s1 ⟨x,H1,I1,r1,q1⟩=>chain_link (thn (hb pins s1 σ H1 _ I1 q1) fun u s2 ⟨y,H2,I2,r2,q2⟩ =>
    thn (ho pins s2 σ H2 x y v u _ I2 r1 r2 q2) fun d s3 ⟨z,H3,I3,r3,k,e,q3⟩=>?_)) hm
  subst e
  cases r3
  refine wpAny_truthy_bool ?_
  cases k with
  | false=>exact ite_ff ⟨.bl false,H3,I3,rfl,q3⟩
  | true=>exact ite_tt (chain_last (thn (hc pins s3 σ H3 _ I3 q3) fun w' s4 ⟨z',H4,I4,r4,q4⟩=>ho' pins s4 σ H4 y z' u w' Q I4 r2 r4 q4))
theorem pt_chain {op op' : CmpOp} {r r' : R2} (ho:OpR X (compareOp op) r) (ho' : OpR X (compareOp op') r') (ha:PE X a ta) (hb:PE X b tb) (hc:PE X c tc)
    (hm:lastMarks [op,op'] [b,c] = false:=by with_unfolding_all rfl):PT X (.Compare a [op,op'] [b,c] pos) (tTest (tChain r r' ta tb tc)):=by
  intro pins s σ H Q I h
  refine isTrue_chain (thn (ha pins s σ H _ I h) fun v s1 ⟨x,H1,I1,r1,q1⟩=>test_link (thn (hb pins s1 σ H1 _ I1 q1) fun u s2 ⟨y,H2,I2,r2,q2⟩ =>
    thn (ho pins s2 σ H2 x y v u _ I2 r1 r2 q2) fun d s3 ⟨z,H3,I3,r3,k,e,q3⟩=>?_)) hm
  subst e
  cases r3
  refine wpAny_truthy_bool ?_
  cases k with
  | false =>
    obtain ⟨k',e',q'⟩:=q3
    cases e'
    exact ite_ff ⟨H3,I3,q'⟩
  | true =>
    refine ite_tt (test_last (thn (hc pins s3 σ H3 _ I3 q3) fun w' s4 ⟨z',H4,I4,r4,q4⟩=>thn (ho' pins s4 σ H4 y z' u w' _ I4 r2 r4 q4) fun d' s5 ⟨z2,H5,I5,r5,k2,e2,q5⟩=>?_))
    subst e2
    cases r5
    exact wpAny_truthy_bool ⟨H5,I5,q5⟩
def TruV (K:PySem.W.Frag) (x:V) (H:Hp) (k:Bool):Prop :=
  match x with
  | .non=>k = false
  | .bl b=>k = b
  | .int i=>k = (i != 0)
  | .str y=>y.length ≤ sizeLine∧k = ((y.length:Int) != 0)
  | .byt y=>y.size ≤ sizeLine∧k = ((y.size:Int) != 0)
  | .ref p=>(∃ xs,SqL K H p xs∧k = !xs.isEmpty)∨(∃ xs,SqT K H p xs∧k = !xs.isEmpty)∨∃ kvs,H p = some (.dK kvs)∧k = !kvs.isEmpty
  | _=>False
theorem isEmpty_kv {κ:Type} {kvs:List (κ × V)} {vs:List (κ × Value)} (r:KV kvs vs):(!vs.isEmpty) = !kvs.isEmpty:=by
  cases r <;> rfl
theorem isEmpty_of {xs:List V} {its:List Value} (r:Vals xs its):(!its.toArray.isEmpty) = !xs.isEmpty:=by
  cases r <;> simp
theorem line63:(sizeLine:Nat) < 2 ^ 63:=by rw [sizeLine_eq]; decide
theorem tru_ok:TruR X (fun x H Q=>∃ k,TruV X.K x H k∧Q k H):=by
  intro pins s σ H x v Q I rx h
  obtain ⟨k,e,q⟩:=h
  have hl:=line63
  have hs:sizeLine = 16777216:=sizeLine_eq
  cases x with
  | non =>
    cases rx
    have e' : k = false:=e
    subst e'
    exact truthy_none ⟨H,I,q⟩
  | bl b =>
    cases rx
    have e' : k = b:=e
    subst e'
    exact wpAny_truthy_bool ⟨H,I,q⟩
  | int i =>
    obtain ⟨t,rfl⟩:=rx
    have e' : k = (i != 0):=e
    subst e'
    exact PySem.P.truthy_int ⟨H,I,q⟩
  | str y =>
    obtain ⟨t,rfl⟩:=rx
    obtain ⟨hy,e'⟩:y.length ≤ sizeLine∧k = ((y.length:Int) != 0):=e
    subst e'
    exact PySem.P.truthy_str (by omega) ⟨H,I.tok _,q⟩
  | byt y =>
    obtain ⟨t,rfl⟩:=rx
    obtain ⟨hy,e'⟩:y.size ≤ sizeLine∧k = ((y.size:Int) != 0):=e
    subst e'
    exact PySem.W.truthy_bytes (by omega) ⟨H,I.tok _,q⟩
  | ref p =>
    cases rx
    have e' : (∃ xs,SqL X.K H p xs∧k = !xs.isEmpty)∨(∃ xs,SqT X.K H p xs∧k = !xs.isEmpty)∨∃ kvs,H p = some (.dK kvs)∧k = !kvs.isEmpty:=e
    rcases e' with ⟨xs,hx,e'⟩ | ⟨xs,hx,e'⟩ | ⟨kvs,hx,e'⟩
    · subst e'
      obtain ⟨its,r,pl,hz⟩:=I.list hx
      have hlen:=r.length
      exact wpAny_truthy_list pl.isList (by simp only [List.size_toArray]; omega) ⟨H,I.tok _,by rw [isEmpty_of r]; exact q⟩
    · subst e'
      obtain ⟨its,r,pl,hz⟩:=I.tuple hx
      have hlen:=r.length
      exact truthy_tuple pl (by simp only [List.size_toArray]; omega) ⟨H,I.tok _,by rw [isEmpty_of r]; exact q⟩
    · subst e'
      obtain ⟨hz,hS,vs,r,m⟩:kvs.length ≤ sizeLine∧(p == sysModules) = false∧∃ vs,KV kvs vs∧s.heap.DictOf (mixKind X.prog X.w) p vs:=I.hok p _ hx
      have hlen:kvs.length = vs.length:=Paired.length r
      exact wpAny_truthy_dict hS m (by omega) ⟨H,I.tok _,by rw [isEmpty_kv r]; exact q⟩
  | _=>exact (show False from e).elim
theorem pt_truth (ha:PE X a ta) (he:∀ whole,isTrue a X.env whole = (do let v ← whole; standAt a.pos; holding [v] (truthy v))) :
    PT X a (fun σ H Q=>ta σ H fun x H'=>∃ k,TruV X.K x H' k∧Q k H'):=by
  intro pins s σ H Q I h
  exact isTrue_plain (thn (ha pins s σ H _ I h) fun v s1 ⟨x,H1,I1,r1,q1⟩=>tru_ok pins s1 σ H1 x v Q I1 r1 q1) (he _)
theorem op_add_str:OpR X (binaryOp .Add) (fun x y H Q=>∃ i j,x = .str i∧y = .str j∧i.length + j.length ≤ sizeLine∧Q (.str (i ++ j)) H):=by
  intro pins s σ H x y v u Q I rx ry h
  obtain ⟨i,j,rfl,rfl,hz,q⟩:=h
  obtain ⟨t,rfl⟩:=rx
  obtain ⟨t',rfl⟩:=ry
  exact add_str (fun t' tk=>⟨.str (i ++ j),H,I.tok _,⟨_,rfl⟩,q⟩) hz
theorem op_add_byt:OpR X (binaryOp .Add) (fun x y H Q=>∃ i j,x = .byt i∧y = .byt j∧i.size + j.size ≤ 16777216∧Q (.byt (i ++ j)) H):=by
  intro pins s σ H x y v u Q I rx ry h
  obtain ⟨i,j,rfl,rfl,hz,q⟩:=h
  obtain ⟨t,rfl⟩:=rx
  obtain ⟨t',rfl⟩:=ry
  exact PySem.W.KBy.add_bytes hz (fun t' tk=>⟨.byt (i ++ j),H,I.tok _,⟨_,rfl⟩,q⟩)
def PlainIxT (b:Expr):Prop:=∀ o i,subscripted b false o i = operate [o,i] (getItem o i)
theorem vals1 {x:V} {us:List Value} (r:Vals [x] us):∃ u,us = [u]∧RelV x u:=by
  cases r with
  | cons r1 r2=>cases r2; exact ⟨_,rfl,r1⟩
theorem vals2 {x y:V} {us:List Value} (r:Vals [x,y] us):∃ u w',us = [u,w']∧RelV x u∧RelV y w':=by
  cases r with
  | cons r1 r2 =>
    cases r2 with
    | cons r3 r4=>cases r4; exact ⟨_,_,rfl,r1,r3⟩
theorem call_max2 (hc:X.calm = true):CallR X (.builtin "max") (fun xs H Q=>∃ i j,xs = [.int i,.int j]∧Q (.int (if j > i then j else i)) H):=by
  intro pins s σ H xs us Q I r h
  obtain ⟨i,j,rfl,q⟩:=h
  obtain ⟨u,w',rfl,⟨t,rfl⟩,⟨t',rfl⟩⟩:=vals2 r
  refine max_two_ints (I.ok.hd hc) fun h' tk k=>⟨_,H,I.kept k,?_,q⟩
  by_cases hj:j > i
  · rw [if_pos hj,if_pos hj]; exact ⟨_,rfl⟩
  · rw [if_neg hj,if_neg hj]; exact ⟨_,rfl⟩
theorem call_min2 (hc:X.calm = true):CallR X (.builtin "min") (fun xs H Q=>∃ i j,xs = [.int i,.int j]∧Q (.int (if j < i then j else i)) H):=by
  intro pins s σ H xs us Q I r h
  obtain ⟨i,j,rfl,q⟩:=h
  obtain ⟨u,w',rfl,⟨t,rfl⟩,⟨t',rfl⟩⟩:=vals2 r
  refine min_two_ints (I.ok.hd hc) fun h' tk k=>⟨_,H,I.kept k,?_,q⟩
  by_cases hj:j < i
  · rw [if_pos hj,if_pos hj]; exact ⟨_,rfl⟩
  · rw [if_neg hj,if_neg hj]; exact ⟨_,rfl⟩
def LenV (K:PySem.W.Frag) (x:V) (H:Hp) (n:Nat):Prop :=
  match x with
  | .str y=>y.length ≤ sizeLine∧n = y.length
  | .byt y=>y.size ≤ sizeLine∧n = y.size
  | .ref p=>(∃ xs,SqL K H p xs∧n = xs.length)∨∃ xs,SqT K H p xs∧n = xs.length
  | _=>False
end
end L2
namespace L2
open PySem PySem.Spec PyProof.Rows
structure ObjM (h:Heap) (x dx C:Addr) (mA:Str→Option Value):Prop where
  obj:h.get? x = some (PySem.W.instObj C dx)
  ns:h.Ns1 dx mA
  ne:dx ≠ x
theorem lookIn_ns {h:Heap} {dx:Addr} {mA:Str→Option Value} (n:h.Ns1 dx mA):∃ od,h.get? dx = some od∧∀ name,PySem.W.lookIn name od = some (mA name):=by
  obtain ⟨o,es,ep,ho,hd,hk,_,hm⟩:=n
  refine ⟨o,ho,fun name=>?_⟩
  have e:=hm name
  unfold nsFind findBy at e
  rw [← Array.find?_toList] at e
  unfold PySem.W.lookIn
  rw [hd]
  dsimp only
  split
  · rename_i y q
    rw [q] at e
    exact congrArg some e
  · rename_i q
    rw [q] at e
    have a:es.toList.any (·.refKey) = false:=by
      rw [List.any_eq_false]
      intro y hy
      obtain ⟨z,t,hkey⟩:=hk y (Array.mem_toList_iff.mp hy)
      simp [DictEntry.refKey,hkey]
    have a' : ¬ es.toList.any (·.refKey) = true:=by rw [a]; exact Bool.false_ne_true
    rw [if_neg a']
    exact congrArg some e
theorem ObjM.look {h:Heap} {x dx C:Addr} {mA:Str→Option Value} (I:ObjM h x dx C mA):∃ od,PySem.W.InstAt h x (PySem.W.instObj C dx) C (some od)∧∀ name,PySem.W.lookIn name od = some (mA name) :=
  let ⟨od,ho,hl⟩:=lookIn_ns I.ns
  ⟨od,⟨I.obj,rfl,rfl,ho⟩,hl⟩
section
variable {prog:Program} {w:World} {A:Around} {E:Value→Shared→Prop} {s:Shared} {K:PySem.W.Frag} {x dx C f:Addr} {mA:Str→Option Value} {name:Str} {v:Value}
theorem get_map {expr:Bool} {Q:Value→Shared→Prop} (X:K.In s.heap) (I:ObjM s.heap x dx C mA) (hg:PySem.W.plainGet K C name = true) (hh:PySem.W.hasDictIn K C = true)
    (ha:PySem.W.findIn K (.ref C) name = some none) (hv:mA name = some v) (hv' : PySem.W.handedIn v = true) (h:Q v { s with toks:=s.toks + 1 }) :
    wpAny (model prog w) A (getAttr (.ref x) name expr) Q E s:=by
  obtain ⟨od,J,hl⟩:=I.look
  exact PySem.W.get_value X J (PySem.W.plainGet_of hg).1 (PySem.W.findObj_own hh ha rfl (by rw [hl,hv])) hv' h
theorem get_meth {pl:Sem Bool} {Q:Value × List Value→Shared→Prop} (X:K.In s.heap) (I:ObjM s.heap x dx C mA) (hg:PySem.W.plainGet K C name = true)
    (hf:PySem.W.findIn K (.ref C) name = some (some (.ref f))) (ht:PySem.W.isFn K (.ref f) = true) (hv:mA name = none) (h:Q (.ref f,[.ref x]) s) :
    wpAny (model prog w) A (getMethod (.ref x) name pl) Q E s:=by
  obtain ⟨od,J,hl⟩:=I.look
  exact PySem.W.method_fn X J (PySem.W.plainGet_of hg).1 (PySem.W.plainGet_of hg).2 hf (beq_iff_eq.mp ht) (by show (PySem.W.lookIn name od).map (·.isSome) = some false; rw [hl,hv]; rfl) h
theorem set_map {ns:List Str} {Q:Unit→Shared→Prop} (X:K.In s.heap) (I:ObjM s.heap x dx C mA)
    (hs:PySem.W.findIn K (.ref C) "__setattr__" = some (some (.builtin "object.__setattr__"))) (hp:PySem.W.plainOver K C = true) (ht:PySem.W.takerIn K C name = some none) (hh:PySem.W.hasDictIn K C = true)
    (hw:PySem.Within mA ns) (hsz:ns.length ≤ sizeLine)
    (h:∀ h',ObjM h' x dx C (fun y=>if y = name then some v else mA y)→Heap.SameBut dx s.heap h'→Q () { s with heap:=h',toks:=s.toks + 2 }) :
    wpAny (model prog w) A (setAttr (.ref x) name v) Q E s:=by
  obtain ⟨od,J,hl⟩:=I.look
  refine PySem.W.set_plain X J hs (PySem.W.osa_open (s:={ s with toks:=s.toks + 1 }) (r:=none) X J hp ht fun b=>?_)
  obtain ⟨cd,hc,hd'⟩:=PySem.W.any_some hh
  have hx:s.heap.get? x = some ⟨.ref C,some dx,.plain,#[]⟩:=I.obj
  refine wpAny_bind (wpAny_pure (wpAny_bind (wpAny_bind (wpAny_loadPart hx (wpAny_bind (PySem.W.Looks.here (s:={ s with toks:=s.toks + 1 }) (PySem.W.looks_clsIn X hc) ?_))))))
  rw [hd']
  refine wpAny_pure (a:=some dx) (wpAny_bind (wpAny_pure (wpAny_bind ?_)))
  refine wpAny_nsSet1 (s:={ s with toks:=s.toks + 1 }) I.ns fun h' hn2 hs2=>?_
  obtain ⟨oD,esD,epD,hoD,hdD,hcD⟩:=hn2.count (PySem.Within.cons name v hw)
  refine wpAny_bind (wpAny_lookBehind hoD (by rw [hdD]; exact pastItsLine_dict (Nat.le_trans hcD (by rw [List.length_cons]; omega))) ?_)
  exact wpAny_pure (h _ ⟨(hs2.2 _ (Ne.symm I.ne)).trans I.obj,hn2,I.ne⟩ hs2)
theorem make_map {R:Result→Shared→Prop} {vs:List Value} {kw:List (Str × Value)} (X:K.In s.heap) (hm:PySem.W.makesIn K C = true)
    (hi:PySem.W.findIn K (.ref C) "__init__" = some (some (.ref f))) (hf:PySem.W.typeIn K (.ref f) = some (.type "function"))
    (h:codeAny (model prog w) (A.under (.builtin "type.__call__" ⟨.ref C :: vs,kw⟩)) (.call (.ref f) ⟨.ref (s.heap.objs.size + 1) :: vs,kw⟩) (PySem.W.InitBack (s.heap.objs.size + 1) R)
      { s with heap:=(s.heap.push PySem.W.emptyDict).push (PySem.W.instObj C s.heap.objs.size) }) :
    codeAny (model prog w) A (.call (.ref C) ⟨vs,kw⟩) R s:=by
  obtain ⟨hh,g,d,t,os⟩:=s
  exact PySem.W.make_core (PySem.W.makes_of X hm) (PySem.W.looks_findIn X hi) (fun self=>PySem.W.bind_fn X self hf) (.inl rfl) h
end
def putF (f:Str) (v:V):List (Str × V)→List (Str × V)
  | []=>[(f,v)]
  | (g,x) :: r=>if g = f then (g,v) :: r else (g,x) :: putF f v r
theorem lookup_putF (f g:Str) (v:V):∀ fs:List (Str × V),(putF f v fs).lookup g = if g = f then some v else fs.lookup g
  | []=>by
    show List.lookup g [(f,v)] = _
    by_cases h:g = f
    · have hb:(g == f) = true:=beq_iff_eq.mpr h
      simp only [List.lookup,hb,if_pos h]
    · have hb:(g == f) = false:=beq_eq_false_iff_ne.mpr h
      simp only [List.lookup,hb,if_neg h]
  | (k,x) :: r=>by
    have ih:=lookup_putF f g v r
    rw [show putF f v ((k,x) :: r) = (if k = f then (k,v) :: r else (k,x) :: putF f v r) from rfl]
    by_cases hk:k = f
    · rw [if_pos hk]
      by_cases h:g = k
      · have hb:(g == k) = true:=beq_iff_eq.mpr h
        simp only [List.lookup,hb,if_pos (h.trans hk)]
      · have hb:(g == k) = false:=beq_eq_false_iff_ne.mpr h
        simp only [List.lookup,hb,if_neg (fun e:g = f=>h (e.trans hk.symm))]
    · rw [if_neg hk]
      by_cases h:g = k
      · have hb:(g == k) = true:=beq_iff_eq.mpr h
        simp only [List.lookup,hb,if_neg (fun e:g = f=>hk (h.symm.trans e))]
      · have hb:(g == k) = false:=beq_eq_false_iff_ne.mpr h
        simp only [List.lookup,hb]
        exact ih
theorem keys_putF (f:Str) (v:V):∀ fs:List (Str × V),f ∈ (putF f v fs).map (·.1)∧∀ g,g ∈ fs.map (·.1)→g ∈ (putF f v fs).map (·.1)
  | []=>⟨by simp [putF],fun g h=>by simp at h⟩
  | (k,x) :: r=>by
    obtain ⟨i1,i2⟩:=keys_putF f v r
    rw [show putF f v ((k,x) :: r) = (if k = f then (k,v) :: r else (k,x) :: putF f v r) from rfl]
    by_cases hk:k = f
    · rw [if_pos hk]
      subst hk
      exact ⟨by simp,fun g h=>by simpa using h⟩
    · rw [if_neg hk]
      refine ⟨?_,fun g h=>?_⟩
      · rw [List.map_cons]
        exact List.mem_cons_of_mem _ i1
      · rw [List.map_cons] at h ⊢
        rcases List.mem_cons.mp h with e | e
        · exact List.mem_cons.mpr (.inl e)
        · exact List.mem_cons_of_mem _ (i2 g e)
theorem length_putF (f:Str) (v:V):∀ fs:List (Str × V),(putF f v fs).length ≤ fs.length + 1
  | []=>by simp [putF]
  | (k,x) :: r=>by
    have ih:=length_putF f v r
    rw [show putF f v ((k,x) :: r) = (if k = f then (k,v) :: r else (k,x) :: putF f v r) from rfl]
    by_cases hk:k = f
    · rw [if_pos hk,List.length_cons,List.length_cons]; omega
    · rw [if_neg hk,List.length_cons,List.length_cons]; omega
theorem RelO.some_of {v:V} {o:Option Value} (r:RelO (some v) o):∃ u,o = some u∧RelV v u:=by
  cases o with
  | none=>exact (show False from r).elim
  | some u=>exact ⟨u,rfl,r⟩
theorem RelO.none_of {o:Option Value} (r:RelO none o):o = none:=by
  cases o with
  | none=>rfl
  | some u=>exact (show False from r).elim
theorem handed_of {v:V} {u:Value} (r:RelV v u):PySem.W.handedIn u = true:=by
  cases v with
  | non=>cases (show u = Value.none from r); rfl
  | bl b=>cases (show u = Value.bool b from r); rfl
  | int i=>obtain ⟨t,e⟩:=(show ∃ t,u = Value.int i t from r); cases e; rfl
  | str x=>obtain ⟨t,e⟩:=(show ∃ t,u = Value.str x t from r); cases e; rfl
  | byt b=>obtain ⟨t,e⟩:=(show ∃ t,u = Value.bytes b t from r); cases e; rfl
  | flt b=>obtain ⟨t,e⟩:=(show ∃ t,u = Value.float b t from r); cases e; rfl
  | ref a=>cases (show u = Value.ref a from r); rfl
  | ty n=>cases (show u = Value.type n from r); rfl
section
variable {P:Program} {w:World} {H H' : Hp} {h h' : Heap} {a C dx:Addr} {fs fs' : List (Str × V)}
theorem ins_get (hok:HOk P w H h) (e:H a = some (.ins C dx fs)):∃ mA,ObjM h a dx C mA∧(∀ f,RelO (fs.lookup f) (mA f))∧PySem.Within mA (fs.map (·.1))∧fs.length ≤ 1000∧H dx = some (.own a):=by
  obtain ⟨d,z,ne,ob,mA,n,r,q⟩:=(show ObjOk P w H h a (.ins C dx fs) from hok a _ e)
  exact ⟨mA,⟨ob,n,ne⟩,r,q,z,d⟩
end
structure Cls (K:PySem.W.Frag) (C:Addr):Prop where
  pg:PySem.W.plainGet K C Str.empty = true
  hd:PySem.W.hasDictIn K C = true
  po:PySem.W.plainOver K C = true
  sa:PySem.W.findIn K (.ref C) "__setattr__" = some (some (.builtin "object.__setattr__"))
theorem Cls.get {K:PySem.W.Frag} {C:Addr} (c:Cls K C) (f:Str):PySem.W.plainGet K C f = true:=c.pg
def NoAttr (K:PySem.W.Frag) (C:Addr) (f:Str):Prop:=PySem.W.findIn K (.ref C) f = some none
theorem NoAttr.taker {K:PySem.W.Frag} {C:Addr} {f:Str} (n:NoAttr K C f):PySem.W.takerIn K C f = some none:=by
  unfold PySem.W.takerIn
  rw [show PySem.W.findIn K (.ref C) f = some none from n]
  rfl
structure Con (K:PySem.W.Frag) (C:Addr) (f:Str) (v:V) (u:Value):Prop where
  at_:PySem.W.findIn K (.ref C) f = some (some u)
  rel:RelV v u
  get:PySem.W.specialIn K u "__get__" = some none
  cp:PySem.W.copiedNames.contains f = false
structure Meth (K:PySem.W.Frag) (C:Addr) (m:Str) (f:Addr):Prop where
  at_:PySem.W.findIn K (.ref C) m = some (some (.ref f))
  fn:PySem.W.isFn K (.ref f) = true
  kp:PySem.W.keepIn K (.ref f) = true
section
variable {X:Cx} {pins:List (Addr × Obj)} {σ:St} {H:Hp} {s:Shared} {a C dx:Addr} {fs:List (Str × V)} {f:Str} {v:V} {A:Around} {E:Value→Shared→Prop}
theorem getattr_ok {b:Bool} {Q:Value→Shared→Prop} (I:Inv X pins σ H s) (e:H a = some (.ins C dx fs)) (c:Cls X.K C) (n:NoAttr X.K C f) (l:fs.lookup f = some v)
    (h:∀ u s',Inv X pins σ H s'→RelV v u→Q u s'):wpAny (model X.prog X.w) A (getAttr (.ref a) f b) Q E s:=by
  obtain ⟨mA,O,r,_,_,_⟩:=ins_get I.hok e
  obtain ⟨u,hu,ru⟩:=RelO.some_of (v:=v) (o:=mA f) (by rw [← l]; exact r f)
  exact get_map I.kIn O (c.get f) c.hd n hu (handed_of ru) (h u _ (I.tok _) ru)
theorem getmeth_ok {m:Str} {g:Addr} {pl:Sem Bool} {Q:Value × List Value→Shared→Prop} (I:Inv X pins σ H s) (e:H a = some (.ins C dx fs)) (c:Cls X.K C) (k:Meth X.K C m g) (l:fs.lookup m = none)
    (h:Q (.ref g,[.ref a]) s):wpAny (model X.prog X.w) A (getMethod (.ref a) m pl) Q E s:=by
  obtain ⟨mA,O,r,_,_,_⟩:=ins_get I.hok e
  have hn:mA m = none:=RelO.none_of (by rw [← l]; exact r m)
  exact get_meth I.kIn O (c.get m) k.at_ k.fn hn h
theorem setattr_ok {y:V} {u:Value} {Q:Unit→Shared→Prop} (I:Inv X pins σ H s) (e:H a = some (.ins C dx fs)) (c:Cls X.K C) (n:NoAttr X.K C f) (hl:fs.length < 1000) (ry:RelV y u)
    (h:∀ s',Inv X pins σ (upd H a (.ins C dx (putF f y fs))) s'→Q () s'):wpAny (model X.prog X.w) A (setAttr (.ref a) f u) Q E s:=by
  obtain ⟨mA,O,r,wi,_,ho⟩:=ins_get I.hok e
  have hz:(fs.map (·.1)).length ≤ sizeLine:=by rw [List.length_map,sizeLine_eq]; omega
  refine set_map I.kIn O c.sa c.po n.taker c.hd wi hz fun h' O' sb=>h _ ?_
  have hd:∃ o,h'.get? dx = some o:=let ⟨o,_,_,e',_⟩:=O'.ns; ⟨o,e'⟩
  refine I.write (x:=a) (e:=dx) (by rw [e]; exact True.intro) (.inr ho) (fun b q hb z=>(sb.2 b hb).trans z) hd ?_
  refine ⟨by rw [upd_ne O.ne]; exact ho,?_,O.ne,O'.obj,_,O'.ns,fun g=>?_,fun g hg=>?_⟩
  · have:=length_putF f y fs; omega
  · show RelO ((putF f y fs).lookup g) (if g = f then some u else mA g)
    rw [lookup_putF]
    by_cases q:g = f
    · rw [if_pos q,if_pos q]; exact ry
    · rw [if_neg q,if_neg q]; exact r g
  · by_cases q:g = f
    · rw [q]; exact (keys_putF f y fs).1
    · refine (keys_putF f y fs).2 g (wi g fun z=>hg ?_)
      show (if g = f then some u else mA g) = none
      rw [if_neg q]; exact z
theorem Inv.made (I:Inv X pins σ H s):Inv X pins σ (upd (upd H s.heap.objs.size (.own (s.heap.objs.size + 1))) (s.heap.objs.size + 1) (.ins C s.heap.objs.size []))
    { s with heap:=(s.heap.push PySem.W.emptyDict).push (PySem.W.instObj C s.heap.objs.size) }:=by
  have e1:(s.heap.push PySem.W.emptyDict).get? s.heap.objs.size = some PySem.W.emptyDict:=Heap.get?_push_size s.heap rfl
  have e2:((s.heap.push PySem.W.emptyDict).push (PySem.W.instObj C s.heap.objs.size)).get? (s.heap.objs.size + 1) = some (PySem.W.instObj C s.heap.objs.size):=by
    have:=Heap.get?_push_size (s.heap.push PySem.W.emptyDict) (o:=PySem.W.instObj C s.heap.objs.size) rfl
    rwa [Heap.size_push] at this
  have e3:(s.heap.push PySem.W.emptyDict).Ns s.heap.objs.size (fun _=>none):=⟨PySem.W.emptyDict,#[],_,e1,rfl,(fun e he=>absurd he (by simp)),fun _=>rfl⟩
  have I1:=I.laid (a:=s.heap.objs.size) (o:=.own (s.heap.objs.size + 1)) (h':=s.heap.push PySem.W.emptyDict) (t':=s.toks) (fun b u q=>Heap.get?_push_of_some _ q) (Nat.le_refl _) ⟨_,e1⟩
  refine I1.laid (a:=s.heap.objs.size + 1) (o:=.ins C s.heap.objs.size []) (t':=s.toks) (fun b u q=>Heap.get?_push_of_some _ q) (Nat.le_of_eq (Heap.size_push _ _)) ?_
  have ne:s.heap.objs.size ≠ s.heap.objs.size + 1:=Nat.ne_of_lt (Nat.lt_succ_self _)
  refine ⟨by rw [upd_ne ne,upd_same],Nat.zero_le _,ne,e2,fun _=>none,(Heap.Ns1.of_empty e3).at fun o q=>Heap.get?_push_of_some _ q,fun _=>True.intro,fun y hy=>absurd rfl hy⟩
theorem attr_of {prog:Program} {w:World} {env:Env} {e:Expr} {f:Str} {pos:Pos} {s:Shared} {Q:Value→Shared→Prop} (hb:attributeBase e f env (eval e env) = eval e env)
    (h:wpAny (model prog w) A (eval e env) (fun o s₁=>wpAny (model prog w) A (getAttr o f true) Q E s₁) E s):wpAny (model prog w) A (eval (.Attribute e f pos) env) Q E s :=
  Attribute_any_ h (by rw [arm_eval_Attribute,hb])
end
def tFld (K:PySem.W.Frag) (ta:TE) (f:Str):TE:=fun σ H Q=>ta σ H fun x H1=>∃ a C dx fs v,x = .ref a∧H1 a = some (.ins C dx fs)∧Cls K C∧NoAttr K C f∧fs.lookup f = some v∧Q v H1
def tCon (K:PySem.W.Frag) (ta:TE) (f:Str):TE:=fun σ H Q=>ta σ H fun x H1=>∃ a C dx fs v u,x = .ref a∧H1 a = some (.ins C dx fs)∧Cls K C∧Con K C f v u∧fs.lookup f = none∧Q v H1
def sFld (K:PySem.W.Frag) (ta tv:TE) (f:Str):TS:=fun D σ H=>tv σ H fun y H1=>ta σ H1 fun x H2=>∃ a C dx fs,x = .ref a∧H2 a = some (.ins C dx fs)∧Cls K C∧NoAttr K C f∧fs.length < 1000 ∧
  D.nx σ (upd H2 a (.ins C dx (putF f y fs)))
def InOp (X:Cx) (op:Operator) (rd:V→V→Hp→VK→Prop):Prop :=
  ∀ (pins:List (Addr × Obj)) (s:Shared) (σ:St) (H:Hp) (x y:V) (u v:Value) (Q:VK),Inv X pins σ H s→RelV x u→RelV y v→rd x y H Q→wpAny (model X.prog X.w) X.A (inplaceOp op u v) (EP X pins σ Q) X.xe s
def sFldAug (K:PySem.W.Frag) (ta tv:TE) (rd:V→V→Hp→VK→Prop) (f:Str):TS:=fun D σ H=>ta σ H fun x H1=>∃ a C dx fs v,x = .ref a∧H1 a = some (.ins C dx fs)∧Cls K C∧NoAttr K C f∧fs.lookup f = some v ∧
  tv σ H1 fun y H2=>rd v y H2 fun z H3=>∃ dx' fs',H3 a = some (.ins C dx' fs')∧fs'.length < 1000∧D.nx σ (upd H3 a (.ins C dx' (putF f z fs')))
section
variable {X:Cx} {o e value:Expr} {f:Str} {pos pos' tpos:Pos} {ta tv:TE}
theorem pe_fld (he:PE X e ta) (hb:attributeBase e f X.env (eval e X.env) = eval e X.env):PE X (.Attribute e f pos) (tFld X.K ta f):=by
  intro pins s σ H Q I h
  refine attr_of hb (thn (he pins s σ H _ I h) fun u s1 ⟨x,H1,I1,rx,a,C,dx,fs,v,ex,ea,c,n,l,q⟩=>?_)
  subst ex
  obtain rfl:u = Value.ref a:=rx
  exact getattr_ok I1 ea c n l fun u' s2 I2 ru=>⟨v,H1,I2,ru,q⟩
theorem ps_fld (ha:PE X o ta) (hv:PE X value tv) (hs:swapsWith value (some (.Attribute o f pos')) pos.line X.env = pure false):PS X (.Assign [.Attribute o f pos'] value pos) (sFld X.K ta tv f):=by
  intro pins s σ H D I h
  refine plainObj_wpAny_Assign_Attribute (thn (hv pins s σ H _ I h) fun u s1 ⟨y,H1,I1,ry,q⟩=>thn (ha pins s1 σ H1 _ I1 q) fun ov s2 ⟨x,H2,I2,rx,a,C,dx,fs,ex,ea,c,n,l,q2⟩=>?_) hs
  subst ex
  obtain rfl:ov = Value.ref a:=rx
  exact setattr_ok I2 ea c n l ry fun s3 I3=>⟨σ,_,I3,q2⟩
def rAdd:V→V→Hp→VK→Prop:=fun x y H Q=>∃ i j,x = .int i∧y = .int j∧Q (.int (i + j)) H
def rSub:V→V→Hp→VK→Prop:=fun x y H Q=>∃ i j,x = .int i∧y = .int j∧Q (.int (i - j)) H
end
section
variable {X:Cx} {pins:List (Addr × Obj)} {σ:St} {H:Hp} {s:Shared} {A:Around} {E:Value→Shared→Prop} {Q:Value→Shared→Prop} {c:Value} {b:Bool}
inductive TyOf (K:PySem.W.Frag) (H:Hp):V→Value→Prop where
  | non:TyOf K H .non (.type "NoneType")
  | bl (x:Bool):TyOf K H (.bl x) (.type "bool")
  | int (i:Int):TyOf K H (.int i) (.type "int")
  | str (x:Str):TyOf K H (.str x) (.type "str")
  | flt (x:UInt64):TyOf K H (.flt x) (.type "float")
  | lst {a:Addr} {xs:List V} (e:H a = some (.lst xs)):TyOf K H (.ref a) (.type "list")
  | frz {a:Addr} {o:Obj} {xs:List V} (e:H a = some (.frz o (.lst xs))):TyOf K H (.ref a) (.type "list")
  | tup {a:Addr} {xs:List V} (e:H a = some (.tup xs)):TyOf K H (.ref a) (.type "tuple")
  | dK {a:Addr} {kvs:List (Key × V)} (e:H a = some (.dK kvs)):TyOf K H (.ref a) (.type "dict")
  | dT {a:Addr} {kvs:List (List Key × V)} (e:H a = some (.dT kvs)):TyOf K H (.ref a) (.type "dict")
  | ins {a C dx:Addr} {fs:List (Str × V)} (e:H a = some (.ins C dx fs)) (cl:Cls K C) (ha:PySem.W.findIn K (.ref C) "__class__" = some (some (.builtin "object.__class__")))
      (hn:PySem.W.specialIn K (.builtin "object.__class__") "__get__" = some (some (.builtin "getset_descriptor.__get__"))) (htk:PySem.W.takesIn K (.builtin "object.__class__") = some true)
      (hm:PySem.W.mroIn K C (.type "object") = some true):TyOf K H (.ref a) (.ref C)
theorem isinst_ok {x:V} {u t:Value} (I:Inv X pins σ H s) (rx:RelV x u) (ty:TyOf X.K H x t) (e:PySem.W.kitOne X.K t c = some b) (h:∀ tk,Q (.bool b) { s with toks:=tk }) :
    wpAny (model X.prog X.w) A (call (.builtin "isinstance") [u,c]) Q E s:=by
  cases ty with
  | non=>cases (show u = Value.none from rx); exact PySem.W.kia_one PySem.W.kitx_none I.kIn True.intro e (fun z=>nomatch z) h
  | bl y=>cases (show u = Value.bool y from rx); exact PySem.W.kia_one PySem.W.kitx_bool I.kIn True.intro e (fun z=>nomatch z) h
  | int i=>obtain ⟨t,q⟩:=(show ∃ t,u = Value.int i t from rx); cases q; exact PySem.W.kia_one PySem.W.kitx_int I.kIn True.intro e (fun z=>nomatch z) h
  | str y=>obtain ⟨t,q⟩:=(show ∃ t,u = Value.str y t from rx); cases q; exact PySem.W.kia_one PySem.W.kitx_str I.kIn True.intro e (fun z=>nomatch z) h
  | flt y=>obtain ⟨t,q⟩:=(show ∃ t,u = Value.float y t from rx); cases q; exact PySem.W.kia_one PySem.W.kitx_float I.kIn True.intro e (fun z=>nomatch z) h
  | @lst a xs ea =>
    cases (show u = Value.ref a from rx)
    obtain ⟨_,_,n,_,h1⟩:=(show ObjOk X.prog X.w H s.heap a (.lst xs) from I.hok a _ ea)
    exact PySem.W.kia_one PySem.W.kitx_list I.kIn ⟨_,h1,rfl⟩ e (fun z=>nomatch z) h
  | @frz a ob xs ea =>
    cases (show u = Value.ref a from rx)
    obtain ⟨_,_,_,n,_,h1⟩:=(show ObjOk X.prog X.w H s.heap a (.frz ob (.lst xs)) from I.hok a _ ea)
    exact PySem.W.kia_one PySem.W.kitx_list I.kIn ⟨_,h1,rfl⟩ e (fun z=>nomatch z) h
  | @tup a xs ea =>
    cases (show u = Value.ref a from rx)
    obtain ⟨_,_,_,p⟩:=(show ObjOk X.prog X.w H s.heap a (.tup xs) from I.hok a _ ea)
    obtain ⟨o,h1,h2,_⟩:=p
    exact PySem.W.kia_one PySem.W.kitx_tuple I.kIn ⟨o,h1,h2⟩ e (fun z=>nomatch z) h
  | @dK a kvs ea =>
    cases (show u = Value.ref a from rx)
    obtain ⟨_,_,vs,_,p⟩:=(show ObjOk X.prog X.w H s.heap a (.dK kvs) from I.hok a _ ea)
    obtain ⟨o,es,ep,h1,h2,_⟩:=p
    exact PySem.W.kia_one PySem.W.kitx_dict I.kIn ⟨o,h1,h2.1⟩ e (fun z=>nomatch z) h
  | @dT a kvs ea =>
    cases (show u = Value.ref a from rx)
    obtain ⟨_,_,xs,_,o,es,ep,h1,h2,_⟩:=(show ObjOk X.prog X.w H s.heap a (.dT kvs) from I.hok a _ ea)
    exact PySem.W.kia_one PySem.W.kitx_dict I.kIn ⟨o,h1,h2.1⟩ e (fun z=>nomatch z) h
  | @ins a C dx fs ea cl ha hn htk hm =>
    cases (show u = Value.ref a from rx)
    obtain ⟨mA,O,_⟩:=ins_get I.hok ea
    obtain ⟨od,J,_⟩:=O.look
    exact PySem.W.kia_one (PySem.W.kitx_own (cl.get _) cl.hd ha hn htk hm) I.kIn J e (fun z=>nomatch z) h
end
end L2
namespace L2
open PySem PySem.Spec PyProof.Rows
structure Room (k:Nat) (A:Around):Prop where
  hd:A.handled = none
  dp:A.depth + 3 * k + 5 < recursionLimit
  un:A.units + 16 * k + 200 < cLine
theorem Room.mono {j k:Nat} {A:Around} (r:Room k A) (h:j ≤ k):Room j A:=⟨r.hd,by have:=r.dp; omega,by have:=r.un; omega⟩
theorem Room.deeper {k:Nat} {A:Around} (r:Room (k + 1) A) (env:Env):Room k (A.deeper env) :=
  ⟨r.hd,by have:=r.dp; show A.depth + 1 + 3 * k + 5 < _; omega,by have:=r.un; show A.units + 3 + 16 * k + 200 < _; omega⟩
theorem make_depth {A:Around} {C:Addr} {us:List Value} {kw:List (Str × Value)} : (A.under (.builtin "type.__call__" ⟨.ref C :: us,kw⟩)).depth = A.depth + 1:=by
  first | rfl | simp [Around.under,Code.weight,Code.isCreation,Code.isGuard,Code.isCaller,Code.frames,Code.isFrame,guardIds]
theorem make_units {A:Around} {C:Addr} {us:List Value} {kw:List (Str × Value)} : (A.under (.builtin "type.__call__" ⟨.ref C :: us,kw⟩)).units = A.units + 1:=by
  first | rfl | simp [Around.under,Code.cUnits,Code.frames,Code.isFrame]
theorem Room.make {k:Nat} {A:Around} (r:Room (k + 1) A) (C:Addr) (us:List Value) (kw:List (Str × Value)):Room k (A.under (.builtin "type.__call__" ⟨.ref C :: us,kw⟩)) :=
  ⟨r.hd,by have:=r.dp; rw [make_depth]; omega,by have:=r.un; rw [make_units]; omega⟩
theorem Room.depth {k:Nat} {A:Around} (r:Room k A):A.depth < recursionLimit:=by have:=r.dp; omega
theorem Room.units {k:Nat} {A:Around} (r:Room k A):A.units + 64 < cLine:=by have:=r.un; omega
def tNil:TA:=fun _ H Q=>Q [] H
def tCons (ta:TE) (tr:TA):TA:=fun σ H Q=>ta σ H fun x H1=>tr σ H1 fun xs H2=>Q (x :: xs) H2
section
variable {X:Cx} {e:Expr} {es:List Expr} {te:TE} {t:TA} {pos:Pos}
theorem pa_nil:PA X [] tNil:=fun _ _ _ _ H Q I h=>Calls.spliced_nil ⟨[],H,I,.nil,h⟩
theorem pa_cons (ha:PE X e te) (hr:PA X es t) (hs:starEach (e :: es) X.env = (false,eval e X.env) :: starEach es X.env:=by rfl):PA X (e :: es) (tCons te t):=by
  intro pos pins s σ H Q I h
  rw [hs]
  show wpAny _ _ (spliced ((false,eval e X.env) :: backTo pos (starEach es X.env))) _ _ s
  refine Calls.spliced_cons (thn (ha pins s σ H _ I h) fun u s1 ⟨x,H1,I1,r1,q1⟩=>?_)
  exact thn (hr pos pins s1 σ H1 _ I1 q1) fun us s2 ⟨xs,H2,I2,r2,q2⟩=>⟨x :: xs,H2,I2,.cons r1 r2,q2⟩
def tTup (t:TA):TE:=fun σ H Q=>t σ H fun xs H1=>xs.length ≤ sizeLine∧∀ p,H1 p = none→Q (.ref p) (upd H1 p (.tup xs))
def tLst (t:TA):TE:=fun σ H Q=>t σ H fun xs H1=>xs.length ≤ sizeLine∧∀ p,H1 p = none→Q (.ref p) (upd H1 p (.lst xs))
theorem pe_tup {x1} (h:PA X es t):PE X (.Tuple es x1 pos) (tTup t):=by
  intro pins s σ H Q I hq
  refine wpAny_Tuple_spliced (thn (h pos pins s σ H _ I hq) fun us s1 ⟨xs,H1,I1,r,z,q⟩=>⟨by rw [← r.length]; exact z,?_⟩)
  have hf:H1 s1.heap.objs.size = none:=I1.hok.fresh (Nat.le_refl _)
  refine ⟨.ref s1.heap.objs.size,upd H1 s1.heap.objs.size (.tup xs),I1.laid (t':=s1.toks) (fun b u e=>Heap.get?_push_of_some _ e) (Nat.le_refl _) ?_,rfl,q _ hf⟩
  exact ⟨z,us,r,⟨_,Heap.get?_push_size _ rfl,rfl,_,rfl⟩⟩
theorem pe_lst (h:PA X es t):PE X (.List es pos) (tLst t):=by
  intro pins s σ H Q I hq
  refine wpAny_List_spliced (thn (h pos pins s σ H _ I hq) fun us s1 ⟨xs,H1,I1,r,z,q⟩=>⟨by rw [← r.length]; exact z,?_⟩)
  have hf:H1 s1.heap.objs.size = none:=I1.hok.fresh (Nat.le_refl _)
  refine ⟨.ref s1.heap.objs.size,upd H1 s1.heap.objs.size (.lst xs),I1.laid (t':=s1.toks) (fun b u e=>Heap.get?_push_of_some _ e) (Nat.le_refl _) ?_,rfl,q _ hf⟩
  exact ⟨z,us,0,r,Heap.get?_push_size _ rfl⟩
end
abbrev Sp:=List V→Hp→VK→XK→Prop
abbrev CXT:=List Env→Hp→Shared→XK→Value→Shared→Prop
structure Env0 (P:Program) (w:World) (K:PySem.W.Frag) (mg:Str→Option Value) (base:Heap) (A:Around) (outer:List Env) (s:Shared) (H:Hp):Prop where
  frames:A.frames = some outer
  mod:Mod K mg base
  bs:∀ b o,base.get? b = some o→s.heap.get? b = some o∧H b = none
  bsz:base.objs.size ≤ s.heap.objs.size
  funs:s.heap.FunFrames base outer
  frf:∀ b ∈ frs outer,H b = none
  hok:HOk P w H s.heap
  bare:AllBare s.gens
def CE (outer:List Env) (P:Program) (w:World) (H:Hp) (s:Shared) (Q:VK) (u:Value) (s' : Shared):Prop :=
  ∃ v H',s'.os = s.os∧AllBare s'.gens∧Un (frs outer) [] H H' s.heap s'.heap∧HOk P w H' s'.heap∧RelV v u∧Q v H'
def CR (CX:CXT) (outer:List Env) (P:Program) (w:World) (H:Hp) (s:Shared) (Q:VK) (E:XK) (r:Result) (s' : Shared):Prop :=
  match r with
  | .ok (.ret u)=>CE outer P w H s Q u s'
  | .ok _=>False
  | .error e=>CX outer H s E e s'
structure FnOk (P:Program) (w:World) (K:PySem.W.Frag) (mg:Str→Option Value) (base:Heap) (CX:CXT) (k:Nat) (f:Addr) (fd:FuncData) (ps:List Str) (sp:Sp):Prop where
  len:∀ vs H Q E,sp vs H Q E→vs.length = ps.length
  run:∀ (A:Around) (outer:List Env) (s:Shared) (H:Hp) (args:Args) (us:List Value) (vs:List V) (Q:VK) (E:XK),Room k A→Env0 P w K mg base A outer s H→BindsTo s fd args (ps.zip us)→Vals vs us→sp vs H Q E →
    codeAny (model P w) A (.call (.ref f) args) (CR CX outer P w H s Q E) s
theorem FnOk.mono {P:Program} {w:World} {K:PySem.W.Frag} {mg:Str→Option Value} {base:Heap} {CX:CXT} {j k:Nat} {f:Addr} {fd:FuncData} {ps:List Str} {sp:Sp} (F:FnOk P w K mg base CX j f fd ps sp) (h:j ≤ k) :
    FnOk P w K mg base CX k f fd ps sp:=⟨F.len,fun A outer s H args us vs Q E hr=>F.run A outer s H args us vs Q E (hr.mono h)⟩
theorem Env0.make {P:Program} {w:World} {K:PySem.W.Frag} {mg:Str→Option Value} {base:Heap} {A:Around} {outer:List Env} {s:Shared} {H:Hp} (e:Env0 P w K mg base A outer s H) (C:Addr) (us:List Value) (kw:List (Str × Value)) :
    Env0 P w K mg base (A.under (.builtin "type.__call__" ⟨.ref C :: us,kw⟩)) outer s H:=⟨by first | exact e.frames | (simpa [Around.under,Code.envs,Code.isFrame,pushEnvs] using e.frames),e.mod,e.bs,e.bsz,e.funs,e.frf,e.hok,e.bare⟩
section
variable {X:Cx} {pins:List (Addr × Obj)} {σ:St} {H:Hp} {s s' : Shared}
theorem Inv.env0 (I:Inv X pins σ H s):Env0 X.prog X.w X.K X.mg X.base X.A X.stack s H :=
  ⟨I.ok.frames,I.ok.mod,I.bs,Nat.le_trans I.ok.bsz I.sz,I.stack,I.stkFree,I.hok,I.bare⟩
theorem Inv.after {Q:VK} {u:Value} (I:Inv X pins σ H s) (h:CE X.stack X.prog X.w H s Q u s'):EP X pins σ Q u s':=by
  obtain ⟨v,H',os,bare,un,hok,r,q⟩:=h
  obtain ⟨hh,g,d,t,os'⟩:=s'
  obtain rfl:os' = s.os:=os
  exact ⟨v,H',I.call (h':=hh) (g':=g) (d':=d) (t':=t) (ch:=[]) un hok bare (fun b z=>absurd z (by simp)),r,q⟩
end
def tCall (sp:Sp) (dvs:List V) (E:XK) (t:TA):TE:=fun σ H Q=>t σ H fun vs H1=>sp (vs ++ dvs) H1 Q E
def tMeth (C:Addr) (m:Str) (sp:Sp) (dvs:List V) (E:XK) (ta:TE) (t:TA):TE:=fun σ H Q=>ta σ H fun x H1=>∃ a dx fs,x = .ref a∧H1 a = some (.ins C dx fs)∧fs.lookup m = none ∧
  t σ H1 fun vs H2=>sp (x :: (vs ++ dvs)) H2 Q E
def tMake (C:Addr) (sp:Sp) (dvs:List V) (E:XK) (t:TA):TE:=fun σ H Q=>t σ H fun vs H1=>∀ x dx,H1 x = none→H1 dx = none→dx ≠ x →
  sp (.ref x :: (vs ++ dvs)) (upd (upd H1 dx (.own x)) x (.ins C dx [])) (fun v H2=>v = .non∧Q (.ref x) H2) E
def Binds (K:PySem.W.Frag) (fd:FuncData) (ps:List Str) (ds:List Value):Prop :=
  ∀ (s:Shared) (us:List Value),K.In s.heap→(us ++ ds).length = ps.length→BindsTo s fd ⟨us,[]⟩ (ps.zip (us ++ ds))
theorem Binds.all {K:PySem.W.Frag} {fd:FuncData} {ps:List Str} (h:∀ us:List Value,us.length = ps.length→bindArgs fd ⟨us,[]⟩ = pure (ps.zip us)):Binds K fd ps []:=fun s us _ hl=>by
  rw [List.append_nil] at hl ⊢
  exact .of_eq (h us hl)
def Passes (CX:CXT) (X:Cx) (E:XK):Prop:=∀ (pins:List (Addr × Obj)) (σ:St) (H:Hp) (s:Shared) (e:Value) (s' : Shared),Inv X pins σ H s→CX X.stack H s E e s'→X.xe e s'
section
variable {X:Cx} {CX:CXT} {k:Nat} {f C:Addr} {fd:FuncData} {ps:List Str} {sp:Sp} {dvs:List V} {ds:List Value} {E:XK} {x m:Str} {p pos apos:Pos} {e o:Expr} {es:List Expr} {ta:TE} {t:TA}
theorem run_fn {pins:List (Addr × Obj)} {σ:St} {H:Hp} {s:Shared} {Q:VK} {us:List Value} {vs:List V} (F:FnOk X.prog X.w X.K X.mg X.base CX k f fd ps sp) (hr:Room k X.A) (hb:Binds X.K fd ps ds) (hd:Vals dvs ds) (hx:Passes CX X E)
    (I:Inv X pins σ H s) (r:Vals vs us) (h:sp (vs ++ dvs) H Q E):wpAny (model X.prog X.w) X.A (call (.ref f) us) (EP X pins σ Q) X.xe s:=by
  have r2:Vals (vs ++ dvs) (us ++ ds):=r.append hd
  have hl:(us ++ ds).length = ps.length:=by rw [← r2.length]; exact F.len _ _ _ _ h
  refine wpAny_call (codeAny_mono (F.run X.A X.stack s H ⟨us,[]⟩ (us ++ ds) (vs ++ dvs) Q E hr I.env0 (hb s us I.kIn hl) r2 h) fun r s' hq=>?_)
  cases r with
  | error e=>exact hx pins σ H s e s' I hq
  | ok fl =>
    cases fl with
    | ret u=>exact I.after hq
    | next=>exact False.elim hq
    | brk=>exact False.elim hq
    | cont=>exact False.elim hq
theorem pe_call (F:FnOk X.prog X.w X.K X.mg X.base CX k f fd ps sp) (hr:Room k X.A) (hg:Gl X x) (hm:X.mg x = some (.ref f)) (hk:PySem.W.keepIn X.K (.ref f) = true) (hb:Binds X.K fd ps ds) (hd:Vals dvs ds) (hx:Passes CX X E)
    (ha:PA X (e :: es) t) (hdb:(x == ("__debug__" : Str)) = false:=by decide) (he:starEach (e :: es) X.env = (false,eval e X.env) :: starEach es X.env:=by rfl) (hpl:(backTo pos (starEach es X.env)).any (·.1) = false:=by rfl) :
    PE X (.Call (.Name x p) (e :: es) [] pos) (tCall sp dvs E t):=by
  intro pins s σ H Q I h
  refine wpAny_Call_Name_kw (ld_glob I hg hm ?_ hdb)
  refine PySem.W.callWith_K (h₀:=X.base) I.ok.mod.kin hk (thn (ha pos pins s σ H _ I h) fun us s1 ⟨vs,H1,I1,r,q⟩=>⟨I1.kIn,?_⟩) he hpl
  exact run_fn F hr hb hd hx I1 r q
structure Mk (K:PySem.W.Frag) (C f:Addr):Prop where
  makes:PySem.W.makesIn K C = true
  init:PySem.W.findIn K (.ref C) "__init__" = some (some (.ref f))
  fn:PySem.W.isFn K (.ref f) = true
  kp:PySem.W.keepIn K (.ref C) = true
theorem run_make {pins:List (Addr × Obj)} {σ:St} {H:Hp} {s:Shared} {Q:VK} {us:List Value} {vs:List V} (M:Mk X.K C f) (F:FnOk X.prog X.w X.K X.mg X.base CX k f fd ps sp) (hr:Room (k + 1) X.A) (hb:Binds X.K fd ps ds) (hd:Vals dvs ds)
    (hx:Passes CX X E) (I:Inv X pins σ H s) (r:Vals vs us)
    (h:∀ x dx,H x = none→H dx = none→dx ≠ x→sp (.ref x :: (vs ++ dvs)) (upd (upd H dx (.own x)) x (.ins C dx [])) (fun v H2=>v = .non∧Q (.ref x) H2) E) :
    wpAny (model X.prog X.w) X.A (call (.ref C) us) (EP X pins σ Q) X.xe s:=by
  have hq:=h (s.heap.objs.size + 1) s.heap.objs.size (I.hok.fresh (Nat.le_succ _)) (I.hok.fresh (Nat.le_refl _)) (Nat.ne_of_lt (Nat.lt_succ_self _))
  have I2:=Inv.made (C:=C) I
  have r2:Vals (V.ref (s.heap.objs.size + 1) :: (vs ++ dvs)) (Value.ref (s.heap.objs.size + 1) :: (us ++ ds)):=.cons rfl (r.append hd)
  have hl:(Value.ref (s.heap.objs.size + 1) :: us ++ ds).length = ps.length:=by
    have e:=r2.length
    rw [F.len _ _ _ _ hq] at e
    exact e.symm
  refine wpAny_call (make_map (f:=f) I.kIn M.makes M.init (beq_iff_eq.mp M.fn) (codeAny_mono (F.run _ X.stack _ _ ⟨Value.ref (s.heap.objs.size + 1) :: us,[]⟩ (Value.ref (s.heap.objs.size + 1) :: (us ++ ds)) _ _ E (hr.make C us [])
    (I2.env0.make C us []) (hb _ (Value.ref (s.heap.objs.size + 1) :: us) I2.kIn hl) r2 hq) fun r s' hq'=>?_))
  cases r with
  | error e=>exact hx pins σ _ _ e s' I2 hq'
  | ok fl =>
    cases fl with
    | ret u =>
      obtain ⟨v,H',I3,rv,ev,q3⟩:=I2.after hq'
      subst ev
      exact ⟨rv,⟨V.ref (s.heap.objs.size + 1),H',I3,rfl,q3⟩⟩
    | next=>exact False.elim hq'
    | brk=>exact False.elim hq'
    | cont=>exact False.elim hq'
theorem pe_make (M:Mk X.K C f) (F:FnOk X.prog X.w X.K X.mg X.base CX k f fd ps sp) (hr:Room (k + 1) X.A) (hg:Gl X x) (hm:X.mg x = some (.ref C)) (hb:Binds X.K fd ps ds) (hd:Vals dvs ds) (hx:Passes CX X E)
    (ha:PA X (e :: es) t) (hdb:(x == ("__debug__" : Str)) = false:=by decide) (he:starEach (e :: es) X.env = (false,eval e X.env) :: starEach es X.env:=by rfl) (hpl:(backTo pos (starEach es X.env)).any (·.1) = false:=by rfl) :
    PE X (.Call (.Name x p) (e :: es) [] pos) (tMake C sp dvs E t):=by
  intro pins s σ H Q I h
  refine wpAny_Call_Name_kw (ld_glob I hg hm ?_ hdb)
  refine PySem.W.callWith_K (h₀:=X.base) I.ok.mod.kin M.kp (thn (ha pos pins s σ H _ I h) fun us s1 ⟨vs,H1,I1,r,q⟩=>⟨I1.kIn,?_⟩) he hpl
  exact run_make M F hr hb hd hx I1 r q
theorem pe_make0 (M:Mk X.K C f) (F:FnOk X.prog X.w X.K X.mg X.base CX k f fd ps sp) (hr:Room (k + 1) X.A) (hg:Gl X x) (hm:X.mg x = some (.ref C)) (hb:Binds X.K fd ps ds) (hd:Vals dvs ds) (hx:Passes CX X E)
    (hdb:(x == ("__debug__" : Str)) = false:=by decide):PE X (.Call (.Name x p) [] [] pos) (tMake C sp dvs E tNil):=by
  intro pins s σ H Q I h
  refine wpAny_Call_Name_kw (ld_glob I hg hm ?_ hdb)
  exact PySem.W.callWith_K0 I.kIn M.kp (run_make (us:=[]) M F hr hb hd hx I .nil h)
end
def PK (X:Cx) (kws:List Keyword) (t:TA):Prop :=
  ∀ (pos:Pos) (pins:List (Addr × Obj)) (s:Shared) (σ:St) (H:Hp) (Q:List V→Hp→Prop),Inv X pins σ H s→t σ H Q→wpAny (model X.prog X.w) X.A (evalAll ((backToKw pos (keywordEach kws X.env)).map (·.2))) (AP X pins σ Q) X.xe s
section
variable {X:Cx} {CX:CXT} {k:Nat} {f C:Addr} {fd:FuncData} {ps ks:List Str} {sp:Sp} {E:XK} {x m:Str} {p pos apos kpos:Pos} {e o:Expr} {es:List Expr} {kws:List Keyword} {te ta:TE} {t tk:TA} {nm:Option Str}
structure KBinds (K:PySem.W.Frag) (fd:FuncData) (ps ks:List Str) (g:List Value→List Value→List Value) (gV:List V→List V→List V):Prop where
  to:∀ (s:Shared) (us ws:List Value),K.In s.heap→(g us ws).length = ps.length→BindsTo s fd ⟨us,ks.zip ws⟩ (ps.zip (g us ws))
  rel:∀ {vs:List V} {us:List Value} {zs:List V} {ws:List Value},Vals vs us→Vals zs ws→Vals (gV vs zs) (g us ws)
def tCallK (sp:Sp) (gV:List V→List V→List V) (E:XK) (t tk:TA):TE:=fun σ H Q=>t σ H fun vs H1=>tk σ H1 fun zs H2=>sp (gV vs zs) H2 Q E
variable {g:List Value→List Value→List Value} {gV:List V→List V→List V}
end
structure FnScope (N P:List Str) (sc:Scope):Prop where
  kind:sc.kind = .function
  co:sc.isCoroutine = false
  gen:sc.isGenerator = false
  nd:N.Nodup
  pre:N.take P.length = P
  par:∀ x ∈ P,sc.names.lookup x = some .local∨sc.names.lookup x = some .cell
  nofree:∀ y ∈ sc.names,y.2 ≠ .free
theorem bindL_out {kindOf:Str→Option NameKind} {x:Str} : ∀ {binds:List (Str × Value)} {m:Str→Option Value},(∀ v,(x,v) ∉ binds)→bindL kindOf binds m x = m x
  | [],_,_=>rfl
  | (n,v) :: r,m,h=>by
    unfold bindL
    rw [bindL_out fun w hw=>h w (List.mem_cons_of_mem _ hw)]
    split
    · have:x ≠ n:=by rintro rfl; exact h v List.mem_cons_self
      simp [this]
    · rfl
theorem bindC_out {kindOf:Str→Option NameKind} {x:Str} : ∀ {binds:List (Str × Value)} {m:Str→Option Value},(∀ v,(x,v) ∉ binds)→bindC kindOf binds m x = m x
  | [],_,_=>rfl
  | (n,v) :: r,m,h=>by
    unfold bindC
    rw [bindC_out fun w hw=>h w (List.mem_cons_of_mem _ hw)]
    split
    · rfl
    · have:x ≠ n:=by rintro rfl; exact h v List.mem_cons_self
      simp [this]
theorem bindL_get {kindOf:Str→Option NameKind} {x:Str} {v:Value} : ∀ {P:List Str} {vs:List Value} {i:Nat} {m:Str→Option Value},P.Nodup→P[i]? = some x→vs[i]? = some v→kindOf x = some .local →
    bindL kindOf (P.zip vs) m x = some v
  | [],_,_,_,_,h,_,_=>by simp at h
  | _ :: _,[],_,_,_,_,h,_=>by simp at h
  | p :: P,w :: vs,0,m,nd,h1,h2,hk=>by
    simp at h1 h2; subst h1; subst h2
    show bindL kindOf ((p,w) :: P.zip vs) m p = _
    unfold bindL
    rw [bindL_out fun v hv=>(List.nodup_cons.mp nd).1 (List.of_mem_zip hv).1,if_pos hk]
    simp
  | p :: P,w :: vs,i + 1,m,nd,h1,h2,hk=>by
    show bindL kindOf ((p,w) :: P.zip vs) m x = _
    unfold bindL
    exact bindL_get (i:=i) (List.nodup_cons.mp nd).2 (by simpa using h1) (by simpa using h2) hk
theorem bindC_get {kindOf:Str→Option NameKind} {x:Str} {v:Value} : ∀ {P:List Str} {vs:List Value} {i:Nat} {m:Str→Option Value},P.Nodup→P[i]? = some x→vs[i]? = some v→kindOf x ≠ some .local →
    bindC kindOf (P.zip vs) m x = some v
  | [],_,_,_,_,h,_,_=>by simp at h
  | _ :: _,[],_,_,_,_,h,_=>by simp at h
  | p :: P,w :: vs,0,m,nd,h1,h2,hk=>by
    simp at h1 h2; subst h1; subst h2
    show bindC kindOf ((p,w) :: P.zip vs) m p = _
    unfold bindC
    rw [bindC_out fun v hv=>(List.nodup_cons.mp nd).1 (List.of_mem_zip hv).1,if_neg hk]
    simp
  | p :: P,w :: vs,i + 1,m,nd,h1,h2,hk=>by
    show bindC kindOf ((p,w) :: P.zip vs) m x = _
    unfold bindC
    exact bindC_get (i:=i) (List.nodup_cons.mp nd).2 (by simpa using h1) (by simpa using h2) hk
def start (N:List Str) (vs:List V):St:=vs.map some ++ List.replicate (N.length - vs.length) none
def cxOf (CX:CXT) (P:Program) (w:World) (K:PySem.W.Frag) (mg:Str→Option Value) (base:Heap) (N:List Str) (qual:Str) (scope:Scope) (f:Addr) (cd:Value) (A:Around) (outer:List Env) (s:Shared) (H:Hp) (E:XK):Cx where
  prog:=P
  w:=w
  K:=K
  mg:=mg
  base:=base
  A:=A.deeper (envOfC qual scope s.heap.objs.size f cd)
  N:=N
  s₀:=s
  H₀:=H
  env:=envOfC qual scope s.heap.objs.size f cd
  outer:=outer
  stack:=envOfC qual scope s.heap.objs.size f cd :: outer
  ex:=[]
  calm:=true
  fn:=fun _=>true
  pn:=[]
  xe:=fun e s'=>wpAny (model P w) (A.deeper (envOfC qual scope s.heap.objs.size f cd)) (leaving (envOfC qual scope s.heap.objs.size f cd) e) (fun _ s''=>CX outer H s E e s'') (fun e' s''=>CX outer H s E e' s'') s'
theorem cell_has {sc:Scope} {n:Nat} {x:Str} (h:sc.names.lookup x = some .cell):∃ c,(cellsFrom n sc.names []).lookup x = some c:=by
  have q:=PySem.W.cellsFrom_some sc.names n [] (.inl h)
  exact Option.isSome_iff_exists.mp q
theorem inv_start {CX:CXT} {P:Program} {w:World} {K:PySem.W.Frag} {mg:Str→Option Value} {base:Heap} {N ps:List Str} {qual:Str} {scope:Scope} {f:Addr} {cd:Value} {A:Around} {outer:List Env} {s s1:Shared} {H:Hp} {E:XK} {us:List Value} {vs:List V}
    (S:FnScope N ps scope) (hd:A.handled = none) (e0:Env0 P w K mg base A outer s H) (hl:vs.length = ps.length) (r:Vals vs us)
    (x:InCallC s s.heap.objs.size (bindL (envOfC qual scope s.heap.objs.size f cd).kindOf (ps.zip us) fun _=>none) (cellsFrom (s.heap.objs.size + 1) scope.names []) (bindC (envOfC qual scope s.heap.objs.size f cd).kindOf (ps.zip us) fun _=>none) s1) :
    Inv (cxOf CX P w K mg base N qual scope f cd A outer s H E) [] (start N vs) H s1:=by
  have hpl:ps.length ≤ N.length:=by have:=congrArg List.length S.pre; rw [List.length_take] at this; omega
  obtain ⟨h1,tk,rfl,hk⟩:=x.done
  have noA:∀ b:Addr,b ∉ (cxOf CX P w K mg base N qual scope f cd A outer s H E).ex:=fun b z=>absurd (show b ∈ ([]:List Addr) from z) (by simp)
  refine ⟨⟨e0.mod,S.kind,rfl,rfl,Nat.le_refl _,fun y z c h1 h2=>?_,fun y hy=>?_,fun y c _ h=>?_,fun _=>hd,Around.frames_deeper e0.frames,.inr ⟨rfl,rfl⟩,fun b z=>absurd z (noA b),e0.bs,e0.bsz,fun b _ _=>noA b,fun b z=>absurd z (noA b),e0.funs,e0.frf⟩,
    rfl,e0.bare,Un.kept hk,⟨_,x.toInCall.ns,fun i y v h1 h2 h3=>?_⟩,fun y c h=>⟨_,x.cell y c h⟩,e0.hok.fresh (Nat.le_refl _),fun y c h=>?_,fun p hp=>absurd (show p ∈ ([]:List (Addr × Obj)) from hp) (by simp),e0.hok.kept hk,?_⟩
  · exact name_of_addr x.apart (PySem.mem_of_lookup h1) (PySem.mem_of_lookup h2)
  · have hy:scope.names.lookup y = some .cell∨scope.names.lookup y = some .free:=hy
    rcases hy with hy | hy
    · exact cell_has hy
    · exact absurd rfl (S.nofree _ (PySem.mem_of_lookup hy))
  · exact Nat.le_of_lt (x.above y c (PySem.mem_of_lookup h))
  · have hi:i < vs.length:=by
      unfold start at h2
      by_cases hi:i < vs.length
      · exact hi
      · rw [List.getElem?_append_right (by simpa using hi)] at h2
        rw [List.getElem?_replicate] at h2
        split at h2 <;> cases h2
    have ha:vs[i]? = some v:=by
      unfold start at h2
      rw [List.getElem?_append_left (by simpa using hi),List.getElem?_map] at h2
      cases e:vs[i]? with
      | none=>rw [e] at h2; cases h2
      | some a=>rw [e] at h2; cases h2; rfl
    obtain ⟨u,hu,rv⟩:=r.get ha
    have hp:ps[i]? = some y:=by
      rw [← S.pre,List.getElem?_take_of_lt (by omega)]; exact h1
    have ndP:ps.Nodup:=by rw [← S.pre]; exact S.nd.sublist (List.take_sublist _ _)
    refine ⟨u,rv,?_⟩
    rcases S.par y (List.mem_of_getElem? hp) with k | k
    · exact .inl ⟨k,bindL_get ndP hp hu k⟩
    · obtain ⟨c,e⟩:=cell_has (n:=s.heap.objs.size + 1) k
      refine .inr ⟨.inl k,c,e,?_⟩
      have q:=x.cell y c e
      rw [bindC_get ndP hp hu (by show scope.names.lookup y ≠ _; rw [k]; decide)] at q
      exact q
  · exact e0.hok.fresh (Nat.le_of_lt (x.above y c (PySem.mem_of_lookup h)))
  · unfold start
    show _ = N.length
    rw [List.length_append,List.length_map,List.length_replicate]
    omega
theorem fn_of {CX:CXT} {P:Program} {w:World} {K:PySem.W.Frag} {mg:Str→Option Value} {base:Heap} {k:Nat} {f:Addr} {name qual:Str} {params:Arguments} {body:List Stmt} {scope:Scope} {dV kV doc pm cdv ct oc:Value} {an od:Option Addr}
    {osl:Array (Option Value)} {N ps:List Str} {sp:Sp} (lk:K.lookup f = some ⟨oc,od,.func (PySem.W.fnOf name qual params body scope dV kV doc pm an cdv ct),osl⟩) (hcd:PySem.W.codeIn K cdv qual = true) (S:FnScope N ps scope)
    (len:∀ vs H Q E,sp vs H Q E→vs.length = ps.length)
    (hbody:∀ (A:Around) (outer:List Env) (s:Shared) (H:Hp) (vs:List V) (Q:VK) (E:XK),Room k (A.deeper (envOfC qual scope s.heap.objs.size f cdv))→sp vs H Q E →
      ∃ t,PSs (cxOf CX P w K mg base N qual scope f cdv A outer s H E) body t∧t { nx:=fun _ H'=>Q .non H',rt:=Q } (start N vs) H) :
    FnOk P w K mg base CX (k + 1) f (PySem.W.fnOf name qual params body scope dV kV doc pm an cdv ct) ps sp:=by
  refine ⟨len,fun A outer s H args us vs Q E hr e0 hb r hsp=>?_⟩
  have hl:=len _ _ _ _ hsp
  have KX:K.In s.heap:=e0.mod.kin.keeps fun b o e=>(e0.bs b o e).1
  have lim:s.heap.NoLimit:=e0.mod.nolimit.keeps fun b o e=>(e0.bs b o e).1
  have hkind:∀ y ∈ ps.zip us,scope.names.lookup y.1 = some .local∨(scope.names.lookup y.1 = some .cell∧((cellsFrom (s.heap.objs.size + 1) scope.names []).lookup y.1).isSome = true):=fun ⟨n,v⟩ hy=>by
    rcases S.par n (List.of_mem_zip hy).1 with q | q
    · exact .inl q
    · exact .inr ⟨q,PySem.W.cellsFrom_some _ _ _ (.inl q)⟩
  refine codeAny_call_function hr.depth (KX _ _ lk) rfl S.co S.gen rfl (PySem.W.codeRec_of KX hcd) (hb _ _ _ _ ?_)
  refine wpAny_newFunctionEnv_cells S.kind hkind fun env he s1 x=>?_
  subst he
  refine ⟨lim.keeps x.toInCall.keep,codeAny_func ?_⟩
  obtain ⟨t,ht,hq⟩:=hbody A outer s H vs Q E (hr.deeper _) hsp
  have I:Inv (cxOf CX P w K mg base N qual scope f cdv A outer s H E) [] (start N vs) H s1:=inv_start S hr.hd e0 hl r x
  refine wpAny_mono (ht [] s1 (start N vs) H _ I hq) (fun fl s' hs=>?_) fun e s' hs=>hs
  have fin:∀ {σ' : St} {H' : Hp} {v:V} {u:Value},Inv (cxOf CX P w K mg base N qual scope f cdv A outer s H E) [] σ' H' s'→RelV v u→Q v H'→CE outer P w H s Q u s' :=
    fun {σ' H' v u} J rv q=>⟨v,H',J.os,J.bare,J.base,J.hok,rv,q⟩
  cases fl with
  | ret u =>
    obtain ⟨v,σ',H',J,rv,q⟩:=hs
    exact fin J rv q
  | next =>
    obtain ⟨σ',H',J,q⟩:=hs
    exact fin (v:=V.non) (u:=Value.none) J rfl q
  | brk =>
    obtain ⟨_,_,_,q⟩:=hs
    exact False.elim q
  | cont =>
    obtain ⟨_,_,_,q⟩:=hs
    exact False.elim q
end L2
namespace L2
open PySem PySem.Spec PyProof.Rows
section
variable {X:Cx} {x:Str} {p pos:Pos} {e:Expr} {es:List Expr} {t:TA} {id T:String} {r:List V→Hp→VK→Prop}
def tCB (r:List V→Hp→VK→Prop) (t:TA):TE:=fun σ H Q=>t σ H fun vs H1=>r vs H1 Q
theorem pe_callB (hc:CallR X (.builtin id) r) (hg:Gl X x) (hm:X.mg x = none) (hv:bootBuiltins x = some (.builtin id)) (ha:PA X (e :: es) t) (hn:x ≠ "__name__" := by decide) (hdb:(x == ("__debug__" : Str)) = false:=by decide)
    (he:starEach (e :: es) X.env = (false,eval e X.env) :: starEach es X.env:=by rfl) (hpl:(backTo pos (starEach es X.env)).any (·.1) = false:=by rfl):PE X (.Call (.Name x p) (e :: es) [] pos) (tCB r t):=by
  intro pins s σ H Q I h
  refine wpAny_Call_Name_kw (ld_blt I hg hm hv ?_ hn hdb)
  exact PyProof.Rows.callWith_builtin1 (thn (ha pos pins s σ H _ I h) fun us s1 ⟨vs,H1,I1,r1,q1⟩=>hc pins s1 σ H1 vs us Q I1 r1 q1) he hpl
theorem pe_callTy (hc:CallR X (.type T) r) (hg:Gl X x) (hm:X.mg x = none) (hv:bootBuiltins x = some (.type T)) (ha:PA X (e :: es) t) (hn:x ≠ "__name__" := by decide) (hdb:(x == ("__debug__" : Str)) = false:=by decide)
    (he:starEach (e :: es) X.env = (false,eval e X.env) :: starEach es X.env:=by rfl) (hpl:(backTo pos (starEach es X.env)).any (·.1) = false:=by rfl):PE X (.Call (.Name x p) (e :: es) [] pos) (tCB r t):=by
  intro pins s σ H Q I h
  refine wpAny_Call_Name_kw (ld_blt I hg hm hv ?_ hn hdb)
  exact PyProof.Rows.callWith_type1 (thn (ha pos pins s σ H _ I h) fun us s1 ⟨vs,H1,I1,r1,q1⟩=>hc pins s1 σ H1 vs us Q I1 r1 q1) he hpl
end
end L2
namespace HT
open PySem PyProof.Rows
def lexLt:List Int→List Int→Bool
  | [],[]=>false
  | [],_ :: _=>true
  | _ :: _,[]=>false
  | x :: xs,y :: ys=>if x = y then lexLt xs ys else decide (x < y)
section
open PySem.SeqAt
open PySem.AutoSeq1 (wpAny_loadPart')
open PySem.MeetsSeq PySem.MeetsSeq2 PySem.MeetsSeq3
end
section
variable {prog:Program} {w:World} {A:Around} {E:Value→Shared→Prop} {s:Shared}
def sIx (n d:Nat):Option Int→Nat
  | none=>d
  | some v=>if v < 0 then (v + (n:Int)).toNat else min v.toNat n
end
end HT
namespace L2
open PySem PySem.Spec PyProof.Rows
abbrev TO:=St→Hp→(Option Int→Hp→Prop)→Prop
def PO (X:Cx) (e:Option Expr) (t:TO):Prop :=
  ∀ (pins:List (Addr × Obj)) (s:Shared) (σ:St) (H:Hp) (Q:Option Int→Hp→Prop),Inv X pins σ H s→t σ H Q →
    wpAny (model X.prog X.w) X.A (evalPart e X.env) (fun u s'=>∃ o H',Inv X pins σ H' s'∧IsPart u o∧Q o H') X.xe s
def tNoPart:TO:=fun _ H Q=>Q none H
def tPart (t:TE):TO:=fun σ H Q=>t σ H fun x H1=>∃ i,x = .int i∧Q (some i) H1
section
variable {X:Cx} {e:Expr} {te:TE} {lo hi:Option Expr} {tl th:TO} {pos p2:Pos}
def SlR (X:Cx) (r:V→Option Int→Option Int→Hp→VK→Prop):Prop :=
  ∀ (pins:List (Addr × Obj)) (s:Shared) (σ:St) (H:Hp) (x:V) (v vl vu:Value) (lo hi:Option Int) (sl:Addr) (Q:VK),Inv X pins σ H s→RelV x v→s.heap.IsSliceOf sl vl vu .none→IsPart vl lo→IsPart vu hi→r x lo hi H Q →
    ∃ T id,typeLookup (.type T) "__getitem__" = pure (some (.builtin id))∧s.TypeIs v T∧wpAny (model X.prog X.w) X.A (getItem v (.ref sl)) (EP X pins σ Q) X.xe s
def tSl (r:V→Option Int→Option Int→Hp→VK→Prop) (te:TE) (tl th:TO):TE:=fun σ H Q=>te σ H fun x H1=>tl σ H1 fun l H2=>th σ H2 fun u H3=>r x l u H3 Q
def cutV (xs:List V) (lo hi:Option Int):List V:=(xs.drop (HT.sIx xs.length 0 lo)).take (HT.sIx xs.length xs.length hi - HT.sIx xs.length 0 lo)
def rSlT (K:PySem.W.Frag):V→Option Int→Option Int→Hp→VK→Prop:=fun x lo hi H Q=>∃ a xs,x = .ref a∧SqT K H a xs ∧
  ¬ (HT.sIx xs.length 0 lo = 0∧HT.sIx xs.length xs.length hi = xs.length)∧∀ p,H p = none→Q (.ref p) (upd H p (.tup (cutV xs lo hi)))
def rLtT (K:PySem.W.Frag):R2:=fun x y H Q=>∃ a b ns ms,x = .ref a∧y = .ref b∧SqT K H a (ns.map V.int)∧SqT K H b (ms.map V.int)∧Q (.bl (HT.lexLt ns ms)) H
def rCatT (K:PySem.W.Frag):R2:=fun x y H Q=>∃ a b xs ys,x = .ref a∧y = .ref b∧SqT K H a xs∧SqT K H b ys∧xs ≠ []∧xs.length + ys.length ≤ sizeLine ∧
  (ys = []→Q (.ref a) H)∧(ys ≠ []→∀ p,H p = none→Q (.ref p) (upd H p (.tup (xs ++ ys))))
end
end L2
namespace L2
open PySem PySem.Spec PyProof.Rows
def ixN (n:Nat) (i:Int):Option Nat:=if 0 ≤ i then (if i < n then some i.toNat else none) else if -(n:Int) ≤ i then some (i + n).toNat else none
def atI {α:Type} (xs:List α) (i:Int):Option α:=(ixN xs.length i).bind fun j=>xs[j]?
theorem ixN_seq {n:Nat} {i:Int} {j:Nat} (h:ixN n i = some j):seqIndex? i n = some j∧j < n∧-(n:Int) ≤ i∧i < n:=by
  unfold ixN at h
  by_cases h0:0 ≤ i
  · rw [if_pos h0] at h
    by_cases h1:i < n
    · rw [if_pos h1] at h
      have e:i.toNat = j:=Option.some.inj h
      exact ⟨by rw [seqIndex_of h0 h1,e],by omega,by omega,h1⟩
    · rw [if_neg h1] at h; cases h
  · rw [if_neg h0] at h
    by_cases h1 : -(n:Int) ≤ i
    · rw [if_pos h1] at h
      have e:(i + n).toNat = j:=Option.some.inj h
      exact ⟨by rw [seqIndex_neg (by omega) h1,e],by omega,h1,by omega⟩
    · rw [if_neg h1] at h; cases h
theorem atI_get {α:Type} {xs:List α} {i:Int} {v:α} (h:atI xs i = some v):∃ j,seqIndex? i xs.length = some j∧xs[j]? = some v∧j < xs.length∧-(xs.length:Int) ≤ i∧i < xs.length:=by
  unfold atI at h
  cases e:ixN xs.length i with
  | none=>rw [e] at h; cases h
  | some j =>
    rw [e] at h
    obtain ⟨h1,h2,h3,h4⟩:=ixN_seq e
    exact ⟨j,h1,h,h2,h3,h4⟩
theorem atI_nat {α:Type} {xs:List α} {j:Nat} {v:α} (h:xs[j]? = some v):atI xs (j:Int) = some v:=by
  have hj:j < xs.length:=(List.getElem?_eq_some_iff.mp h).1
  have e:ixN xs.length (j:Int) = some j:=by
    unfold ixN
    rw [if_pos (by omega),if_pos (by omega)]; simp
  unfold atI; rw [e]; exact h
def PlainIx (b:Expr):Prop:=∀ o i,subscripted b false o i = operate [o,i] (getItem o i)
def IxR (X:Cx) (r:R2):Prop :=
  ∀ (value slice:Expr) (pins:List (Addr × Obj)) (s:Shared) (σ:St) (H:Hp) (x y:V) (v u:Value) (Q:VK),Inv X pins σ H s→RelV x v→RelV y u→r x y H Q →
    subscripted slice false v u = operate [v,u] (getItem v u)→wpAny (model X.prog X.w) X.A (subscriptTail value slice v u) (EP X pins σ Q) X.xe s
def MtR (X:Cx) (id:String) (r:V→List V→Hp→VK→Prop):Prop :=
  ∀ (pins:List (Addr × Obj)) (s:Shared) (σ:St) (H:Hp) (x:V) (xs:List V) (v:Value) (us:List Value) (Q:VK),Inv X pins σ H s→RelV x v→Vals xs us→r x xs H Q →
    wpAny (model X.prog X.w) X.A (call (.builtin id) (v :: us)) (EP X pins σ Q) X.xe s
section
variable {X:Cx} {a b:Expr} {ta tb:TE} {pos:Pos}
theorem pe_ix {r:R2} (hr:IxR X r) (ha:PE X a ta) (hb:PE X b tb) (hs:PlainIx b):PE X (.Subscript a b pos) (tOp r ta tb):=by
  intro pins s σ H Q I h
  exact Subscript_ (binT ha hb I h fun v u s2 x y H2 I2 rx ry q=>hr a b pins s2 σ H2 x y v u Q I2 rx ry q (hs _ _))
def rIxL (K:PySem.W.Frag):R2:=fun x y H Q=>∃ p xs i v,x = .ref p∧y = .int i∧SqL K H p xs∧atI xs i = some v∧Q v H
def rIxT (K:PySem.W.Frag):R2:=fun x y H Q=>∃ p xs i v,x = .ref p∧y = .int i∧SqT K H p xs∧atI xs i = some v∧Q v H
def rIxS:R2:=fun x y H Q=>∃ z i c,x = .str z∧y = .int i∧z.length ≤ sizeLine∧atI z.cps.toList i = some c∧Q (.str ⟨#[c]⟩) H
theorem ix_list:IxR X (rIxL X.K):=by
  intro value slice pins s σ H x y v u Q I rx ry h hs
  obtain ⟨p,xs,i,z,rfl,rfl,hq,he,q⟩:=h
  cases rx
  obtain ⟨t,rfl⟩:=ry
  obtain ⟨its,r,pl,hz⟩:=I.list hq
  obtain ⟨j,h1,h2,h3,h4,h5⟩:=atI_get he
  obtain ⟨w,ew,rw'⟩:=r.get h2
  have hl:=r.length
  have hn:=line63
  have fin:EP X pins σ Q w s:=⟨z,H,I,rw',q⟩
  by_cases h0:0 ≤ i
  · have hj:i.toNat = j:=by
      rw [seqIndex_of h0 h5] at h1
      exact Option.some.inj h1
    exact item_listR pl.isList h0 (by omega) (by rw [hj]; simpa using ew) fin hs
  · have hj:(i + (its.toArray.size:Int)).toNat = j:=by
      rw [seqIndex_neg (by omega) h4] at h1
      rw [List.size_toArray,← hl]
      exact Option.some.inj h1
    exact subscriptTail_builtinR (x:=w) pl.isList.typeIs slot_list_getitem.lookup
      (wpAny_getItem_list_neg (Q:=fun r s'=>r = w∧EP X pins σ Q r s') pl.isList (by omega) (by rw [List.size_toArray] <;> omega) (by omega) (by rw [hj]; simpa using ew) ⟨rfl,fin⟩) hs
theorem ix_tup:IxR X (rIxT X.K):=by
  intro value slice pins s σ H x y v u Q I rx ry h hs
  obtain ⟨p,xs,i,z,rfl,rfl,hq,he,q⟩:=h
  cases rx
  obtain ⟨t,rfl⟩:=ry
  obtain ⟨its,r,pl,hz⟩:=I.tuple hq
  obtain ⟨j,h1,h2,h3,h4,h5⟩:=atI_get he
  obtain ⟨w,ew,rw'⟩:=r.get h2
  have hl:=r.length
  have hn:=line63
  have fin:EP X pins σ Q w s:=⟨z,H,I,rw',q⟩
  exact subscriptTail_builtinR (x:=w) pl.typeIs slot_tuple_getitem.lookup
    (getItem_tuple (j:=j) (Q:=fun r s'=>r = w∧EP X pins σ Q r s') pl (by omega) (by omega) (by rw [List.size_toArray,← hl]; exact h1) (by simpa using ew) ⟨rfl,fin⟩) hs
theorem ix_str:IxR X rIxS:=by
  intro value slice pins s σ H x y v u Q I rx ry h hs
  obtain ⟨z,i,c,rfl,rfl,hz,he,q⟩:=h
  obtain ⟨t,rfl⟩:=rx
  obtain ⟨t',rfl⟩:=ry
  obtain ⟨j,h1,h2,h3,h4,h5⟩:=atI_get he
  have hl:z.cps.toList.length = z.length:=by simp [Str.length]
  rw [hl] at h1 h4 h5
  have hn:=line63
  exact tail_any (typeIs_str s z t) slot_str_getitem.lookup (getItem_str (c:=c) (by
    have e1:decide (i < -(2 ^ 63:Int)) = false:=decide_eq_false (by omega)
    have e2:decide (i ≥ 2 ^ 63) = false:=decide_eq_false (by omega)
    rw [e1,e2,Bool.or_false]) (by rw [h1]; simpa using h2) ⟨.str ⟨#[c]⟩,H,I.tok _,⟨_,rfl⟩,q⟩) hs
def rIx (K:PySem.W.Frag):R2:=fun x y H Q=>rIxL K x y H Q∨rIxT K x y H Q∨rIxS x y H Q
theorem Inv.lst {pins:List (Addr × Obj)} {σ:St} {H:Hp} {s:Shared} {p:Addr} {xs:List V} (I:Inv X pins σ H s) (h:H p = some (.lst xs)) :
    ∃ (its:List Value) (n:Nat),Vals xs its∧s.heap.get? p = some { cls:=.type "list",data:=.seq its.toArray n }∧xs.length ≤ sizeLine:=by
  obtain ⟨z,its,n,r,e⟩:=I.hok p _ h
  exact ⟨its,n,r,e,z⟩
def rSetL:V→V→V→Hp→(Hp→Prop)→Prop:=fun o i v H Q=>∃ p xs k j,o = .ref p∧i = .int k∧H p = some (.lst xs)∧ixN xs.length k = some j∧Q (upd H p (.lst (xs.set j v)))
def rSlL (K:PySem.W.Frag):V→Option Int→Option Int→Hp→VK→Prop:=fun x lo hi H Q=>∃ a xs,x = .ref a∧SqL K H a xs∧∀ p,H p = none→Q (.ref p) (upd H p (.lst (cutV xs lo hi)))
def flatV:V→Bool
  | .non=>true
  | .bl _=>true
  | .int _=>true
  | .str _=>true
  | _=>false
def eqV:V→V→Bool
  | .non,.non=>true
  | .bl a,.bl b=>a == b
  | .bl a,.int b=>(if a then 1 else 0) == b
  | .int a,.bl b=>a == (if b then 1 else 0)
  | .int a,.int b=>a == b
  | .str a,.str b=>a == b
  | _,_=>false
theorem eqAt_V {A:Around} {s:Shared} {y x:V} {u v:Value} (ry:RelV y u) (rx:RelV x v) (fy:flatV y = true) (fx:flatV x = true):SeqAt.EqAt A s u v (eqV y x):=by
  cases y with
  | non =>
    cases ry
    cases x with
    | non=>cases rx; exact SeqAt.EqAt.same _
    | bl b=>cases rx; exact SeqAt.EqAt.none_bool b
    | int b=>obtain ⟨t,rfl⟩:=rx; exact SeqAt.EqAt.none_int b t
    | str b=>obtain ⟨t,rfl⟩:=rx; exact SeqAt.EqAt.none_str b t
    | _=>exact absurd (show false = true from fx) Bool.false_ne_true
  | bl a =>
    cases ry
    cases x with
    | non=>cases rx; exact SeqAt.EqAt.bool_none a
    | bl b=>cases rx; exact SeqAt.EqAt.bool_bool a b
    | int b=>obtain ⟨t,rfl⟩:=rx; exact SeqAt.EqAt.bool_int a b t
    | str b=>obtain ⟨t,rfl⟩:=rx; exact SeqAt.EqAt.bool_str a b t
    | _=>exact absurd (show false = true from fx) Bool.false_ne_true
  | int a =>
    obtain ⟨t',rfl⟩:=ry
    cases x with
    | non=>cases rx; exact SeqAt.EqAt.int_none a t'
    | bl b=>cases rx; exact SeqAt.EqAt.int_bool a t' b
    | int b=>obtain ⟨t,rfl⟩:=rx; exact SeqAt.EqAt.int_int a t' b t
    | str b=>obtain ⟨t,rfl⟩:=rx; exact SeqAt.EqAt.int_str a t' b t
    | _=>exact absurd (show false = true from fx) Bool.false_ne_true
  | str a =>
    obtain ⟨t',rfl⟩:=ry
    cases x with
    | non=>cases rx; exact SeqAt.EqAt.str_none a t'
    | bl b=>cases rx; exact SeqAt.EqAt.str_bool a t' b
    | int b=>obtain ⟨t,rfl⟩:=rx; exact SeqAt.EqAt.str_int a t' b t
    | str b=>obtain ⟨t,rfl⟩:=rx; exact SeqAt.EqAt.str_str a t' b t
    | _=>exact absurd (show false = true from fx) Bool.false_ne_true
  | _=>exact absurd (show false = true from fy) Bool.false_ne_true
def eqU (x:V) (u:Value):Bool:=match u with
  | .none=>eqV .non x
  | .bool b=>eqV (.bl b) x
  | .int i _=>eqV (.int i) x
  | .str z _=>eqV (.str z) x
  | _=>false
theorem eqU_of {x y:V} {u:Value} (r:RelV y u) (f:flatV y = true):eqU x u = eqV y x:=by
  cases y with
  | non=>cases r; rfl
  | bl b=>cases r; rfl
  | int i=>obtain ⟨t,rfl⟩:=r; rfl
  | str z=>obtain ⟨t,rfl⟩:=r; rfl
  | _=>exact absurd (show false = true from f) Bool.false_ne_true
theorem any_eqU {x:V} : ∀ {xs:List V} {us:List Value},Vals xs us→xs.all flatV = true→us.any (eqU x) = xs.any fun y=>eqV y x
  | _,_,.nil,_=>rfl
  | y :: xs,u :: us,.cons r t,f=>by
    rw [List.all_cons,Bool.and_eq_true] at f
    rw [List.any_cons,List.any_cons,eqU_of r f.1,any_eqU t f.2]
theorem mem_eqAt {A:Around} {s:Shared} {x:V} {v:Value} (rx:RelV x v) (fx:flatV x = true):∀ {xs:List V} {us:List Value},Vals xs us→xs.all flatV = true→∀ u ∈ us,SeqAt.EqAt A s u v (eqU x u)
  | _,_,.nil,_=>fun u hu=>by cases hu
  | y :: xs,u :: us,.cons r t,f=>fun u' hu=>by
    rw [List.all_cons,Bool.and_eq_true] at f
    rcases List.mem_cons.mp hu with rfl | hu
    · rw [eqU_of r f.1]; exact eqAt_V r rx f.1 fx
    · exact mem_eqAt rx fx t f.2 u' hu
def inV (x:V) (xs:List V):Bool:=xs.any fun y=>eqV y x
def rIn (K:PySem.W.Frag) (neg:Bool):R2:=fun x y H Q=>∃ p xs,y = .ref p∧(SqL K H p xs∨SqT K H p xs)∧flatV x = true∧xs.all flatV = true∧Q (.bl (if neg then !inV x xs else inV x xs)) H
theorem op_in_seq:OpR X (compareOp .In) (rIn X.K false):=by
  intro pins s σ H x y v u Q I rx ry h
  obtain ⟨p,xs,rfl,hq,fx,fs,q⟩:=h
  cases ry
  rcases hq with hq | hq
  · obtain ⟨its,r,pl,hz⟩:=I.list hq
    refine SeqAt.in_listAt (eqU x) pl.isList (fun w hw=>mem_eqAt rx fx r fs w (by simpa using hw)) ⟨.bl _,H,I,rfl,?_⟩
    rw [show its.toArray.any (eqU x) = its.any (eqU x) by simp,any_eqU r fs]
    exact q
  · obtain ⟨its,r,pl,hz⟩:=I.tuple hq
    refine SeqAt.in_tupleAt (eqU x) pl (fun w hw=>mem_eqAt rx fx r fs w (by simpa using hw)) ⟨.bl _,H,I,rfl,?_⟩
    rw [show its.toArray.any (eqU x) = its.any (eqU x) by simp,any_eqU r fs]
    exact q
theorem op_notIn_seq:OpR X (compareOp .NotIn) (rIn X.K true):=by
  intro pins s σ H x y v u Q I rx ry h
  obtain ⟨p,xs,rfl,hq,fx,fs,q⟩:=h
  cases ry
  rcases hq with hq | hq
  · obtain ⟨its,r,pl,hz⟩:=I.list hq
    refine SeqAt.notIn_listAt (eqU x) pl.isList (fun w hw=>mem_eqAt rx fx r fs w (by simpa using hw)) ⟨.bl _,H,I,rfl,?_⟩
    rw [show its.toArray.any (eqU x) = its.any (eqU x) by simp,any_eqU r fs]
    exact q
  · obtain ⟨its,r,pl,hz⟩:=I.tuple hq
    refine SeqAt.notIn_tupleAt (eqU x) pl (fun w hw=>mem_eqAt rx fx r fs w (by simpa using hw)) ⟨.bl _,H,I,rfl,?_⟩
    rw [show its.toArray.any (eqU x) = its.any (eqU x) by simp,any_eqU r fs]
    exact q
theorem call_len_seq:CallR X (.builtin "len") (fun xs H Q=>∃ p ys,xs = [.ref p]∧(SqL X.K H p ys∨SqT X.K H p ys)∧Q (.int ys.length) H):=by
  intro pins s σ H xs us Q I r h
  obtain ⟨p,ys,rfl,hq,q⟩:=h
  obtain ⟨u,rfl,rx⟩:=vals1 r
  cases rx
  have hn:=line63
  rcases hq with hq | hq
  · obtain ⟨its,r',pl,hz⟩:=I.list hq
    have hlen:=r'.length
    exact Calls.call_len_list pl.isList (by simp only [List.size_toArray] <;> omega) ⟨.int ys.length,H,I.tok _,⟨s.toks + 1,by rw [List.size_toArray,hlen]⟩,q⟩
  · obtain ⟨its,r',pl,hz⟩:=I.tuple hq
    have hlen:=r'.length
    exact len_tuple pl (by simp only [List.size_toArray] <;> omega) ⟨.int ys.length,H,I.tok _,⟨s.toks + 1,by rw [List.size_toArray,hlen]⟩,q⟩
theorem call_len_str:CallR X (.builtin "len") (fun xs H Q=>∃ z,xs = [.str z]∧z.length ≤ sizeLine∧Q (.int z.length) H):=by
  intro pins s σ H xs us Q I r h
  obtain ⟨z,rfl,hz,q⟩:=h
  obtain ⟨u,rfl,t,rfl⟩:=vals1 r
  have hn:=line63
  exact len_str (by omega) ⟨.int z.length,H,I.tok _,⟨_,rfl⟩,q⟩
theorem call_list_of:CallR X (.type "list") (fun xs H Q=>∃ p ys,xs = [.ref p]∧(SqL X.K H p ys∨SqT X.K H p ys)∧∀ l,H l = none→Q (.ref l) (upd H l (.lst ys))):=by
  intro pins s σ H xs us Q I r h
  obtain ⟨p,ys,rfl,hq,q⟩:=h
  obtain ⟨u,rfl,rx⟩:=vals1 r
  cases rx
  have fin:∀ (its:List Value),Vals ys its→ys.length ≤ sizeLine→∀ (h' : Heap) (c' : Nat),(∀ b o',s.heap.get? b = some o'→h'.get? b = some o') →
      h'.get? s.heap.objs.size = some { cls:=.type "list",dict:=none,data:=.seq its.toArray c',slots:=#[] }→EP X pins σ Q (.ref s.heap.objs.size) { s with heap:=h' }:=fun its r' hz h' c' kp e =>
    ⟨.ref s.heap.objs.size,_,I.laid (t':=s.toks) kp (Nat.le_refl _) (show ObjOk X.prog X.w _ h' _ (.lst ys) from ⟨hz,its,c',r',e⟩),rfl,q _ (I.hok.fresh (Nat.le_refl _))⟩
  rcases hq with hq | hq
  · obtain ⟨its,r',pl,hz⟩:=I.list hq
    have hlen:=r'.length
    obtain ⟨o,ho,hc,n,hd⟩:=pl.isList
    exact call_list_seq p (.inl rfl) ho hc hd (fun h' c' kp e=>fin its r' hz h' c' kp e) (by simp only [List.size_toArray] <;> omega)
  · obtain ⟨its,r',pl,hz⟩:=I.tuple hq
    have hlen:=r'.length
    obtain ⟨o,ho,hc,n,hd⟩:=pl
    exact call_list_seq p (.inr rfl) ho hc hd (fun h' c' kp e=>fin its r' hz h' c' kp e) (by simp only [List.size_toArray] <;> omega)
def tyV (K:PySem.W.Frag) (T:String) (x:V) (H:Hp):Prop:=match x with
  | .str _=>T = "str"
  | .int _=>T = "int"
  | .ref p=>(T = "list" ∧ ∃ xs,SqL K H p xs)∨(T = "tuple" ∧ ∃ o,K.lookup p = some o∧o.cls = .type "tuple" ∧ o.dict = none) ∨
      (T = "dict" ∧ ((∃ kvs,H p = some (.dK kvs))∨∃ kvs,H p = some (.dT kvs)))∨(T = "set" ∧ ∃ S n,H p = some (.set S n))
  | _=>False
theorem tyV_is {pins:List (Addr × Obj)} {σ:St} {H:Hp} {s:Shared} {T:String} {x:V} {v:Value} (I:Inv X pins σ H s) (r:RelV x v) (ty:tyV X.K T x H) :
    s.TypeIs v T∧∀ a,v = .ref a→∃ ob,s.heap.get? a = some ob∧ob.dict = none:=by
  cases x with
  | str z =>
    obtain ⟨t,rfl⟩:=r
    cases (show T = "str" from ty)
    exact ⟨typeIs_str s z t,fun _ e=>nomatch e⟩
  | int i =>
    obtain ⟨t,rfl⟩:=r
    cases (show T = "int" from ty)
    exact ⟨typeIs_int s i t,fun _ e=>nomatch e⟩
  | ref p =>
    cases r
    rcases ty with ⟨rfl,xs,hq⟩ | ⟨rfl,o,hk,hc,hd⟩ | ⟨rfl,hk⟩ | ⟨rfl,S,n,hk⟩
    · obtain ⟨its,_,pl,_⟩:=I.list hq
      refine ⟨pl.isList.typeIs,fun a e=>?_⟩
      cases e
      obtain ⟨o,n,e,c,hd,_⟩:=pl
      exact ⟨o,e,hd⟩
    · refine ⟨⟨o,I.kIn p o hk,hc⟩,fun a e=>?_⟩
      cases e
      exact ⟨o,I.kIn _ o hk,hd⟩
    · have z:∃ o,s.heap.get? p = some o∧o.ExactDict:=by
        rcases hk with ⟨kvs,hk⟩ | ⟨kvs,hk⟩
        · obtain ⟨_,_,_,_,o,_,_,e,ex,_⟩:=I.hok p _ hk
          exact ⟨o,e,ex⟩
        · obtain ⟨_,_,_,_,o,_,_,e,ex,_⟩:=I.hok p _ hk
          exact ⟨o,e,ex⟩
      obtain ⟨o,e,ex⟩:=z
      refine ⟨⟨o,e,ex.1⟩,fun a e2=>?_⟩
      cases e2
      exact ⟨o,e,ex.2.1⟩
    · obtain ⟨o,_,_,_,e,ex,_⟩:=I.hok p _ hk
      refine ⟨⟨o,e,ex.1⟩,fun a e2=>?_⟩
      cases e2
      exact ⟨o,e,ex.2.1⟩
  | _=>exact False.elim ty
def tBM0 (K:PySem.W.Frag) (T:String) (r:V→List V→Hp→VK→Prop) (to:TE):TE:=fun σ H Q=>to σ H fun x H1=>tyV K T x H1∧r x [] H1 Q
def tBM (K:PySem.W.Frag) (T:String) (r:V→List V→Hp→VK→Prop) (to:TE) (t:TA):TE:=fun σ H Q=>to σ H fun x H1=>tyV K T x H1∧t σ H1 fun xs H2=>r x xs H2 Q
variable {o e:Expr} {es:List Expr} {to:TE} {t:TA} {name:Str} {apos cpos:Pos} {T id:String} {r:V→List V→Hp→VK→Prop}
theorem pe_bm0 (pa:PlainAttrs T) (slot:Slot T name id) (hty:typeOf (.builtin id) = pure (.type "method_descriptor")) (hm:MtR X id r) (ho:PE X o to)
    (hbase:attributeBase o name X.env (eval o X.env) = eval o X.env:=by rfl) (hline:(apos.endLine == cpos.line) = true:=by rfl):PE X (.Call (.Attribute o name apos) [] [] cpos) (tBM0 X.K T r to):=by
  intro pins s σ H Q I h
  refine wpAny_Call_method0_late hbase hline (thn (ho pins s σ H _ I h) fun v s1 ⟨x,H1,I1,r1,ty,q1⟩=>?_)
  obtain ⟨h1,h2⟩:=tyV_is I1 r1 ty
  exact ⟨T,id,pa,slot,hty,h1,h2,Calls.callWith_builtin rfl (PySem.evalArgs_none (hm pins s1 σ H1 x [] v [] Q I1 r1 .nil q1))⟩
theorem pe_bm (pa:PlainAttrs T) (slot:Slot T name id) (hty:typeOf (.builtin id) = pure (.type "method_descriptor")) (hm:MtR X id r) (ho:PE X o to) (ha:PA X (e :: es) t)
    (hbase:attributeBase o name X.env (eval o X.env) = eval o X.env:=by rfl)
    (hfew:((backTo cpos (starEach (e :: es) X.env)).all (fun x=>!x.1) && (backToKw cpos (keywordEach [] X.env)).all (fun x=>x.1.isSome)
      && decide ((e :: es).length + ([]:List Keyword).length + (if ([]:List Keyword).isEmpty then 0 else 1) < 30)) = true:=by rfl)
    (hline:(apos.endLine == cpos.line) = true:=by rfl) (hs:starEach (e :: es) X.env = (false,eval e X.env) :: starEach es X.env:=by rfl) (hplain:(backTo cpos (starEach es X.env)).any (·.1) = false:=by rfl) :
    PE X (.Call (.Attribute o name apos) (e :: es) [] cpos) (tBM X.K T r to t):=by
  intro pins s σ H Q I h
  refine wpAny_Call_method_late hbase hfew hline rfl (thn (ho pins s σ H _ I h) fun v s1 ⟨x,H1,I1,r1,ty,q1⟩=>?_)
  obtain ⟨h1,h2⟩:=tyV_is I1 r1 ty
  refine ⟨T,id,pa,slot,hty,h1,h2,?_⟩
  have hA:=ha cpos pins s1 σ H1 _ I1 q1
  rw [hs] at hA ⊢
  refine Calls.callWith_builtin (by show (false || (backTo cpos (starEach es X.env)).any (·.1)) = false; rw [hplain] <;> rfl) (Calls.evalArgs_plain ?_)
  exact thn hA fun us s2 ⟨vs,H2,I2,r2,q2⟩=>hm pins s2 σ H2 x vs v us Q I2 r1 r2 q2
end
end L2
namespace L2
open PySem PySem.Spec PyProof.Rows
def MtM (X:Cx) (id:String) (r:V→List V→Hp→VK→Prop):Prop :=
  ∀ (pins:List (Addr × Obj)) (s:Shared) (σ:St) (H:Hp) (x:V) (xs:List V) (v:Value) (us:List Value) (Q:VK),Inv X pins σ H s→RelV x v→Vals xs us→r x xs H Q →
    wpAny (model X.prog X.w) X.A (call (.builtin id) (v :: us)) (EP X pins σ Q) X.xe s
theorem Vals.one:∀ {x:V} {us:List Value},Vals [x] us→∃ u,us = [u]∧RelV x u
  | _,_,.cons r .nil=>⟨_,rfl,r⟩
theorem Vals.two:∀ {x y:V} {us:List Value},Vals [x,y] us→∃ u v,us = [u,v]∧RelV x u∧RelV y v
  | _,_,_,.cons r (.cons q .nil)=>⟨_,_,rfl,r,q⟩
theorem Vals.zero:∀ {us:List Value},Vals [] us→us = []
  | _,.nil=>rfl
theorem Vals.reverse {xs:List V} {us:List Value} (h:Vals xs us):Vals xs.reverse us.reverse:=by
  induction h with
  | nil=>exact .nil
  | cons r t ih=>rw [List.reverse_cons,List.reverse_cons]; exact Vals.append ih (.cons r .nil)
section
variable {X:Cx} {pins:List (Addr × Obj)} {σ:St} {H:Hp} {s:Shared} {l b:Addr} {xs ys zs:List V}
theorem Inv.lset {its its' : List Value} {n:Nat} {f:Array Value→Array Value} {t' : Nat} (I:Inv X pins σ H s) (hH:H l = some (.lst xs))
    (e:s.heap.get? l = some { cls:=.type "list",data:=.seq its.toArray n }) (hf:f its.toArray = its'.toArray) (hv:Vals ys its') (hz:ys.length ≤ sizeLine) :
    Inv X pins σ (upd H l (.lst ys)) { s with heap:=s.heap.update l (Obj.mapSeq f),toks:=t' }:=by
  have q:=PySem.IsL.update e f
  rw [hf] at q
  refine I.write (x:=l) (e:=l) (by rw [hH]; exact trivial) (.inl rfl) (fun b' u hb hu=>(Heap.get?_update_other s.heap (Obj.mapSeq f) (Ne.symm hb)).trans hu) ⟨_,q⟩ ?_
  exact ⟨hz,its',_,hv,q⟩
theorem Inv.lnew {its:List Value} {t' : Nat} (I:Inv X pins σ H s) (hv:Vals ys its) (hz:ys.length ≤ sizeLine) :
    Inv X pins σ (upd H s.heap.objs.size (.lst ys)) { s with heap:=s.heap.push { cls:=.type "list",data:=.seq its.toArray },toks:=t' } :=
  I.laid (fun _ _ q=>Heap.get?_push_of_some _ q) (Nat.le_refl _) ⟨hz,its,0,hv,Heap.get?_push_size _ rfl⟩
theorem Inv.fresh (I:Inv X pins σ H s):H s.heap.objs.size = none:=I.hok.fresh (Nat.le_refl _)
theorem Inv.lstM (I:Inv X pins σ H s) (hH:H l = some (.lst xs)):xs.length ≤ sizeLine∧∃ (its:List Value) (n:Nat),Vals xs its∧xs.length = its.length∧s.heap.get? l = some { cls:=.type "list",data:=.seq its.toArray n }:=by
  obtain ⟨z,its,n,r,e⟩:=I.hok l _ hH
  exact ⟨z,its,n,r,r.length,e⟩
end
section
variable {X:Cx}
def rAppend:V→List V→Hp→VK→Prop:=fun x vs H Q=>∃ l xs y,x = .ref l∧vs = [y]∧H l = some (.lst xs)∧xs.length < sizeLine∧Q .non (upd H l (.lst (xs ++ [y])))
theorem mt_append:MtM X "list.append" rAppend:=by
  intro pins s σ H x vs v us Q I rx rv h
  obtain ⟨l,xs,y,rfl,rfl,hH,hz,q⟩:=h
  cases rx
  obtain ⟨u,rfl,ru⟩:=rv.one
  obtain ⟨z,its,n,r,hl,e⟩:=I.lstM hH
  refine call_meets F.slot_list_append ⟨_,e,rfl⟩ F.entry_list_append (F.args_list_append_2 _ _) (PySem.list_append l its.toArray n u (by rw [List.size_toArray]; omega)) ⟨e,?_⟩
  refine ⟨.non,_,I.lset (its':=its ++ [u]) hH e (by simp) (r.append (.cons ru .nil)) ?_,rfl,q⟩
  rw [List.length_append,List.length_singleton]
  omega
def rExtend:V→List V→Hp→VK→Prop:=fun x vs H Q=>∃ l b xs zs,x = .ref l∧vs = [.ref b]∧H l = some (.lst xs)∧H b = some (.lst zs)∧xs.length + zs.length ≤ sizeLine∧Q .non (upd H l (.lst (xs ++ zs)))
def rPop:V→List V→Hp→VK→Prop:=fun x vs H Q=>∃ l xs y,x = .ref l∧vs = []∧H l = some (.lst xs)∧xs[xs.length - 1]? = some y∧Q y (upd H l (.lst xs.dropLast))
def rPopAt:V→List V→Hp→VK→Prop:=fun x vs H Q=>∃ l xs i k y,x = .ref l∧vs = [.int i]∧H l = some (.lst xs)∧-(2 ^ 63) ≤ i∧i < 2 ^ 63∧seqIndex? i xs.length = some k∧xs[k]? = some y∧Q y (upd H l (.lst (xs.eraseIdx k)))
def rReverse:V→List V→Hp→VK→Prop:=fun x vs H Q=>∃ l xs,x = .ref l∧vs = []∧H l = some (.lst xs)∧Q .non (upd H l (.lst xs.reverse))
theorem mt_reverse:MtM X "list.reverse" rReverse:=by
  intro pins s σ H x vs v us Q I rx rv h
  obtain ⟨l,xs,rfl,rfl,hH,q⟩:=h
  cases rx
  have hus:=rv.zero
  subst hus
  obtain ⟨z,its,n,r,hl,e⟩:=I.lstM hH
  refine call_meets F.slot_list_reverse ⟨_,e,rfl⟩ F.entry_list_reverse (F.args_list_reverse_1 _) (AutoSeq1.list_reverse_list_0 l its.toArray n (by rw [List.size_toArray]; omega)) ⟨e,?_⟩
  refine ⟨.non,_,I.lset (its':=its.reverse) hH e (by simp) r.reverse ?_,rfl,q⟩
  rw [List.length_reverse]
  omega
def rClear:V→List V→Hp→VK→Prop:=fun x vs H Q=>∃ l xs,x = .ref l∧vs = []∧H l = some (.lst xs)∧Q .non (upd H l (.lst []))
def rCat:R2:=fun x y H Q=>∃ l b xs zs,x = .ref l∧y = .ref b∧H l = some (.lst xs)∧H b = some (.lst zs)∧xs.length + zs.length ≤ sizeLine∧∀ p,H p = none→Q (.ref p) (upd H p (.lst (xs ++ zs)))
theorem op_cat:OpR X (binaryOp .Add) rCat:=by
  intro pins s σ H x y v u Q I rx ry h
  obtain ⟨l,b,xs,zs,rfl,rfl,hH,hB,hz,q⟩:=h
  cases rx
  cases ry
  obtain ⟨z,its,n,r,hl,e⟩:=I.lstM hH
  obtain ⟨z2,its2,n2,r2,hl2,e2⟩:=I.lstM hB
  refine PySem.P.add_list e e2 ?_ (by rw [List.size_toArray,List.size_toArray]; omega)
  have ea:its.toArray ++ its2.toArray = (its ++ its2).toArray:=by simp
  rw [ea]
  exact ⟨.ref _,_,I.lnew (t':=s.toks) (r.append r2) (by rw [List.length_append]; omega),rfl,q _ I.fresh⟩
def rRep:R2:=fun x y H Q=>∃ l k xs,x = .ref l∧y = .int k∧H l = some (.lst xs)∧-(2 ^ 63) ≤ k∧k < 2 ^ 63∧xs.length * k.toNat ≤ sizeLine ∧
  ∀ p,H p = none→Q (.ref p) (upd H p (.lst (List.replicate k.toNat xs).flatten))
end
section
variable {prog:Program} {w:World} {A:Around} {E:Value→Shared→Prop} {s:Shared}
end
section
variable {X:Cx}
end
end L2
namespace Att
open PySem PySem.W PySem.Calls PyProof.Rows
theorem ints_of_wellAll {P:Params} {h:Heap} : ∀ (ns:List Int) (vs:List Value),WellAll P h vs (ns.map WData.int)→IntsAre vs ns:=by
  intro ns
  induction ns with
  | nil =>
    intro vs w
    rw [List.map_nil] at w
    cases w
    exact .nil
  | cons n ns ih =>
    intro vs w
    rw [List.map_cons] at w
    cases w with
    | cons a b =>
      cases a
      exact .cons _ _ (ih _ b)
theorem script_of {l:OpenLaw} {n:Nat} (hn:l.most = some n) {P:Params} {h:Heap} {args:List WData} {vals:List Value}
    (hpre:l.row.toRowW.claim.pre args = true) (hwl:WellAll P h vals args) :
    ∃ a vs ns,vals = [Value.ref a]∧args = [WData.list (ns.map WData.int)]∧h.get? a = some { cls:=.type "list",data:=.seq vs.toArray }∧IntsAre vs ns∧ns.length ≤ n:=by
  have hsh:WShape.hasAll [] args [.list .int] = true:=(pre_splitW hpre).1
  have hc:l.pre.holds [] { args:=args } = true:=(pre_splitW hpre).2
  obtain ⟨d,r,rfl,h1,h2⟩:=hasAllW_cons hsh
  obtain rfl:=hasAllW_nil h2
  obtain ⟨xs,rfl,h3⟩:=hasW_list h1
  obtain ⟨ns,rfl⟩:=items_int h3
  have hlen:ns.length ≤ n:=by
    unfold OpenLaw.pre at hc
    have h4:(WTm.not (.lt (.lit (.int (n:Int))) (.len (.arg 0)))).holds [] { args:=[.list (ns.map .int)] } = true:=by
      have h4:=(holds_andW hc).1
      rw [hn] at h4
      exact h4
    have h5:=condW_of h4 (w_not (w_lt w_lit (w_len_list (w_arg rfl))))
    rw [List.length_map] at h5
    refine Nat.le_of_not_lt fun q=>?_
    have q' : (n:Int) < ((ns.length:Nat):Int):=by omega
    first
      | (rw [decide_eq_true q'] at h5; exact absurd h5 (by decide))
      | (simp at h5; omega)
  cases hwl with
  | cons w1 w2 =>
    cases w2
    cases w1 with
    | list ho hall=>exact ⟨_,_,ns,rfl,rfl,ho,ints_of_wellAll ns _ hall,hlen⟩
theorem post_true (l:OpenLaw) (args:List WData):l.row.toRowW.claim.post args (.bool true) args = true :=
  postW_of (r:=l.row.toRowW) (X:=(true == true))
    (show WShape.has [] (.bool true) .bool = true by first | rfl | decide | simp [WShape.has,WShape.arms,WShape.armsAll])
    (show (WTm.eq .res (.lit (.bool true))).value [] { args:=args,res:=some (.bool true),after:=args } = some (.bool (true == true)) from w_eq_bool (w_res rfl) w_lit) rfl
theorem attach_call {l:OpenLaw} {n:Nat} {q:Program} {loose:List Str} {XP:(Str→Option Value)→Heap→Prop} {YP:World→Heap→Prop} {d:DefRec}
    (hn:l.most = some n) (hdf:d.params.defaults = [])
    (call:∀ (w:World) (s₀ s₁:Shared) (mg mb:Str→Option Value) (fa:Addr) (o:Obj) (pm cd doc:Value) (a:Addr) (vs:List Value) (ns:List Int),
      Ground q loose [] XP w s₀ mg mb s₁.heap→YP w s₁.heap →
      s₁.heap.get? fa = some o→o.data = .func (docDef d.name d.params d.body d.scope pm cd doc)→s₁.heap.CodeRec cd d.name→mg d.name = some (.ref fa) →
      s₁.heap.get? a = some { cls:=.type "list",data:=.seq vs.toArray }→IntsAre vs ns→ns.length ≤ n→s₁.gens = #[] →
      codeAny (model l.prog w) callerA (.call (.ref fa) ⟨[.ref a],[]⟩) (fun r s'=>r = .ok (.ret (.bool true))∧OldK s₁.heap s'.heap∧s'.os = s₁.os∧AllBare s'.gens) s₁) :
    WalkO q loose XP YP l.row.toRowW d [] (fun f vs=>PySem.call f vs):=by
  intro w s₀ s₁ mg mb G Y fa o pm cd doc dV kV ho hd hcd hD hmg hg args vals as hpre hlay hrd hwl hlo
  obtain rfl:dV = .none:=Dflts.none hD hdf
  obtain rfl:kV = .none:=Dflts.noKw hD
  obtain ⟨a,vs,ns,rfl,rfl,hobj,hints,hlen⟩:=script_of hn hpre hwl
  refine enter_call (codeAny_mono (call w s₀ s₁ mg mb fa o pm cd doc a vs ns G Y ho (fd_plain hd) hcd hmg hobj hints hlen hg) fun r s' hq=>?_)
  obtain ⟨rfl,h2,h3,h4⟩:=hq
  exact ⟨.inl ⟨.bool true,.bool true,[],rfl,fun _=>rfl,.bool true,post_true l _,fun _=>⟨List.Pairwise.nil,fun _ hm=>(nomatch hm)⟩⟩,h2,h3,h4⟩
section
variable {prog:Program} {w:World} {A:Around} {E:Value→Shared→Prop} {s:Shared} {K:Frag}
def noObjs (h:Heap):Heap:={ h with objs:=#[] }
def ledger (h:Heap) (L d:Addr):List (Addr × Obj):=(List.range h.objs.size).filterMap fun a=>if a = L∨a = d then none else (h.get? a).map fun o=>(a,o)
end
end Att
namespace L2
open PySem PySem.Spec PyProof.Rows
theorem vals_ints:∀ {vs:List Value} {ns:List Int},IntsAre vs ns→Vals (ns.map V.int) vs
  | _,_,.nil=>.nil
  | _,_,.cons n t h=>.cons ⟨t,rfl⟩ (vals_ints h)
def Only (H:Hp):Prop:=∀ b,H b = none∨∃ o xs,H b = some (.frz o (.lst xs))
theorem law_call {P:Program} {w:World} {K:PySem.W.Frag} {mg mb:Str→Option Value} {CX:CXT} {k:Nat} {fa a:Addr} {fd:FuncData} {x:Str} {sp:Sp} {s₁:Shared} {vs:List Value} {ns:List Int}
    (KX:K.In s₁.heap) (hns:s₁.heap.Ns mainGlobals mg) (hb:s₁.heap.Ns builtinsNs mb) (hbb:∀ x:Str,x ≠ "__name__" → mb x = bootBuiltins x) (hlim:s₁.heap.NoLimit) (hg:s₁.gens = #[])
    (ha:s₁.heap.get? a = some { cls:=.type "list",data:=.seq vs.toArray }) (hi:IntsAre vs ns) (hl:ns.length ≤ sizeLine) (hr:Room k callerA)
    (F:∀ base:Heap,K.In base→base.Ns mainGlobals mg→FnOk P w K mg base CX k fa fd [x] sp) (hbind:∀ (s:Shared) (u:Value),BindsTo s fd ⟨[u],[]⟩ [(x,u)])
    (hsp:∀ H:Hp,Only H→SqL K H a (ns.map V.int)→sp [.ref a] H (fun v _=>v = .bl true) fun _ _ _=>False)
    (hCX:∀ H e s',CX [] H s₁ (fun _ _ _=>False) e s'→False) :
    codeAny (model P w) callerA (.call (.ref fa) ⟨[.ref a],[]⟩) (fun r s'=>r = .ok (.ret (.bool true))∧OldK s₁.heap s'.heap∧s'.os = s₁.os∧AllBare s'.gens) s₁:=by
  have rv:=vals_ints hi
  have lenV:=hi.length
  have core:∀ H:Hp,Only H→SqL K H a (ns.map V.int)→HOk P w H s₁.heap→(∀ b,H b ≠ none→b = a)→(H a ≠ none→K.lookup a = none) →
      codeAny (model P w) callerA (.call (.ref fa) ⟨[.ref a],[]⟩) (fun r s'=>r = .ok (.ret (.bool true))∧OldK s₁.heap s'.heap∧s'.os = s₁.os∧AllBare s'.gens) s₁:=by
    intro H hO hS hok hA hK
    have base_of:∀ {b:Addr} {o:Obj},s₁.heap.get? b = some o→H b = none→(hidT s₁.heap H).get? b = some o:=fun e n=>hidT_get e n
    have noA:∀ {b:Addr} {o:Obj} {es:Array DictEntry} {ep:Nat},s₁.heap.get? b = some o→o.data = .dict es ep→H b = none:=fun {b o es ep} e d=>by
      cases q:H b with
      | none=>rfl
      | some u =>
        have e' : b = a:=hA b (by rw [q]; simp)
        subst e'
        rw [ha] at e; cases e
        have d' : Data.seq vs.toArray _ = Data.dict es ep:=d
        cases d'
    have nsK:∀ {b:Addr} {m:Str→Option Value},s₁.heap.Ns b m→(hidT s₁.heap H).Ns b m:=fun {b m} ⟨o,es,ep,e,d,r⟩=>⟨o,es,ep,base_of e (noA e d),d,r⟩
    have hKb:K.In (hidT s₁.heap H):=fun b o e=>base_of (KX b o e) (by
      cases q:H b with
      | none=>rfl
      | some u =>
        have e' : b = a:=hA b (by rw [q]; simp)
        subst e'
        rw [hK (by rw [q]; simp)] at e; cases e)
    have hM:Mod K mg (hidT s₁.heap H):=⟨hKb,nsK hns,⟨mb,nsK hb,hbb⟩,let ⟨mc,h1,h2⟩:=hlim; ⟨mc,nsK h1,h2⟩⟩
    have e0:Env0 P w K mg (hidT s₁.heap H) callerA [] s₁ H:=⟨rfl,hM,fun b o e=>of_hidT e,Nat.le_of_eq (hidT_size _ _),trivial,fun b hb=>absurd (show b ∈ ([]:List Addr) from hb) (by simp),hok,.of_eq hg⟩
    refine codeAny_mono ((F _ hKb (nsK hns)).run callerA [] s₁ H ⟨[.ref a],[]⟩ [.ref a] [.ref a] _ _ hr e0 (hbind s₁ (.ref a)) (.cons rfl .nil) (hsp H hO hS)) fun r s' h=>?_
    cases r with
    | error e=>exact (hCX H e s' h).elim
    | ok fl =>
      cases fl with
      | next=>exact False.elim h
      | brk=>exact False.elim h
      | cont=>exact False.elim h
      | ret u =>
        obtain ⟨v,H',os,bare,un,hok',r',q⟩:=h
        have q' : v = .bl true:=q
        subst q'
        obtain rfl:u = Value.bool true:=r'
        refine ⟨rfl,OldK.of_keep fun b o e=>?_,os,bare⟩
        cases q:H b with
        | none=>exact un.keep b o e q (by intro z; exact absurd (show b ∈ ([]:List Addr) from z) (by simp)) (by simp)
        | some u =>
          rcases hO b with z | ⟨ob,xs,z⟩
          · rw [q] at z; cases z
          · have z2:=un.frzs b ob _ z
            obtain ⟨e1,_⟩:=hok b _ z
            obtain ⟨e2,_⟩:=hok' b _ z2
            rw [e] at e1; cases e1
            exact e2
  cases hk:K.lookup a with
  | some o =>
    have e:=KX a o hk
    rw [ha] at e
    cases e
    refine core (fun _=>none) (fun _=>.inl rfl) (.inr ⟨_,vs.toArray,_,hk,rfl,rfl,rfl,by rw [List.size_toArray,lenV]; exact hl,by simpa using rv⟩) (fun b u z=>by have z' : (none:Option HO) = some u:=z; cases z') (fun b z=>absurd rfl z) fun z=>absurd rfl z
  | none =>
    refine core (fun b=>if b = a then some (.frz { cls:=.type "list",data:=.seq vs.toArray } (.lst (ns.map V.int))) else none) (fun b=>?_) (.inl (.inr ⟨{ cls:=.type "list",data:=.seq vs.toArray },if_pos rfl⟩)) (fun b u z=>?_) (fun b z=>?_) fun _=>hk
    · by_cases hb:b = a
      · exact .inr ⟨_,_,if_pos hb⟩
      · exact .inl (if_neg hb)
    · by_cases hb:b = a
      · have z':=(if_pos hb).symm.trans z
        cases z'
        subst hb
        exact ⟨ha,by rw [List.length_map]; exact hl,vs,_,rv,ha⟩
      · have z':=(if_neg hb).symm.trans z
        cases z'
    · by_cases hb:b = a
      · exact hb
      · exact absurd (if_neg hb) z
end L2
namespace L2
open PySem PySem.Spec PyProof.Rows
abbrev KOf {K:PySem.W.Frag} {h:Heap} (_:K.In h):PySem.W.Frag:=K
theorem walk_of {l:PySem.W.OpenLaw} {n k:Nat} {q:Program} {loose:List Str} {XP:(Str→Option Value)→Heap→Prop} {YP:World→Heap→Prop} {d:DefRec} {K:Params→PySem.W.Frag} {CX:World→CXT} {sp:World→Sp} {x:Str}
    (hn:l.most = some n) (hn2:n ≤ sizeLine) (hdf:d.params.defaults = []) (hr:Room k callerA)
    (hY:∀ (w:World) (h:Heap),YP w h→(K w.params).In h)
    (F:∀ (w:World) (mg:Str→Option Value) (fa:Addr) (h:Heap),(K w.params).In h→h.Ns mainGlobals mg→mg d.name = some (.ref fa) →
      ∃ fd:FuncData,(∀ (s:Shared) (u:Value),BindsTo s fd ⟨[u],[]⟩ [(x,u)]) ∧
        ∀ base:Heap,(K w.params).In base→base.Ns mainGlobals mg→FnOk l.prog w (K w.params) mg base (CX w) k fa fd [x] (sp w))
    (hsp:∀ (w:World) (H:Hp) (a:Addr) (ns:List Int),ns.length ≤ n→Only H→SqL (K w.params) H a (ns.map V.int)→sp w [.ref a] H (fun v _=>v = .bl true) fun _ _ _=>False)
    (hCX:∀ (w:World) (H:Hp) (s:Shared) (e:Value) (s' : Shared),CX w [] H s (fun _ _ _=>False) e s'→False) :
    PySem.W.WalkO q loose XP YP l.row.toRowW d [] (fun f vs=>PySem.call f vs):=by
  refine Att.attach_call hn hdf fun w s₀ s₁ mg mb fa o pm cd doc a vs ns G Y ho hd hcd hmg hobj hints hlen hg=>?_
  have KX:=hY w _ Y
  obtain ⟨fd,hb,hF⟩:=F w mg fa _ KX G.T.g hmg
  exact law_call KX G.T.g G.T.b G.T.builtins G.T.nolimit hg hobj hints (Nat.le_trans hlen hn2) hr hF hb (fun H hO hS=>hsp w H a ns hlen hO hS) fun H e s'=>hCX w H s₁ e s'
end L2
namespace L2
open PySem PySem.Spec PyProof.Rows
def inClass (s:Stmt) (j:Nat):Stmt:=match s with
  | .ClassDef _ _ _ body _ _ _ _ _ _ _=>body.getD j (.Pass ⟨0,0,0,0⟩)
  | _=>.Pass ⟨0,0,0,0⟩
def defArgs (s:Stmt):Arguments:=match s with
  | .FunctionDef _ a _ _ _ _ _ _ _ _=>a
  | _=>{ posonlyargs:=[],args:=[],vararg:=none,kwonlyargs:=[],kw_defaults:=[],kwarg:=none,defaults:=[] }
def defBody (s:Stmt):List Stmt:=match s with
  | .FunctionDef _ _ b _ _ _ _ _ _ _=>b
  | _=>[]
def defScope (s:Stmt):Scope:=match s with
  | .FunctionDef _ _ _ _ _ _ sc _ _ _=>sc
  | _=>{ kind:=.function,names:=[],isGenerator:=false,isCoroutine:=false }
abbrev CX0:CXT:=fun _ _ _ _ _ _=>False
abbrev E0:XK:=fun _ _ _=>False
theorem pass0 {X:Cx} : Passes CX0 X E0:=fun _ _ _ _ _ _ _ h=>h.elim
structure Fun (K:PySem.W.Frag) (x qual:Str) (st:Stmt) (f:Addr) (fd:FuncData):Prop where
  ex:∃ (oc:Value) (od:Option Addr) (kV doc pm:Value) (an:Option Addr) (cdv ct:Value) (osl:Array (Option Value)),
    fd = PySem.W.fnOf x qual (defArgs st) (defBody st) (defScope st) .none kV doc pm an cdv ct∧K.lookup f = some ⟨oc,od,.func fd,osl⟩∧PySem.W.codeIn K cdv qual = true
  kp:PySem.W.keepIn K (.ref f) = true
section
variable {P:Program} {w:World} {K:PySem.W.Frag} {mg:Str→Option Value} {base:Heap}
theorem Fun.ok {x qual:Str} {st:Stmt} {f:Addr} {fd:FuncData} {N ps:List Str} {k:Nat} {sp:Sp} (F:Fun K x qual st f fd) (S:FnScope N ps (defScope st)) (len:∀ vs H Q E,sp vs H Q E→vs.length = ps.length)
    (hbody:∀ (cdv:Value) (A:Around) (outer:List Env) (s:Shared) (H:Hp) (vs:List V) (Q:VK) (E:XK),Room k (A.deeper (envOfC qual (defScope st) s.heap.objs.size f cdv))→sp vs H Q E →
      ∃ t,PSs (cxOf CX0 P w K mg base N qual (defScope st) f cdv A outer s H E).nox (defBody st) t∧t { nx:=fun _ H'=>Q .non H',rt:=Q } (start N vs) H):FnOk P w K mg base CX0 (k + 1) f fd ps sp:=by
  obtain ⟨oc,od,kV,doc,pm,an,cdv,ct,osl,rfl,lk,hcd⟩:=F.ex
  refine fn_of lk hcd S len fun A outer s H vs Q E hr hsp=>?_
  obtain ⟨t,h,q⟩:=hbody cdv A outer s H vs Q E hr hsp
  exact ⟨t,h.nox,q⟩
theorem Fun.binds {x qual:Str} {st:Stmt} {f:Addr} {fd:FuncData} {ps:List Str} (F:Fun K x qual st f fd)
    (h:∀ (kV doc pm:Value) (an:Option Addr) (cdv ct:Value) (us:List Value),us.length = ps.length→bindArgs (PySem.W.fnOf x qual (defArgs st) (defBody st) (defScope st) .none kV doc pm an cdv ct) ⟨us,[]⟩ = pure (ps.zip us)):Binds K fd ps []:=by
  obtain ⟨oc,od,kV,doc,pm,an,cdv,ct,osl,rfl,lk,hcd⟩:=F.ex
  exact .all (h kV doc pm an cdv ct)
theorem fun_mk {x qual:Str} {st:Stmt} {f:Addr} {oc:Value} {od an:Option Addr} {osl:Array (Option Value)} {kV doc pm cdv ct:Value} (l:K.lookup f = some ⟨oc,od,.func (PySem.W.fnOf x qual (defArgs st) (defBody st) (defScope st) .none kV doc pm an cdv ct),osl⟩)
    (c:PySem.W.codeIn K cdv qual = true) (k:PySem.W.keepIn K (.ref f) = true):Fun K x qual st f (PySem.W.fnOf x qual (defArgs st) (defBody st) (defScope st) .none kV doc pm an cdv ct):=⟨⟨oc,od,kV,doc,pm,an,cdv,ct,osl,rfl,l,c⟩,k⟩
end
theorem small1000 {n:Nat} (h:n ≤ 1000):n < sizeLine:=Nat.lt_of_le_of_lt h (by decide)
section
variable {X:Cx}
theorem pv (i:Nat) {x:Str} {pos:Pos} (hN:X.N[i]? = some x:=by rfl) (hv:Vis X.env.scope x:=by first | exact Or.inl rfl | exact Or.inr (Or.inl rfl) | exact Or.inr (Or.inr rfl)) (hd:(x == ("__debug__" : Str)) = false:=by decide)
    (hcd:(x == ("__classdict__" : Str)) = false:=by decide):PE X (.Name x pos) (tVar i):=pe_var hN hv hd hcd
end
theorem iteF {A B:Prop} (h:B):if false = true then A else B:=by
  rw [if_neg Bool.false_ne_true]
  exact h
theorem iteT {A B:Prop} (h:A):if true = true then A else B:=by
  rw [if_pos rfl]
  exact h
theorem ite2 {c A B:Prop} [Decidable c] (h1:c→A) (h2:¬ c→B):if c then A else B:=by
  by_cases h:c
  · rw [if_pos h]
    exact h1 h
  · rw [if_neg h]
    exact h2 h
theorem iteNS {c A B:Prop} [Decidable c] (hc:c) (h:B):if (!decide c) = true then A else B:=by
  rw [decide_eq_true hc]
  exact iteF h
def Same (H H' : Hp):Prop:=∀ b o,H b = some o→H' b = some o
theorem Same.refl (H:Hp):Same H H:=fun _ _ h=>h
theorem Same.trans {H H1 H2:Hp} (a:Same H H1) (b:Same H1 H2):Same H H2:=fun c o h=>b c o (a c o h)
theorem Same.free {H H' : Hp} (e:Same H H') {l:Addr} (h:H' l = Option.none):H l = Option.none:=by
  cases q:H l with
  | none=>rfl
  | some o =>
    rw [e l o q] at h
    cases h
theorem Same.seq {K:PySem.W.Frag} {H H' : Hp} {a:Addr} {xs:List V} (e:Same H H') (h:SqL K H a xs):SqL K H' a xs:=by
  rcases h with (h | ⟨o,h⟩) | h
  · exact .inl (.inl (e _ _ h))
  · exact .inl (.inr ⟨o,e _ _ h⟩)
  · exact .inr h
end L2
set_option maxHeartbeats 4000000
namespace L2
abbrev Pr:=Int × Int
def inR (n:Int) (p:Pr):Bool:=decide (p.1 ≤ n) && decide (n ≤ p.2)
def inP (ps:List Pr) (n:Int):Bool:=ps.any (inR n)
structure Apart (R:List Pr):Prop where
  le:∀ p ∈ R,p.1 ≤ p.2
  gap:R.Pairwise fun p q=>p.2 + 2 ≤ q.1
structure TidI (R qs:List Pr):Prop where
  ap:Apart R
  mem:∀ n,inP R n = inP qs n
  cov:∀ p ∈ qs,p.1 ≤ p.2→∃ r ∈ R,r.1 ≤ p.1∧p.2 ≤ r.2
  low:∀ r ∈ R,∃ q ∈ qs,r.1 = q.1
end L2
namespace L2
open PySem PySem.Spec PyProof.Rows
def Callee (P:Program) (w:World) (K:PySem.W.Frag) (mg:Str→Option Value) (base:Heap) (k:Nat) (x:Str) (ps:List Str) (sp:Sp):Prop :=
  ∃ f fd,FnOk P w K mg base CX0 k f fd ps sp∧Binds K fd ps []∧PySem.W.keepIn K (.ref f) = true∧mg x = some (.ref f)
theorem Callee.mono {P:Program} {w:World} {K:PySem.W.Frag} {mg:Str→Option Value} {base:Heap} {j k:Nat} {x:Str} {ps:List Str} {sp:Sp} (C:Callee P w K mg base j x ps sp) (h:j ≤ k):Callee P w K mg base k x ps sp :=
  let ⟨f,fd,F,r⟩:=C
  ⟨f,fd,F.mono h,r⟩
section
variable {X:Cx} {k:Nat} {x:Str} {ps:List Str} {sp:Sp} {e:Expr} {es:List Expr} {t:TA} {p pos:Pos}
def tFn (sp:Sp) (t:TA):TE:=fun σ H Q=>t σ H fun vs H1=>sp vs H1 Q E0
theorem pe_fn (C:Callee X.prog X.w X.K X.mg X.base k x ps sp) (hr:Room k X.A) (hg:Gl X x) (ha:PA X (e :: es) t) (hdb:(x == ("__debug__" : Str)) = false:=by decide)
    (he:starEach (e :: es) X.env = (false,eval e X.env) :: starEach es X.env:=by rfl) (hpl:(backTo pos (starEach es X.env)).any (·.1) = false:=by rfl):PE X (.Call (.Name x p) (e :: es) [] pos) (tFn sp t):=by
  obtain ⟨f,fd,F,b,kk,m⟩:=C
  have h:=pe_call (E:=E0) (dvs:=[]) (ds:=[]) (p:=p) F hr hg m kk b .nil pass0 ha hdb he hpl
  intro pins s σ H Q I q
  refine h pins s σ H Q I ?_
  have q' : t σ H fun vs H1=>sp vs H1 Q E0:=q
  have e1:(fun (vs:List V) (H1:Hp)=>sp (vs ++ []) H1 Q E0) = fun vs H1=>sp vs H1 Q E0:=by
    funext vs H1
    rw [List.append_nil]
  show t σ H fun vs H1=>sp (vs ++ []) H1 Q E0
  rw [e1]
  exact q'
end
def tCut (t u:TS):TS:=fun D σ H=>∃ M:St→Hp→Prop,t { D with nx:=M } σ H∧∀ σ' H',M σ' H'→u D σ' H'
theorem pss_cut {X:Cx} {st:Stmt} {rest:List Stmt} {t u:TS} (h1:PS X st t) (h2:PSs X rest u):PSs X (st :: rest) (tCut t u):=by
  intro pins s σ H D I ⟨M,a,b⟩
  refine wpAny_execs_cons (thn (h1 pins s σ H { D with nx:=M } I a) fun fl s1 q=>?_)
  cases fl with
  | next=>obtain ⟨σ',H',I',q⟩:=q; exact h2 pins s1 σ' H' D I' (b σ' H' q)
  | ret v=>exact q
  | brk=>exact q
  | cont=>exact q
section
variable {X:Cx}
end
inductive EqI (K:PySem.W.Frag) (H:Hp):V→V→Bool→Prop where
  | flat {x y:V} (fx:flatV x = true) (fy:flatV y = true):EqI K H x y (eqV x y)
  | same (a:Addr):EqI K H (.ref a) (.ref a) true
  | tup {a b:Addr} {xs ys:List V} (ha:SqT K H a xs) (hb:SqT K H b ys) (fx:xs.all flatV = true) (fy:ys.all flatV = true):EqI K H (.ref a) (.ref b) (decide (xs.length = ys.length) && (List.zipWith eqV xs ys).all id)
theorem eqV_refl:∀ {x:V},flatV x = true→eqV x x = true
  | .non,_=>rfl
  | .bl b,_=>by simp [eqV]
  | .int i,_=>by simp [eqV]
  | .str z,_=>by simp [eqV]
theorem eqAll_refl:∀ {xs:List V},xs.all flatV = true→(List.zipWith eqV xs xs).all id = true
  | [],_=>rfl
  | x :: xs,h=>by
    rw [List.all_cons,Bool.and_eq_true] at h
    rw [List.zipWith_cons_cons,List.all_cons,eqAll_refl h.2,Bool.and_true]
    exact eqV_refl h.1
theorem all_range_zip {f:Nat→Bool} : ∀ {xs ys:List V},(∀ j x y,xs[j]? = some x→ys[j]? = some y→f j = eqV x y)→(List.range (min xs.length ys.length)).all f = (List.zipWith eqV xs ys).all id
  | [],ys,_=>by simp
  | x :: xs,[],_=>by simp
  | x :: xs,y :: ys,h=>by
    have ih:=all_range_zip (f:=fun j=>f (j + 1)) (xs:=xs) (ys:=ys) fun j a b e1 e2=>h (j + 1) a b (by simpa using e1) (by simpa using e2)
    have e0:=h 0 x y rfl rfl
    have em:min (x :: xs).length (y :: ys).length = min xs.length ys.length + 1:=by simp only [List.length_cons]; omega
    rw [em,List.range_succ_eq_map,List.all_cons,List.zipWith_cons_cons,List.all_cons,List.all_map,e0]
    show (eqV x y && (List.range (min xs.length ys.length)).all (fun j=>f (j + 1))) = _
    rw [ih]
    rfl
section
variable {X:Cx} {pins:List (Addr × Obj)} {σ:St} {H:Hp} {s:Shared}
theorem EqI.at {A:Around} {x y:V} {u v:Value} {b:Bool} (e:EqI X.K H x y b) (I:Inv X pins σ H s) (hu:A.units + 1 < cLine) (rx:RelV x u) (ry:RelV y v):SeqAt.EqAt A s u v b:=by
  cases e with
  | flat fx fy=>exact eqAt_V rx ry fx fy
  | same a =>
    cases (show u = Value.ref a from rx)
    cases (show v = Value.ref a from ry)
    exact SeqAt.EqAt.same _
  | @tup a b xs ys ha hb fx fy =>
    cases (show u = Value.ref a from rx)
    cases (show v = Value.ref b from ry)
    by_cases z:a = b
    · subst z
      have e:=I.tuple_inj ha hb
      subst e
      rw [eqAll_refl fx,decide_eq_true rfl]
      exact SeqAt.EqAt.same _
    · obtain ⟨its,r,p,_⟩:=I.tuple ha
      obtain ⟨its',r',p',_⟩:=I.tuple hb
      have l1:=r.length
      have l2:=r'.length
      have h0:=SeqAt.RcAt.tuples (A:=A) (e:=fun j=>match its[j]?,xs[j]?,ys[j]? with | _,some x,some y=>eqV x y | _,_,_=>false) (show s.heap.IsTuple a its.toArray from p) (show s.heap.IsTuple b its'.toArray from p') (by omega) (fun j h1 h2=>by
        have j1:j < its.length:=by simpa using h1
        have j2:j < its'.length:=by simpa using h2
        have x1:xs[j]? = some xs[j]:=List.getElem?_eq_getElem (by omega)
        have y1:ys[j]? = some ys[j]:=List.getElem?_eq_getElem (by omega)
        obtain ⟨u1,q1,r1⟩:=r.get x1
        obtain ⟨u2,q2,r2⟩:=r'.get y1
        have eu:its.toArray[j] = u1:=by
          have:=List.getElem?_eq_getElem j1
          rw [this] at q1; simpa using Option.some.inj q1
        have ev:its'.toArray[j] = u2:=by
          have:=List.getElem?_eq_getElem j2
          rw [this] at q2; simpa using Option.some.inj q2
        rw [eu,ev]
        rw [x1,y1]
        have f1:flatV xs[j] = true:=List.all_eq_true.mp fx _ (List.getElem_mem _)
        have f2:flatV ys[j] = true:=List.all_eq_true.mp fy _ (List.getElem_mem _)
        exact eqAt_V r1 r2 f1 f2)
      have h1:=SeqAt.EqAt.of_refs z h0
      have e1:((List.range (min its.toArray.size its'.toArray.size)).all fun j=>match its[j]?,xs[j]?,ys[j]? with | _,some x,some y=>eqV x y | _,_,_=>false) = (List.zipWith eqV xs ys).all id:=by
        have es:min its.toArray.size its'.toArray.size = min xs.length ys.length:=by simp only [List.size_toArray]; omega
        rw [es]
        exact all_range_zip fun j x y q1 q2=>by rw [q1,q2]
      rw [e1] at h1
      have e2:(its.toArray.size == its'.toArray.size) = decide (xs.length = ys.length):=by
        simp only [List.size_toArray,← l1,← l2]
        exact Bool.beq_eq_decide_eq _ _
      rw [e2,Bool.and_comm] at h1
      exact h1
end
def rEqL (K:PySem.W.Frag) (neg:Bool):R2:=fun x y H Q=>∃ a b xs ys,x = .ref a∧y = .ref b∧SqL K H a xs∧SqL K H b ys ∧
  ((xs.length ≠ ys.length∧Q (.bl neg) H)∨(xs.length = ys.length∧∃ f:Nat→Bool,(∀ j x y,xs[j]? = some x→ys[j]? = some y→EqI K H x y (f j))∧Q (.bl (if neg then !(List.range xs.length).all f else (List.range xs.length).all f)) H))
section
variable {X:Cx}
theorem eqs_at {pins:List (Addr × Obj)} {σ:St} {H:Hp} {s:Shared} {A:Around} {xs ys:List V} {its its' : List Value} {f:Nat→Bool} (I:Inv X pins σ H s) (hu:A.units + 1 < cLine) (r:Vals xs its) (r' : Vals ys its')
    (hf:∀ j x y,xs[j]? = some x→ys[j]? = some y→EqI X.K H x y (f j)):∀ j (h1:j < its.toArray.size) (h2:j < its'.toArray.size),SeqAt.EqAt A s its.toArray[j] its'.toArray[j] (f j):=fun j h1 h2=>by
  have j1:j < its.length:=by simpa using h1
  have j2:j < its'.length:=by simpa using h2
  have l1:=r.length
  have l2:=r'.length
  have x1:xs[j]? = some xs[j]:=List.getElem?_eq_getElem (by omega)
  have y1:ys[j]? = some ys[j]:=List.getElem?_eq_getElem (by omega)
  obtain ⟨u1,q1,r1⟩:=r.get x1
  obtain ⟨u2,q2,r2⟩:=r'.get y1
  have eu:its.toArray[j] = u1:=by
    have:=List.getElem?_eq_getElem j1
    rw [this] at q1; simpa using Option.some.inj q1
  have ev:its'.toArray[j] = u2:=by
    have:=List.getElem?_eq_getElem j2
    rw [this] at q2; simpa using Option.some.inj q2
  rw [eu,ev]
  exact (hf j _ _ x1 y1).at I hu r1 r2
theorem op_eqL {k:Nat} (hr:Room k X.A):OpR X (compareOp .Eq) (rEqL X.K false):=by
  intro pins s σ H x y v u Q I rx ry h
  obtain ⟨a,b,xs,ys,rfl,rfl,ha,hb,h⟩:=h
  cases (show v = Value.ref a from rx)
  cases (show u = Value.ref b from ry)
  obtain ⟨its,r,p,_⟩:=I.list ha
  obtain ⟨its',r',p',_⟩:=I.list hb
  have l1:=r.length
  have l2:=r'.length
  have hu:=hr.units
  rcases h with ⟨hn,q⟩ | ⟨hl,f,hf,q⟩
  · refine SeqAt.eq_list_lengthsAt p.isList p'.isList (by simp only [List.size_toArray,bne_iff_ne,ne_eq]; omega) (by omega) ⟨.bl false,H,I,rfl,q⟩
  · refine SeqAt.eq_listAt (e:=f) p.isList p'.isList (by simp only [List.size_toArray]; omega) (by omega) (eqs_at I (by show X.A.units + 1 + 1 < cLine; omega) r r' hf) ⟨.bl _,H,I,rfl,?_⟩
    rw [show its.toArray.size = xs.length by simp only [List.size_toArray]; omega]
    exact q
theorem op_neL {k:Nat} (hr:Room k X.A):OpR X (compareOp .NotEq) (rEqL X.K true):=by
  intro pins s σ H x y v u Q I rx ry h
  obtain ⟨a,b,xs,ys,rfl,rfl,ha,hb,h⟩:=h
  cases (show v = Value.ref a from rx)
  cases (show u = Value.ref b from ry)
  obtain ⟨its,r,p,_⟩:=I.list ha
  obtain ⟨its',r',p',_⟩:=I.list hb
  have l1:=r.length
  have l2:=r'.length
  have hu:=hr.units
  rcases h with ⟨hn,q⟩ | ⟨hl,f,hf,q⟩
  · refine SeqAt.RcNeAt.lists_lengths p.isList p'.isList (by simp only [List.size_toArray,bne_iff_ne,ne_eq]; omega) (by omega) X.prog X.w X.xe _ ⟨.bl true,H,I,rfl,q⟩
  · refine SeqAt.RcNeAt.lists (e:=f) p.isList p'.isList (by simp only [List.size_toArray]; omega) (by omega) (eqs_at I (by show X.A.units + 1 + 1 < cLine; omega) r r' hf) X.prog X.w X.xe _ ⟨.bl _,H,I,rfl,?_⟩
    rw [show its.toArray.size = xs.length by simp only [List.size_toArray]; omega]
    exact q
end
def SameT (H H' : Hp):Prop:=∀ b xs,H b = some (.tup xs)→H' b = some (.tup xs)
theorem Same.tups {H H' : Hp} (h:Same H H'):SameT H H':=fun b xs e=>h b _ e
theorem sameT_lst {H:Hp} {p:Addr} {o:HO} {ys:List V} (h:H p = some (.lst ys)):SameT H (upd H p o):=fun b xs e=>by rw [upd_ne (ne_of e h (by intro z; cases z))]; exact e
theorem same_new {H:Hp} {p:Addr} (h:H p = none) (o:HO):Same H (upd H p o):=fun b u q=>by rw [upd_ne (ne_of_none q h)]; exact q
theorem Same.upd {H H' : Hp} {p:Addr} {o:HO} (s:Same H H') (h:H p = none):Same H (upd H' p o):=fun b u q=>by rw [upd_ne (ne_of_none q h)]; exact s b u q
def PL (H:Hp):List V→List (Int × Int)→Prop:=Paired fun x p=>∃ r,x = .ref r∧H r = some (.tup [.int p.1,.int p.2])
theorem PL.mono {H H' : Hp} {xs:List V} {ps:List (Int × Int)} (h:PL H xs ps) (s:SameT H H'):PL H' xs ps:=Paired.mapP h fun _ _ ⟨r,e,z⟩=>⟨r,e,s r _ z⟩
theorem PL.get {H:Hp} : ∀ {xs:List V} {ps:List (Int × Int)} {i:Nat} {x:V},PL H xs ps→xs[i]? = some x→∃ p r,ps[i]? = some p∧x = .ref r∧H r = some (.tup [.int p.1,.int p.2])
  | _,_,_,_,.nil,e=>by simp at e
  | _,_,0,_,.cons (b:=b) ⟨r,e1,z⟩ _,e=>by simp at e; subst e; exact ⟨b,r,rfl,e1,z⟩
  | _,_,i + 1,x,.cons _ t,e=>by
    obtain ⟨p,r,q⟩:=PL.get (i:=i) (x:=x) t (by simpa using e)
    exact ⟨p,r,by simpa using q.1,q.2⟩
theorem PL.length {H:Hp} {xs:List V} {ps:List (Int × Int)} (h:PL H xs ps):xs.length = ps.length:=Paired.length h
theorem PL.snoc {H:Hp} {xs:List V} {ps:List (Int × Int)} {r:Addr} {a b:Int} (h:PL H xs ps) (e:H r = some (.tup [.int a,.int b])):PL H (xs ++ [.ref r]) (ps ++ [(a,b)]):=Paired.snoc h ⟨r,rfl,e⟩
abbrev Tr:=Int × Int × Int
def TL (H:Hp):List V→List Tr→Prop:=Paired fun x t=>∃ r,x = .ref r∧H r = some (.tup [.int t.1,.int t.2.1,.int t.2.2])
theorem dec_t {p:Prop} [Decidable p] (h:decide p = true):p:=of_decide_eq_true h
theorem dec_f {p:Prop} [Decidable p] (h:¬ decide p = true):¬ p:=fun e=>h (decide_eq_true e)
end L2
namespace L2
open PySem PySem.Spec PyProof.Rows
theorem ix_listK {X:Cx} {K:PySem.W.Frag} (h:X.K = K):IxR X (rIxL K):=h ▸ ix_list
theorem ix_tupK {X:Cx} {K:PySem.W.Frag} (h:X.K = K):IxR X (rIxT K):=h ▸ ix_tup
def cmpCx (X:Cx) (N:List Str) (scope:Scope) (cl:List (Str × Addr)) (fp:List Addr) (C:Addr) (s2:Shared) (H2:Hp):Cx :=
  { prog:=X.prog,w:=X.w,K:=X.K,mg:=X.mg,base:=X.base,A:=X.A,N:=N,s₀:=s2,H₀:=H2,env:=compEnvC scope cl C X.env,outer:=X.stack,stack:=X.stack,ex:=fp,fn:=fun _=>false,calm:=X.calm,pn:=[],xe:=fun _ _=>False }
def PIf (X:Cx) (ifs:List Expr) (t:TT):Prop :=
  ∀ (pins:List (Addr × Obj)) (s:Shared) (σ:St) (H:Hp) (Q:Bool→Hp→Prop),Inv X pins σ H s→t σ H Q →
    wpAny (model X.prog X.w) X.A (forIn ifs true fun c r=>if r = true then do let ok ← isTrue c X.env (eval c X.env); pure (ForInStep.yield ok) else pure (ForInStep.yield r)) (TP X pins σ Q) X.xe s
def tYes:TT:=fun _ H Q=>Q true H
theorem pif_nil {X:Cx} : PIf X [] tYes:=fun _ _ _ H _ I h=>wpAny_tests_nil ⟨H,I,h⟩
theorem pif_one {X:Cx} {c:Expr} {t:TT} (h:PT X c t):PIf X [c] t:=fun pins s σ H Q I q=>wpAny_tests_one (h pins s σ H Q I q)
structure CmpOk (X:Cx) (N:List Str) (fr:List Nat) (scope:Scope) (cl:List (Str × Addr)) (x:Str):Prop where
  clos:closureFor scope X.env = pure cl
  kind:scope.kind = .function
  nocell:∀ y ∈ scope.names,y.2 ≠ .cell
  names:∀ y ∈ scope.names,y.2 = .local→scope.names.lookup y.1 = some .local
  hx:scope.names.lookup x = some .local
  nd:N.Nodup
  n0:N[0]? = some x
  len:N.length = fr.length + 1
  sub:∀ (i:Nat) (y:Str),N[i + 1]? = some y→∃ j,fr[i]? = some j∧X.N[j]? = some y∧(X.env.kindOf y = some .cell∨X.env.kindOf y = some .free)∧((relabel scope X.env).names.lookup y = some .cell∨(relabel scope X.env).names.lookup y = some .free)
  cells:∀ y c,cl.lookup y = some c→X.env.cells.lookup y = some c
  has:∀ y,((relabel scope X.env).names.lookup y = some .cell∨(relabel scope X.env).names.lookup y = some .free)→∃ c,cl.lookup y = some c
theorem cmpOk_plain {X:Cx} {scope:Scope} {x:Str} (kind:scope.kind = .function) (nofree:∀ y ∈ scope.names,y.2 ≠ .free) (nocell:∀ y ∈ scope.names,y.2 ≠ .cell)
    (names:∀ y ∈ scope.names,y.2 = .local→scope.names.lookup y.1 = some .local) (hx:scope.names.lookup x = some .local):CmpOk X [x] [] scope [] x:=by
  have er:(relabel scope X.env).names = scope.names:=map_eq_self fun y hy=>by
    have z:(y.2 == NameKind.free) = false:=by simpa using nofree y hy
    simp [z]
  have no:∀ y,¬ ((relabel scope X.env).names.lookup y = some .cell∨(relabel scope X.env).names.lookup y = some .free):=fun y h=>by
    rw [er] at h
    rcases h with h | h
    · exact nocell _ (PySem.mem_of_lookup h) rfl
    · exact nofree _ (PySem.mem_of_lookup h) rfl
  exact ⟨closureFor_none nofree,kind,nocell,names,hx,by simp,rfl,rfl,fun i y e=>by simp at e,(fun y c e=>by cases e),fun y h=>absurd h (no y)⟩
theorem cmpOk_free {X:Cx} {N:List Str} {fr:List Nat} {scope:Scope} {cl:List (Str × Addr)} {x:Str} (clos:closureFor scope X.env = pure cl) (kind:scope.kind = .function) (nocell:∀ y ∈ scope.names,y.2 ≠ .cell)
    (names:∀ y ∈ scope.names,y.2 = .local→scope.names.lookup y.1 = some .local) (hx:scope.names.lookup x = some .local) (nd:N.Nodup) (n0:N[0]? = some x) (len:N.length = fr.length + 1)
    (sub:((List.range fr.length).all fun i=>match N[i + 1]?,fr[i]? with | some y,some j=>(X.N[j]? == some y) && ((X.env.kindOf y == some .cell) && ((relabel scope X.env).names.lookup y == some .cell)) | _,_=>false) = true)
    (cells:∀ p ∈ cl,X.env.cells.lookup p.1 = some p.2) (has:((relabel scope X.env).names.all fun p=>(p.2 != .cell && p.2 != .free) || (cl.lookup p.1).isSome) = true):CmpOk X N fr scope cl x:=by
  refine ⟨clos,kind,nocell,names,hx,nd,n0,len,fun i y e=>?_,fun y c e=>cells _ (PySem.mem_of_lookup e),fun y h=>?_⟩
  · have hi:i < fr.length:=by have:=(List.getElem?_eq_some_iff.mp e).1; omega
    have z:=List.all_eq_true.mp sub i (List.mem_range.mpr hi)
    rw [e,List.getElem?_eq_getElem hi] at z
    simp only [Bool.and_eq_true,beq_iff_eq] at z
    exact ⟨_,List.getElem?_eq_getElem hi,z.1,.inl z.2.1,.inl z.2.2⟩
  · have look:∀ k,(relabel scope X.env).names.lookup y = some k→(k = .cell∨k = .free)→∃ c,cl.lookup y = some c:=fun k e hk=>by
      have z:=List.all_eq_true.mp has _ (PySem.mem_of_lookup e)
      rcases hk with rfl | rfl
      · exact Option.isSome_iff_exists.mp (by simpa using z)
      · exact Option.isSome_iff_exists.mp (by simpa using z)
    rcases h with h | h
    · exact look _ h (.inl rfl)
    · exact look _ h (.inr rfl)
def cmpSt (σ:St) (fr:List Nat) (x:Option V):St:=x :: fr.map fun j=>(σ[j]?).join
def CompAt (J:It) (fr:List Nat) (tt:TT) (te:TE) (σ:St) (Q:VK) (H1:Hp):Prop:=∀ D,H1 D = none→∃ W:Nat→Nat→Hp→Prop,(∃ m,W 0 m (upd H1 D (.lst [])))∧∀ i m H,W i m H →
  (J.stop i H∧Q (.ref D) H)∨(J.go i H∧∀ x H',J.yld i H x H'→tt (cmpSt σ fr (some x)) H' fun b H2=>if b = true then te (cmpSt σ fr (some x)) H2 fun y H3=>∃ ys,H3 D = some (.lst ys)∧ys.length < sizeLine∧∃ m',m' < m∧W (i + 1) m' (upd H3 D (.lst (ys ++ [y])))
    else ∃ m',m' < m∧W (i + 1) m' H2)
def tComp (wi:TI) (fr:List Nat) (tt:TT) (te:TE):TE:=fun σ H Q=>wi σ H fun J H1=>CompAt J fr tt te σ Q H1
section
variable {prog:Program} {w:World} {A:Around} {R:Result→Shared→Prop} {s:Shared}
theorem comp_turns {elt target iter:Expr} {ifs:List Expr} {scope:Scope} {pos:Pos} {it acc:Value} {env:Env} (J:Nat→Shared→Prop)
    (turn:∀ n s,J n s→wpAny (model prog w) A (pyNext it) (fun r s1=>match r with
      | none=>R (.ok .next) s1
      | some v=>wpAny (model prog w) A (letOwnedTupleGo target it v) (fun _ s2=>wpAny (model prog w) A (assign target env v) (fun _ s3 =>
          wpAny (model prog w) A (forIn ifs true fun c r=>if r = true then do let ok ← isTrue c env (eval c env); pure (ForInStep.yield ok) else pure (ForInStep.yield r)) (fun ok s4 =>
            if ok = true then wpAny (model prog w) A (eval elt env) (fun y s5=>wpAny (model prog w) A (call (.builtin "list.append") [acc,y]) (fun _ s6=>∃ m,m < n∧J m s6) (fun _ _=>False) s5) (fun _ _=>False) s4
            else ∃ m,m < n∧J m s4) (fun _ _=>False) s3) (fun _ _=>False) s2) (fun _ _=>False) s1) (fun _ _=>False) s)
    (n:Nat) (h:J n s):codeAny (model prog w) A (.compLoop (.ListComp elt [⟨target,iter,ifs,0⟩] scope pos) 0 it acc env) R s:=by
  refine codeAny_loop rfl J (fun n s hJ=>?_) n h
  show wpAny _ A ((compTurn (.ListComp elt [⟨target,iter,ifs,0⟩] scope pos) 0 it acc env).onRaise (fun x=>do noteFrame x env; theTreesLotGoes x)) _ _ s
  refine wpAny_noted ?_
  rw [compTurn_list]
  refine wpAny_bind (wpAny_standAt (wpAny_bind (wpAny_mono (turn n s hJ) (fun r s1 h1=>?_) fun _ _ z=>z.elim)))
  cases r with
  | none=>exact wpAny_pure h1
  | some v =>
    refine wpAny_bind (wpAny_mono h1 (fun _ s2 h2=>?_) fun _ _ z=>z.elim)
    refine wpAny_bind (wpAny_mono h2 (fun _ s3 h3=>wpAny_bind (wpAny_mono h3 (fun ok s4 h4=>?_) fun _ _ z=>z.elim)) fun _ _ z=>z.elim)
    cases ok with
    | false=>exact wpAny_pure ⟨rfl,h4⟩
    | true=>exact wpAny_bind (wpAny_bind (wpAny_mono h4 (fun y s5 h5=>wpAny_bind (wpAny_mono h5 (fun _ s6 h6=>wpAny_pure (wpAny_pure ⟨rfl,h6⟩)) fun _ _ z=>z.elim)) fun _ _ z=>z.elim))
end
section
variable {X:Cx} {elt iter:Expr} {ifs:List Expr} {x:Str} {px pos:Pos} {scope:Scope} {cl:List (Str × Addr)} {N:List Str} {fr:List Nat} {tt:TT} {te:TE}
theorem comp_core {pins:List (Addr × Obj)} {σ:St} {s2:Shared} {H2:Hp} {it:Addr} {fp:List Addr} {tn:Nat→Heap→Prop} {J:It} {Q:VK} {E:Value→Shared→Prop} {RR:Value→Addr→Result→Shared→Prop}
    (O:CmpOk X N fr scope cl x) (hc:X.calm = true) (I2:Inv X pins σ H2 s2) (T:Turn X.prog X.w X.K (.Name x px) J fp it tn) (st2:tn 0 s2.heap) (f2:∀ b ∈ fp,FpOk X pins H2 b)
    (ht:∀ fp C s H,PIf (cmpCx X N scope cl fp C s H) ifs tt) (he:∀ fp C s H,PE (cmpCx X N scope cl fp C s H) elt te)
    (hW:CompAt J fr tt te σ Q H2)
    (fin:∀ D C s' H',s2.heap.objs.size ≤ C→H' C = none→(∃ m,s'.heap.Ns C m)→Inv X pins σ H' s'→Q (.ref D) H'→RR (.ref D) C (.ok .next) s') :
    wpAny (model X.prog X.w) X.A (newList []) (fun acc s3=>wpAny (model X.prog X.w) X.A (newFunctionEnv scope X.env.globals cl [] X.env.qual none .none (some X.env)) (fun cenv s4 =>
      codeAny (model X.prog X.w) X.A (.compStart (.ListComp elt [⟨.Name x px,iter,ifs,0⟩] scope pos) 0 (.ref it) acc { cenv with scope:=relabel scope X.env }) (RR acc cenv.locals) s4) E s3) E s2:=by
  refine wpAny_newObj_type (wpAny_newFunctionEnv O.nocell (by intro y hy; simp at hy) (fun h1 hns hsb=>?_) O.kind)
  dsimp only at hns hsb ⊢
  generalize hG:s2.heap.push { cls:=.type "list",dict:=none,data:=.seq ([]:List Value).toArray } = G at hns hsb ⊢
  have hC:G.objs.size = s2.heap.objs.size + 1:=by rw [← hG,Heap.size_push]
  have old:∀ b o,s2.heap.get? b = some o→h1.get? b = some o:=fun b o e=>hsb.extBut b o (Nat.ne_of_lt (by rw [hC]; exact Nat.lt_succ_of_lt (Heap.lt_size e))) (Heap.get?_push_of_some _ (hG ▸ Heap.get?_push_of_some _ e))
  have hacc:h1.get? s2.heap.objs.size = some { cls:=.type "list",data:=.seq ([]:List Value).toArray 0 }:=hsb.extBut _ _ (Nat.ne_of_lt (by rw [hC]; exact Nat.lt_succ_self _)) (Heap.get?_push_of_some _ (hG ▸ Heap.get?_push_size _ rfl))
  have hD:H2 s2.heap.objs.size = none:=I2.fresh
  have okX:(cmpCx X N scope cl fp G.objs.size s2 H2).Ok:=by
    refine ⟨I2.ok.mod,O.kind,I2.ok.glob,I2.ok.blt,by show s2.heap.objs.size ≤ G.objs.size; rw [hC]; exact Nat.le_succ _,fun y z c e1 e2=>I2.ok.inj y z c (O.cells y c e1) (O.cells z c e2),fun y hy=>O.has y hy,fun y c z=>absurd (show false = true from z) Bool.false_ne_true,I2.ok.hd,I2.ok.frames,.inl rfl,
      fun b hb=>⟨?_,fun y c e=>(f2 b hb).2.2.2.2.1 y c (O.cells y c e)⟩,I2.bs,Nat.le_trans I2.ok.bsz I2.sz,fun b o e hb=>?_,fun b hb z=>?_,I2.stack,I2.stkFree⟩
    · obtain ⟨o,e,_⟩:=T.obj _ _ st2 b hb
      show b ≠ G.objs.size
      exact Nat.ne_of_lt (by rw [hC]; exact Nat.lt_succ_of_lt (Heap.lt_size e))
    · rcases (f2 b hb).2.2.2.1 with z | z
      · exact I2.ok.noex b o e z
      · exact absurd (Nat.lt_of_lt_of_le (Heap.lt_size e) (Nat.le_trans I2.ok.bsz z)) (Nat.lt_irrefl _)
    · rcases List.mem_cons.mp (I2.stkSub b z) with z | z
      · exact (f2 b hb).2.1 z
      · exact (f2 b hb).2.2.1 z
  have statX:∀ {H' : Hp},(∀ b ∈ fp,H' b = none)→∀ b ∈ fp,FpOk (cmpCx X N scope cl fp G.objs.size s2 H2) [] H' b:=fun hn b hb =>
    ⟨hn b hb,(okX.exf b hb).1,okX.exfs b hb,.inl hb,(okX.exf b hb).2,fun p hp=>absurd (show p ∈ ([]:List (Addr × Obj)) from hp) (by simp)⟩
  have I' : Inv (cmpCx X N scope cl fp G.objs.size s2 H2) [] (cmpSt σ fr none) (upd H2 s2.heap.objs.size (.lst [])) { s2 with heap:=h1,toks:=s2.toks + ([]:List (Str × Value)).length }:=by
    refine ⟨okX,rfl,I2.bare,Un.laid old (Nat.le_refl _) hD,⟨_,hns,fun i y v e1 e2 e3=>?_⟩,fun y c e=>?_,?_,fun y c e=>?_,fun p hp=>absurd (show p ∈ ([]:List (Addr × Obj)) from hp) (by simp),I2.hok.laid old (Nat.le_refl _) ⟨Nat.zero_le _,[],0,.nil,hacc⟩,?_⟩
    · cases i with
      | zero=>cases e2
      | succ i =>
        obtain ⟨j,q1,q2,q3,q4⟩:=O.sub i y e1
        have e2' : (σ[j]?).join = some v:=by
          have:(fr.map fun j=>(σ[j]?).join)[i]? = some (some v):=e2
          rw [List.getElem?_map,q1] at this
          exact Option.some.inj this
        have e4:σ[j]? = some (some v):=by
          cases z:σ[j]? with
          | none=>rw [z] at e2'; cases e2'
          | some t=>rw [z] at e2'; exact congrArg some e2'
        obtain ⟨m,_,hl⟩:=I2.loc
        have vis:Vis X.env.scope y:=.inr q3
        obtain ⟨u,r,l⟩:=hl j y v q2 e4 vis
        refine ⟨u,r,.inr ⟨q4,?_⟩⟩
        obtain ⟨c',hc'⟩:=O.has y q4
        rcases l with ⟨k,_⟩ | ⟨_,c,ec,ic⟩
        · rcases q3 with z | z
          · rw [z] at k; cases k
          · rw [z] at k; cases k
        · have:=O.cells y c' hc'
          have e' : c = c':=Option.some.inj (ec.symm.trans this)
          obtain ⟨o,ho,hd⟩:=ic
          rw [e'] at ho
          exact ⟨c',hc',o,old c' o ho,hd⟩
    · obtain ⟨v,o,ho,hd⟩:=I2.cell y c (O.cells y c e)
      exact ⟨v,o,old c o ho,hd⟩
    · show upd H2 s2.heap.objs.size (.lst []) G.objs.size = none
      rw [upd_ne (Nat.ne_of_gt (by rw [hC]; exact Nat.lt_succ_self _))]
      exact I2.hok.fresh (by rw [hC]; exact Nat.le_succ _)
    · obtain ⟨v,o,ho,hd⟩:=I2.cell y c (O.cells y c e)
      rw [upd_ne (Nat.ne_of_lt (Heap.lt_size ho))]
      exact I2.freeC y c (O.cells y c e)
    · show (cmpSt σ fr none).length = N.length
      rw [O.len]; simp [cmpSt]
  have st1:tn 0 h1:=T.keep _ _ _ st2 fun b hb o e=>old b o e
  have loop:∀ s3:Shared,s3 = { s2 with heap:=h1,toks:=s2.toks + ([]:List (Str × Value)).length } →
      codeAny (model X.prog X.w) X.A (.compLoop (.ListComp elt [⟨.Name x px,iter,ifs,0⟩] scope pos) 0 (.ref it) (.ref s2.heap.objs.size) (compEnvC scope cl G.objs.size X.env)) (RR (.ref s2.heap.objs.size) G.objs.size) s3:=by
    rintro s3 rfl
    obtain ⟨W,⟨m0,w0⟩,turn⟩:=hW _ hD
    refine comp_turns (fun n s'=>∃ i t H',Inv (cmpCx X N scope cl fp G.objs.size s2 H2) [] (cmpSt σ fr t) H' s'∧tn i s'.heap∧(∀ b ∈ fp,H' b = none)∧W i n H') ?_ m0
      ⟨0,none,_,I',st1,fun b hb=>by
        rw [upd_ne (by obtain ⟨o,e,_⟩:=T.obj _ _ st2 b hb; exact Nat.ne_of_lt (Heap.lt_size e))]
        exact (f2 b hb).1,w0⟩
    rintro n s' ⟨i,t,H',I3,st3,fr3,w3⟩
    rcases turn i n H' w3 with ⟨stop,qn⟩ | ⟨go,step⟩
    · refine thn (T.done (cmpCx X N scope cl fp G.objs.size s2 H2) rfl rfl rfl hc i [] s' _ H' _ I3 (statX fr3) st3 stop) fun r s4 ⟨hr,I4⟩=>?_
      subst hr
      obtain ⟨m,hm,_⟩:=I4.loc
      refine fin _ _ s4 H' (by rw [hC]; exact Nat.le_succ _) I4.free ⟨m,hm⟩ (I2.call' (ch:=fp) I4.os I4.base I4.hok I4.bare fun b hb=>?_) qn
      exact ⟨(f2 b hb).2.2.2.1,(f2 b hb).2.1,(f2 b hb).2.2.2.2.1,(f2 b hb).2.2.2.2.2⟩
    · refine thn (T.item (cmpCx X N scope cl fp G.objs.size s2 H2) rfl rfl rfl hc i [] s' _ H' _ I3 (statX fr3) st3 go) fun r s4 ⟨u,hr,h4⟩=>?_
      subst hr
      refine thn h4 fun _ s5 ⟨y,H5,I5,r5,y5,st5,fr5⟩=>?_
      have I5':=I5.pinned (statX fr5) (T.obj _ _ st5)
      have lx:(cmpCx X N scope cl fp G.objs.size s2 H2).env.scope.names.lookup x = some .local:=lookup_relabel_local O.hx
      refine thn (pg_name (X:=cmpCx X N scope cl fp G.objs.size s2 H2) (i:=0) O.nd O.n0 (.inl lx) (.inr lx) _ s5 _ H5 y u (fun σ' H'=>σ' = cmpSt σ fr (some y)∧H' = H5) I5' r5 ⟨rfl,rfl⟩) fun _ s6 ⟨σ6,H6,I6,e6,e6'⟩=>?_
      subst e6; subst e6'
      have again:∀ {σ7:St} {H7:Hp} {s7:Shared} {m' : Nat},σ7 = cmpSt σ fr (some y)→Inv (cmpCx X N scope cl fp G.objs.size s2 H2) ([] ++ pinsAt fp s5.heap) σ7 H7 s7→m' < n→W (i + 1) m' H7 →
          ∃ m,m < n∧∃ i t H',Inv (cmpCx X N scope cl fp G.objs.size s2 H2) [] (cmpSt σ fr t) H' s7∧tn i s7.heap∧(∀ b ∈ fp,H' b = none)∧W i m H':=fun {σ7 H7 s7 m'} e7 I7 hm w7=>by
        subst e7
        refine ⟨m',hm,i + 1,some y,H7,I7.unpinned,T.keep _ _ _ st5 fun b hb o e=>(I7.pin (b,o) (List.mem_append_right _ (List.mem_append_right _ (mem_pinsAt hb e)))).1,fun b hb=>?_,w7⟩
        obtain ⟨o,e,d⟩:=T.obj _ _ st5 b hb
        exact (I7.pin (b,o) (List.mem_append_right _ (List.mem_append_right _ (mem_pinsAt hb e)))).2.1
      refine thn (ht fp G.objs.size s2 H2 _ s6 _ H6 _ I6 (step y H6 y5)) fun ok s7 ⟨H7,I7,q7⟩=>?_
      cases ok with
      | false =>
        rw [if_neg Bool.false_ne_true] at q7 ⊢
        obtain ⟨m',hm,w7⟩:=q7
        exact again rfl I7 hm w7
      | true =>
        rw [if_pos rfl] at q7 ⊢
        refine thn (he fp G.objs.size s2 H2 _ s7 _ H7 _ I7 q7) fun u8 s8 ⟨v8,H8,I8,r8,ys,hys,hlen,m',hm,w8⟩=>?_
        refine thn (mt_append (X:=cmpCx X N scope cl fp G.objs.size s2 H2) _ s8 _ H8 (.ref s2.heap.objs.size) [v8] _ [u8] (fun _ H9=>W (i + 1) m' H9) I8 rfl (.cons r8 .nil) ⟨_,ys,v8,rfl,rfl,hys,hlen,w8⟩) fun _ s9 ⟨_,H9,I9,_,w9⟩=>?_
        exact again rfl I9 hm w9
  exact codeAny_compStart_list (loop _ rfl) (T.self _ 0 _ _ _ st1 (loop _ rfl))
theorem Inv.left {pins:List (Addr × Obj)} {σ σ2:St} {s2 s' : Shared} {H2 H' : Hp} {C:Addr} {h' : Heap} (I2:Inv X pins σ2 H2 s2) (I' : Inv X pins σ H' s') (hC:s2.heap.objs.size ≤ C) (hn:H' C = none) (hs:Heap.SameBut C s'.heap h'):Inv X pins σ H' { s' with heap:=h' }:=by
  refine I'.turned (t':=s'.toks) (it:=C) (fun b o hb e=>(hs.2 b hb).trans e) hn (Nat.ne_of_gt (Nat.lt_of_lt_of_le I2.lt hC)) (.inr (Nat.le_trans I2.sz hC)) (fun y c e=>?_) fun p hp=>?_
  · obtain ⟨v,o,ho,_⟩:=I2.cell y c e
    exact Nat.ne_of_lt (Nat.lt_of_lt_of_le (Heap.lt_size ho) hC)
  · exact Nat.ne_of_lt (Nat.lt_of_lt_of_le (Heap.lt_size (I2.pin p hp).1) hC)
theorem pe_comp {wi:TI} (hi:PI X (.Name x px) iter wi) (O:CmpOk X N fr scope cl x) (hc:X.calm = true) (ht:∀ fp C s H,PIf (cmpCx X N scope cl fp C s H) ifs tt) (he:∀ fp C s H,PE (cmpCx X N scope cl fp C s H) elt te)
    (hs:∀ v,foldedSetIterable iter X.env v = pure v:=by intro _; rfl):PE X (.ListComp elt [⟨.Name x px,iter,ifs,0⟩] scope pos) (tComp wi fr tt te):=by
  intro pins s σ H Q I h
  rw [eval_ListComp]
  refine wpAny_comprehension_free (use:=none) rfl hs O.clos O.kind O.names (thn (hi pins s σ H _ I h) fun v s1 h1=>thn h1 fun itv s2 h2=>?_)
  obtain ⟨it,fp,tn,J,H2,e,I2,T,st2,f2,hW⟩:=h2
  subst e
  refine comp_core (RR:=fun acc C=>compPost (model X.prog X.w) X.A X.xe none (EP X pins σ Q) acc C) O hc I2 T st2 f2 ht he hW fun D C s' H' hC hn ⟨m,hm⟩ I' q=>?_
  exact ⟨m,hm,fun h' hs'=>⟨.ref D,H',I2.left I' hC hn hs',rfl,q⟩⟩
theorem ps_comp {wi:TI} {i:Nat} {y:Str} {py spos:Pos} (hN:X.N.Nodup) (hy:X.N[i]? = some y) (hl:Loc X.env.scope y) (hi:PI X (.Name x px) iter wi) (O:CmpOk X N fr scope cl x) (hc:X.calm = true)
    (ht:∀ fp C s H,PIf (cmpCx X N scope cl fp C s H) ifs tt) (he:∀ fp C s H,PE (cmpCx X N scope cl fp C s H) elt te) (hs:∀ v,foldedSetIterable iter X.env v = pure v:=by intro _; rfl)
    (hsw:swapsWith (.ListComp elt [⟨.Name x px,iter,ifs,0⟩] scope pos) (some (.Name y py)) spos.line X.env = pure true:=by rfl) (hf:X.fn y = true∨X.env.scope.names.lookup y = some .local:=by first | exact .inl rfl | exact .inr rfl | assumption) :
    PS X (.Assign [.Name y py] (.ListComp elt [⟨.Name x px,iter,ifs,0⟩] scope pos) spos) (tAsg (tComp wi fr tt te) (gName i)):=by
  intro pins s σ H D0 I h
  rw [exec_Assign_Name_used _ _ _ _ hsw]
  refine wpAny_bind (wpAny_standAt (wpAny_bind ?_))
  show wpAny _ X.A (do let _ ← comprehension (.ListComp elt [⟨.Name x px,iter,ifs,0⟩] scope pos) scope X.env _ (newList []) false (eval iter X.env) (some (assign (.Name y py) X.env))) _ _ s
  refine wpAny_bind (wpAny_mono (wpAny_comprehension_free (use:=some (assign (.Name y py) X.env)) (Q:=fun _ s'=>SP X pins D0 .next s') rfl hs O.clos O.kind O.names (thn (hi pins s σ H _ I h) fun v s1 h1=>thn h1 fun itv s2 h2=>?_)) (fun _ s' hq=>wpAny_pure (wpAny_pure hq)) fun _ _ z=>z)
  obtain ⟨it,fp,tn,J,H2,e,I2,T,st2,f2,hW⟩:=h2
  subst e
  refine comp_core (Q:=fun v H1=>gName i v σ H1 D0.nx) (RR:=fun acc C=>compPost (model X.prog X.w) X.A X.xe (some (assign (.Name y py) X.env)) (fun _ s'=>SP X pins D0 .next s') acc C) O hc I2 T st2 f2 ht he hW fun D C s' H' hC hn ⟨m,hm⟩ I' q=>?_
  show wpAny _ X.A (assign (.Name y py) X.env (.ref D)) _ _ s'
  refine wpAny_assign_Name (store_ok2 I' hN hy hl (v:=.ref D) rfl (fun s3 I3 ⟨a,hsa,ha⟩=>?_) hf)
  have hCa:C ≠ a:=by
    rcases ha with z | z
    · rw [z]; exact Nat.ne_of_gt (Nat.lt_of_lt_of_le I2.lt hC)
    · obtain ⟨v,o,ho,_⟩:=I2.cell y a z
      exact Nat.ne_of_gt (Nat.lt_of_lt_of_le (Heap.lt_size ho) hC)
  exact ⟨m,hm.sameBut hsa hCa,fun h' hs'=>⟨_,H',I2.left I3 hC hn hs',q⟩⟩
def CNext (Pv:Addr→Nat→List V→Hp→Prop) (D:Addr) (i n:Nat) (H2:Hp):Prop:=∃ m',m' < n - i∧m' = n - (i + 1)∧i + 1 ≤ n∧∃ zs,Pv D (i + 1) zs H2
def CYes (Pv:Addr→Nat→List V→Hp→Prop) (D:Addr) (i n:Nat):VK:=fun y H3=>∃ ys,H3 D = some (.lst ys)∧ys.length < sizeLine∧CNext Pv D i n (upd H3 D (.lst (ys ++ [y])))
theorem CNext.mk {Pv:Addr→Nat→List V→Hp→Prop} {D:Addr} {i n:Nat} {H2:Hp} {zs:List V} (hi:i < n) (h:Pv D (i + 1) zs H2):CNext Pv D i n H2:=⟨n - (i + 1),by omega,rfl,hi,zs,h⟩
theorem CYes.mk {Pv:Addr→Nat→List V→Hp→Prop} {D:Addr} {i n:Nat} {H3:Hp} {ys:List V} {y:V} (hi:i < n) (e:H3 D = some (.lst ys)) (hl:ys.length < sizeLine) (h:Pv D (i + 1) (ys ++ [y]) (upd H3 D (.lst (ys ++ [y])))):CYes Pv D i n y H3:=⟨ys,e,hl,.mk hi h⟩
theorem comp_list {K:PySem.W.Frag} {a:Addr} {xs:List V} {σ:St} {H1:Hp} {Q:VK} (Pv:Addr→Nat→List V→Hp→Prop) (h0:∀ D,H1 D = none→Pv D 0 [] (upd H1 D (.lst [])))
    (hk:∀ D i ys H,H1 D = none→i ≤ xs.length→Pv D i ys H→SqL K H a xs)
    (hs:∀ D i x ys H,H1 D = none→xs[i]? = some x→Pv D i ys H→tt (cmpSt σ fr (some x)) H fun b H2=>if b = true then te (cmpSt σ fr (some x)) H2 (CYes Pv D i xs.length) else CNext Pv D i xs.length H2)
    (hd:∀ D ys H,H1 D = none→Pv D xs.length ys H→Q (.ref D) H):CompAt (Itl K a) fr tt te σ Q H1:=by
  intro D hD
  refine ⟨fun i m H=>m = xs.length - i∧i ≤ xs.length∧∃ ys,Pv D i ys H,⟨_,rfl,Nat.zero_le _,[],h0 D hD⟩,?_⟩
  rintro i m H ⟨rfl,hi,ys,p⟩
  have q:=hk D i ys H hD hi p
  by_cases hlt:i < xs.length
  · refine .inr ⟨⟨xs,xs[i],q,by simp [hlt]⟩,fun x H' y=>?_⟩
    obtain ⟨e,y⟩:=y
    subst e
    exact hs D i x ys _ hD (y xs q) p
  · have e:i = xs.length:=by omega
    subst e
    exact .inl ⟨⟨xs,q,Nat.le_refl _⟩,hd D ys H hD p⟩
theorem comp_range {lo:Int} {n:Nat} {σ:St} {H1:Hp} {Q:VK} (Pv:Addr→Nat→List V→Hp→Prop) (h0:∀ D,H1 D = none→Pv D 0 [] (upd H1 D (.lst [])))
    (hs:∀ D i ys H,H1 D = none→i < n→Pv D i ys H→tt (cmpSt σ fr (some (.int (lo + i)))) H fun b H2=>if b = true then te (cmpSt σ fr (some (.int (lo + i)))) H2 (CYes Pv D i n) else CNext Pv D i n H2)
    (hd:∀ D ys H,H1 D = none→Pv D n ys H→Q (.ref D) H):CompAt (Itr lo n) fr tt te σ Q H1:=by
  intro D hD
  refine ⟨fun i m H=>m = n - i∧i ≤ n∧∃ ys,Pv D i ys H,⟨_,rfl,Nat.zero_le _,[],h0 D hD⟩,?_⟩
  rintro i m H ⟨rfl,hi,ys,p⟩
  by_cases hlt:i < n
  · refine .inr ⟨hlt,fun x H' y=>?_⟩
    obtain ⟨e,y⟩:=y
    subst e; subst y
    exact hs D i ys _ hD hlt p
  · have e:i = n:=by omega
    subst e
    exact .inl ⟨Nat.le_refl _,hd D ys H hD p⟩
end
end L2
namespace L2
open PySem PySem.Spec PyProof.Rows
structure CmpOkG (X:Cx) (N:List Str) (k:Nat) (fr:List Nat) (scope:Scope) (cl:List (Str × Addr)):Prop where
  clos:closureFor scope X.env = pure cl
  kind:scope.kind = .function
  nocell:∀ y ∈ scope.names,y.2 ≠ .cell
  names:∀ y ∈ scope.names,y.2 = .local→scope.names.lookup y.1 = some .local
  len:N.length = k + fr.length
  sub:∀ (i:Nat) (y:Str),N[k + i]? = some y→∃ j,fr[i]? = some j∧X.N[j]? = some y∧(X.env.kindOf y = some .cell∨X.env.kindOf y = some .free)∧((relabel scope X.env).names.lookup y = some .cell∨(relabel scope X.env).names.lookup y = some .free)
  cells:∀ y c,cl.lookup y = some c→X.env.cells.lookup y = some c
  has:∀ y,((relabel scope X.env).names.lookup y = some .cell∨(relabel scope X.env).names.lookup y = some .free)→∃ c,cl.lookup y = some c
theorem cmpOkG_plain {X:Cx} {N:List Str} {k:Nat} {scope:Scope} (len:N.length = k) (kind:scope.kind = .function) (nofree:∀ y ∈ scope.names,y.2 ≠ .free) (nocell:∀ y ∈ scope.names,y.2 ≠ .cell)
    (names:∀ y ∈ scope.names,y.2 = .local→scope.names.lookup y.1 = some .local):CmpOkG X N k [] scope []:=by
  have er:(relabel scope X.env).names = scope.names:=map_eq_self fun y hy=>by
    have z:(y.2 == NameKind.free) = false:=by simpa using nofree y hy
    simp [z]
  have no:∀ y,¬ ((relabel scope X.env).names.lookup y = some .cell∨(relabel scope X.env).names.lookup y = some .free):=fun y h=>by
    rw [er] at h
    rcases h with h | h
    · exact nocell _ (PySem.mem_of_lookup h) rfl
    · exact nofree _ (PySem.mem_of_lookup h) rfl
  refine ⟨closureFor_none nofree,kind,nocell,names,by rw [len]; rfl,fun i y e=>?_,(fun y c e=>by cases e),fun y h=>absurd h (no y)⟩
  have:=(List.getElem?_eq_some_iff.mp e).1
  omega
def cmpStG (σ:St) (fr:List Nat) (ts:St):St:=ts ++ fr.map fun j=>(σ[j]?).join
def CompAtG (J:It) (gt:TG) (k:Nat) (fr:List Nat) (tt:TT) (te:TE) (σ:St) (Q:VK) (H1:Hp):Prop:=∀ D,H1 D = none→∃ W:Nat→Nat→Hp→Prop,(∃ m,W 0 m (upd H1 D (.lst [])))∧∀ i m H,W i m H →
  (J.stop i H∧Q (.ref D) H)∨(J.go i H∧∀ x H',J.yld i H x H'→∀ ts:St,ts.length = k→gt x (cmpStG σ fr ts) H' fun σ2 H2=>(∃ ts2:St,ts2.length = k∧σ2 = cmpStG σ fr ts2)∧tt σ2 H2 fun b H3=>if b = true then te σ2 H3 fun y H4=>∃ ys,H4 D = some (.lst ys)∧ys.length < sizeLine∧∃ m',m' < m∧W (i + 1) m' (upd H4 D (.lst (ys ++ [y])))
    else ∃ m',m' < m∧W (i + 1) m' H3)
def tCompG (wi:TI) (gt:TG) (k:Nat) (fr:List Nat) (tt:TT) (te:TE):TE:=fun σ H Q=>wi σ H fun J H1=>CompAtG J gt k fr tt te σ Q H1
section
variable {X:Cx} {elt iter tg:Expr} {ifs:List Expr} {pos:Pos} {scope:Scope} {cl:List (Str × Addr)} {N:List Str} {k:Nat} {fr:List Nat} {gt:TG} {tt:TT} {te:TE}
theorem comp_coreG {pins:List (Addr × Obj)} {σ:St} {s2:Shared} {H2:Hp} {it:Addr} {fp:List Addr} {tn:Nat→Heap→Prop} {J:It} {Q:VK} {E:Value→Shared→Prop} {RR:Value→Addr→Result→Shared→Prop}
    (O:CmpOkG X N k fr scope cl) (hc:X.calm = true) (I2:Inv X pins σ H2 s2) (T:Turn X.prog X.w X.K tg J fp it tn) (st2:tn 0 s2.heap) (f2:∀ b ∈ fp,FpOk X pins H2 b)
    (ht:∀ fp C s H,PIf (cmpCx X N scope cl fp C s H) ifs tt) (he:∀ fp C s H,PE (cmpCx X N scope cl fp C s H) elt te)
    (hg:∀ fp C s H,PG (cmpCx X N scope cl fp C s H) tg gt) (hW:CompAtG J gt k fr tt te σ Q H2)
    (fin:∀ D C s' H',s2.heap.objs.size ≤ C→H' C = none→(∃ m,s'.heap.Ns C m)→Inv X pins σ H' s'→Q (.ref D) H'→RR (.ref D) C (.ok .next) s') :
    wpAny (model X.prog X.w) X.A (newList []) (fun acc s3=>wpAny (model X.prog X.w) X.A (newFunctionEnv scope X.env.globals cl [] X.env.qual none .none (some X.env)) (fun cenv s4 =>
      codeAny (model X.prog X.w) X.A (.compStart (.ListComp elt [⟨tg,iter,ifs,0⟩] scope pos) 0 (.ref it) acc { cenv with scope:=relabel scope X.env }) (RR acc cenv.locals) s4) E s3) E s2:=by
  refine wpAny_newObj_type (wpAny_newFunctionEnv O.nocell (by intro y hy; simp at hy) (fun h1 hns hsb=>?_) O.kind)
  dsimp only at hns hsb ⊢
  generalize hG:s2.heap.push { cls:=.type "list",dict:=none,data:=.seq ([]:List Value).toArray } = G at hns hsb ⊢
  have hC:G.objs.size = s2.heap.objs.size + 1:=by rw [← hG,Heap.size_push]
  have old:∀ b o,s2.heap.get? b = some o→h1.get? b = some o:=fun b o e=>hsb.extBut b o (Nat.ne_of_lt (by rw [hC]; exact Nat.lt_succ_of_lt (Heap.lt_size e))) (Heap.get?_push_of_some _ (hG ▸ Heap.get?_push_of_some _ e))
  have hacc:h1.get? s2.heap.objs.size = some { cls:=.type "list",data:=.seq ([]:List Value).toArray 0 }:=hsb.extBut _ _ (Nat.ne_of_lt (by rw [hC]; exact Nat.lt_succ_self _)) (Heap.get?_push_of_some _ (hG ▸ Heap.get?_push_size _ rfl))
  have hD:H2 s2.heap.objs.size = none:=I2.fresh
  have okX:(cmpCx X N scope cl fp G.objs.size s2 H2).Ok:=by
    refine ⟨I2.ok.mod,O.kind,I2.ok.glob,I2.ok.blt,by show s2.heap.objs.size ≤ G.objs.size; rw [hC]; exact Nat.le_succ _,fun y z c e1 e2=>I2.ok.inj y z c (O.cells y c e1) (O.cells z c e2),fun y hy=>O.has y hy,fun y c z=>absurd (show false = true from z) Bool.false_ne_true,I2.ok.hd,I2.ok.frames,.inl rfl,
      fun b hb=>⟨?_,fun y c e=>(f2 b hb).2.2.2.2.1 y c (O.cells y c e)⟩,I2.bs,Nat.le_trans I2.ok.bsz I2.sz,fun b o e hb=>?_,fun b hb z=>?_,I2.stack,I2.stkFree⟩
    · obtain ⟨o,e,_⟩:=T.obj _ _ st2 b hb
      show b ≠ G.objs.size
      exact Nat.ne_of_lt (by rw [hC]; exact Nat.lt_succ_of_lt (Heap.lt_size e))
    · rcases (f2 b hb).2.2.2.1 with z | z
      · exact I2.ok.noex b o e z
      · exact absurd (Nat.lt_of_lt_of_le (Heap.lt_size e) (Nat.le_trans I2.ok.bsz z)) (Nat.lt_irrefl _)
    · rcases List.mem_cons.mp (I2.stkSub b z) with z | z
      · exact (f2 b hb).2.1 z
      · exact (f2 b hb).2.2.1 z
  have statX:∀ {H' : Hp},(∀ b ∈ fp,H' b = none)→∀ b ∈ fp,FpOk (cmpCx X N scope cl fp G.objs.size s2 H2) [] H' b:=fun hn b hb =>
    ⟨hn b hb,(okX.exf b hb).1,okX.exfs b hb,.inl hb,(okX.exf b hb).2,fun p hp=>absurd (show p ∈ ([]:List (Addr × Obj)) from hp) (by simp)⟩
  have I' : Inv (cmpCx X N scope cl fp G.objs.size s2 H2) [] (cmpStG σ fr (List.replicate k none)) (upd H2 s2.heap.objs.size (.lst [])) { s2 with heap:=h1,toks:=s2.toks + ([]:List (Str × Value)).length }:=by
    refine ⟨okX,rfl,I2.bare,Un.laid old (Nat.le_refl _) hD,⟨_,hns,fun i y v e1 e2 e3=>?_⟩,fun y c e=>?_,?_,fun y c e=>?_,fun p hp=>absurd (show p ∈ ([]:List (Addr × Obj)) from hp) (by simp),I2.hok.laid old (Nat.le_refl _) ⟨Nat.zero_le _,[],0,.nil,hacc⟩,?_⟩
    · by_cases hik:i < k
      · have e2' : (List.replicate k none ++ fr.map fun j=>(σ[j]?).join)[i]? = some (some v):=e2
        rw [List.getElem?_append_left (by rw [List.length_replicate]; exact hik),List.getElem?_replicate,if_pos hik] at e2'
        cases e2'
      · obtain ⟨j,q1,q2,q3,q4⟩:=O.sub (i - k) y (by rw [show k + (i - k) = i by omega]; exact e1)
        have e2' : (σ[j]?).join = some v:=by
          have:(List.replicate k none ++ fr.map fun j=>(σ[j]?).join)[i]? = some (some v):=e2
          rw [List.getElem?_append_right (by rw [List.length_replicate]; omega),List.length_replicate,List.getElem?_map,q1] at this
          exact Option.some.inj this
        have e4:σ[j]? = some (some v):=by
          cases z:σ[j]? with
          | none=>rw [z] at e2'; cases e2'
          | some t=>rw [z] at e2'; exact congrArg some e2'
        obtain ⟨m,_,hl⟩:=I2.loc
        have vis:Vis X.env.scope y:=.inr q3
        obtain ⟨u,r,l⟩:=hl j y v q2 e4 vis
        refine ⟨u,r,.inr ⟨q4,?_⟩⟩
        obtain ⟨c',hc'⟩:=O.has y q4
        rcases l with ⟨k,_⟩ | ⟨_,c,ec,ic⟩
        · rcases q3 with z | z
          · rw [z] at k; cases k
          · rw [z] at k; cases k
        · have:=O.cells y c' hc'
          have e' : c = c':=Option.some.inj (ec.symm.trans this)
          obtain ⟨o,ho,hd⟩:=ic
          rw [e'] at ho
          exact ⟨c',hc',o,old c' o ho,hd⟩
    · obtain ⟨v,o,ho,hd⟩:=I2.cell y c (O.cells y c e)
      exact ⟨v,o,old c o ho,hd⟩
    · show upd H2 s2.heap.objs.size (.lst []) G.objs.size = none
      rw [upd_ne (Nat.ne_of_gt (by rw [hC]; exact Nat.lt_succ_self _))]
      exact I2.hok.fresh (by rw [hC]; exact Nat.le_succ _)
    · obtain ⟨v,o,ho,hd⟩:=I2.cell y c (O.cells y c e)
      rw [upd_ne (Nat.ne_of_lt (Heap.lt_size ho))]
      exact I2.freeC y c (O.cells y c e)
    · show (cmpStG σ fr (List.replicate k none)).length = N.length
      rw [O.len]; simp [cmpStG]
  have st1:tn 0 h1:=T.keep _ _ _ st2 fun b hb o e=>old b o e
  have loop:∀ s3:Shared,s3 = { s2 with heap:=h1,toks:=s2.toks + ([]:List (Str × Value)).length } →
      codeAny (model X.prog X.w) X.A (.compLoop (.ListComp elt [⟨tg,iter,ifs,0⟩] scope pos) 0 (.ref it) (.ref s2.heap.objs.size) (compEnvC scope cl G.objs.size X.env)) (RR (.ref s2.heap.objs.size) G.objs.size) s3:=by
    rintro s3 rfl
    obtain ⟨W,⟨m0,w0⟩,turn⟩:=hW _ hD
    refine comp_turns (fun n s'=>∃ i ts H',ts.length = k∧Inv (cmpCx X N scope cl fp G.objs.size s2 H2) [] (cmpStG σ fr ts) H' s'∧tn i s'.heap∧(∀ b ∈ fp,H' b = none)∧W i n H') ?_ m0
      ⟨0,List.replicate k none,_,List.length_replicate,I',st1,fun b hb=>by
        rw [upd_ne (by obtain ⟨o,e,_⟩:=T.obj _ _ st2 b hb; exact Nat.ne_of_lt (Heap.lt_size e))]
        exact (f2 b hb).1,w0⟩
    rintro n s' ⟨i,ts,H',hts,I3,st3,fr3,w3⟩
    rcases turn i n H' w3 with ⟨stop,qn⟩ | ⟨go,step⟩
    · refine thn (T.done (cmpCx X N scope cl fp G.objs.size s2 H2) rfl rfl rfl hc i [] s' _ H' _ I3 (statX fr3) st3 stop) fun r s4 ⟨hr,I4⟩=>?_
      subst hr
      obtain ⟨m,hm,_⟩:=I4.loc
      refine fin _ _ s4 H' (by rw [hC]; exact Nat.le_succ _) I4.free ⟨m,hm⟩ (I2.call' (ch:=fp) I4.os I4.base I4.hok I4.bare fun b hb=>?_) qn
      exact ⟨(f2 b hb).2.2.2.1,(f2 b hb).2.1,(f2 b hb).2.2.2.2.1,(f2 b hb).2.2.2.2.2⟩
    · refine thn (T.item (cmpCx X N scope cl fp G.objs.size s2 H2) rfl rfl rfl hc i [] s' _ H' _ I3 (statX fr3) st3 go) fun r s4 ⟨u,hr,h4⟩=>?_
      subst hr
      refine thn h4 fun _ s5 ⟨y,H5,I5,r5,y5,st5,fr5⟩=>?_
      have I5':=I5.pinned (statX fr5) (T.obj _ _ st5)
      refine thn (hg fp G.objs.size s2 H2 _ s5 _ H5 y u _ I5' r5 (step y H5 y5 ts hts)) fun _ s6 ⟨σ6,H6,I6,⟨ts6,hts6,e6⟩,q6⟩=>?_
      subst e6
      have again:∀ {σ7:St} {H7:Hp} {s7:Shared} {m' : Nat},σ7 = cmpStG σ fr ts6→Inv (cmpCx X N scope cl fp G.objs.size s2 H2) ([] ++ pinsAt fp s5.heap) σ7 H7 s7→m' < n→W (i + 1) m' H7 →
          ∃ m,m < n∧∃ i ts H',ts.length = k∧Inv (cmpCx X N scope cl fp G.objs.size s2 H2) [] (cmpStG σ fr ts) H' s7∧tn i s7.heap∧(∀ b ∈ fp,H' b = none)∧W i m H':=fun {σ7 H7 s7 m'} e7 I7 hm w7=>by
        subst e7
        refine ⟨m',hm,i + 1,ts6,H7,hts6,I7.unpinned,T.keep _ _ _ st5 fun b hb o e=>(I7.pin (b,o) (List.mem_append_right _ (List.mem_append_right _ (mem_pinsAt hb e)))).1,fun b hb=>?_,w7⟩
        obtain ⟨o,e,d⟩:=T.obj _ _ st5 b hb
        exact (I7.pin (b,o) (List.mem_append_right _ (List.mem_append_right _ (mem_pinsAt hb e)))).2.1
      refine thn (ht fp G.objs.size s2 H2 _ s6 _ H6 _ I6 q6) fun ok s7 ⟨H7,I7,q7⟩=>?_
      cases ok with
      | false =>
        rw [if_neg Bool.false_ne_true] at q7 ⊢
        obtain ⟨m',hm,w7⟩:=q7
        exact again rfl I7 hm w7
      | true =>
        rw [if_pos rfl] at q7 ⊢
        refine thn (he fp G.objs.size s2 H2 _ s7 _ H7 _ I7 q7) fun u8 s8 ⟨v8,H8,I8,r8,ys,hys,hlen,m',hm,w8⟩=>?_
        refine thn (mt_append (X:=cmpCx X N scope cl fp G.objs.size s2 H2) _ s8 _ H8 (.ref s2.heap.objs.size) [v8] _ [u8] (fun _ H9=>W (i + 1) m' H9) I8 rfl (.cons r8 .nil) ⟨_,ys,v8,rfl,rfl,hys,hlen,w8⟩) fun _ s9 ⟨_,H9,I9,_,w9⟩=>?_
        exact again rfl I9 hm w9
  exact codeAny_compStart_list (loop _ rfl) (T.self _ 0 _ _ _ st1 (loop _ rfl))
theorem pe_compG {wi:TI} (hi:PI X tg iter wi) (O:CmpOkG X N k fr scope cl) (hc:X.calm = true) (hg:∀ fp C s H,PG (cmpCx X N scope cl fp C s H) tg gt) (ht:∀ fp C s H,PIf (cmpCx X N scope cl fp C s H) ifs tt) (he:∀ fp C s H,PE (cmpCx X N scope cl fp C s H) elt te)
    (hs:∀ v,foldedSetIterable iter X.env v = pure v:=by intro _; rfl):PE X (.ListComp elt [⟨tg,iter,ifs,0⟩] scope pos) (tCompG wi gt k fr tt te):=by
  intro pins s σ H Q I h
  rw [eval_ListComp]
  refine wpAny_comprehension_free (use:=none) rfl hs O.clos O.kind O.names (thn (hi pins s σ H _ I h) fun v s1 h1=>thn h1 fun itv s2 h2=>?_)
  obtain ⟨it,fp,tn,J,H2,e,I2,T,st2,f2,hW⟩:=h2
  subst e
  refine comp_coreG (RR:=fun acc C=>compPost (model X.prog X.w) X.A X.xe none (EP X pins σ Q) acc C) O hc I2 T st2 f2 ht he hg hW fun D C s' H' hC hn ⟨m,hm⟩ I' q=>?_
  exact ⟨m,hm,fun h' hs'=>⟨.ref D,H',I2.left I' hC hn hs',rfl,q⟩⟩
theorem compG_list {K:PySem.W.Frag} {a:Addr} {xs:List V} {σ:St} {H1:Hp} {Q:VK} (Pv:Addr→Nat→List V→Hp→Prop) (h0:∀ D,H1 D = none→Pv D 0 [] (upd H1 D (.lst [])))
    (hk:∀ D i ys H,H1 D = none→i ≤ xs.length→Pv D i ys H→SqL K H a xs)
    (hs:∀ D i x ys H,H1 D = none→xs[i]? = some x→Pv D i ys H→∀ ts:St,ts.length = k→gt x (cmpStG σ fr ts) H fun σ2 H2=>(∃ ts2:St,ts2.length = k∧σ2 = cmpStG σ fr ts2)∧tt σ2 H2 fun b H3=>if b = true then te σ2 H3 (CYes Pv D i xs.length) else CNext Pv D i xs.length H3)
    (hd:∀ D ys H,H1 D = none→Pv D xs.length ys H→Q (.ref D) H):CompAtG (Itl K a) gt k fr tt te σ Q H1:=by
  intro D hD
  refine ⟨fun i m H=>m = xs.length - i∧i ≤ xs.length∧∃ ys,Pv D i ys H,⟨_,rfl,Nat.zero_le _,[],h0 D hD⟩,?_⟩
  rintro i m H ⟨rfl,hi,ys,p⟩
  have q:=hk D i ys H hD hi p
  by_cases hlt:i < xs.length
  · refine .inr ⟨⟨xs,xs[i],q,by simp [hlt]⟩,fun x H' y=>?_⟩
    obtain ⟨e,y⟩:=y
    subst e
    exact hs D i x ys _ hD (y xs q) p
  · have e:i = xs.length:=by omega
    subst e
    exact .inl ⟨⟨xs,q,Nat.le_refl _⟩,hd D ys H hD p⟩
end
theorem gTupK {X:Cx} {K:PySem.W.Frag} {es:List Expr} {k:Nat} {t:TGs} {n:Nat} {pos:Pos} (hK:X.K = K) (hc:X.calm = true) (h:PGs X es t) (hn:(assignEach es X.env).length = n:=by rfl) (hst:(assignEach es X.env).findIdx? (·.1) = none:=by rfl):PG X (.Tuple es k pos) (gTup K n t):=hK ▸ pg_tup hc h hn hst
end L2
namespace Srt
open PySem PySem.W PyProof.Rows
def Ok (n:Nat) (lt:Nat→Nat→Bool) {α:Type} : KasT α→(α→Prop)→Prop
  | .ret a,Q=>Q a
  | .ask i j k,Q=>i < n∧j < n∧Ok n lt (k (lt i j)) Q
section
variable {n:Nat} {lt:Nat→Nat→Bool}
abbrev g (p:Array Nat) (i:Nat):Nat:=p.getD i 0
def Bd (n:Nat) (p:Array Nat):Prop:=0 < n∧∀ i,g p i < n
def Up (lt:Nat→Nat→Bool) (p:Array Nat) (k:Nat):Prop:=∀ i j,i ≤ j→j < k→lt (g p j) (g p i) = false
def Dn (lt:Nat→Nat→Bool) (p:Array Nat) (k:Nat):Prop:=∀ i j,i ≤ j→j < k→lt (g p i) (g p j) = false
structure Ord (lt:Nat→Nat→Bool):Prop where
  tr:∀ a b c,lt b a = false→lt c b = false→lt c a = false
  as:∀ a b,lt a b = true→lt b a = false
def Eqs (lt:Nat→Nat→Bool) (p:Array Nat) (a b:Nat):Prop:=∀ i j,a ≤ i→i < b→a ≤ j→j < b→lt (g p i) (g p j) = false
end
end Srt
namespace L2
open PySem PySem.Spec PySem.W PyProof.Rows
def ltP (p q:Int × Int):Bool:=decide (p.1 < q.1) || (decide (p.1 = q.1) && decide (p.2 < q.2))
section
variable {prog:Program} {w:World} {A:Around} {E:Value→Shared→Prop} {s:Shared}
end
section
variable {X:Cx}
end
end L2
namespace L2
structure BothI (S A B A0 B0:List Pr):Prop where
  ap:Apart S
  aA:Apart A
  aB:Apart B
  mem:∀ n,(inP A0 n && inP B0 n) = (inP S n || (inP A n && inP B n))
  gap:∀ s ∈ S,(∀ p ∈ A,s.2 + 2 ≤ p.1)∨(∀ p ∈ B,s.2 + 2 ≤ p.1)
structure GapI (F T:List Pr) (lo hi st:Int):Prop where
  ap:Apart F
  lt:∀ s ∈ F,s.2 + 2 ≤ st
  rng:∀ s ∈ F,lo ≤ s.1∧s.2 ≤ hi
  tk:∀ p ∈ T,p.2 < st
  fr:st = lo∨∃ p ∈ T,st = p.2 + 1
  ge:lo ≤ st
  mem:∀ n,lo ≤ n→n ≤ hi→n < st→inP F n = !inP T n
end L2
namespace L2
structure Walk (ts:List (Int × Int × Int)):Prop where
  le:∀ t ∈ ts,t.1 ≤ t.2.1
  nx:∀ (i:Nat) a b,ts[i]? = some a→ts[i + 1]? = some b→b.1 = a.2.1 + 1
def pcs (msk:Int→Bool) (ts:List (Int × Int × Int)) (n:Int):Bool:=ts.any fun t=>inR n (t.1,t.2.1) && msk t.2.2
structure RunI (R:List Pr) (ts:List (Int × Int × Int)) (msk:Int→Bool) (i:Nat) (at_:Int):Prop where
  ap:Apart R
  mem:∀ n,inP R n = pcs msk (ts.take i) n
  lt:∀ r ∈ R,r.2 < at_
  few:2 * R.length ≤ i∨(2 * R.length ≤ i + 1∧∃ R' l,R = R' ++ [l]∧l.2 = at_ - 1)
section
variable {R:List Pr} {ts:List (Int × Int × Int)} {msk:Int→Bool} {i:Nat} {at_:Int} {t:Int × Int × Int}
end
end L2
namespace L2
def ends (R:List Pr):List Int:=R.flatMap fun p=>[p.1,p.2 + 1]
end L2
namespace L2
open PySem PySem.Spec PyProof.Rows
section
variable {X:Cx}
end
section
variable {prog:Program} {w:World} {A:Around} {E:Value→Shared→Prop} {s:Shared}
end
section
variable {X:Cx}
end
end L2
namespace L2
open PySem PySem.Spec PyProof.Rows
def Its (z:Str):It:=⟨fun i _=>i < z.cps.size,fun i H x H'=>H' = H∧∃ c,z.cps[i]? = some c∧x = .str ⟨#[c]⟩,fun i _=>z.cps.size ≤ i⟩
theorem turn_ascii {P:Program} {w:World} {K:PySem.W.Frag} {tg:Expr} (z:Str) (t:Tok) (it:Addr):Turn P w K tg (Its z) [it] it (fun i h=>h.IsStrIter it "str_ascii_iterator" z t i) where
  mem:=by simp
  obj:=fun i h st b hb=>by
    obtain ⟨o,e,c,d⟩:=st
    rw [show b = it by simpa using hb]
    exact ⟨o,e,fun v q=>by rw [d] at q; cases q⟩
  keep:=fun i h h' ⟨o,e,r⟩ k=>⟨o,k it (by simp) o e,r⟩
  item:=by
    intro X hP hw hK hc i pins s σ H E I hf st hg
    subst hP hw hK
    have hlt:i < z.cps.size:=hg
    have hi:z.cps[i]? = some z.cps[i]:=Array.getElem?_eq_getElem hlt
    obtain ⟨f0,f1,f2,f3,f4,f5⟩:=hf it (by simp)
    refine wpAny_pyNext_ascii_item st hi fun h' st' sb=>?_
    have I1:Inv X pins σ H { s with heap:=h',toks:=s.toks + 1 }:=I.turned (t':=s.toks + 1) (fun b o hb e=>(sb.2 b hb).trans e) f0 f1 f3 f4 f5
    obtain ⟨o,e,c,d⟩:=id st'
    exact ⟨_,rfl,go_of (s:={ s with heap:=h',toks:=s.toks + 1 }) e c d (by decide) ⟨.str ⟨#[z.cps[i]]⟩,H,I1,⟨_,rfl⟩,⟨rfl,_,hi,rfl⟩,st',fun b hb=>(hf b hb).1⟩⟩
  done:=by
    intro X hP hw hK hc i pins s σ H E I hf st hg
    subst hP hw hK
    obtain ⟨f0,f1,f2,f3,f4,f5⟩:=hf it (by simp)
    exact wpAny_pyNext_ascii_end (I.ok.hd hc) st (by simpa using (show z.cps.size ≤ i from hg)) fun h' eb=>⟨rfl,I.turned (t':=s.toks) (fun b o hb e=>eb b o hb e) f0 f1 f3 f4 f5⟩
  self:=fun _ _ _ _ _ st h=>wpAny_pyIter_striter_ascii st h
theorem turn_wide {P:Program} {w:World} {K:PySem.W.Frag} {tg:Expr} (z:Str) (t:Tok) (it:Addr):Turn P w K tg (Its z) [it] it (fun i h=>h.IsStrIter it "str_iterator" z t i) where
  mem:=by simp
  obj:=fun i h st b hb=>by
    obtain ⟨o,e,c,d⟩:=st
    rw [show b = it by simpa using hb]
    exact ⟨o,e,fun v q=>by rw [d] at q; cases q⟩
  keep:=fun i h h' ⟨o,e,r⟩ k=>⟨o,k it (by simp) o e,r⟩
  item:=by
    intro X hP hw hK hc i pins s σ H E I hf st hg
    subst hP hw hK
    have hlt:i < z.cps.size:=hg
    have hi:z.cps[i]? = some z.cps[i]:=Array.getElem?_eq_getElem hlt
    obtain ⟨f0,f1,f2,f3,f4,f5⟩:=hf it (by simp)
    refine wpAny_pyNext_wide_item st hi fun h' st' sb=>?_
    have I1:Inv X pins σ H { s with heap:=h',toks:=s.toks + 1 }:=I.turned (t':=s.toks + 1) (fun b o hb e=>(sb.2 b hb).trans e) f0 f1 f3 f4 f5
    obtain ⟨o,e,c,d⟩:=id st'
    exact ⟨_,rfl,go_of (s:={ s with heap:=h',toks:=s.toks + 1 }) e c d (by decide) ⟨.str ⟨#[z.cps[i]]⟩,H,I1,⟨_,rfl⟩,⟨rfl,_,hi,rfl⟩,st',fun b hb=>(hf b hb).1⟩⟩
  done:=by
    intro X hP hw hK hc i pins s σ H E I hf st hg
    subst hP hw hK
    obtain ⟨f0,f1,f2,f3,f4,f5⟩:=hf it (by simp)
    exact wpAny_pyNext_wide_end (I.ok.hd hc) st (by simpa using (show z.cps.size ≤ i from hg)) fun h' eb=>⟨rfl,I.turned (t':=s.toks) (fun b o hb e=>eb b o hb e) f0 f1 f3 f4 f5⟩
  self:=fun _ _ _ _ _ st h=>wpAny_pyIter_striter_wide st h
section
variable {X:Cx} {tg:Expr}
def iStr (tl:TE):PySem.W.Frag→St→Hp→(It→Hp→Prop)→Prop:=fun _ σ H R=>tl σ H fun x H1=>∃ z,x = .str z∧R (Its z) H1
theorem pi_str {l:Expr} {tl:TE} (hl:PE X l tl):PI X tg l (iStr tl X.K):=by
  intro pins s σ H R I h
  refine thn (hl pins s σ H _ I h) fun v s1 ⟨x,H1,I1,r1,q1⟩=>?_
  obtain ⟨z,e,q⟩:=q1
  subst e
  obtain ⟨t,rfl⟩:=r1
  have fpo:∀ b ∈ [s1.heap.objs.size],FpOk X pins H1 b:=fun b hb=>by
    rw [show b = s1.heap.objs.size by simpa using hb]
    exact I1.fpOk (Nat.le_refl _) (I1.hok.fresh (Nat.le_refl _))
  cases ha:z.cps.all (· < 128) with
  | true=>exact wpAny_pyIter_ascii ha ⟨s1.heap.objs.size,[s1.heap.objs.size],_,_,H1,rfl,I1.kept (t':=s1.toks) fun b o e=>Heap.get?_push_of_some _ e,turn_ascii z t _,⟨_,Heap.get?_push_size _ rfl,rfl,rfl⟩,fpo,q⟩
  | false=>exact wpAny_pyIter_wide ha ⟨s1.heap.objs.size,[s1.heap.objs.size],_,_,H1,rfl,I1.kept (t':=s1.toks) fun b o e=>Heap.get?_push_of_some _ e,turn_wide z t _,⟨_,Heap.get?_push_size _ rfl,rfl,rfl⟩,fpo,q⟩
end
theorem for_str {z:Str} {g:TG} {tb:TS} {D:Ends} {σ:St} {H:Hp} (Pv:Nat→St→Hp→Prop) (h0:Pv 0 σ H)
    (hs:∀ i c σ H,z.cps.toList[i]? = some c→Pv i σ H→g (.str ⟨#[c]⟩) σ H fun σ2 H2=>tb { D with nx:=Pv (i + 1),ct:=Pv (i + 1),bk:=D.nx } σ2 H2) (hd:∀ σ H,Pv z.cps.size σ H→D.nx σ H) :
    ∃ W:Nat→Nat→St→Hp→Prop,(∃ m,W 0 m σ H)∧∀ i m σ H,W i m σ H →
      ((Its z).stop i H∧D.nx σ H)∨((Its z).go i H∧∃ N:St→Hp→Prop,(∀ σ' H',N σ' H'→∃ m',m' < m∧W (i + 1) m' σ' H')∧∀ x H',(Its z).yld i H x H'→g x σ H' fun σ2 H2=>tb { D with nx:=N,ct:=N,bk:=D.nx } σ2 H2):=by
  refine ⟨fun i m σ H=>m = z.cps.size - i∧i ≤ z.cps.size∧Pv i σ H,⟨_,rfl,Nat.zero_le _,h0⟩,?_⟩
  rintro i m σ H ⟨rfl,hi,p⟩
  by_cases hlt:i < z.cps.size
  · refine .inr ⟨hlt,Pv (i + 1),fun σ' H' p'=>⟨z.cps.size - (i + 1),by omega,rfl,hlt,p'⟩,fun x H' y=>?_⟩
    obtain ⟨e,c,y1,y2⟩:=y
    subst e; subst y2
    exact hs i c σ _ (by simpa using y1) p
  · have e:i = z.cps.size:=by omega
    subst e
    exact .inl ⟨Nat.le_refl _,hd σ H p⟩
theorem strs_are:∀ {ys:List Str} {us:List Value},Vals (ys.map V.str) us→StrsAre us ys
  | [],_,.nil=>.nil
  | y :: ys,_,.cons r t=>by
    obtain ⟨t0,rfl⟩:=r
    exact .cons y t0 (strs_are t)
section
variable {X:Cx}
def rJoin (K:PySem.W.Frag):V→List V→Hp→VK→Prop:=fun x vs H Q=>∃ (z:Str) (a:Addr) (ys:List Str),x = .str z∧vs = [.ref a]∧SqL K H a (ys.map V.str)∧z.length ≤ 64∧(ys.map (·.length)).sum + ys.length * 64 ≤ 16777216∧Q (.str (Txt.join z ys)) H
theorem mt_join:MtM X "str.join" (rJoin X.K):=by
  intro pins s σ H x vs v us Q I rx rv h
  obtain ⟨z,a,ys,rfl,rfl,hq,h1,h2,q⟩:=h
  obtain ⟨t,rfl⟩:=rx
  obtain ⟨u,rfl,ru⟩:=rv.one
  cases (show u = Value.ref a from ru)
  obtain ⟨its,r,pl,hz⟩:=I.list hq
  exact join_listC pl.isList (by simpa using strs_are r) h1 h2 fun t' k=>⟨.str (Txt.join z ys),H,I.tok k,⟨_,rfl⟩,q⟩
theorem pe_gl {x:Str} {v:V} {pos:Pos} (hg:Gl X x) (h:∃ u,X.mg x = some u∧RelV v u) (hd:(x == ("__debug__" : Str)) = false:=by decide):PE X (.Name x pos) (tC v) :=
  let ⟨_,m,r⟩:=h
  pe_glob hg m r hd
end
def sg (g:Str) (c:Nat):Bool:=!(Builtin.Str.occurrences g ⟨#[c]⟩ 0 g.length 1).isEmpty
def allIn (z g:Str):Bool:=z.cps.toList.all (sg g)
end L2
namespace L2
open PySem PySem.Spec PyProof.Rows PySem.NumText
section
variable {X:Cx}
def rSlS:V→Option Int→Option Int→Hp→VK→Prop:=fun x lo hi H Q=>∃ z,x = .str z∧z.length ≤ sizeLine∧Q (.str (Txt.slice z lo hi)) H
def rStarts:V→List V→Hp→VK→Prop:=fun x vs H Q=>∃ z y:Str,x = .str z∧vs = [.str y]∧Q (.bl (Txt.startswith z y)) H
end
structure Figs (cs:List Nat):Prop where
  all:AllDigits cs
  one:cs.length = 1∨∃ c r,cs = c :: r∧49 ≤ c
def numCs (n:Int) (cs:List Nat):List Nat:=if n < 0 then 45 :: cs else cs
end L2
namespace L2
open PySem PySem.Spec PyProof.Rows PySem.W
end L2
namespace L2
open PySem PySem.Spec PyProof.Rows
def ExcT (h:Heap) (e T:Addr) (cls a0:Value):Prop :=
  ∃ oe vs oT ts,h.get? e = some oe∧(oe.cls = cls∧vs[0]? = some a0)∧oe.data = .fields vs∧vs[1]? = some (.ref T)∧T ≠ e∧h.get? T = some oT∧oT.data = .fields ts∧ts[3]? = some .none
structure Stp (F X:List Addr) (h h' : Heap):Prop where
  keep:∀ b o,b ∉ F→b ∉ X→h.get? b = some o→h'.get? b = some o
  slot:∀ b o,b ∈ F→h.get? b = some o→∃ sl,h'.get? b = some { o with slots:=sl }
section
variable {M:Model} {A:Around} {E:Value→Shared→Prop} {s:Shared} {base:Heap} {env:Env} {outer:List Env} {L e T:Addr} {oe:Obj} {vs:Array Value} {a0 cls:Value} {Q:Unit→Shared→Prop}
theorem hid_frames {base h:Heap} {l:List Env} (xs:List Addr) (ff:h.FunFrames base l):h.FunFrames (PySem.W.hideAll h (xs ++ frs l)) l :=
  PySem.W.funFrames_hide ff fun v hv a ha=>List.mem_append_right _ (List.mem_filterMap.mpr ⟨v,hv,ha⟩)
theorem new_head {base h h' : Heap} {l:List Env} {xs:List Addr} (ff:h.FunFrames base l) (hT:(PySem.W.hideAll h (xs ++ frs l)).get? T = none) (sl:∀ b o,b ∈ frs l→h.get? b = some o→∃ sl,h'.get? b = some { o with slots:=sl })
    {oT:Obj} {ts:Array Value} (h1:h'.get? T = some oT) (h2:oT.data = .fields ts):h.get? T = none∨T ∈ xs:=by
  cases q:h.get? T with
  | none=>exact .inl rfl
  | some o =>
    by_cases hx:T ∈ xs
    · exact .inr hx
    · by_cases hF:T ∈ frs l
      · obtain ⟨_,o2,q2,nf⟩:=ff.mem hF
        obtain ⟨sl',q3⟩:=sl T o2 hF q2
        rw [h1] at q3
        have q4:=Option.some.inj q3
        exact absurd (by rw [q4] at h2; exact h2) (nf ts)
      · have z:=PySem.W.hideAll_get (xs ++ frs l) q (by simp [hx,hF])
        rw [hT] at z; cases z
theorem land {E2:Value→Shared→Prop} (hf:A.frames = some (env :: outer)) (ff:s.heap.FunFrames base (env :: outer)) (hL:env.frame = some L) (x:ExcT s.heap e T cls a0)
    (h:∀ h' T',Stp (frs (env :: outer)) [e,T] s.heap h'→ExcT h' e T' cls a0→(s.heap.get? T' = none∨T' = T)→Q () { s with heap:=h' }):wpAny M A (noteFrame (.ref e) env) (fun _ s2=>wpAny M A (setFlight (.ref e) none) Q E s2) E2 s:=by
  obtain ⟨oe,vs,oT,ts,x1,x2,x3,x4,x5,x6,x7,x8⟩:=x
  refine wpAny_noteFrame_onW (base:=PySem.W.hideAll s.heap ([e,T] ++ frs (env :: outer))) hf (hid_frames _ ff) hL ⟨oe,vs,T,oT,ts,x1,x2,x3,x4,PySem.W.hideAll_none _ (by simp),x5,x6,x7,x8⟩ (fun b o q=>PySem.W.of_hideAll _ q) (PySem.W.hideAll_none _ (by simp)) fun h1 lw=>?_
  obtain ⟨st1,ff1,tr1,up1⟩:=lw
  refine wpAny_setFlight_noneW (s:={ s with heap:=h1 }) st1 ff1 tr1 fun h' st ff2 tr up=>?_
  obtain ⟨oe',vs',T',oT',ts',t1,t2,t3,t4,t5,t6,t7,t8,t9⟩:=tr
  have hslot:∀ b o,b ∈ frs (env :: outer)→s.heap.get? b = some o→∃ sl,h'.get? b = some { o with slots:=sl }:=fun b o hb q=>by
    obtain ⟨_,o2,q2,nf⟩:=ff.mem hb
    rw [q] at q2; cases q2
    obtain ⟨sl,q3⟩:=up1 b o q nf
    exact ⟨sl,up b _ q3 nf⟩
  refine h h' T' ⟨fun b o hb hx q=>st b o (PySem.W.hideAll_get _ q (by simp only [List.mem_append]; exact fun z=>z.elim hx hb)),hslot⟩ ⟨oe',vs',oT',ts',t1,t2,t3,t4,t6,t7,t8,t9⟩ ?_
  rcases new_head ff t5 hslot t7 t8 with z | z
  · exact .inl z
  · rcases List.mem_cons.mp z with z | z
    · exact absurd z t6
    · exact .inr (by simpa using z)
theorem flight {l:List Env} (ff:s.heap.FunFrames base l) (x:ExcT s.heap e T cls a0)
    (h:∀ h' T',Stp (frs l) [e,T] s.heap h'→ExcT h' e T' cls a0→(s.heap.get? T' = none∨T' = T)→Q () { s with heap:=h' }):wpAny M A (setFlight (.ref e) none) Q E s:=by
  obtain ⟨oe,vs,oT,ts,x1,x2,x3,x4,x5,x6,x7,x8⟩:=x
  refine wpAny_setFlight_noneW (base:=PySem.W.hideAll s.heap ([e,T] ++ frs l)) (fun b o q=>PySem.W.of_hideAll _ q) (hid_frames _ ff) ⟨oe,vs,T,oT,ts,x1,x2,x3,x4,PySem.W.hideAll_none _ (by simp),x5,x6,x7,x8⟩ fun h' st ff2 tr up=>?_
  obtain ⟨oe',vs',T',oT',ts',t1,t2,t3,t4,t5,t6,t7,t8,t9⟩:=tr
  have hslot:∀ b o,b ∈ frs l→s.heap.get? b = some o→∃ sl,h'.get? b = some { o with slots:=sl }:=fun b o hb q=>by
    obtain ⟨_,o2,q2,nf⟩:=ff.mem hb
    rw [q] at q2; cases q2
    exact ⟨o.slots,up b _ q nf⟩
  refine h h' T' ⟨fun b o hb hx q=>st b o (PySem.W.hideAll_get _ q (by simp only [List.mem_append]; exact fun z=>z.elim hx hb)),hslot⟩ ⟨oe',vs',oT',ts',t1,t2,t3,t4,t6,t7,t8,t9⟩ ?_
  rcases new_head ff t5 hslot t7 t8 with z | z
  · exact .inl z
  · rcases List.mem_cons.mp z with z | z
    · exact absurd z t6
    · exact .inr (by simpa using z)
end
end L2
namespace L2
open PySem PySem.Spec PyProof.Rows
section
variable {P:Program} {w:World} {H H' : Hp} {h h' : Heap} {a:Addr} {o:HO} {F Y fs:List Addr}
theorem ObjOk.there (x:ObjOk P w H h a o):∃ ob,h.get? a = some ob:=by
  cases o with
  | lst xs=>obtain ⟨_,_,_,_,e⟩:=x; exact ⟨_,e⟩
  | tup xs=>obtain ⟨_,_,_,ob,e,_⟩:=x; exact ⟨_,e⟩
  | dK kvs=>obtain ⟨_,_,_,_,o,_,_,e,_⟩:=x; exact ⟨_,e⟩
  | dT kvs=>obtain ⟨_,_,_,_,o,_,_,e,_⟩:=x; exact ⟨_,e⟩
  | set S n=>obtain ⟨o,_,_,_,e,_⟩:=x; exact ⟨_,e⟩
  | ins C dx fs=>obtain ⟨_,_,_,e,_⟩:=x; exact ⟨_,e⟩
  | own y=>obtain ⟨_,e⟩:=x; exact ⟨_,e⟩
  | xd fs=>obtain ⟨_,⟨_,_,_,e,_⟩,_⟩:=x; exact ⟨_,e⟩
  | rng lo hi=>obtain ⟨_,_,_,e⟩:=x; exact ⟨_,e⟩
  | frz ob u=>obtain ⟨e,_⟩:=x; exact ⟨_,e⟩
  | tbl ps=>exact ⟨_,(show h.get? a = some _ from x)⟩
  | met f y=>exact ⟨_,(show h.get? a = some _ from x)⟩
  | ext φ=>obtain ⟨_,⟨_,e⟩,_⟩:=x; exact ⟨_,e⟩
theorem HOk.none_of (x:HOk P w H h) (e:h.get? a = none):H a = none:=by
  cases q:H a with
  | none=>rfl
  | some u =>
    obtain ⟨ob,z⟩:=(x a u q).there
    rw [e] at z; cases z
theorem HOk.stp (x:HOk P w H h) (st:Stp F Y h h') (hF:∀ b ∈ F,H b = none) (hY:∀ b ∈ Y,H b = none):HOk P w H h':=fun a o e =>
  (x a o e).stay (fun b u hb q=>by
    have hn:H b ≠ none:=by
      rcases hb with rfl | hb
      · rw [e]; simp
      · rw [hb]; simp
    exact st.keep b u (fun z=>hn (hF b z)) (fun z=>hn (hY b z)) q) (fun _ q=>q) fun _ _ q=>q
theorem Un.stp {H0:Hp} {h0:Heap} (u:Un fs [] H0 H h0 h) (st:Stp F Y h h') (h1:∀ b o,h0.get? b = some o→b ∈ F→b ∈ fs) (h2:∀ b ∈ fs,b ∈ F) (hY:∀ b ∈ Y,h0.get? b = none):Un fs [] H0 H h0 h':=by
  have nY:∀ b o,h0.get? b = some o→b ∉ Y:=fun b o q z=>by rw [hY b z] at q; cases q
  refine ⟨fun b o q n hb hx=>st.keep b o (fun z=>hb (h1 b o q z)) (nY b o q) (u.keep b o q n hb hx),fun b o q n hb hx=>?_,u.free,fun b o q hx=>?_,u.tups,u.frzs,u.tbls⟩
  · obtain ⟨sl,q1⟩:=u.slot b o q n hb hx
    obtain ⟨sl2,q2⟩:=st.slot b _ (h2 b hb) q1
    exact ⟨sl2,q2⟩
  · obtain ⟨o1,q1⟩:=u.there b o q hx
    by_cases hF:b ∈ F
    · obtain ⟨sl2,q2⟩:=st.slot b _ hF q1
      exact ⟨_,q2⟩
    · exact ⟨_,st.keep b o1 hF (nY b o q) q1⟩
end
def CX1 (P:Program) (w:World):CXT:=fun outer H s E ev s'=>∃ (e T C:Addr) (a0:Value) (H' : Hp),ev = .ref e∧s'.os = s.os∧AllBare s'.gens∧Un (frs outer) [] H H' s.heap s'.heap∧HOk P w H' s'.heap ∧
  ExcT s'.heap e T (.ref C) a0∧s.heap.get? e = none∧s.heap.get? T = none∧H' e = none∧H' T = none∧E (.ref C) none H'
structure NewAt (X:Cx) (pins:List (Addr × Obj)) (H:Hp) (b:Addr):Prop where
  ent:X.s₀.heap.get? b = none
  unt:H b = none
  loc:b ≠ X.env.locals
  cel:∀ x c,X.env.cells.lookup x = some c→c ≠ b
  pin:∀ p ∈ X.pn ++ pins,p.1 ≠ b
section
variable {X:Cx} {pins:List (Addr × Obj)} {σ:St} {H:Hp} {s:Shared} {h' : Heap} {e T:Addr}
theorem Inv.newAt (I:Inv X pins σ H s) (hx:X.ex = []) {b:Addr} (hb:s.heap.get? b = none):NewAt X pins H b:=by
  refine ⟨?_,I.hok.none_of hb,?_,?_,?_⟩
  · cases q:X.s₀.heap.get? b with
    | none=>rfl
    | some o =>
      obtain ⟨o',q'⟩:=I.base.there b o q (by rw [hx]; simp)
      rw [hb] at q'; cases q'
  · rintro rfl
    obtain ⟨m,⟨o,_,_,q,_⟩,_⟩:=I.loc
    rw [hb] at q; cases q
  · rintro x c hc rfl
    obtain ⟨v,o,q,_⟩:=I.cell x c hc
    rw [hb] at q; cases q
  · rintro p hp rfl
    obtain ⟨q,_⟩:=I.pin p hp
    rw [hb] at q; cases q
theorem Inv.excStep (I:Inv X pins σ H s) (hx:X.ex = []) (st:Stp (frs X.stack) [e,T] s.heap h') (ne:NewAt X pins H e) (nT:NewAt X pins H T):Inv X pins σ H { s with heap:=h' }:=by
  have nY:∀ b ∈ [e,T],NewAt X pins H b:=fun b hb=>by
    rcases List.mem_cons.mp hb with rfl | hb
    · exact ne
    · rw [show b = T by simpa using hb]; exact nT
  have hsub:∀ b,b ≠ X.env.locals→b ∉ X.fs→b ∉ frs X.stack:=fun b h1 h2 z=>(List.mem_cons.mp (I.stkSub b z)).elim h1 h2
  have entY:∀ b o,X.s₀.heap.get? b = some o→b ∉ [e,T]:=fun b o q z=>by rw [(nY b z).ent] at q; cases q
  have neL:∀ b o,X.s₀.heap.get? b = some o→b ≠ X.env.locals:=fun b o q=>Nat.ne_of_lt (Nat.lt_of_lt_of_le (Heap.lt_size q) I.ok.above)
  have any:∀ b o,b ∉ [e,T]→s.heap.get? b = some o→∃ sl,h'.get? b = some { o with slots:=sl }:=fun b o hy q=>by
    by_cases hF:b ∈ frs X.stack
    · exact st.slot b o hF q
    · exact ⟨o.slots,st.keep b o hF hy q⟩
  have cellK:∀ x c,X.env.cells.lookup x = some c→∀ v,s.heap.IsCell c v→h'.IsCell c v:=fun x c ec v ⟨o,ho,hd⟩=>by
    obtain ⟨sl,q⟩:=any c o (fun z=>(nY c z).cel x c ec rfl) ho
    exact ⟨_,q,hd⟩
  refine ⟨I.ok,I.os,I.bare,⟨fun b o q n hb hxx=>?_,fun b o q n hb hxx=>?_,I.base.free,fun b o q hxx=>?_,I.base.tups,I.base.frzs,I.base.tbls⟩,?_,fun x c ec=>?_,I.free,I.freeC,fun p hp=>?_,I.hok.stp st I.stkFree (fun b hb=>(nY b hb).unt),I.len⟩
  · exact st.keep b o (hsub b (neL b o q) hb) (entY b o q) (I.base.keep b o q n hb hxx)
  · obtain ⟨sl,q1⟩:=I.base.slot b o q n hb hxx
    obtain ⟨sl2,q2⟩:=any b _ (entY b o q) q1
    exact ⟨sl2,q2⟩
  · obtain ⟨o1,q1⟩:=I.base.there b o q hxx
    obtain ⟨sl2,q2⟩:=any b _ (entY b o q) q1
    exact ⟨_,q2⟩
  · obtain ⟨m,⟨oL,es,ep,hoL,r⟩,hl⟩:=I.loc
    obtain ⟨sl,q⟩:=any X.env.locals oL (fun z=>(nY _ z).loc rfl) hoL
    refine ⟨m,⟨_,es,ep,q,r⟩,fun i x v e1 e2 e3=>?_⟩
    obtain ⟨u,ru,l⟩:=hl i x v e1 e2 e3
    refine ⟨u,ru,?_⟩
    rcases l with l | ⟨k,c,ec,z⟩
    · exact .inl l
    · exact .inr ⟨k,c,ec,cellK x c ec _ z⟩
  · obtain ⟨v,z⟩:=I.cell x c ec
    exact ⟨v,cellK x c ec v z⟩
  · obtain ⟨q,n,nL,nf,d⟩:=I.pin p hp
    exact ⟨st.keep p.1 p.2 (hsub p.1 nL nf) (fun z=>(nY _ z).pin p hp rfl) q,n,nL,nf,d⟩
end
structure ExcCls (K:PySem.W.Frag) (C:Addr):Prop where
  ex:∃ (bmB bmN:List Value) (newId B Bn nid initId inN:String),PySem.W.excIn K C bmB newId = true∧ExcBaseFacts Bn newId inN bmN∧bmB.contains (Value.type Bn) = true∧ExcBaseFacts B nid initId bmB
theorem ExcCls.value {K:PySem.W.Frag} {C:Addr} (h:PySem.W.excIn K C [.type "ValueError",.type "Exception",.type "BaseException",.type "object"] "ValueError.__new__" = true):ExcCls K C :=
  ⟨_,_,_,_,_,_,_,_,h,PySem.F.excBase_ValueError,by decide,PySem.F.excBase_ValueError⟩
theorem ExcCls.obj {K:PySem.W.Frag} {C:Addr} {h:Heap} {bmB:List Value} {newId:String} (KI:K.In h) (e:PySem.W.excIn K C bmB newId = true):∃ bm N nm q bs hdct sn sub ab col dd k0 k1 k2 k3 k5 mN,
      h.get? C = some (excClassObj nm q C N bs bm hdct sn sub ab col dd k0 k1 k2 k3 k5 newId)∧h.Ns N mN∧mN "__init__" = none∧OwnTail h bmB bm:=by
  unfold PySem.W.excIn at e
  split at e
  · rename_i dd cd sl lk
    split at e
    · rename_i C' bm k0 k1 k2 k3 n k5 em es
      simp only [Bool.and_eq_true,beq_iff_eq,Bool.not_eq_true'] at e
      obtain ⟨⟨⟨⟨⟨rfl,rfl⟩,hd⟩,ht⟩,hn⟩,hi⟩:=e
      obtain ⟨nm,bs,mro,ns,q,hdct,sn,sub,ab,col,hdel⟩:=cd
      dsimp only at em hd ht hn hi
      subst em hd
      have hsl:sl = #[k0,k1,k2,k3,some (Value.builtin n),k5]:=by
        apply Array.toList_inj.mp
        rw [es]
      subst hsl
      exact ⟨bm,ns,nm,q,bs,hdct,sn,sub,ab,col,dd,k0,k1,k2,k3,k5,_,KI _ _ lk,Heap.Ns.of_isNs (PySem.W.isNs_of_in KI hn),PySem.W.nsMap_none_of_in KI hn hi,PySem.W.tail_of_in KI ht⟩
    · cases e
  · cases e
section
variable {P:Program} {w:World} {K:PySem.W.Frag} {mg:Str→Option Value} {base:Heap} {N:List Str} {qual:Str} {scope:Scope} {f:Addr} {cd:Value} {A:Around} {outer:List Env} {s0:Shared} {H0:Hp} {E:XK}
def tRaise (C:Addr) (E:XK) (t:TA):TS:=fun _ σ H=>t σ H fun vs H1=>vs.length ≤ sizeLine∧E (.ref C) none H1
end
end L2
namespace L2
open PySem PySem.Spec PyProof.Rows
def XP (X:Cx) (pins:List (Addr × Obj)) (σ:St) (EX:Addr→Hp→Prop) (ev:Value) (s' : Shared):Prop :=
  ∃ (e T C:Addr) (a0:Value) (H' : Hp),ev = .ref e∧Inv X pins σ H' s'∧ExcT s'.heap e T (.ref C) a0∧NewAt X pins H' e∧NewAt X pins H' T∧EX C H'
abbrev TX:=St→Hp→VK→(Addr→Hp→Prop)→Prop
def PEX (X:Cx) (e:Expr) (t:TX):Prop :=
  ∀ (pins:List (Addr × Obj)) (s:Shared) (σ:St) (H:Hp) (Q:VK) (EX:Addr→Hp→Prop),Inv X pins σ H s→t σ H Q EX→wpAny (model X.prog X.w) X.A (eval e X.env) (EP X pins σ Q) (XP X pins σ EX) s
def CalleeX (P:Program) (w:World) (K:PySem.W.Frag) (mg:Str→Option Value) (base:Heap) (k:Nat) (x:Str) (ps:List Str) (sp:Sp):Prop :=
  ∃ f fd,FnOk P w K mg base (CX1 P w) k f fd ps sp∧Binds K fd ps []∧PySem.W.keepIn K (.ref f) = true∧mg x = some (.ref f)
theorem CalleeX.mono {P:Program} {w:World} {K:PySem.W.Frag} {mg:Str→Option Value} {base:Heap} {j k:Nat} {x:Str} {ps:List Str} {sp:Sp} (C:CalleeX P w K mg base j x ps sp) (h:j ≤ k):CalleeX P w K mg base k x ps sp :=
  let ⟨f,fd,F,r⟩:=C
  ⟨f,fd,F.mono h,r⟩
section
variable {X:Cx} {pins:List (Addr × Obj)} {σ:St} {H:Hp} {s s' : Shared}
theorem Inv.afterX {E:XK} {EX:Addr→Hp→Prop} {ev:Value} (I:Inv X pins σ H s) (hx:X.ex = []) (hE:∀ C H',E (.ref C) none H'→EX C H') (h:CX1 X.prog X.w X.stack H s E ev s'):XP X pins σ EX ev s':=by
  obtain ⟨e,T,C,a0,H',rfl,os,bare,un,hok,x,ne,nT,he,hT,q⟩:=h
  have I' : Inv X pins σ H' s':=I.call' (ch:=[]) os un hok bare fun b z=>absurd z (by simp)
  have a:=I.newAt hx ne
  have b:=I.newAt hx nT
  exact ⟨e,T,C,a0,H',rfl,I',x,⟨a.ent,he,a.loc,a.cel,a.pin⟩,⟨b.ent,hT,b.loc,b.cel,b.pin⟩,hE _ _ q⟩
end
section
variable {X:Cx} {k:Nat} {x:Str} {ps:List Str} {sp:Sp} {e:Expr} {es:List Expr} {t:TA} {p pos:Pos}
def tFnX (sp:Sp) (t:TA):TX:=fun σ H Q EX=>t σ H fun vs H1=>sp vs H1 Q fun cv _ H2=>∃ C,cv = .ref C∧EX C H2
theorem pex_fn (C:CalleeX X.prog X.w X.K X.mg X.base k x ps sp) (hr:Room k X.A) (hx:X.ex = []) (hg:Gl X x) (ha:PA X.nox (e :: es) t) (hdb:(x == ("__debug__" : Str)) = false:=by decide)
    (he:starEach (e :: es) X.env = (false,eval e X.env) :: starEach es X.env:=by rfl) (hpl:(backTo pos (starEach es X.env)).any (·.1) = false:=by rfl):PEX X (.Call (.Name x p) (e :: es) [] pos) (tFnX sp t):=by
  obtain ⟨f,fd,F,b,kk,m⟩:=C
  intro pins s σ H Q EX I h
  refine wpAny_Call_Name_kw (ld_glob I hg m ?_ hdb)
  refine PySem.W.callWith_K (h₀:=X.base) I.ok.mod.kin kk (wpAny_mono (ha pos pins s σ H _ (I.wish _) h) (fun us s1 ⟨vs,H1,I1,r,q⟩=>⟨I1.kIn,?_⟩) fun _ _ z=>False.elim z) he hpl
  have J:Inv X pins σ H1 s1:=I1.unwish
  have hl:us.length = ps.length:=by rw [← r.length]; exact F.len _ _ _ _ q
  have bt:BindsTo s1 fd ⟨us,[]⟩ (ps.zip us):=by
    have z:=b s1 us J.kIn (by rw [List.append_nil]; exact hl)
    rw [List.append_nil] at z
    exact z
  refine wpAny_call (codeAny_mono (F.run X.A X.stack s1 H1 ⟨us,[]⟩ us vs Q _ hr J.env0 bt r q) fun r s' hq=>?_)
  cases r with
  | error ev=>exact J.afterX (E:=fun cv _ H2=>∃ C,cv = .ref C∧EX C H2) hx (fun C H' z=>by obtain ⟨C',e1,z⟩:=z; cases e1; exact z) hq
  | ok fl =>
    cases fl with
    | ret u=>exact J.after hq
    | next=>exact False.elim hq
    | brk=>exact False.elim hq
    | cont=>exact False.elim hq
abbrev TSX:=Ends→St→Hp→(Addr→Hp→Prop)→Prop
def PSX (X:Cx) (st:Stmt) (t:TSX):Prop :=
  ∀ (pins:List (Addr × Obj)) (s:Shared) (σ:St) (H:Hp) (D:Ends) (EX:Addr→Hp→Prop),Inv X pins σ H s→t D σ H EX→wpAny (model X.prog X.w) X.A (exec st X.env) (SP X pins D) (XP X pins σ EX) s
def tSetX (i:Nat) (te:TX):TSX:=fun D σ H EX=>te σ H (fun v H1=>D.nx (σ.set i (some v)) H1) EX
def tDropX (te:TX):TSX:=fun D σ H EX=>te σ H (fun _ H1=>D.nx σ H1) EX
theorem psx_expr {e:Expr} {te:TX} (he:PEX X e te) (hs:swapsWith e none pos.line X.env = pure false:=by rfl):PSX X (.Expr e pos) (tDropX te):=by
  intro pins s σ H D EX I h
  exact wpAny_Expr_any (thn (he pins s σ H _ EX I h) fun v s1 ⟨x,H1,I1,r1,q1⟩=>⟨σ,H1,I1,q1⟩) I.quiet hs
end
def sfx (X:Cx) (e:Addr) (oe:Obj):Cx:={ X with A:=X.A.mark (some (.ref e)),calm:=false,pn:=(e,oe) :: X.pn,xe:=fun _ _=>False }
section
variable {X:Cx} {pins:List (Addr × Obj)} {σ:St} {H:Hp} {s s' : Shared} {e:Addr} {oe:Obj}
theorem Inv.suite (I:Inv X pins σ H s) (he:s.heap.get? e = some oe) (hn:NewAt X pins H e) (hd:∀ v,oe.data ≠ .cell v) (hf:e ∉ X.fs):Inv (sfx X e oe) pins σ H s:=by
  refine ⟨⟨I.ok.mod,I.ok.kind,I.ok.glob,I.ok.blt,I.ok.above,I.ok.inj,I.ok.has,I.ok.cab,fun z=>absurd z Bool.false_ne_true,I.ok.frames,I.ok.stk,I.ok.exf,I.ok.bs,I.ok.bsz,I.ok.noex,I.ok.exfs,I.ok.funs,I.ok.frf⟩,I.os,I.bare,I.base,I.loc,I.cell,I.free,I.freeC,fun p hp=>?_,I.hok,I.len⟩
  rcases List.mem_cons.mp (show p ∈ (e,oe) :: (X.pn ++ pins) from hp) with rfl | hp
  · exact ⟨he,hn.unt,hn.loc,hf,hd⟩
  · exact I.pin p hp
theorem Inv.unsuite (ok:X.Ok) (I:Inv (sfx X e oe) pins σ H s):Inv X pins σ H s :=
  ⟨ok,I.os,I.bare,I.base,I.loc,I.cell,I.free,I.freeC,fun p hp=>I.pin p (List.mem_cons_of_mem (e,oe) hp),I.hok,I.len⟩
theorem Inv.excObj (I:Inv (sfx X e oe) pins σ H s):s.heap.get? e = some oe:=(I.pin (e,oe) (List.mem_append_left _ List.mem_cons_self)).1
theorem Inv.unbound {i:Nat} {x:Str} {m:Str→Option Value} {u:Option Value} {h' : Heap} (I:Inv X pins σ H s) (hi:X.N[i]? = some x) (hN:X.N.Nodup) (hm:s.heap.Ns X.env.locals m) (ns:h'.Ns X.env.locals fun y=>if y = x then u else m y) (hs:Heap.SameBut X.env.locals s.heap h') :
    Inv X pins (σ.set i none) H { s with heap:=h' }:=by
  have cne:=I.cne
  obtain ⟨oL,_,_,hoL,_⟩:=id hm
  refine ⟨I.ok,I.os,I.bare,⟨fun b o e n hb hx=>?_,fun b o e n hb hx=>?_,I.base.free,fun b o e hx=>?_,I.base.tups,I.base.frzs,I.base.tbls⟩,⟨_,ns,fun j y v' e1 e2 e3=>?_⟩,fun y c e=>?_,I.free,I.freeC,fun p hp=>?_,?_,by simpa using I.len⟩
  · exact (hs.2 b (Nat.ne_of_lt (Nat.lt_of_lt_of_le (Heap.lt_size e) I.ok.above))).trans (I.base.keep b o e n hb hx)
  · obtain ⟨sl,e1⟩:=I.base.slot b o e n hb hx
    exact ⟨sl,(hs.2 b (Nat.ne_of_lt (Nat.lt_of_lt_of_le (Heap.lt_size e) I.ok.above))).trans e1⟩
  · obtain ⟨o',e1⟩:=I.base.there b o e hx
    exact ⟨o',(hs.2 b (Nat.ne_of_lt (Nat.lt_of_lt_of_le (Heap.lt_size e) I.ok.above))).trans e1⟩
  · by_cases hj:j = i
    · subst hj
      by_cases hlt:j < σ.length
      · rw [List.getElem?_set_self hlt] at e2; cases e2
      · rw [List.getElem?_eq_none (by simpa using hlt)] at e2; cases e2
    · rw [List.getElem?_set_ne (Ne.symm hj)] at e2
      obtain ⟨m2,hm2,hl⟩:=I.loc
      obtain ⟨u',r',q⟩:=hl j y v' e1 e2 e3
      have em:m2 = m:=by rw [hm2.eq_nsMap,hm.eq_nsMap]
      subst em
      refine ⟨u',r',?_⟩
      rcases q with ⟨k,e⟩ | ⟨k,c,e,z⟩
      · refine .inl ⟨k,?_⟩
        have:y ≠ x:=fun e=>hj (nodup_ix hN e1 (e ▸ hi))
        simp [this,e]
      · exact .inr ⟨k,c,e,z.sameBut hs (cne y c e)⟩
  · obtain ⟨w',z⟩:=I.cell y c e
    exact ⟨w',z.sameBut hs (cne y c e)⟩
  · obtain ⟨e,n,ne,nf,d⟩:=I.pin p hp
    exact ⟨(hs.2 p.1 ne).trans e,n,ne,nf,d⟩
  · intro b ob e
    refine (I.hok b ob e).stay (fun c w' hc q=>(hs.2 c ?_).trans q) (fun _ q=>q) fun _ _ q=>q
    rintro rfl
    rcases hc with rfl | hc
    · rw [I.free] at e; cases e
    · rw [I.free] at hc; cases hc
end
section
variable {X:Cx} {pins:List (Addr × Obj)} {σ:St} {H:Hp} {s:Shared}
theorem unbind_ok {M:Model} {A:Around} {E:Value→Shared→Prop} {i:Nat} {x:Str} {pos:Pos} {Q:Unit→Shared→Prop} (I:Inv X pins σ H s) (hN:X.N.Nodup) (hi:X.N[i]? = some x) (hk:X.env.scope.names.lookup x = some .local)
    (h:∀ s',Inv X pins (σ.set i none) H s'→Q () s'):wpAny M A (do bindName X.env x Value.none; unbindBehindTheSuite X.env x pos) Q E s:=by
  refine wpAny_bind (wpAny_bindName (store_ok I hN hi (.inl hk) (v:=.non) (u:=Value.none) rfl (fun s1 I1=>?_) (.inr hk)))
  refine wpAny_onRaise ?_
  obtain ⟨m,hm,hl⟩:=I1.loc
  have hiσ:i < σ.length:=by rw [I.len]; exact (List.getElem?_eq_some_iff.mp hi).1
  obtain ⟨u,ru,l⟩:=hl i x .non hi (by rw [List.getElem?_set_self hiσ]) (.inl hk)
  have hcls:(X.env.scope.kind == .class || (X.env.scope.kind == .module && X.env.locals != X.env.globals)) = false:=by rw [I.ok.kind]; rfl
  rcases l with ⟨k,em⟩ | ⟨k,_⟩
  · refine wpAny_unbindName_local hk hm em hcls fun h' v ns sb=>?_
    have J:=I1.unbound hi hN hm ns sb
    rw [List.set_set] at J
    exact h _ J
  · exfalso
    have hk' : X.env.kindOf x = some .local:=hk
    rcases k with k | k
    · rw [hk'] at k; cases k
    · rw [hk'] at k; cases k
end
def tTry (i:Nat) (B:Addr) (K:PySem.W.Frag) (G:Addr→Prop) (tb:TSX) (ts:Addr→Addr→TS):TS:=fun D σ H=>tb D σ H fun C H1=>PySem.W.exmOne K (.ref C) (.ref B) = some true∧G C ∧
  ∀ e,ts C e { nx:=fun σ' H'=>D.nx (σ'.set i none) H',rt:=D.rt,bk:=fun σ' H'=>D.bk (σ'.set i none) H',ct:=fun σ' H'=>D.ct (σ'.set i none) H' } (σ.set i (some (.ref e))) H1
section
variable {X:Cx} {st b₀:Stmt} {su:List Stmt} {tb:TSX} {ts:Addr→Addr→TS} {Tn n:Str} {B:Addr} {i:Nat} {np hpos pos:Pos}
theorem ps_try {G:Addr→Prop} (hb:PSX X st tb) (hx:X.ex = []) (hst:X.stack = X.env :: X.outer) (hfr:X.env.frame = some X.env.locals) (hg:Gl X Tn) (hm:X.mg Tn = some (.ref B)) (hN:X.N.Nodup) (hi:X.N[i]? = some n) (hk:X.env.scope.names.lookup n = some .local)
    (hs:∀ (C e:Addr) (oe:Obj),G C→oe.cls = .ref C→PSs (sfx X e oe) (b₀ :: su) (ts C e)) (hdb:(Tn == ("__debug__" : Str)) = false:=by decide) :
    PS X (.Try [st] [.ExceptHandler (some (.Name Tn np)) (some n) (b₀ :: su) hpos] [] [] pos) (tTry i B X.K G tb ts):=by
  intro pins s σ H D I h
  refine wpAny_Try_except ?_
  refine wpAny_execs_cons (wpAny_mono (hb pins s σ H D _ I h) (fun f s1 q=>?_) fun ev s1 q=>?_)
  · cases f with
    | next=>exact wpAny_execs_nil (wpAny_execs_nil q)
    | ret v=>exact q
    | brk=>exact q
    | cont=>exact q
  obtain ⟨e,T,C,a0,H1,rfl,I1,x,ne,nT,hex,hG,q⟩:=q
  have fr1:X.A.frames = some (X.env :: X.outer):=by rw [← hst]; exact I1.ok.frames
  have ff1:s1.heap.FunFrames X.base (X.env :: X.outer):=by rw [← hst]; exact I1.stack
  refine land fr1 ff1 hfr x fun h2 T2 st2 x2 hT2=>?_
  rw [← hst] at st2
  have I2:=I1.excStep hx st2 ne nT
  have nT2:NewAt X pins H1 T2:=by
    rcases hT2 with z | z
    · exact I1.newAt hx z
    · rw [z]; exact nT
  have notFs:∀ {b:Addr} {o:Obj} {vs:Array Value} {hh:Heap},hh.FunFrames X.base X.stack→hh.get? b = some o→o.data = .fields vs→b ∉ X.fs:=fun {b o vs hh} ff g d z=>by
    have z' : b ∈ frs X.stack:=by rw [hst]; unfold frs; rw [List.filterMap_cons,hfr]; exact List.mem_cons_of_mem _ z
    obtain ⟨_,o2,g2,nf⟩:=ff.mem z'
    rw [g] at g2; cases g2
    exact nf vs d
  have I2':=I2
  obtain ⟨oe,vs,oT,ts2,y1,⟨y2,y2'⟩,y3,y4,y5,y6,y7,y8⟩:=id x2
  have S2:Inv (sfx X e oe) pins σ H1 { s1 with heap:=h2 }:=I2.suite y1 ne (fun v z=>by rw [y3] at z; cases z) (notFs I2.stack y1 y3)
  refine wpAny_handleBy_cons ?_ (by intro z; cases z)
  refine codeAny_handlers_test (ld_glob (X:=sfx X e oe) S2 hg hm ?_ hdb)
  refine PySem.W.exm_one (h:=h2) S2.kIn (fun A' Q' E' s' k r=>by
    have z:=wpAny_typeOf_ref (M:=model X.prog X.w) (A:=A') (E:=E') (Q:=Q') (k _ _ y1)
    rw [y2] at z
    exact z r) hex _ _ _ _ (fun b o g=>g) ?_
  rw [if_pos rfl]
  refine codeAny_handlers_suite_as ?_
  refine flight (s:={ s1 with heap:=h2 }) (l:=X.stack) I2.stack x2 fun h3 T3 st3 x3 hT3=>?_
  have I3:=I2.excStep hx st3 ne nT2
  obtain ⟨oe3,vs3,oT3,ts3,z1,⟨z2,z2'⟩,z3,z4,z5,z6,z7,z8⟩:=id x3
  have S3:Inv (sfx X e oe3) pins σ H1 { s1 with heap:=h3 }:=I3.suite z1 ne (fun v z=>by rw [z3] at z; cases z) (notFs I3.stack z1 z3)
  refine store_ok (X:=sfx X e oe3) S3 hN hi (.inl hk) (v:=.ref e) (u:=.ref e) rfl (fun s4 S4=>?_) (.inr hk)
  refine wpAny_mono (hs C e oe3 hG z2 pins s4 _ H1 _ S4 (q e)) (fun fl s5 q5=>?_) fun _ _ z=>False.elim z
  cases fl with
  | next =>
    obtain ⟨σ5,H5,S5,q5⟩:=q5
    exact unbind_ok (S5.unsuite I.ok) hN hi hk fun s6 I6=>⟨_,H5,I6,q5⟩
  | brk =>
    obtain ⟨σ5,H5,S5,q5⟩:=q5
    exact unbind_ok (S5.unsuite I.ok) hN hi hk fun s6 I6=>⟨_,H5,I6,q5⟩
  | cont =>
    obtain ⟨σ5,H5,S5,q5⟩:=q5
    exact unbind_ok (S5.unsuite I.ok) hN hi hk fun s6 I6=>⟨_,H5,I6,q5⟩
  | ret u =>
    obtain ⟨v,σ5,H5,S5,r5,q5⟩:=q5
    exact unbind_ok (S5.unsuite I.ok) hN hi hk fun s6 I6=>⟨v,_,H5,I6,r5,q5⟩
end
end L2
namespace L2
open PySem PySem.Spec PyProof.Rows
structure ExcLook (K:PySem.W.Frag) (C:Addr):Prop where
  ga:PySem.W.findIn K (.ref C) "__getattribute__" = some (some (.builtin "BaseException.__getattribute__"))
  hk:PySem.W.findIn K (.ref C) "__getattr__" = some none
  cl:PySem.W.findIn K (.ref C) "__class__" = some (some (.builtin "object.__class__"))
  gt:PySem.W.specialIn K (.builtin "object.__class__") "__get__" = some (some (.builtin "getset_descriptor.__get__"))
  tk:PySem.W.takesIn K (.builtin "object.__class__") = some true
  ob:PySem.W.mroIn K C (.type "object") = some true
  be:PySem.W.mroIn K C (.type "BaseException") = some true
  me:PySem.W.kitCls K (.ref C) (.ref C) = some true
section
variable {prog:Program} {w:World} {A:Around} {E:Value→Shared→Prop} {s:Shared} {K:PySem.W.Frag} {e C:Addr} {oe:Obj}
theorem looks_type {hh:Heap} (g:hh.get? e = some oe) (c:oe.cls = .ref C) {M:Model} : PySem.W.Looks M hh (typeOf (.ref e)) (.ref C):=fun A' Q' E' s' k r=>by
  have z:=wpAny_typeOf_ref (M:=M) (A:=A') (E:=E') (Q:=Q') (k _ _ g)
  rw [c] at z
  exact z r
theorem exc_class_get {R:Result→Shared→Prop} {tp:Value} (KI:K.In s.heap) (g:s.heap.get? e = some oe) (c:oe.cls = .ref C) (hm:PySem.W.mroIn K C (.type "object") = some true) (h:R (.ok (.ret (.ref C))) s) :
    codeAny (model prog w) A (.call (.builtin "getset_descriptor.__get__") ⟨[.builtin "object.__class__",.ref e,tp],[]⟩) R s:=by
  have L0:∀ {M:Model},PySem.W.Looks M s.heap (typeOf (.ref e)) (.ref C):=looks_type g c
  have L1:∀ {M:Model},PySem.W.Looks M s.heap (isSubtype (.ref C) (.type "object")) true:=PySem.W.looks_mroIn KI hm
  refine codeAny_call_builtin PySem.W.KF.slot_gs.plain PySem.W.KF.entry_gs (PySem.W.KF.slot_gs.check _ _ _ _ _ _ _ _ PySem.W.KF.type_class (PySem.W.KF.args_gs _ _ tp) ?_)
  show wpAny _ _ (do let __x ← Builtin.Getset_descriptor.descrGetArgs ⟨[.builtin "object.__class__",.ref e,tp],[]⟩; match __x with | (d,obj,snd)=>Builtin.Getset_descriptor.descrGetter d obj) _ _ s
  rw [PySem.W.dga_obj]
  refine wpAny_bind (wpAny_pure ?_)
  show wpAny _ _ (do Builtin.Getset_descriptor.descrCheckInstance (.builtin "object.__class__") (.ref e); again (Code.builtin "object.__class__" ⟨[.ref e],[]⟩)) _ _ s
  have dn:Builtin.Getset_descriptor.descrNameAndClass (.builtin "object.__class__") = pure (Str.ofString "__class__",Value.type "object"):=by
    show pure (Str.ofString (Builtin.Getset_descriptor.descrOwnerAndName "object.__class__").2,Value.type (Builtin.Getset_descriptor.descrOwnerAndName "object.__class__").1) = _
    rw [PySem.W.KF.owner_class]
  unfold Builtin.Getset_descriptor.descrCheckInstance
  rw [dn]
  refine wpAny_bind (wpAny_bind (wpAny_pure ?_))
  refine wpAny_bind (wpAny_bind (L0 _ _ _ _ (fun _ _ q=>q) (L1 _ _ _ _ (fun _ _ q=>q) ?_)))
  refine wpAny_ite_false rfl (wpAny_pure ?_)
  refine wpAny_pure ⟨Code.quiet_builtin _ (by decide +kernel),codeAny_builtin PySem.W.KF.entry_class ?_⟩
  refine wpAny_bind (wpAny_bind (L0 _ _ _ _ (fun _ _ q=>q) ?_))
  refine wpAny_ite_false rfl (wpAny_pure (wpAny_pure h))
theorem exc_check {M:Model} {nameV:Value} {Q:Unit→Shared→Prop} (KI:K.In s.heap) (g:s.heap.get? e = some oe) (c:oe.cls = .ref C) (hm:PySem.W.mroIn K C (.type "BaseException") = some true) (h:Q () s) :
    wpAny M A (checkBuiltinCall "BaseException.__getattribute__" ⟨[.ref e,nameV],[]⟩) Q E s:=by
  have hk:builtinKind "BaseException.__getattribute__" = some .slot:=by decide +kernel
  have hsp:splitId "BaseException.__getattribute__" = some ("BaseException", "__getattribute__"):=by decide +kernel
  have ha:=PySem.F.args_bexc_ga (.ref e) nameV
  unfold checkBuiltinCall
  rw [hk,hsp]
  refine wpAny_bind (wpAny_bind (looks_type g c _ _ _ _ (fun _ _ q=>q) (PySem.W.looks_mroIn KI hm _ _ _ _ (fun _ _ q=>q) ?_)))
  refine wpAny_ite_false rfl ?_
  unfold argsOk at ha
  generalize Manifest.signature? "BaseException.__getattribute__" = sg at ha ⊢
  cases sg with
  | none=>exact wpAny_pure h
  | some sig=>exact wpAny_of_eq ha h
theorem exc_class {Q:Option Value→Shared→Prop} (KI:K.In s.heap) (X:ExcLook K C) (g:s.heap.get? e = some oe) (c:oe.cls = .ref C) (h:Q (some (.ref C)) { s with toks:=s.toks + 1 }):wpAny (model prog w) A (getAttr? (.ref e) "__class__") Q E s:=by
  have L0:∀ {M:Model},PySem.W.Looks M s.heap (typeOf (.ref e)) (.ref C):=looks_type g c
  refine wpAny_bind (wpAny_mkText (wpAny_bind (wpAny_attempt (wpAny_holding (wpAny_bind (L0 _ _ _ _ (fun _ _ q=>q) (wpAny_bind (PySem.W.looks_findIn KI X.ga _ _ _ _ (fun _ _ q=>q) ?_))))))))
  refine wpAny_ite_false rfl ?_
  refine wpAny_bind ?_
  show wpAny _ _ (if onTheHeap (.ref C) = true then typeLookup (.ref C) "__getattr__" else pure none) _ _ _
  refine wpAny_ite_true rfl (PySem.W.looks_findIn KI X.hk _ _ _ _ (fun _ _ q=>q) ?_)
  refine wpAny_bind (wpAny_attempt (wpAny_holding ?_))
  show wpAny _ _ (if (false && onTheHeap (.builtin "BaseException.__getattribute__")) = true then _ else boundAndCalled (.builtin "BaseException.__getattribute__") (.ref e) (Value.str (Str.ofString "__class__") s.toks)) _ _ _
  refine wpAny_ite_false rfl (wpAny_bind (wpAny_of_eq (PySem.F.attr_ValueError.ga.bind (.ref e)) (wpAny_call ?_)))
  refine codeAny_call_builtin PySem.F.attr_ValueError.ga.plain PySem.F.entry_bexc_ga (exc_check (s:={ s with toks:=s.toks + 1 }) KI g c X.be ?_)
  refine wpAny_bind (wpAny_of_eq (show slotArgs "__getattribute__" 1 ⟨[.ref e,Value.str (Str.ofString "__class__") s.toks],[]⟩ = pure (Value.ref e,[Value.str (Str.ofString "__class__") s.toks]) from rfl) ?_)
  refine wpAny_bind (wpAny_of_eq (show Builtin.ObjectAttr.attrName (Value.str (Str.ofString "__class__") s.toks) = pure (Str.ofString "__class__") from rfl) ?_)
  refine wpAny_bind (L0 _ _ _ _ (fun _ _ q=>q) ?_)
  refine wpAny_bind ?_
  unfold Builtin.ObjectAttr.find
  refine wpAny_bind (PySem.W.looks_findIn KI X.cl _ _ _ _ (fun _ _ q=>q) ?_)
  refine wpAny_bind (PySem.W.looks_specialIn KI X.gt _ _ _ _ (fun _ _ q=>q) ?_)
  refine wpAny_bind (wpAny_bind (PySem.W.looks_takesIn KI X.tk _ _ _ _ (fun _ _ q=>q) (wpAny_ite_true rfl (wpAny_pure ?_))))
  refine wpAny_bind (wpAny_rule (wpAny_pure ?_))
  refine wpAny_bind (wpAny_holding (wpAny_call (exc_class_get (s:={ s with toks:=s.toks + 1 }) KI g c X.ob ?_)))
  exact wpAny_pure (PySem.W.handed_on rfl (wpAny_pure h))
theorem kitx_exc (X:ExcLook K C) (c:oe.cls = .ref C):PySem.W.KitX K (.ref e) (.ref C) fun h=>h.get? e = some oe where
  ty:=fun M h KI g=>looks_type g c
  it:=fun M h KI g=>(PySem.W.kit_cls KI X.me).2.1
  ne:=fun h tp dd its n sl KI g=>by
    refine Bool.eq_false_iff.mpr fun z=>?_
    have z':=Value.ref.inj (beq_iff_eq.mp z)
    subst z'
    have m:=X.be
    unfold PySem.W.mroIn PySem.W.clsIn at m
    cases q:List.lookup C K with
    | none=>rw [q] at m; cases m
    | some o =>
      have k:=KI C o q
      rw [g] at k
      have k':=Option.some.inj k
      rw [q,← k'] at m
      cases m
  ca:=fun {prog w A E Q s} KI g h=>exc_class KI X g c h
end
section
variable {X:Cx} {e C:Addr} {oe:Obj}
theorem vals_refs:∀ {cs:List Addr} {us:List Value},Vals (cs.map V.ref) us→us = cs.map Value.ref
  | [],_,.nil=>rfl
  | c :: cs,_,.cons r t=>by rw [vals_refs t]; exact congrArg (· :: cs.map Value.ref) r
theorem call_isiX (c:oe.cls = .ref C) (L:ExcLook X.K C):CallR (sfx X e oe) (.builtin "isinstance") (fun xs H Q=>∃ y b,xs = [.ref e,y]∧((∃ B,y = .ref B∧PySem.W.kitOne X.K (.ref C) (.ref B) = some b)∨(∃ T,y = .ty T∧PySem.W.kitOne X.K (.ref C) (.type T) = some b) ∨
    (∃ (tp:Addr) (cs:List Addr),y = .ref tp∧H tp = some (.tup (cs.map V.ref))∧PySem.W.kitAny X.K (.ref C) (cs.map Value.ref) = some b))∧Q (.bl b) H):=by
  intro pins s σ H xs us Q I r h
  obtain ⟨y,b,rfl,hy,q⟩:=h
  have g:=I.excObj
  have KI:X.K.In s.heap:=I.kIn
  cases r with
  | cons rx r2 =>
    cases r2 with
    | cons ry r3 =>
      cases r3
      cases (show _ = Value.ref e from rx)
      have fin:∀ tk,EP (sfx X e oe) pins σ Q (Value.bool b) { s with toks:=tk }:=fun tk=>⟨.bl b,H,I.tok tk,rfl,q⟩
      rcases hy with ⟨B,rfl,k⟩ | ⟨T,rfl,k⟩ | ⟨tp,cs,rfl,ht,k⟩
      · cases (show _ = Value.ref B from ry)
        exact PySem.W.kia_one (kitx_exc L c) KI g k (fun z=>nomatch z) fin
      · cases (show _ = Value.type T from ry)
        exact PySem.W.kia_one (kitx_exc L c) KI g k (fun z=>nomatch z) fin
      · cases (show _ = Value.ref tp from ry)
        obtain ⟨_,its,rv,⟨cl,dd,dt,sl⟩,g2,g3,n,g4⟩:=I.hok tp _ ht
        have ei:=vals_refs rv
        subst ei
        dsimp only at g3 g4
        subst g3 g4
        exact PySem.W.kia_tup (kitx_exc L c) KI g g2 k (fun z=>nomatch z) fin
end
end L2
namespace L2
open PySem PySem.Spec PyProof.Rows
section
variable {X:Cx}
def tFr (c:Str) (ta:TE):TE:=fun σ H Q=>ta σ H fun x H1=>∃ z:Str,x = .str z∧z.length ≤ 1000∧(∀ n ∈ z.cps.toList,n < 16 ^ 8)∧c.length ≤ 1000∧∀ z2:Str,Q (.str z2) H1
theorem len_app (x y:Str):(x ++ y).length = x.length + y.length:=by
  show (Str.append x y).cps.size = x.cps.size + y.cps.size
  unfold Str.append
  simp
def rFind:V→List V→Hp→VK→Prop:=fun x vs H Q=>∃ z y:Str,x = .str z∧vs = [.str y]∧Q (.int (Txt.find z y)) H
end
end L2
namespace L2
open PySem PySem.Spec PyProof.Rows
theorem pass1 {P:Program} {w:World} {X:Cx} : Passes (CX1 P w) X E0:=fun _ _ _ _ _ _ _ h=>by
  obtain ⟨_,_,_,_,_,_,_,_,_,_,_,_,_,_,_,q⟩:=h
  exact q.elim
def MCallee (CX:CXT) (P:Program) (w:World) (K:PySem.W.Frag) (mg:Str→Option Value) (base:Heap) (k:Nat) (C:Addr) (m:Str) (ps:List Str) (sp:Sp):Prop :=
  ∃ f fd,Meth K C m f∧FnOk P w K mg base CX k f fd ps sp∧Binds K fd ps []
def MkCallee (CX:CXT) (P:Program) (w:World) (K:PySem.W.Frag) (mg:Str→Option Value) (base:Heap) (k:Nat) (x:Str) (C:Addr) (ps:List Str) (sp:Sp):Prop :=
  ∃ f fd,Mk K C f∧FnOk P w K mg base CX k f fd ps sp∧Binds K fd ps []∧mg x = some (.ref C)
structure BaseM (K:PySem.W.Frag) (B:Addr) (m:Str) (f:Addr):Prop where
  sp:PySem.W.specialIn K (.ref B) "__getattribute__" = some (some (.builtin "type.__getattribute__"))
  rd:PySem.W.readsIn K B (.type "type") = true
  at_:PySem.W.findCls K (.ref B) (.type "type") m = some (.val (.ref f))
  kp:PySem.W.keepIn K (.ref f) = true
def BCallee (CX:CXT) (P:Program) (w:World) (K:PySem.W.Frag) (mg:Str→Option Value) (base:Heap) (k:Nat) (x:Str) (m:Str) (ps:List Str) (sp:Sp):Prop :=
  ∃ f fd B,BaseM K B m f∧FnOk P w K mg base CX k f fd ps sp∧Binds K fd ps []∧mg x = some (.ref B)
section
variable {CX:CXT} {P:Program} {w:World} {K:PySem.W.Frag} {mg:Str→Option Value} {base:Heap} {j k:Nat} {C:Addr} {x m:Str} {ps:List Str} {sp:Sp}
theorem MCallee.mono (c:MCallee CX P w K mg base j C m ps sp) (h:j ≤ k):MCallee CX P w K mg base k C m ps sp :=
  let ⟨f,fd,M,F,b⟩:=c
  ⟨f,fd,M,F.mono h,b⟩
theorem MkCallee.mono (c:MkCallee CX P w K mg base j x C ps sp) (h:j ≤ k):MkCallee CX P w K mg base k x C ps sp :=
  let ⟨f,fd,M,F,b⟩:=c
  ⟨f,fd,M,F.mono h,b⟩
theorem BCallee.mono (c:BCallee CX P w K mg base j x m ps sp) (h:j ≤ k):BCallee CX P w K mg base k x m ps sp :=
  let ⟨f,fd,B,M,F,b⟩:=c
  ⟨f,fd,B,M,F.mono h,b⟩
end
def tMt (C:Addr) (m:Str) (sp:Sp) (ta:TE) (t:TA):TE:=fun σ H Q=>ta σ H fun x H1=>∃ a dx fs,x = .ref a∧H1 a = some (.ins C dx fs)∧fs.lookup m = none∧t σ H1 fun vs H2=>sp (x :: vs) H2 Q E0
def tMk (C:Addr) (sp:Sp) (t:TA):TE:=fun σ H Q=>t σ H fun vs H1=>∀ x dx,H1 x = none→H1 dx = none→dx ≠ x →
  sp (.ref x :: vs) (upd (upd H1 dx (.own x)) x (.ins C dx [])) (fun v H2=>v = .non∧Q (.ref x) H2) E0
def tMtX (C:Addr) (m:Str) (sp:Sp) (ta:TE) (t:TA):TX:=fun σ H Q EX=>ta σ H fun x H1=>∃ a dx fs,x = .ref a∧H1 a = some (.ins C dx fs)∧fs.lookup m = none∧t σ H1 fun vs H2=>sp (x :: vs) H2 Q fun cv _ H3=>∃ C',cv = .ref C'∧EX C' H3
def tMkX (C:Addr) (sp:Sp) (t:TA):TX:=fun σ H Q EX=>t σ H fun vs H1=>∀ x dx,H1 x = none→H1 dx = none→dx ≠ x →
  sp (.ref x :: vs) (upd (upd H1 dx (.own x)) x (.ins C dx [])) (fun v H2=>v = .non∧Q (.ref x) H2) fun cv _ H3=>∃ C',cv = .ref C'∧EX C' H3
section
variable {X:Cx} {CX:CXT} {k:Nat} {f C:Addr} {fd:FuncData} {ps:List Str} {sp:Sp} {x m:Str} {p np pos apos:Pos} {e o:Expr} {es:List Expr} {ta:TE} {t:TA}
theorem run0 {pins:List (Addr × Obj)} {σ:St} {H:Hp} {s:Shared} {Q:VK} {us:List Value} {vs:List V} {E:XK} (F:FnOk X.prog X.w X.K X.mg X.base CX k f fd ps sp) (hr:Room k X.A) (hb:Binds X.K fd ps []) (hx:Passes CX X E)
    (I:Inv X pins σ H s) (r:Vals vs us) (h:sp vs H Q E):wpAny (model X.prog X.w) X.A (call (.ref f) us) (EP X pins σ Q) X.xe s :=
  run_fn (dvs:=[]) (ds:=[]) F hr hb .nil hx I r (by rw [List.append_nil]; exact h)
theorem pe_base {pl:Sem Bool} (M:BCallee CX X.prog X.w X.K X.mg X.base k x m ps sp) (hx:Passes CX X E0) (hr:Room k X.A) (hg:Gl X x) (ha:PA X (e :: es) t) (hdb:(x == ("__debug__" : Str)) = false:=by decide)
    (hst:starEach (e :: es) X.env = (false,eval e X.env) :: starEach es X.env:=by rfl) (hpl:(backTo pos (starEach es X.env)).any (·.1) = false:=by rfl)
    (ht:eval (.Call (.Attribute (.Name x np) m apos) (e :: es) [] pos) X.env = (do
      let ov ← eval (.Name x np) X.env
      standAt apos.atName
      let (f,first) ← holding [ov] (getMethod ov m pl)
      callWith pos f first (backTo pos (starEach (e :: es) X.env)) (backToKw pos (keywordEach [] X.env))):=by rfl) :
    PE X (.Call (.Attribute (.Name x np) m apos) (e :: es) [] pos) (tFn sp t):=by
  obtain ⟨f,fd,B,hB,F,hb,hm⟩:=M
  intro pins s σ H Q I h
  refine PySem.W.methodCall_KW (pl:=pl) (ld_glob I hg hm ?_ hdb) ht
  refine PySem.W.method_cls I.kIn hB.sp (PySem.W.cls_value (mc:=.type "type") I.kIn hB.rd hB.at_ (handed_of (v:=.ref f) rfl) ?_)
  refine PySem.W.callWith_K (first:=[]) (h₀:=X.base) I.ok.mod.kin hB.kp (thn (ha pos pins _ σ H _ (I.tok _) h) fun us s2 ⟨vs,H2,I2,r,q2⟩=>⟨I2.kIn,?_⟩) hst hpl
  exact run0 (us:=us) (vs:=vs) F hr hb hx I2 r q2
theorem pe_mk (M:MkCallee CX X.prog X.w X.K X.mg X.base k x C ps sp) (hx:Passes CX X E0) (hr:Room (k + 1) X.A) (hg:Gl X x) (ha:PA X (e :: es) t) (hdb:(x == ("__debug__" : Str)) = false:=by decide)
    (he:starEach (e :: es) X.env = (false,eval e X.env) :: starEach es X.env:=by rfl) (hpl:(backTo pos (starEach es X.env)).any (·.1) = false:=by rfl) :
    PE X (.Call (.Name x p) (e :: es) [] pos) (tMk C sp t):=by
  obtain ⟨f,fd,M,F,hb,hm⟩:=M
  have h:=pe_make (E:=E0) (dvs:=[]) (ds:=[]) (p:=p) M F hr hg hm hb .nil hx ha hdb he hpl
  intro pins s σ H Q I q
  refine h pins s σ H Q I ?_
  have q' : t σ H fun vs H1=>∀ x dx,H1 x = none→H1 dx = none→dx ≠ x→sp (.ref x :: vs) (upd (upd H1 dx (.own x)) x (.ins C dx [])) (fun v H2=>v = .non∧Q (.ref x) H2) E0:=q
  show t σ H fun vs H1=>∀ x dx,H1 x = none→H1 dx = none→dx ≠ x→sp (.ref x :: (vs ++ [])) (upd (upd H1 dx (.own x)) x (.ins C dx [])) (fun v H2=>v = .non∧Q (.ref x) H2) E0
  have e1:(fun (vs:List V) (H1:Hp)=>∀ x dx,H1 x = none→H1 dx = none→dx ≠ x→sp (.ref x :: (vs ++ [])) (upd (upd H1 dx (.own x)) x (.ins C dx [])) (fun v H2=>v = .non∧Q (.ref x) H2) E0) = fun vs H1=>∀ x dx,H1 x = none→H1 dx = none→dx ≠ x→sp (.ref x :: vs) (upd (upd H1 dx (.own x)) x (.ins C dx [])) (fun v H2=>v = .non∧Q (.ref x) H2) E0:=by
    funext vs H1
    rw [List.append_nil]
  rw [e1]
  exact q'
end
inductive Shw:V→Prop where
  | non:Shw .non
  | bl (b:Bool):Shw (.bl b)
  | int {i:Int} (h:i.natAbs < 10 ^ 60):Shw (.int i)
  | str {z:Str} (h:z.length ≤ 1000) (k:∀ n ∈ z.cps.toList,n < 16 ^ 8):Shw (.str z)
section
variable {X:Cx}
def tFrV (c:Str) (ta:TE):TE:=fun σ H Q=>ta σ H fun x H1=>Shw x∧c.length ≤ 1000∧∀ z2:Str,Q (.str z2) H1
end
def rEqT (K:PySem.W.Frag) (neg:Bool):R2:=fun x y H Q=>∃ a b xs ys,x = .ref a∧y = .ref b∧SqT K H a xs∧SqT K H b ys ∧
  ∃ f:Nat→Bool,(∀ j x y,xs[j]? = some x→ys[j]? = some y→EqI K H x y (f j))∧Q (.bl (if neg then !((List.range (min xs.length ys.length)).all f && xs.length == ys.length) else (List.range (min xs.length ys.length)).all f && xs.length == ys.length)) H
section
variable {X:Cx}
end
end L2
namespace L2
open PySem PySem.Spec PyProof.Rows
section
variable {X:Cx}
def rCatS (K:PySem.W.Frag):R2:=fun x y H Q=>∃ l b xs zs,x = .ref l∧y = .ref b∧SqL K H l xs∧SqL K H b zs∧xs.length + zs.length ≤ sizeLine∧∀ p,H p = none→Q (.ref p) (upd H p (.lst (xs ++ zs)))
end
end L2
namespace L2
open PySem PySem.Spec PyProof.Rows
end L2
namespace L2
open PySem PySem.Spec PyProof.Rows
theorem pe_fldK {X:Cx} {K:PySem.W.Frag} {e:Expr} {f:Str} {pos:Pos} {ta:TE} (h:X.K = K) (he:PE X e ta) (hb:attributeBase e f X.env (eval e X.env) = eval e X.env):PE X (.Attribute e f pos) (tFld K ta f):=h ▸ pe_fld he hb
end L2
namespace L2
open PySem
set_option maxRecDepth 100000
inductive DEq (K:PySem.W.Frag) (H:Hp):Nat→V→V→Bool→Prop where
  | flat {n:Nat} {x y:V} (fx:flatV x = true) (fy:flatV y = true):DEq K H n x y (eqV x y)
  | same {n:Nat} (a:Addr):DEq K H n (.ref a) (.ref a) true
  | lst {n:Nat} {a b:Addr} {xs ys:List V} {f:Nat→Bool} (ne:a ≠ b) (ha:SqL K H a xs) (hb:SqL K H b ys) (hl:xs.length = ys.length) (h:∀ (j:Nat) (x y:V),xs[j]? = some x→ys[j]? = some y→DEq K H n x y (f j)):DEq K H (n + 1) (.ref a) (.ref b) ((List.range xs.length).all f)
  | lst_ne {n:Nat} {a b:Addr} {xs ys:List V} (ne:a ≠ b) (ha:SqL K H a xs) (hb:SqL K H b ys) (hl:xs.length ≠ ys.length):DEq K H (n + 1) (.ref a) (.ref b) false
  | tup {n:Nat} {a b:Addr} {xs ys:List V} {f:Nat→Bool} (ne:a ≠ b) (ha:SqT K H a xs) (hb:SqT K H b ys) (h:∀ (j:Nat) (x y:V),xs[j]? = some x→ys[j]? = some y→DEq K H n x y (f j)):DEq K H (n + 1) (.ref a) (.ref b) ((List.range (min xs.length ys.length)).all f && xs.length == ys.length)
theorem its_at {xs:List V} {its:List Value} (r:Vals xs its) {j:Nat} (h:j < its.toArray.size):∃ x,xs[j]? = some x∧RelV x its.toArray[j]:=by
  have j1:j < its.length:=by simpa using h
  have l1:=r.length
  have x1:xs[j]? = some xs[j]:=List.getElem?_eq_getElem (by omega)
  obtain ⟨u1,q1,r1⟩:=r.get x1
  have eu:its.toArray[j] = u1:=by
    have:=List.getElem?_eq_getElem j1
    rw [this] at q1; simpa using Option.some.inj q1
  exact ⟨xs[j],x1,eu ▸ r1⟩
section
variable {X:Cx} {pins:List (Addr × Obj)} {σ:St} {H:Hp} {s:Shared}
theorem DEq.at {n:Nat} {x y:V} {b:Bool} (e:DEq X.K H n x y b) (I:Inv X pins σ H s):∀ {A:Around} {u v:Value},A.units + n < cLine→RelV x u→RelV y v→SeqAt.EqAt A s u v b:=by
  induction e with
  | flat fx fy=>intro A u v hu rx ry; exact eqAt_V rx ry fx fy
  | same a =>
    intro A u v hu rx ry
    cases (show u = Value.ref a from rx)
    cases (show v = Value.ref a from ry)
    exact SeqAt.EqAt.same _
  | @lst n a b xs ys f ne ha hb hl h ih =>
    intro A u v hu rx ry
    cases (show u = Value.ref a from rx)
    cases (show v = Value.ref b from ry)
    obtain ⟨its,r,p,_⟩:=I.list ha
    obtain ⟨its',r',p',_⟩:=I.list hb
    have l1:=r.length
    have l2:=r'.length
    have h0:=SeqAt.RcAt.lists (A:=A) (e:=f) p.isList p'.isList (by simp only [List.size_toArray]; omega) (by omega) (fun j h1 h2=>by
      obtain ⟨x,e1,q1⟩:=its_at r h1
      obtain ⟨y,e2,q2⟩:=its_at r' h2
      exact ih j x y e1 e2 (by show A.units + 1 + n < cLine; omega) q1 q2)
    rw [show its.toArray.size = xs.length by simp only [List.size_toArray]; omega] at h0
    exact SeqAt.EqAt.of_refs ne h0
  | @lst_ne n a b xs ys ne ha hb hl =>
    intro A u v hu rx ry
    cases (show u = Value.ref a from rx)
    cases (show v = Value.ref b from ry)
    obtain ⟨its,r,p,_⟩:=I.list ha
    obtain ⟨its',r',p',_⟩:=I.list hb
    have l1:=r.length
    have l2:=r'.length
    exact SeqAt.EqAt.of_refs ne (SeqAt.RcAt.lists_lengths p.isList p'.isList (by simp only [List.size_toArray,bne_iff_ne,ne_eq]; omega) (by omega))
  | @tup n a b xs ys f ne ha hb h ih =>
    intro A u v hu rx ry
    cases (show u = Value.ref a from rx)
    cases (show v = Value.ref b from ry)
    obtain ⟨its,r,p,_⟩:=I.tuple ha
    obtain ⟨its',r',p',_⟩:=I.tuple hb
    have l1:=r.length
    have l2:=r'.length
    have h0:=SeqAt.RcAt.tuples (A:=A) (e:=f) (show s.heap.IsTuple a its.toArray from p) (show s.heap.IsTuple b its'.toArray from p') (by omega) (fun j h1 h2=>by
      obtain ⟨x,e1,q1⟩:=its_at r h1
      obtain ⟨y,e2,q2⟩:=its_at r' h2
      exact ih j x y e1 e2 (by show A.units + 1 + n < cLine; omega) q1 q2)
    rw [show its.toArray.size = xs.length by simp only [List.size_toArray]; omega,show its'.toArray.size = ys.length by simp only [List.size_toArray]; omega] at h0
    exact SeqAt.EqAt.of_refs ne h0
end
def rEqDL (K:PySem.W.Frag) (neg:Bool):R2:=fun x y H Q=>∃ a b xs ys,x = .ref a∧y = .ref b∧SqL K H a xs∧SqL K H b ys ∧
  ((xs.length ≠ ys.length∧Q (.bl neg) H)∨(xs.length = ys.length∧∃ f:Nat→Bool,(∀ (j:Nat) (x y:V),xs[j]? = some x→ys[j]? = some y→DEq K H 60 x y (f j))∧Q (.bl (if neg then !(List.range xs.length).all f else (List.range xs.length).all f)) H))
def rEqDT (K:PySem.W.Frag) (neg:Bool):R2:=fun x y H Q=>∃ a b xs ys,x = .ref a∧y = .ref b∧SqT K H a xs∧SqT K H b ys ∧
  ∃ f:Nat→Bool,(∀ (j:Nat) (x y:V),xs[j]? = some x→ys[j]? = some y→DEq K H 60 x y (f j))∧Q (.bl (if neg then !((List.range (min xs.length ys.length)).all f && xs.length == ys.length) else (List.range (min xs.length ys.length)).all f && xs.length == ys.length)) H
section
variable {X:Cx}
theorem deep_at {pins:List (Addr × Obj)} {σ:St} {H:Hp} {s:Shared} {A:Around} {xs ys:List V} {its its' : List Value} {f:Nat→Bool} (I:Inv X pins σ H s) (hu:A.units + 60 < cLine) (r:Vals xs its) (r' : Vals ys its')
    (hf:∀ (j:Nat) (x y:V),xs[j]? = some x→ys[j]? = some y→DEq X.K H 60 x y (f j)):∀ j (h1:j < its.toArray.size) (h2:j < its'.toArray.size),SeqAt.EqAt A s its.toArray[j] its'.toArray[j] (f j):=fun j h1 h2=>by
  obtain ⟨x,e1,q1⟩:=its_at r h1
  obtain ⟨y,e2,q2⟩:=its_at r' h2
  exact (hf j x y e1 e2).at I hu q1 q2
theorem op_neDL {k:Nat} (hr:Room k X.A):OpR X (compareOp .NotEq) (rEqDL X.K true):=by
  intro pins s σ H x y v u Q I rx ry h
  obtain ⟨a,b,xs,ys,rfl,rfl,ha,hb,h⟩:=h
  cases (show v = Value.ref a from rx)
  cases (show u = Value.ref b from ry)
  obtain ⟨its,r,p,_⟩:=I.list ha
  obtain ⟨its',r',p',_⟩:=I.list hb
  have l1:=r.length
  have l2:=r'.length
  have hu:=hr.units
  rcases h with ⟨hn,q⟩ | ⟨hl,f,hf,q⟩
  · refine SeqAt.RcNeAt.lists_lengths p.isList p'.isList (by simp only [List.size_toArray,bne_iff_ne,ne_eq]; omega) (by omega) X.prog X.w X.xe _ ⟨.bl true,H,I,rfl,q⟩
  · refine SeqAt.RcNeAt.lists (e:=f) p.isList p'.isList (by simp only [List.size_toArray]; omega) (by omega) (deep_at I (by show X.A.units + 1 + 60 < cLine; omega) r r' hf) X.prog X.w X.xe _ ⟨.bl _,H,I,rfl,?_⟩
    rw [show its.toArray.size = xs.length by simp only [List.size_toArray]; omega]
    exact q
end
end L2
namespace L2
open PySem PySem.Spec PyProof.Rows
section
variable {κ:Type} [DecidableEq κ]
def cntK (ks:List κ):Nat→Nat
  | 0=>0
  | i + 1=>match ks[i]? with
    | some k=>if k ∈ ks.take i then cntK ks i else cntK ks i + 1
    | none=>cntK ks i
theorem cntK_le (ks:List κ):∀ i,cntK ks i ≤ i
  | 0=>Nat.le_refl _
  | i + 1=>by
    have ih:=cntK_le ks i
    unfold cntK
    split
    · split <;> omega
    · omega
theorem cntK_full (ks:List κ):∀ i,i ≤ ks.length→(cntK ks i = i↔(ks.take i).Nodup)
  | 0,_=>by simp [cntK]
  | i + 1,h=>by
    have ih:=cntK_full ks i (by omega)
    have le:=cntK_le ks i
    have e:ks[i]? = some ks[i]:=List.getElem?_eq_getElem (by omega)
    have et:ks.take (i + 1) = ks.take i ++ [ks[i]]:=by rw [List.take_add_one,e]; rfl
    unfold cntK
    rw [e,et,List.nodup_append]
    dsimp only
    by_cases m:ks[i] ∈ ks.take i
    · rw [if_pos m]
      exact ⟨fun z=>absurd z (by omega),fun z=>absurd rfl (z.2.2 _ m _ (by simp))⟩
    · rw [if_neg m]
      refine ⟨fun z=>⟨ih.mp (by omega),by simp,fun a ha b hb=>?_⟩,fun z=>by rw [ih.mpr z.1]⟩
      rw [show b = ks[i] by simpa using hb]
      exact fun q=>m (q ▸ ha)
variable {prog:Program} {w:World} {A:Around} {E:Value→Shared→Prop} {s:Shared} {knd:KeyKind prog w κ}
theorem setOf_stay {h h' : Heap} {a:Addr} {S:κ→Bool} {n:Nat} (x:h.SetOf knd a S n) (k:∀ o,h.get? a = some o→h'.get? a = some o):h'.SetOf knd a S n:=by
  obtain ⟨o,es,ep,t,ho,r⟩:=x
  exact ⟨o,es,ep,t,k o ho,r⟩
theorem setOf_as {h:Heap} {a:Addr} {S S' : κ→Bool} {n n' : Nat} (x:h.SetOf knd a S n) (e1:S = S') (e2:n = n'):h.SetOf knd a S' n':=e1 ▸ e2 ▸ x
theorem fill_loop {R:Result→Shared→Prop} {I:Addr} {fp wr:List Addr} {G:Array GenState→Array GenState→Prop} {n:Nat} {P:Nat→Value→Prop} {St:Nat→Shared→Prop} (W:WalksS prog w A.in1 I fp wr G n P St) {a:Addr} (ha:a ∉ fp) {ks:List κ}
    (hv:∀ i v,P i v→∃ k,ks[i]? = some k∧knd.is k v = true∧v.scannable = true) (hb:n + 1 < scanBound):∀ (d i:Nat) (s:Shared),n = i + d→St i s→s.heap.SetOf knd a (fun k=>decide (k ∈ ks.take i)) (cntK ks i) →
      (∀ s',Moved (a :: wr) G s s'→s'.heap.SetOf knd a (fun k=>decide (k ∈ ks.take n)) (cntK ks n)→R (.ok (.ret .none)) s')→codeAny (model prog w) A (.builtin "set.update.loop" ⟨[.ref a,.ref I],[]⟩) R s:=by
  have hw:a ∉ wr:=fun z=>ha (W.sub a z)
  intro d
  induction d with
  | zero =>
    intro i s e st x fin
    rw [show n = i by omega] at W fin
    refine codeAny_builtin (R:=R) (A:=A) F.entry_set_update_loop ?_
    rw [Around.under_plainId (A:=A) F.plain_set_update_loop _]
    show wpAny (model prog w) A.in1 (pyNext (.ref I) >>= _) _ _ s
    exact wpAny_bind (W.done s _ _ st fun s' m=>wpAny_pure (fin s' (m.mono fun b hb=>List.mem_cons_of_mem a hb) (setOf_stay x fun o q=>m.heap a o hw q)))
  | succ d ih =>
    intro i s e st x fin
    refine codeAny_builtin (R:=R) (A:=A) F.entry_set_update_loop ?_
    rw [Around.under_plainId (A:=A) F.plain_set_update_loop _]
    show wpAny (model prog w) A.in1 (pyNext (.ref I) >>= _) _ _ s
    refine wpAny_bind (W.item i s _ _ (by omega) st fun v s1 p st1 m=>?_)
    obtain ⟨k,ek,ik,sc⟩:=hv i v p
    have x1:=setOf_stay x fun o q=>m.heap a o hw q
    show wpAny (model prog w) A.in1 (holding [v] (setAdd a v) >>= _) _ _ s1
    refine wpAny_bind (wpAny_holding (show wpAny (model prog w) A.in1 (setAdd a v) _ _ s1 from ?_))
    unfold setAdd
    refine wpAny_holding (wpAny_bind (knd.pyHash ik ?_))
    have le:=cntK_le ks i
    refine wpAny_setAddHashed_of (knd:=knd) (s:={ s1 with toks:=s1.toks + 1 }) ik sc x1 (by omega) fun h' sb x2=>?_
    have et:ks.take (i + 1) = ks.take i ++ [k]:=by rw [List.take_add_one,ek]; rfl
    have x3:h'.SetOf knd a (fun q=>decide (q ∈ ks.take (i + 1))) (cntK ks (i + 1)):=by
      refine setOf_as x2 (funext fun q=>?_) ?_
      · rw [et]
        by_cases z:q ∈ ks.take i <;> by_cases y:q = k <;> simp [z,y]
      · show (if decide (k ∈ ks.take i) = true then cntK ks i else cntK ks i + 1) = match ks[i]? with | some k=>if k ∈ ks.take i then cntK ks i else cntK ks i + 1 | none=>cntK ks i
        rw [ek]
        by_cases z:k ∈ ks.take i <;> simp [z]
    refine wpAny_pure ⟨plainId_quiet F.plain_set_update_loop _,ih (i + 1) { s1 with heap:=h',toks:=s1.toks + 1 } (by omega) (W.frame (i + 1) s1 h' (s1.toks + 1) st1 (Nat.le_succ _) fun b hbf o q=>(sb.2 b fun z=>ha (z ▸ hbf)).trans q) x3 fun s2 m2 x4=>?_⟩
    refine fin s2 (Moved.trans W.gtrans ((m.mono fun b hb=>List.mem_cons_of_mem a hb).then_heap (Nat.le_succ _) fun b o hbn q=>?_) m2) x4
    exact (sb.2 b fun z=>hbn (z ▸ List.mem_cons_self)).trans q
abbrev newS (led:Bool):Obj:={ cls:=.type "set",dict:=none,data:=.set #[] 0 (.fresh 0 0 led) }
def Filled (knd:KeyKind prog w κ) (s:Shared) (ks:List κ) (h' : Heap):Prop :=
  h'.SetOf knd s.heap.objs.size (fun k=>decide (k ∈ ks)) (cntK ks ks.length)∧∀ b o,b < s.heap.objs.size→s.heap.get? b = some o→h'.get? b = some o
theorem init_set {l:Addr} {items:Array Value} {ks:List κ} {led:Bool} (hh:A.handled = none) (hl:s.heap.IsList l items) (hk:∀ (i:Nat) (v:Value),items[i]? = some v→∃ k,ks[i]? = some k∧knd.is k v = true∧v.scannable = true) (hn:ks.length = items.size) (hb:items.size + 1 < scanBound) :
    codeAny (model prog w) A (.call (.builtin "set.__init__") ⟨[.ref s.heap.objs.size,.ref l],[]⟩) (wants (fun r s2=>r = .none∧∃ h' tk,s2 = { s with heap:=h',toks:=tk }∧Filled knd s ks h') E) { s with heap:=s.heap.push (newS led) }:=by
  have g0:(s.heap.push (newS led)).get? s.heap.objs.size = some (newS led):=Heap.get?_push_size s.heap rfl
  have ty:Shared.TypeIs { s with heap:=s.heap.push (newS led) } (.ref s.heap.objs.size) "set" := ⟨newS led,g0,rfl⟩
  refine codeAny_call_builtin F.called_set.init.plain F.entry_set_init (check_set_init_1 ty ?_)
  obtain ⟨⟨c1,c2,c3,c4⟩,ho,hc,m,hd⟩:=hl
  dsimp only at hc hd
  subst hc hd
  have g1:(s.heap.push (newS led)).get? l = some { cls:=.type "list",dict:=c2,data:=.seq items m,slots:=c4 }:=Heap.get?_push_of_some _ ho
  have y1:=F.sub_list_set
  have y2:=F.sub_list_frozenset
  have y3:(Value.type "list" == Value.type "dict") = false:=by decide
  have l1:(s.heap.push (newS led)).IsList l items:=⟨_,g1,rfl,m,rfl⟩
  have lt:l < s.heap.objs.size:=Heap.lt_size ho
  unfold Builtin.«set.__init__» Builtin.Frozenset.updateFrom noKeywords
  generalize hI:pyIter = it
  wp_walk
  subst hI
  refine wpAny_pyIter_list l1 (wpAny_bind (wpAny_runValue ?_))
  have nl:l ≠ (s.heap.push (newS led)).objs.size:=by rw [Heap.size_push]; exact Nat.ne_of_lt (Nat.lt_succ_of_lt lt)
  have nf:s.heap.objs.size ∉ [(s.heap.push (newS led)).objs.size,l]:=by
    rw [Heap.size_push]
    intro z
    rcases List.mem_cons.mp z with z | z
    · exact absurd z (Nat.ne_of_lt (Nat.lt_succ_self _))
    · exact absurd (by simpa using z) (Nat.ne_of_gt lt)
  refine fill_loop (knd:=knd) ((Walks.list (by simp [hh]) _ l nl items).toS) nf (ks:=ks) hk hb items.size 0 _ (Nat.zero_add _).symm ⟨⟨_,Heap.get?_push_size _ rfl,rfl,rfl⟩,l1.push _⟩ (setOf_as ((setObjOf_fresh (knd:=knd) led).setOf (Heap.get?_push_of_some _ g0) (by unfold scanBound; omega)) (funext fun k=>by simp) rfl) fun s' mv x=>?_
  obtain ⟨h',g',d',t',o'⟩:=s'
  obtain rfl:g' = s.gens:=mv.gens
  obtain rfl:d' = s.drawn:=mv.drawn
  obtain rfl:o' = s.os:=mv.os
  refine wpAny_pure (show wpAny (model prog w) _ (ret Value.none) _ _ _ from wpAny_pure ⟨rfl,h',t',rfl,?_,fun b o hb' q=>?_⟩)
  · rw [← hn] at x
    exact setOf_as x (funext fun k=>by rw [List.take_length]) rfl
  · refine mv.heap b o (fun z=>?_) (Heap.get?_push_of_some _ (Heap.get?_push_of_some _ q))
    rcases List.mem_cons.mp z with z | z
    · exact absurd z (Nat.ne_of_lt hb')
    · have z2:b = (s.heap.push (newS led)).objs.size:=by simpa using z
      rw [Heap.size_push] at z2
      exact absurd z2 (Nat.ne_of_lt (Nat.lt_succ_of_lt hb'))
set_option maxRecDepth 100000 in
theorem call_setK {l:Addr} {items:Array Value} {ks:List κ} {Q:Value→Shared→Prop} (hh:A.handled = none) (hl:s.heap.IsList l items) (hk:∀ (i:Nat) (v:Value),items[i]? = some v→∃ k,ks[i]? = some k∧knd.is k v = true∧v.scannable = true) (hn:ks.length = items.size) (hb:items.size + 1 < scanBound)
    (h:∀ h' tk,Filled knd s ks h'→Q (.ref s.heap.objs.size) { s with heap:=h',toks:=tk }):wpAny (model prog w) A (call (.type "set") [.ref l]) Q E s:=by
  obtain ⟨c,tl,mro⟩:=F.called_set.mro
  have a1:=F.called_set.made
  have a2:=F.called_set.sub
  have a3:=F.called_set.notType
  have a4:=F.called_set.canCreate
  have a5:=F.typeCall_set_1 (.ref l)
  refine wpAny_call (codeAny_of_tree (show wpAny (model prog w) _ (callAny (.type "set") _) _ _ _ from wpAny_pure ⟨Code.quiet_builtin _ (by decide +kernel),codeAny_builtin F.entry_type_call ?_⟩))
  rw [Around.under_plain (A:=A) (weight_type_call_type "set" [.ref l] []) rfl]
  repeat (any_goals (first | assumption | wp_step))
  refine codeAny_mono (code_set_new_1 (.ref l) (E:=E) (Q₁:=fun ob s1=>∃ led,ob = .ref s.heap.objs.size∧s1 = { s with heap:=s.heap.push (newS led) }) fun led=>⟨led,rfl,rfl⟩) fun r s1 hr=>?_
  cases r with
  | error e=>exact hr
  | ok fl =>
    cases fl with
    | ret ob =>
      obtain ⟨led,rfl,rfl⟩:=hr
      have g0:(s.heap.push (newS led)).get? s.heap.objs.size = some (newS led):=Heap.get?_push_size s.heap rfl
      have ty:Shared.TypeIs { s with heap:=s.heap.push (newS led) } (.ref s.heap.objs.size) "set" := ⟨newS led,g0,rfl⟩
      have b1:=F.called_set.init.lookup
      have b2:=F.called_set.init.bind (.ref s.heap.objs.size)
      repeat (any_goals (first | assumption | wp_step))
      refine codeAny_mono (init_set (E:=E) (knd:=knd) (by simp [hh]) hl hk hn hb) fun r2 s2 hr2=>?_
      cases r2 with
      | error e=>exact hr2
      | ok f2 =>
        cases f2 with
        | ret r =>
          obtain ⟨rfl,h',tk,rfl,x⟩:=hr2
          repeat (any_goals (first | assumption | wp_step))
          exact h h' tk x
        | _=>exact hr2.elim
    | _=>exact hr.elim
end
def SetO (P:Program) (w:World) (a:Addr) (zs:List Str):HO:=.ext fun h=>h.SetOf (strKind P w) a (fun z=>decide (z ∈ zs)) (cntK zs zs.length)
section
variable {X:Cx}
theorem vals_strs:∀ {zs:List Str} {us:List Value},Vals (zs.map V.str) us→∀ (i:Nat) (v:Value),us[i]? = some v→∃ z t,zs[i]? = some z∧v = .str z t
  | [],_,.nil,i,v,h=>by simp at h
  | z :: zs,_,.cons ⟨t,e⟩ r,0,v,h=>by simp at h; exact ⟨z,t,rfl,by rw [← h,e]⟩
  | z :: zs,_,.cons _ r,i + 1,v,h=>by
    obtain ⟨z',t,e1,e2⟩:=vals_strs r i v (by simpa using h)
    exact ⟨z',t,by simpa using e1,e2⟩
theorem call_set_strs (hc:X.calm = true):CallR X (.type "set") (fun xs H Q=>∃ (p:Addr) (zs:List Str),xs = [.ref p]∧SqL X.K H p (zs.map V.str)∧zs.length ≤ 1000∧∀ l,H l = none→Q (.ref l) (upd H l (SetO X.prog X.w l zs))):=by
  intro pins s σ H xs us Q I r h
  obtain ⟨p,zs,rfl,hS,hz,q⟩:=h
  obtain ⟨u,rfl,ru⟩:=r.one
  obtain rfl:u = Value.ref p:=ru
  obtain ⟨its,rv,pl,_⟩:=I.list hS
  have hl:=rv.length
  rw [List.length_map] at hl
  refine call_setK (knd:=strKind X.prog X.w) (ks:=zs) (I.ok.hd hc) pl.isList (fun i v e=>?_) (by simpa using hl) (by unfold scanBound; simp; omega) fun h' tk x=>?_
  · obtain ⟨z,t,e1,rfl⟩:=vals_strs rv i v (by simpa using e)
    exact ⟨z,e1,by show Value.isStrOf z (.str z t) = true; simp [Value.isStrOf],rfl⟩
  · obtain ⟨x1,x2⟩:=x
    refine ⟨.ref s.heap.objs.size,_,I.laid (a:=s.heap.objs.size) (o:=SetO X.prog X.w s.heap.objs.size zs) (h':=h') (t':=tk) (fun b o q=>x2 b o (Heap.lt_size q) q) (Nat.le_refl _) ?_,rfl,q _ I.fresh⟩
    refine ⟨x1,?_,fun h1 h2 y k=>setOf_stay y k⟩
    obtain ⟨o,_,_,_,g,_⟩:=x1
    exact ⟨o,g⟩
end
end L2
namespace L2
open PySem PySem.Spec PyProof.Rows
def ExcF (h:Heap) (e T:Addr) (cls a0 fl:Value):Prop :=
  ∃ oe vs oT ts,h.get? e = some oe∧(oe.cls = cls∧vs[0]? = some a0)∧oe.data = .fields vs∧vs[1]? = some (.ref T)∧T ≠ e∧h.get? T = some oT∧oT.data = .fields ts∧ts[3]? = some fl
inductive ExcS (h:Heap) (L e:Addr) (cls a0:Value):List Addr→Prop where
  | fresh {oe:Obj} {vs:Array Value} (he:h.get? e = some oe) (hc:oe.cls = cls) (hd:oe.data = .fields vs) (h1:vs[1]? = some Value.none) (h0:vs[0]? = some a0):ExcS h L e cls a0 []
  | fly {T:Addr} (x:ExcF h e T cls a0 .none):ExcS h L e cls a0 [T]
  | held {T:Addr} (x:ExcF h e T cls a0 (rawInt L)):ExcS h L e cls a0 [T]
section
variable {M:Model} {A:Around} {E:Value→Shared→Prop} {s:Shared} {base:Heap} {env:Env} {outer:List Env} {L e T:Addr} {a0 cls fl:Value} {Q:Unit→Shared→Prop} {Ts:List Addr}
theorem Stp.refl (F Y:List Addr) (h:Heap):Stp F Y h h:=⟨fun _ _ _ _ q=>q,fun _ o _ q=>⟨o.slots,q⟩⟩
theorem note (hf:A.frames = some (env :: outer)) (ff:s.heap.FunFrames base (env :: outer)) (hL:env.frame = some L) (x:ExcS s.heap L e cls a0 Ts)
    (h:∀ h' T',Stp (frs (env :: outer)) (e :: Ts) s.heap h'→ExcF h' e T' cls a0 (rawInt L)→(s.heap.get? T' = none∨T' ∈ Ts)→Q () { s with heap:=h' }):wpAny M A (noteFrame (.ref e) env) Q E s:=by
  cases x with
  | @fresh oe vs he hc hd h1 h0 =>
    unfold noteFrame
    simp only [hL]
    refine wpAny_bind (wpAny_field he hd h1 ?_)
    rw [if_neg (by decide)]
    refine wpAny_entryW (base:=PySem.W.hideAll s.heap ([e] ++ frs (env :: outer))) hf (hid_frames _ ff) hL he (fun b o q=>PySem.W.of_hideAll _ q) (PySem.W.hideAll_none _ (by simp)) hd (Array.getElem?_eq_some_iff.mp h1).1 h0 fun h' lw=>?_
    obtain ⟨st,_,⟨oe',vs',T,oT,ts,t1,t2,t3,t4,t5,t6,t7,t8,t9⟩,up⟩:=lw
    have hslot:∀ b o,b ∈ frs (env :: outer)→s.heap.get? b = some o→∃ sl,h'.get? b = some { o with slots:=sl }:=fun b o hb q=>by
      obtain ⟨_,o2,q2,nf⟩:=ff.mem hb
      rw [q] at q2; cases q2
      exact up b o q nf
    refine h h' T ⟨fun b o hb hx q=>st b o (PySem.W.hideAll_get _ q (by simp only [List.mem_append]; exact fun z=>z.elim hx hb)),hslot⟩ ⟨oe',vs',oT,ts,t1,⟨t2.1.trans hc,t2.2⟩,t3,t4,t6,t7,t8,t9⟩ ?_
    rcases new_head ff t5 hslot t7 t8 with z | z
    · exact .inl z
    · exact absurd (by simpa using z) t6
  | @fly T x =>
    obtain ⟨oe,vs,oT,ts,x1,x2,x3,x4,x5,x6,x7,x8⟩:=x
    refine wpAny_noteFrame_onW (base:=PySem.W.hideAll s.heap ([e,T] ++ frs (env :: outer))) hf (hid_frames _ ff) hL ⟨oe,vs,T,oT,ts,x1,x2,x3,x4,PySem.W.hideAll_none _ (by simp),x5,x6,x7,x8⟩ (fun b o q=>PySem.W.of_hideAll _ q) (PySem.W.hideAll_none _ (by simp)) fun h' lw=>?_
    obtain ⟨st,_,⟨oe',vs',T',oT',ts',t1,t2,t3,t4,t5,t6,t7,t8,t9⟩,up⟩:=lw
    have hslot:∀ b o,b ∈ frs (env :: outer)→s.heap.get? b = some o→∃ sl,h'.get? b = some { o with slots:=sl }:=fun b o hb q=>by
      obtain ⟨_,o2,q2,nf⟩:=ff.mem hb
      rw [q] at q2; cases q2
      exact up b o q nf
    refine h h' T' ⟨fun b o hb hx q=>st b o (PySem.W.hideAll_get _ q (by simp only [List.mem_append]; exact fun z=>z.elim hx hb)),hslot⟩ ⟨oe',vs',oT',ts',t1,t2,t3,t4,t6,t7,t8,t9⟩ ?_
    rcases new_head ff t5 hslot t7 t8 with z | z
    · exact .inl z
    · rcases List.mem_cons.mp z with z | z
      · exact absurd z t6
      · exact .inr z
  | @held T x =>
    obtain ⟨oe,vs,oT,ts,x1,x2,x3,x4,x5,x6,x7,x8⟩:=id x
    exact wpAny_noteFrame_againW (base:=PySem.W.hideAll s.heap [T]) hL ⟨oe,vs,T,oT,ts,x1,x2,x3,x4,PySem.W.hideAll_none _ (by simp),x5,x6,x7,x8⟩ (h s.heap T (Stp.refl _ _ _) x (.inr (by simp)))
theorem flyTo {fr:Option Addr} {l:List Env} (ff:s.heap.FunFrames base l) (x:ExcF s.heap e T cls a0 fl) (h:∀ h',Stp (frs l) [e,T] s.heap h'→ExcF h' e T cls a0 (fr.elim Value.none fun f=>rawInt f)→Q () { s with heap:=h' }):wpAny M A (setFlight (.ref e) fr) Q E s:=by
  obtain ⟨oe,vs,oT,ts,x1,x2,x3,x4,x5,x6,x7,x8⟩:=x
  have sz:3 < ts.size:=(Array.getElem?_eq_some_iff.mp x8).1
  have oth:∀ b,b ≠ T→(s.heap.update T (Obj.mapFields (·.setIfInBounds 3 (fr.elim Value.none fun f=>rawInt f)))).get? b = s.heap.get? b:=fun b hb=>Heap.get?_update_other _ _ (Ne.symm hb)
  unfold setFlight
  refine wpAny_bind (wpAny_field x1 x3 x4 ?_)
  rw [if_pos (show (Value.ref T != Value.none) = true by simp)]
  refine wpAny_setField x6 x7 sz (h _ ⟨fun b o hb hx q=>(oth b fun z=>hx (by simp [z])).trans q,fun b o hb q=>?_⟩ ⟨oe,vs,_,_,(oth e (Ne.symm x5)).trans x1,x2,x3,x4,x5,Heap.get?_update_self _ x6 (Obj.isFreed_of_fields (Obj.data_mapFields x7 _)),Obj.data_mapFields x7 _,by simp [sz]⟩)
  obtain ⟨_,o2,q2,nf⟩:=ff.mem hb
  rw [q] at q2; cases q2
  exact ⟨o.slots,(oth b fun z=>nf ts (by rw [z,x6] at q; cases q; exact x7)).trans q⟩
end
section
variable {X:Cx} {pins:List (Addr × Obj)} {σ:St} {H:Hp} {s:Shared} {h' : Heap} {Y:List Addr}
theorem Inv.excStepY (I:Inv X pins σ H s) (st:Stp (frs X.stack) Y s.heap h') (nY:∀ b ∈ Y,NewAt X pins H b):Inv X pins σ H { s with heap:=h' }:=by
  have hsub:∀ b,b ≠ X.env.locals→b ∉ X.fs→b ∉ frs X.stack:=fun b h1 h2 z=>(List.mem_cons.mp (I.stkSub b z)).elim h1 h2
  have entY:∀ b o,X.s₀.heap.get? b = some o→b ∉ Y:=fun b o q z=>by rw [(nY b z).ent] at q; cases q
  have neL:∀ b o,X.s₀.heap.get? b = some o→b ≠ X.env.locals:=fun b o q=>Nat.ne_of_lt (Nat.lt_of_lt_of_le (Heap.lt_size q) I.ok.above)
  have any:∀ b o,b ∉ Y→s.heap.get? b = some o→∃ sl,h'.get? b = some { o with slots:=sl }:=fun b o hy q=>by
    by_cases hF:b ∈ frs X.stack
    · exact st.slot b o hF q
    · exact ⟨o.slots,st.keep b o hF hy q⟩
  have cellK:∀ x c,X.env.cells.lookup x = some c→∀ v,s.heap.IsCell c v→h'.IsCell c v:=fun x c ec v ⟨o,ho,hd⟩=>by
    obtain ⟨sl,q⟩:=any c o (fun z=>(nY c z).cel x c ec rfl) ho
    exact ⟨_,q,hd⟩
  refine ⟨I.ok,I.os,I.bare,⟨fun b o q n hb hxx=>?_,fun b o q n hb hxx=>?_,I.base.free,fun b o q hxx=>?_,I.base.tups,I.base.frzs,I.base.tbls⟩,?_,fun x c ec=>?_,I.free,I.freeC,fun p hp=>?_,I.hok.stp st I.stkFree (fun b hb=>(nY b hb).unt),I.len⟩
  · exact st.keep b o (hsub b (neL b o q) hb) (entY b o q) (I.base.keep b o q n hb hxx)
  · obtain ⟨sl,q1⟩:=I.base.slot b o q n hb hxx
    obtain ⟨sl2,q2⟩:=any b _ (entY b o q) q1
    exact ⟨sl2,q2⟩
  · obtain ⟨o1,q1⟩:=I.base.there b o q hxx
    obtain ⟨sl2,q2⟩:=any b _ (entY b o q) q1
    exact ⟨_,q2⟩
  · obtain ⟨m,⟨oL,es,ep,hoL,r⟩,hl⟩:=I.loc
    obtain ⟨sl,q⟩:=any X.env.locals oL (fun z=>(nY _ z).loc rfl) hoL
    refine ⟨m,⟨_,es,ep,q,r⟩,fun i x v e1 e2 e3=>?_⟩
    obtain ⟨u,ru,l⟩:=hl i x v e1 e2 e3
    refine ⟨u,ru,?_⟩
    rcases l with l | ⟨k,c,ec,z⟩
    · exact .inl l
    · exact .inr ⟨k,c,ec,cellK x c ec _ z⟩
  · obtain ⟨v,z⟩:=I.cell x c ec
    exact ⟨v,cellK x c ec v z⟩
  · obtain ⟨q,n,nL,nf,d⟩:=I.pin p hp
    exact ⟨st.keep p.1 p.2 (hsub p.1 nL nf) (fun z=>(nY _ z).pin p hp rfl) q,n,nL,nf,d⟩
end
def XEof (X:Cx) (L:Addr) (E:XK):Value→Shared→Prop:=fun ev s'=>∃ (e C:Addr) (a0:Value) (Ts:List Addr) (pins:List (Addr × Obj)) (σ:St) (H' : Hp),ev = .ref e∧Inv X pins σ H' s'∧ExcS s'.heap L e (.ref C) a0 Ts∧(∀ b ∈ e :: Ts,NewAt X pins H' b)∧E (.ref C) none H'
theorem passes_XE {X:Cx} {L:Addr} {E:XK} (hst:X.stack = X.env :: X.outer) (hfr:X.env.frame = some L) (hx:X.ex = []):PassesOwn (model X.prog X.w) X.A X.env (XEof X L E):=by
  rintro ev s1 ⟨e,C,a0,Ts,pins,σ,H,rfl,I,x,ny,q⟩
  have fr1:X.A.frames = some (X.env :: X.outer):=by rw [← hst]; exact I.ok.frames
  have ff1:s1.heap.FunFrames X.base (X.env :: X.outer):=by rw [← hst]; exact I.stack
  refine note fr1 ff1 hfr x fun h2 T st x2 hT=>?_
  rw [← hst] at st
  have I2:=I.excStepY st ny
  have nT:NewAt X pins H T:=by
    rcases hT with z | z
    · exact I.newAt hx z
    · exact ny T (List.mem_cons_of_mem e z)
  have n2:∀ b ∈ [e,T],NewAt X pins H b:=fun b hb=>by
    rcases List.mem_cons.mp hb with z | z
    · rw [z]; exact ny e List.mem_cons_self
    · rw [show b = T by simpa using z]; exact nT
  show wpAny (model X.prog X.w) X.A (do
    if (← field (.ref e) 1) == .none then unsupported "frame.own-activation:exception-without-traceback"
    setFlight (.ref e) X.env.frame) _ _ { s1 with heap:=h2 }
  obtain ⟨oe,vs,oT,ts,y1,y2,y3,y4,y5,y6,y7,y8⟩:=id x2
  refine wpAny_bind (wpAny_field (s:={ s1 with heap:=h2 }) y1 y3 y4 ?_)
  rw [if_neg (show ¬ (Value.ref T == Value.none) = true by simp)]
  show wpAny (model X.prog X.w) X.A (setFlight (.ref e) X.env.frame) _ _ _
  rw [hfr]
  refine flyTo (s:={ s1 with heap:=h2 }) (l:=X.stack) I2.stack x2 fun h3 st3 x3=>?_
  exact ⟨e,C,a0,[T],pins,σ,H,rfl,I2.excStepY st3 n2,.held x3,n2,q⟩
section
variable {P:Program} {w:World} {K:PySem.W.Frag} {mg:Str→Option Value} {base:Heap} {N:List Str} {qual:Str} {scope:Scope} {f:Addr} {cd:Value} {A:Around} {outer:List Env} {s0:Shared} {H0:Hp} {E:XK}
abbrev cxE (P:Program) (w:World) (K:PySem.W.Frag) (mg:Str→Option Value) (base:Heap) (N:List Str) (qual:Str) (scope:Scope) (f:Addr) (cd:Value) (A:Around) (outer:List Env) (s0:Shared) (H0:Hp) (E:XK):Cx :=
  (cxOf (CX1 P w) P w K mg base N qual scope f cd A outer s0 H0 E).wish (XEof (cxOf (CX1 P w) P w K mg base N qual scope f cd A outer s0 H0 E) s0.heap.objs.size E)
theorem XE_leaves {ev:Value} {s:Shared} (h:XEof (cxOf (CX1 P w) P w K mg base N qual scope f cd A outer s0 H0 E) s0.heap.objs.size E ev s):(cxOf (CX1 P w) P w K mg base N qual scope f cd A outer s0 H0 E).xe ev s:=by
  obtain ⟨e,C,a0,Ts,pins,σ,H,rfl,I,x,ny,q⟩:=h
  have fr1:(cxOf (CX1 P w) P w K mg base N qual scope f cd A outer s0 H0 E).A.frames = some (envOfC qual scope s0.heap.objs.size f cd :: outer):=I.ok.frames
  have hL:(envOfC qual scope s0.heap.objs.size f cd).frame = some s0.heap.objs.size:=rfl
  show wpAny (model P w) _ (leaving (envOfC qual scope s0.heap.objs.size f cd) (.ref e)) _ _ s
  unfold leaving
  refine wpAny_bind (note fr1 I.stack hL x fun h2 T st x2 hT=>?_)
  have I2:=I.excStepY st ny
  have nT:NewAt (cxOf (CX1 P w) P w K mg base N qual scope f cd A outer s0 H0 E) pins H T:=by
    rcases hT with z | z
    · exact I.newAt rfl z
    · exact ny T (List.mem_cons_of_mem e z)
  have ne:=ny e List.mem_cons_self
  have n2:∀ b ∈ [e,T],NewAt (cxOf (CX1 P w) P w K mg base N qual scope f cd A outer s0 H0 E) pins H b:=fun b hb=>by
    rcases List.mem_cons.mp hb with z | z
    · rw [z]; exact ne
    · rw [show b = T by simpa using z]; exact nT
  refine flyTo (s:={ s with heap:=h2 }) (l:=envOfC qual scope s0.heap.objs.size f cd :: outer) I2.stack x2 fun h3 st3 x3=>?_
  refine ⟨e,T,C,a0,H,rfl,I2.os,I2.bare,I2.base.stp st3 (fun b o q hb=>?_) (fun b hb=>?_) (fun b hb=>(n2 b hb).ent),I2.hok.stp st3 I2.stkFree (fun b hb=>(n2 b hb).unt),x3,ne.ent,nT.ent,ne.unt,nT.unt,q⟩
  · rcases List.mem_cons.mp (I2.stkSub b hb) with z | z
    · exact absurd (Nat.lt_of_lt_of_le (Heap.lt_size q) I2.ok.above) (by rw [z]; exact Nat.lt_irrefl _)
    · exact z
  · show b ∈ frs (envOfC qual scope s0.heap.objs.size f cd :: outer)
    unfold frs
    rw [List.filterMap_cons]
    exact List.mem_cons_of_mem _ hb
theorem PSs.leaves {st:List Stmt} {t:TS} (h:PSs (cxE P w K mg base N qual scope f cd A outer s0 H0 E) st t):PSs (cxOf (CX1 P w) P w K mg base N qual scope f cd A outer s0 H0 E) st t:=fun pins s σ H D I hw =>
  wpAny_mono (h pins s σ H D (I.wish _) hw) (fun _ _ q=>q.unwish) fun _ _ z=>XE_leaves z
theorem Fun.okE {x:Str} {st:Stmt} {fd:FuncData} {ps:List Str} {k:Nat} {sp:Sp} (F:Fun K x qual st f fd) (S:FnScope N ps (defScope st)) (len:∀ vs H Q E,sp vs H Q E→vs.length = ps.length)
    (hbody:∀ (cdv:Value) (A:Around) (outer:List Env) (s:Shared) (H:Hp) (vs:List V) (Q:VK) (E:XK),Room k (A.deeper (envOfC qual (defScope st) s.heap.objs.size f cdv))→sp vs H Q E →
      ∃ t,PSs (cxE P w K mg base N qual (defScope st) f cdv A outer s H E) (defBody st) t∧t { nx:=fun _ H'=>Q .non H',rt:=Q } (start N vs) H):FnOk P w K mg base (CX1 P w) (k + 1) f fd ps sp:=by
  obtain ⟨oc,od,kV,doc,pm,an,cdv,ct,osl,rfl,lk,hcd⟩:=F.ex
  refine fn_of lk hcd S len fun A outer s H vs Q E hr hsp=>?_
  obtain ⟨t,h,q⟩:=hbody cdv A outer s H vs Q E hr hsp
  exact ⟨t,h.leaves,q⟩
theorem ps_raiseE {x:Str} {C:Addr} {np cpos pos:Pos} {e₀:Expr} {es:List Expr} {t:TA} (X:ExcCls K C) (hd:A.handled = none) (hg:Gl (cxE P w K mg base N qual scope f cd A outer s0 H0 E) x) (hm:mg x = some (.ref C))
    (ha:PA (cxE P w K mg base N qual scope f cd A outer s0 H0 E) (e₀ :: es) t) (hdb:(x == ("__debug__" : Str)) = false:=by decide)
    (he:starEach (e₀ :: es) (envOfC qual scope s0.heap.objs.size f cd) = (false,eval e₀ (envOfC qual scope s0.heap.objs.size f cd)) :: starEach es (envOfC qual scope s0.heap.objs.size f cd):=by rfl)
    (hpl:(backTo cpos (starEach es (envOfC qual scope s0.heap.objs.size f cd))).any (·.1) = false:=by rfl) :
    PS (cxE P w K mg base N qual scope f cd A outer s0 H0 E) (.Raise (some (.Call (.Name x np) (e₀ :: es) [] cpos)) none pos) (tRaise C E t):=by
  intro pins s σ H D I h
  obtain ⟨bmB,bmN,newId,B,Bn,nid,initId,inN,hx,F1,F2,F3⟩:=X.ex
  obtain ⟨bm,N',nm,q,bs,hdct,sn,sub,ab,col,dd,k0,k1,k2,k3,k5,mN,o1,o2,o3,o4⟩:=ExcCls.obj I.ok.mod.kin hx
  refine wpAny_Raise_call_subU (C:=C) (nm:=nm) (q:=q) (N:=N') (bs:=bs) (bm:=bm) (hdct:=hdct) (sn:=sn) (sub:=sub) (ab:=ab) (col:=col) (dd:=dd) (k0:=k0) (k1:=k1) (k2:=k2) (k3:=k3) (k5:=k5) F1 F2 F3 (OwnTail.hasType o4 F3.hasBase) hd (by
    show (backTo cpos (starEach (e₀ :: es) (envOfC qual scope s0.heap.objs.size f cd))).any (·.1) = false
    rw [he]
    show (false || (backTo cpos (starEach es (envOfC qual scope s0.heap.objs.size f cd))).any (·.1)) = false
    rw [hpl]; rfl) (mN:=mN) o3 (ld_glob I hg hm ⟨rfl,?_⟩ hdb)
  show wpAny _ _ (evalArgs (.ref C) true (backTo cpos (starEach (e₀ :: es) (envOfC qual scope s0.heap.objs.size f cd))) []) _ _ s
  rw [he]
  refine Calls.evalArgs_plain ?_
  have z:wpAny (model P w) (cxE P w K mg base N qual scope f cd A outer s0 H0 E).A (spliced (backTo cpos (starEach (e₀ :: es) (envOfC qual scope s0.heap.objs.size f cd)))) _ _ s:=ha cpos pins s σ H _ I h
  rw [he] at z
  refine thn z fun us s2 ⟨vs,H2,I2,r,hl,q2⟩=>⟨rfl,by rw [← r.length]; exact hl,?_⟩
  refine ⟨I2.bk C _ o1,?_,o4.keeps I2.bk,fun h' e m=>?_⟩
  · obtain ⟨o,es',ep,g1,g2⟩:=o2
    exact ⟨o,es',ep,I2.bk _ _ g1,g2⟩
  · have J:=I2.unwish
    obtain ⟨t',he',_,_⟩:=m.there
    refine ⟨e,C,.ref t',[],pins,σ,H2,rfl,J.kept (t':=s2.toks) m.keeps,.fresh he' rfl rfl rfl rfl,fun b hb=>?_,q2⟩
    rw [show b = e by simpa using hb]
    exact J.newAt rfl m.new
theorem passE:Passes (CX1 P w) (cxE P w K mg base N qual scope f cd A outer s0 H0 E) E:=fun pins σ H s ev s' I h=>by
  obtain ⟨e,T,C,a0,H',rfl,J,x,ne,nT,q⟩:=(I.unwish).afterX (EX:=fun C H'=>E (.ref C) none H') rfl (fun _ _ z=>z) h
  refine ⟨e,C,a0,[T],pins,σ,H',rfl,J,.fly x,fun b hb=>?_,q⟩
  rcases List.mem_cons.mp hb with z | z
  · rw [z]; exact ne
  · rw [show b = T by simpa using z]; exact nT
end
end L2
namespace L2
open PySem PySem.Spec PyProof.Rows
section
variable {X:Cx}
def rIndex (K:PySem.W.Frag):V→List V→Hp→VK→Prop:=fun x vs H Q=>∃ (p:Addr) (xs:List V) (y z:V) (j:Nat),x = .ref p∧vs = [y]∧SqL K H p xs∧flatV y = true∧xs.all flatV = true∧xs[j]? = some z∧eqV z y = true∧(∀ (m:Nat) (u:V),m < j→xs[m]? = some u→eqV u y = false)∧Q (.int j) H
theorem call_len_setO:CallR X (.builtin "len") (fun xs H Q=>∃ (l:Addr) (zs:List Str),xs = [.ref l]∧H l = some (SetO X.prog X.w l zs)∧zs.length ≤ 1000∧Q (.int ((cntK zs zs.length:Nat):Int)) H):=by
  intro pins s σ H xs us Q I r h
  obtain ⟨l,zs,rfl,e,hz,q⟩:=h
  obtain ⟨u,rfl,ru⟩:=r.one
  obtain rfl:u = Value.ref l:=ru
  obtain ⟨⟨o,es,ep,t,g1,g2,g3,_,_,_,g4,g5⟩,_,_⟩:=I.hok l _ e
  have le:=cntK_le zs zs.length
  refine call_len_set g1 g2 g3 g4 (by rw [g5]; omega) ⟨.int _,H,I.tok _,⟨_,rfl⟩,?_⟩
  rw [g5]; exact q
end
def tFnE (sp:Sp) (E:XK) (t:TA):TE:=fun σ H Q=>t σ H fun vs H1=>sp vs H1 Q E
def tMtE (C:Addr) (m:Str) (sp:Sp) (E:XK) (ta:TE) (t:TA):TE:=fun σ H Q=>ta σ H fun x H1=>∃ a dx fs,x = .ref a∧H1 a = some (.ins C dx fs)∧fs.lookup m = none∧t σ H1 fun vs H2=>sp (x :: vs) H2 Q E
def tMkE (C:Addr) (sp:Sp) (E:XK) (t:TA):TE:=fun σ H Q=>t σ H fun vs H1=>∀ x dx,H1 x = none→H1 dx = none→dx ≠ x →
  sp (.ref x :: vs) (upd (upd H1 dx (.own x)) x (.ins C dx [])) (fun v H2=>v = .non∧Q (.ref x) H2) E
section
variable {X:Cx} {k:Nat} {f C:Addr} {fd:FuncData} {ps:List Str} {sp:Sp} {x m:Str} {p np pos apos:Pos} {e o:Expr} {es:List Expr} {ta:TE} {t:TA} {E:XK}
theorem pe_fnE (M:CalleeX X.prog X.w X.K X.mg X.base k x ps sp) (hx:Passes (CX1 X.prog X.w) X E) (hr:Room k X.A) (hg:Gl X x) (ha:PA X (e :: es) t) (hdb:(x == ("__debug__" : Str)) = false:=by decide)
    (he:starEach (e :: es) X.env = (false,eval e X.env) :: starEach es X.env:=by rfl) (hpl:(backTo pos (starEach es X.env)).any (·.1) = false:=by rfl):PE X (.Call (.Name x p) (e :: es) [] pos) (tFnE sp E t):=by
  obtain ⟨f,fd,F,b,kk,hm⟩:=M
  intro pins s σ H Q I h
  refine wpAny_Call_Name_kw (ld_glob I hg hm ?_ hdb)
  refine PySem.W.callWith_K (h₀:=X.base) I.ok.mod.kin kk (thn (ha pos pins s σ H _ I h) fun us s1 ⟨vs,H1,I1,r,q⟩=>⟨I1.kIn,run0 F hr b hx I1 r q⟩) he hpl
end
end L2
namespace L2
open PySem PySem.Spec PyProof.Rows
section
variable {X:Cx}
end
def SetI (P:Program) (w:World) (a:Addr) (ns:List Int):HO:=.ext fun h=>h.SetOf (intKind P w) a (fun z=>decide (z ∈ ns)) (cntK ns ns.length)
section
variable {X:Cx}
end
end L2
namespace L2
open PySem PySem.Spec PyProof.Rows
section
variable {X:Cx}
def rUpper:V→List V→Hp→VK→Prop:=fun x vs H Q=>∃ z:Str,x = .str z∧vs = []∧z.length ≤ 1000∧Q (.str (Txt.upper z)) H
end
end L2
namespace L2
open PySem PySem.Spec PyProof.Rows
def TyG (K:PySem.W.Frag) (H:Hp) (x:V) (t:Value):Prop:=TyOf K H x t∨∃ a ys,x = .ref a∧SqT K H a ys∧t = .type "tuple"
inductive ClV:V→Value→Prop where
  | ty (T:String):ClV (.ty T) (.type T)
  | ref (C:Addr):ClV (.ref C) (.ref C)
section
variable {X:Cx}
theorem call_isiG:CallR X (.builtin "isinstance") (fun xs H Q=>∃ x c cv t b,xs = [x,c]∧ClV c cv∧TyG X.K H x t∧PySem.W.kitOne X.K t cv = some b∧Q (.bl b) H):=by
  intro pins s σ H xs us Q I r h
  obtain ⟨x,c,cv,t,b,rfl,rc,ty,e,q⟩:=h
  cases r with
  | cons rx r2 =>
    cases r2 with
    | @cons _ cu _ _ ry r3 =>
      cases r3
      have ec:cu = cv:=by cases rc <;> exact ry
      subst ec
      rcases ty with ty | ⟨a,ys,rfl,hS,rfl⟩
      · exact isinst_ok I rx ty e fun tk=>⟨.bl b,H,I.tok tk,rfl,q⟩
      · cases (show _ = Value.ref a from rx)
        obtain ⟨its,r,⟨o,h1,h2,_⟩,_⟩:=I.tuple hS
        exact PySem.W.kia_one PySem.W.kitx_tuple I.kIn ⟨o,h1,h2⟩ e (fun z=>nomatch z) fun tk=>⟨.bl b,H,I.tok tk,rfl,q⟩
end
structure InsT (K:PySem.W.Frag) (C:Addr):Prop where
  cl:Cls K C
  ha:PySem.W.findIn K (.ref C) "__class__" = some (some (.builtin "object.__class__"))
  hn:PySem.W.specialIn K (.builtin "object.__class__") "__get__" = some (some (.builtin "getset_descriptor.__get__"))
  tk:PySem.W.takesIn K (.builtin "object.__class__") = some true
  hm:PySem.W.mroIn K C (.type "object") = some true
theorem InsT.ty {K:PySem.W.Frag} {C:Addr} (h:InsT K C) {H:Hp} {a dx:Addr} {fs:List (Str × V)} (e:H a = some (.ins C dx fs)):TyG K H (.ref a) (.ref C):=.inl (.ins e h.cl h.ha h.hn h.tk h.hm)
def PolM (CX:CXT) (P:Program) (w:World) (K:PySem.W.Frag) (mg:Str→Option Value) (base:Heap) (k:Nat) (m:Str) (ps:List Str) (cs:List (Addr × Sp)):Prop :=
  ∀ p ∈ cs,MCallee CX P w K mg base k p.1 m ps p.2∧Cls K p.1
section
variable {CX:CXT} {P:Program} {w:World} {K:PySem.W.Frag} {mg:Str→Option Value} {base:Heap} {k:Nat} {C:Addr} {m:Str} {ps:List Str} {sp:Sp} {cs:List (Addr × Sp)}
theorem poln:PolM CX P w K mg base k m ps []:=fun _ h=>nomatch h
theorem polc (M:MCallee CX P w K mg base k C m ps sp) (c:Cls K C) (r:PolM CX P w K mg base k m ps cs):PolM CX P w K mg base k m ps ((C,sp) :: cs):=fun p h=>by
  rcases List.mem_cons.mp h with rfl | h
  · exact ⟨M,c⟩
  · exact r p h
end
def tMtP (cs:List (Addr × Sp)) (m:Str) (ta:TE) (t:TA):TE:=fun σ H Q=>ta σ H fun x H1=>∃ a p dx fs,x = .ref a∧p ∈ cs∧H1 a = some (.ins p.1 dx fs)∧fs.lookup m = none∧t σ H1 fun vs H2=>p.2 (x :: vs) H2 Q E0
section
variable {X:Cx} {CX:CXT} {k:Nat} {f C:Addr} {fd:FuncData} {ps:List Str} {sp:Sp} {x m:Str} {p np pos apos:Pos} {e o:Expr} {es:List Expr} {ta:TE} {t:TA} {cs:List (Addr × Sp)}
theorem pe_mtP {pl:Sem Bool} (M:PolM CX X.prog X.w X.K X.mg X.base k m ps cs) (hx:Passes CX X E0) (hr:Room k X.A) (he:PE X o ta) (ha:PA X (e :: es) t)
    (hst:starEach (e :: es) X.env = (false,eval e X.env) :: starEach es X.env:=by rfl) (hpl:(backTo pos (starEach es X.env)).any (·.1) = false:=by rfl)
    (ht:eval (.Call (.Attribute o m apos) (e :: es) [] pos) X.env = (do
      let ov ← eval o X.env
      standAt apos.atName
      let (f,first) ← holding [ov] (getMethod ov m pl)
      callWith pos f first (backTo pos (starEach (e :: es) X.env)) (backToKw pos (keywordEach [] X.env))):=by rfl) :
    PE X (.Call (.Attribute o m apos) (e :: es) [] pos) (tMtP cs m ta t):=by
  intro pins s σ H Q I h
  refine PySem.W.methodCall_KW (pl:=pl) (thn (he pins s σ H _ I h) fun u s1 ⟨x,H1,I1,rx,a,p,dx,fs,ex,hp,ea,l,q⟩=>?_) ht
  obtain ⟨⟨f,fd,hm,F,hb⟩,c⟩:=M p hp
  subst ex
  obtain rfl:u = Value.ref a:=rx
  refine getmeth_ok I1 ea c hm l ?_
  refine PySem.W.callWith_K (first:=[.ref a]) (h₀:=X.base) I.ok.mod.kin hm.kp (thn (ha pos pins s1 σ H1 _ I1 q) fun us s2 ⟨vs,H2,I2,r,q2⟩=>⟨I2.kIn,?_⟩) hst hpl
  exact run0 (us:=.ref a :: us) (vs:=.ref a :: vs) F hr hb hx I2 (.cons rfl r) q2
theorem pe_mk0 (M:MkCallee CX X.prog X.w X.K X.mg X.base k x C ps sp) (hx:Passes CX X E0) (hr:Room (k + 1) X.A) (hg:Gl X x) (hdb:(x == ("__debug__" : Str)) = false:=by decide) :
    PE X (.Call (.Name x p) [] [] pos) (tMk C sp tNil):=by
  obtain ⟨f,fd,M,F,hb,hm⟩:=M
  have h:=pe_make0 (E:=E0) (dvs:=[]) (ds:=[]) (p:=p) (pos:=pos) M F hr hg hm hb .nil hx hdb
  intro pins s σ H Q I q
  exact h pins s σ H Q I q
end
def ModT (K:PySem.W.Frag) (a:Addr) (xs:List V):Prop:=∃ (o:Obj) (its:Array Value) (n:Nat),K.lookup a = some o∧o.cls = .type "tuple" ∧ o.data = .seq its n∧its.size ≤ sizeLine∧Vals xs its.toList
end L2
namespace L2
open PySem PySem.Spec PyProof.Rows
theorem rEqL_same {K:PySem.W.Frag} {H:Hp} {Q:VK} {a b:Addr} {xs:List V} (ha:SqL K H a xs) (hb:SqL K H b xs) (fl:∀ x ∈ xs,flatV x = true∨∃ r,x = .ref r) (q:Q (.bl true) H):rEqL K false (.ref a) (.ref b) H Q:=by
  refine ⟨a,b,xs,xs,rfl,rfl,ha,hb,.inr ⟨rfl,fun _=>true,fun j x y e1 e2=>?_,?_⟩⟩
  · rw [e1] at e2; cases e2
    rcases fl x (List.mem_of_getElem? e1) with z | ⟨r,rfl⟩
    · have:=EqI.flat (K:=K) (H:=H) z z
      rw [eqV_refl z] at this
      exact this
    · exact .same r
  · have:(List.range xs.length).all (fun _=>true) = true:=by simp
    rw [this]
    exact q
theorem iteTS {c A B:Prop} [Decidable c] (hc:c) (h:A):if decide c = true then A else B:=by rw [if_pos (decide_eq_true hc)]; exact h
theorem iteFS {c A B:Prop} [Decidable c] (hc:¬ c) (h:B):if decide c = true then A else B:=by rw [if_neg (by rw [decide_eq_false hc]; decide)]; exact h
end L2
namespace L2
open PySem PySem.Spec PyProof.Rows
section
variable {X:Cx} {pins:List (Addr × Obj)} {σ:St} {H:Hp} {s:Shared} {h' : Heap}
theorem Inv.turnedPair {ch:List Addr} {T:Addr} {x y:V} {u v:Value} (I:Inv X pins σ H s) (hf:∀ b ∈ ch,FpOk X pins H b) (k:∀ b o,b ∉ ch→s.heap.get? b = some o→h'.get? b = some o)
    (nT:s.heap.get? T = none) (hT:H T = none) (gT:IsPair h' T u v) (rx:RelV x u) (ry:RelV y v):Inv X pins σ (upd H T (.tup [x,y])) { s with heap:=h' }:=by
  have out:∀ b u,H b = some u→b ∉ ch:=fun b u e z=>by
    have f:=(hf b z).1
    rw [f] at e
    cases e
  have neT:∀ {b o},s.heap.get? b = some o→b ≠ T:=fun e z=>by rw [z,nT] at e; cases e
  have neH:∀ {b u},H b = some u→b ≠ T:=fun e z=>by rw [z,hT] at e; cases e
  have J:=Inv.step (H':=upd H T (.tup [x,y])) (h':=h') (g':=s.gens) (d':=s.drawn) (t':=s.toks) (ch:=ch) I
    (fun b hb=>by obtain ⟨_,f1,_,f3,f4,f5⟩:=hf b hb; exact ⟨f3,f1,f4,f5⟩)
    (fun b o _ _ hc e _=>k b o hc e)
    (fun b o _ _ hc e _=>⟨o.slots,k b o hc e⟩)
    (fun b o _ e n=>by rw [upd_ne (neT e)]; exact n)
    (fun b o hc e=>⟨o,k b o hc e⟩)
    (fun b xs e=>by rw [upd_ne (neH e)]; exact e)
    (fun b o w e=>by rw [upd_ne (neH e)]; exact e)
    (fun b ps e=>⟨#[],by rw [upd_ne (neH e),e]; simp⟩)
    (fun m hm=>by
      obtain ⟨o,es,ep,ho,r⟩:=hm
      refine ⟨o,es,ep,k _ o (fun z=>?_) ho,r⟩
      obtain ⟨_,f1,_⟩:=hf _ z
      exact f1 rfl)
    (fun b w e=>by
      by_cases hb:b = T
      · subst hb
        rw [upd_same] at e
        cases e
        exact ⟨by show 2 ≤ sizeLine; decide,[u,v],.cons rx (.cons ry .nil),_,gT,rfl,_,rfl⟩
      · rw [upd_ne hb] at e
        refine (I.hok b w e).stay (fun c z hc q=>k c z ?_ q) (fun c q=>?_) fun c xs q=>?_
        · rcases hc with z | z
          · rw [z]; exact out b w e
          · exact out c _ z
        · rw [upd_ne (neH q)]; exact q
        · rw [upd_ne (neH q)]; exact q)
    I.bare
  exact J
theorem Inv.turnedL {ch:List Addr} (I:Inv X pins σ H s) (hf:∀ b ∈ ch,FpOk X pins H b) (k:∀ b o,b ∉ ch→s.heap.get? b = some o→h'.get? b = some o):Inv X pins σ H { s with heap:=h' }:=by
  have out:∀ b u,H b = some u→b ∉ ch:=fun b u e z=>by
    have f:=(hf b z).1
    rw [f] at e
    cases e
  have J:=Inv.step (H':=H) (h':=h') (g':=s.gens) (d':=s.drawn) (t':=s.toks) (ch:=ch) I
    (fun b hb=>by obtain ⟨_,f1,_,f3,f4,f5⟩:=hf b hb; exact ⟨f3,f1,f4,f5⟩)
    (fun b o _ _ hc e _=>k b o hc e)
    (fun b o _ _ hc e _=>⟨o.slots,k b o hc e⟩)
    (fun b o _ _ n=>n)
    (fun b o hc e=>⟨o,k b o hc e⟩)
    (fun b xs e=>e) (fun b o w e=>e) (fun b ps e=>⟨#[],by rw [e]; simp⟩)
    (fun m hm=>by
      obtain ⟨o,es,ep,ho,r⟩:=hm
      refine ⟨o,es,ep,k _ o (fun z=>?_) ho,r⟩
      obtain ⟨_,f1,_⟩:=hf _ z
      exact f1 rfl)
    (fun b w e=>by
      refine (I.hok b w e).stay (fun c z hc q=>k c z ?_ q) (fun c q=>q) fun c xs q=>q
      rcases hc with z | z
      · rw [z]; exact out b w e
      · exact out c _ z)
    I.bare
  exact J
end
def Itz (K:PySem.W.Frag) (a b:Addr):It :=
  ⟨fun i H=>∃ xs ys x y,SqL K H a xs∧SqL K H b ys∧xs[i]? = some x∧ys[i]? = some y,
   fun i H v H'=>∃ T,H T = none∧v = .ref T∧∀ xs ys x y,SqL K H a xs→SqL K H b ys→xs[i]? = some x→ys[i]? = some y→H' = upd H T (.tup [x,y]),
   fun i H=>∃ xs ys,SqL K H a xs∧SqL K H b ys∧(xs.length ≤ i∨ys.length ≤ i)⟩
def ZipSt (z TI TO i1 i2 a b:Addr) (i:Nat) (h:Heap):Prop:=IsZip h z TI TO .none∧IsPair h TI (.ref i1) (.ref i2)∧(∃ p q,IsPair h TO p q)∧h.IsListIter i1 a i∧h.IsListIter i2 b i
theorem turn_zip {P:Program} {w:World} {K:PySem.W.Frag} {elts:List Expr} {x1} {tp:Pos} {z TI TO i1 i2 a b:Addr} (D:ZipApart z TI TO i1 i2 a b) :
    Turn P w K (.Tuple elts x1 tp) (Itz K a b) [z,TI,TO,i1,i2] z (ZipSt z TI TO i1 i2 a b) where
  mem:=by simp
  obj:=fun i h st c hc=>by
    obtain ⟨g1,g2,⟨p,q,g3⟩,⟨o4,g4,_,d4⟩,⟨o5,g5,_,d5⟩⟩:=st
    simp only [List.mem_cons,List.not_mem_nil,or_false] at hc
    rcases hc with rfl | rfl | rfl | rfl | rfl
    · exact ⟨_,g1,fun v q=>nomatch q⟩
    · exact ⟨_,g2,fun v q=>nomatch q⟩
    · exact ⟨_,g3,fun v q=>nomatch q⟩
    · exact ⟨_,g4,fun v q=>by rw [d4] at q; cases q⟩
    · exact ⟨_,g5,fun v q=>by rw [d5] at q; cases q⟩
  keep:=fun i h h' st k=>by
    obtain ⟨g1,g2,⟨p,q,g3⟩,g4,g5⟩:=st
    exact ⟨k z (by simp) _ g1,k TI (by simp) _ g2,⟨p,q,k TO (by simp) _ g3⟩,g4.at fun o e=>k i1 (by simp) o e,g5.at fun o e=>k i2 (by simp) o e⟩
  item:=by
    intro X hP hw hK hc i pins s σ H E I hf st hg
    subst hP hw hK
    obtain ⟨xs,ys,x,y,qa,qb,ex,ey⟩:=hg
    obtain ⟨g1,g2,⟨p,q,g3⟩,g4,g5⟩:=st
    obtain ⟨us,ru,pu,_⟩:=I.list qa
    obtain ⟨vs,rv,pv,_⟩:=I.list qb
    obtain ⟨u,eu,r1⟩:=ru.get ex
    obtain ⟨v,ev,r2⟩:=rv.get ey
    refine wpAny_pyNext_zip_item D g1 g2 g3 g4 g5 pu.isList pv.isList (x:=u) (y:=v) (by simpa using eu) (by simpa using ev) fun h1 a1 a2 a3 a4 a5 a6 a7=>?_
    refine ⟨_,rfl,wpAny_letOwnedTupleGo_zip (s:={ s with heap:=h1 }) a1 fun h2 b1 b2=>?_⟩
    have nT:s.heap.get? s.heap.objs.size = none:=by
      cases q:s.heap.get? s.heap.objs.size with
      | none=>rfl
      | some o=>exact absurd (Heap.lt_size q) (Nat.lt_irrefl _)
    have hT:H s.heap.objs.size = none:=I.hok.fresh (Nat.le_refl _)
    have nz:s.heap.objs.size ≠ z:=Nat.ne_of_gt (Heap.lt_size g1)
    have kk:∀ c o,c ∉ [z,TO,i1,i2]→s.heap.get? c = some o→h2.get? c = some o:=fun c o hc e=>by
      simp only [List.mem_cons,List.not_mem_nil,or_false,not_or] at hc
      exact b2.extBut _ _ hc.1 (a7 c o hc.1 hc.2.1 hc.2.2.1 hc.2.2.2 e)
    have J:=I.turnedPair (h':=h2) (ch:=[z,TO,i1,i2]) (T:=s.heap.objs.size) (x:=x) (y:=y) (u:=u) (v:=v) (fun c hc=>hf c (by simp at hc ⊢; rcases hc with e | e | e | e <;> simp [e])) kk nT hT (b2.extBut _ _ nz a5) r1 r2
    refine ⟨.ref s.heap.objs.size,upd H s.heap.objs.size (.tup [x,y]),J,rfl,⟨_,hT,rfl,fun xs' ys' x' y' q1 q2 e1 e2=>?_⟩,⟨b1,b2.extBut _ _ D.TIz (a7 TI _ D.TIz D.TITO D.TIi1 D.TIi2 g2),⟨_,_,b2.extBut _ _ D.TOz a2⟩,a3.extBut b2.extBut D.i1z,a4.extBut b2.extBut D.i2z⟩,fun c hc=>?_⟩
    · rw [I.list_inj q1 qa] at e1
      rw [I.list_inj q2 qb] at e2
      rw [ex] at e1; rw [ey] at e2
      cases e1; cases e2
      rfl
    · have h0:=(hf c hc).1
      have:c ≠ s.heap.objs.size:=by
        obtain ⟨o4,g4',_⟩:=g4
        obtain ⟨o5,g5',_⟩:=g5
        simp only [List.mem_cons,List.not_mem_nil,or_false] at hc
        rcases hc with rfl | rfl | rfl | rfl | rfl
        · exact nz.symm
        · exact Nat.ne_of_lt (Heap.lt_size g2)
        · exact Nat.ne_of_lt (Heap.lt_size g3)
        · exact Nat.ne_of_lt (Heap.lt_size g4')
        · exact Nat.ne_of_lt (Heap.lt_size g5')
      rw [upd_ne this]; exact h0
  done:=by
    intro X hP hw hK hc i pins s σ H E I hf st hg
    subst hP hw hK
    obtain ⟨xs,ys,qa,qb,hl⟩:=hg
    obtain ⟨g1,g2,⟨p,q,g3⟩,g4,g5⟩:=st
    obtain ⟨us,ru,pu,_⟩:=I.list qa
    obtain ⟨vs,rv,pv,_⟩:=I.list qb
    have l1:=ru.length
    have l2:=rv.length
    refine wpAny_pyNext_zip_end (I.ok.hd hc) D g1 g2 g3 g4 g5 pu.isList pv.isList ?_ fun h2 k=>⟨rfl,I.turnedL (ch:=[z,TO,i1,i2]) (fun c hc=>hf c (by simp at hc ⊢; rcases hc with e | e | e | e <;> simp [e])) fun c o hc e=>?_⟩
    · rcases hl with hl | hl
      · exact .inl (by simp; omega)
      · exact .inr (by simp; omega)
    · simp only [List.mem_cons,List.not_mem_nil,or_false,not_or] at hc
      exact k c o hc.1 hc.2.1 hc.2.2.1 hc.2.2.2 e
  self:=fun _ _ _ _ _ st h=>wpAny_pyIter_zip st.1 h
def iZip (K:PySem.W.Frag) (ta:TA):TI:=fun σ H R=>ta σ H fun vs H1=>∃ a b,vs = [.ref a,.ref b]∧(∃ xs,SqL K H1 a xs)∧(∃ ys,SqL K H1 b ys)∧R (Itz K a b) H1
section
variable {X:Cx}
theorem pi_zip {e1 e2:Expr} {ta:TA} {p pos:Pos} {elts:List Expr} {x1} {tp:Pos} (hg:Gl X "zip") (hm:X.mg "zip" = none) (ha:PA X [e1,e2] ta)
    (hs:starEach [e1,e2] X.env = [(false,eval e1 X.env),(false,eval e2 X.env)]:=by rfl) (hs2:starEach [e2] X.env = [(false,eval e2 X.env)]:=by rfl) :
    PI X (.Tuple elts x1 tp) (.Call (.Name "zip" p) [e1,e2] [] pos) (iZip X.K ta):=by
  intro pins s σ H R I h
  refine Call_ (ld_blt I hg hm PyProof.Rows.boot_zip (PyProof.Rows.callWith_type1 (thn (ha pos pins s σ H _ I h) fun us s1 ⟨vs,H1,I1,r1,q1⟩=>?_) (by rw [hs,hs2]) (by rw [hs2]; rfl)))
  obtain ⟨a,b,rfl,⟨xs,qa⟩,⟨ys,qb⟩,q⟩:=q1
  obtain ⟨u,v,rfl,ru,rv⟩:=r1.two
  cases (show u = Value.ref a from ru)
  cases (show v = Value.ref b from rv)
  obtain ⟨us,_,pu,_⟩:=I1.list qa
  obtain ⟨vs,_,pv,_⟩:=I1.list qb
  obtain ⟨oa,ea,_⟩:=id pu.isList
  obtain ⟨ob,eb,_⟩:=id pv.isList
  have la:a < s1.heap.objs.size:=Heap.lt_size ea
  have lb:b < s1.heap.objs.size:=Heap.lt_size eb
  refine call_zip_2 pu.isList pv.isList fun h' z1 z2 z3 z4 z5 z6 z7=>?_
  refine wpAny_pyIter_zip (s:={ s1 with heap:=h' }) z1 ?_
  refine ⟨s1.heap.objs.size + 4,[s1.heap.objs.size + 4,s1.heap.objs.size + 2,s1.heap.objs.size + 3,s1.heap.objs.size,s1.heap.objs.size + 1],ZipSt (s1.heap.objs.size + 4) (s1.heap.objs.size + 2) (s1.heap.objs.size + 3) s1.heap.objs.size (s1.heap.objs.size + 1) a b,Itz X.K a b,H1,rfl,I1.kept (t':=s1.toks) z7,turn_zip ?_,⟨z1,z2,⟨_,_,z3⟩,z4,z5⟩,fun c hc=>?_,q⟩
  · refine ⟨?_,?_,?_,?_,?_,?_,?_,?_,?_,?_,?_,?_,?_,?_,?_,?_,?_,?_⟩ <;> first | exact Nat.ne_of_lt (by omega) | exact Nat.ne_of_gt (by omega) | exact Nat.ne_of_lt la | exact Nat.ne_of_lt lb | exact Nat.ne_of_lt (Nat.lt_of_lt_of_le la (Nat.le_add_right _ _)) | exact Nat.ne_of_lt (Nat.lt_of_lt_of_le lb (Nat.le_add_right _ _))
  · have hc' : s1.heap.objs.size ≤ c:=by
      simp only [List.mem_cons,List.not_mem_nil,or_false] at hc
      rcases hc with rfl | rfl | rfl | rfl | rfl <;> omega
    exact I1.fpOk hc' (I1.hok.fresh hc')
end
theorem for_zip {K:PySem.W.Frag} {a b:Addr} {xs ys:List V} {g:TG} {tb:TS} {D:Ends} {σ:St} {H:Hp} (Pv:Nat→St→Hp→Prop) (h0:Pv 0 σ H) (hl:∀ i σ H,Pv i σ H→SqL K H a xs∧SqL K H b ys)
    (hs:∀ i x y σ H T,xs[i]? = some x→ys[i]? = some y→Pv i σ H→H T = none→g (.ref T) σ (upd H T (.tup [x,y])) fun σ2 H2=>tb { D with nx:=Pv (i + 1),ct:=Pv (i + 1),bk:=D.nx } σ2 H2)
    (hd:∀ σ H,Pv (min xs.length ys.length) σ H→D.nx σ H) :
    ∃ W:Nat→Nat→St→Hp→Prop,(∃ m,W 0 m σ H)∧∀ i m σ H,W i m σ H →
      ((Itz K a b).stop i H∧D.nx σ H)∨((Itz K a b).go i H∧∃ N:St→Hp→Prop,(∀ σ' H',N σ' H'→∃ m',m' < m∧W (i + 1) m' σ' H')∧∀ x H',(Itz K a b).yld i H x H'→g x σ H' fun σ2 H2=>tb { D with nx:=N,ct:=N,bk:=D.nx } σ2 H2):=by
  refine ⟨fun i m σ H=>m = min xs.length ys.length - i∧i ≤ min xs.length ys.length∧Pv i σ H,⟨min xs.length ys.length,by simp,Nat.zero_le _,h0⟩,?_⟩
  rintro i m σ H ⟨rfl,hi,p⟩
  obtain ⟨q1,q2⟩:=hl i σ H p
  by_cases lt:i < min xs.length ys.length
  · have e1:xs[i]? = some xs[i]:=List.getElem?_eq_getElem (by omega)
    have e2:ys[i]? = some ys[i]:=List.getElem?_eq_getElem (by omega)
    refine .inr ⟨⟨xs,ys,_,_,q1,q2,e1,e2⟩,Pv (i + 1),fun σ' H' p'=>⟨_,?_,rfl,lt,p'⟩,fun v H' yl=>?_⟩
    · omega
    · obtain ⟨T,hT,rfl,e⟩:=yl
      rw [e xs ys _ _ q1 q2 e1 e2]
      exact hs i _ _ σ H T e1 e2 p hT
  · have e:i = min xs.length ys.length:=by omega
    subst e
    exact .inl ⟨⟨xs,ys,q1,q2,by omega⟩,hd σ H p⟩
end L2
namespace L2
open PySem PySem.Spec PyProof.Rows
section
variable {X:Cx}
end
end L2
namespace L2
open PySem PySem.Spec PyProof.Rows
theorem call_list_ofK {X:Cx} {K:PySem.W.Frag} (h:X.K = K):CallR X (.type "list") (fun xs H Q=>∃ p ys,xs = [.ref p]∧(SqL K H p ys∨SqT K H p ys)∧∀ l,H l = none→Q (.ref l) (upd H l (.lst ys))):=h ▸ call_list_of
end L2
namespace L2
open PySem PySem.Spec PyProof.Rows
def Ite (K:PySem.W.Frag) (a:Addr):It :=
  ⟨fun i H=>∃ xs x,SqL K H a xs∧xs[i]? = some x,
   fun i H v H'=>∃ T,H T = none∧v = .ref T∧∀ xs x,SqL K H a xs→xs[i]? = some x→H' = upd H T (.tup [.int i,x]),
   fun i H=>∃ xs,SqL K H a xs∧xs.length ≤ i⟩
def EnumSt (e it a:Addr) (i:Nat) (h:Heap):Prop:=(∃ old,IsEnum h e it i old)∧h.IsListIter it a i
def iEnum (K:PySem.W.Frag) (ta:TA):TI:=fun σ H R=>ta σ H fun vs H1=>∃ a,vs = [.ref a]∧(∃ xs,SqL K H1 a xs)∧R (Ite K a) H1
section
variable {X:Cx}
end
section
variable {gt:TG} {k:Nat} {fr:List Nat} {tt:TT} {te:TE}
end
section
variable {X:Cx}
theorem pt_truthK {K:PySem.W.Frag} (hK:X.K = K) {a:Expr} {ta:TE} (ha:PE X a ta) (he:∀ whole,isTrue a X.env whole = (do let v ← whole; standAt a.pos; holding [v] (truthy v)):=by intro _; rfl) :
    PT X a (fun σ H Q=>ta σ H fun x H'=>∃ k,TruV K x H' k∧Q k H'):=hK ▸ pt_truth ha he
end
section
variable {X:Cx} {elt iter tg:Expr} {ifs:List Expr} {pos:Pos} {scope:Scope} {cl:List (Str × Addr)} {N:List Str} {k:Nat} {fr:List Nat} {gt:TG} {tt:TT} {te:TE}
theorem ps_compG {wi:TI} {i:Nat} {y:Str} {py spos:Pos} (hN:X.N.Nodup) (hy:X.N[i]? = some y) (hl:Loc X.env.scope y) (hi:PI X tg iter wi) (O:CmpOkG X N k fr scope cl) (hc:X.calm = true) (hg:∀ fp C s H,PG (cmpCx X N scope cl fp C s H) tg gt)
    (ht:∀ fp C s H,PIf (cmpCx X N scope cl fp C s H) ifs tt) (he:∀ fp C s H,PE (cmpCx X N scope cl fp C s H) elt te) (hs:∀ v,foldedSetIterable iter X.env v = pure v:=by intro _; rfl)
    (hsw:swapsWith (.ListComp elt [⟨tg,iter,ifs,0⟩] scope pos) (some (.Name y py)) spos.line X.env = pure true:=by rfl) (hf:X.fn y = true∨X.env.scope.names.lookup y = some .local:=by first | exact .inl rfl | exact .inr rfl | assumption) :
    PS X (.Assign [.Name y py] (.ListComp elt [⟨tg,iter,ifs,0⟩] scope pos) spos) (tAsg (tCompG wi gt k fr tt te) (gName i)):=by
  intro pins s σ H D0 I h
  rw [exec_Assign_Name_used _ _ _ _ hsw]
  refine wpAny_bind (wpAny_standAt (wpAny_bind ?_))
  show wpAny _ X.A (do let _ ← comprehension (.ListComp elt [⟨tg,iter,ifs,0⟩] scope pos) scope X.env _ (newList []) false (eval iter X.env) (some (assign (.Name y py) X.env))) _ _ s
  refine wpAny_bind (wpAny_mono (wpAny_comprehension_free (use:=some (assign (.Name y py) X.env)) (Q:=fun _ s'=>SP X pins D0 .next s') rfl hs O.clos O.kind O.names (thn (hi pins s σ H _ I h) fun v s1 h1=>thn h1 fun itv s2 h2=>?_)) (fun _ s' hq=>wpAny_pure (wpAny_pure hq)) fun _ _ z=>z)
  obtain ⟨it,fp,tn,J,H2,e,I2,T,st2,f2,hW⟩:=h2
  subst e
  refine comp_coreG (Q:=fun v H1=>gName i v σ H1 D0.nx) (RR:=fun acc C=>compPost (model X.prog X.w) X.A X.xe (some (assign (.Name y py) X.env)) (fun _ s'=>SP X pins D0 .next s') acc C) O hc I2 T st2 f2 ht he hg hW fun D C s' H' hC hn ⟨m,hm⟩ I' q=>?_
  show wpAny _ X.A (assign (.Name y py) X.env (.ref D)) _ _ s'
  refine wpAny_assign_Name (store_ok2 I' hN hy hl (v:=.ref D) rfl (fun s3 I3 ⟨a,hsa,ha⟩=>?_) hf)
  have hCa:C ≠ a:=by
    rcases ha with z | z
    · rw [z]; exact Nat.ne_of_gt (Nat.lt_of_lt_of_le I2.lt hC)
    · obtain ⟨v,o,ho,_⟩:=I2.cell y a z
      exact Nat.ne_of_gt (Nat.lt_of_lt_of_le (Heap.lt_size ho) hC)
  exact ⟨m,hm.sameBut hsa hCa,fun h' hs'=>⟨_,H',I2.left I3 hC hn hs',q⟩⟩
end
end L2
namespace L2
open PySem
set_option maxRecDepth 100000
section
variable {prog:Program} {w:World} {A:Around} {E:Value→Shared→Prop} {s:Shared}
end
section
variable {X:Cx}
def tLR (K:PySem.W.Frag) (ta:TA):TE:=fun σ H Q=>ta σ H fun vs H1=>∃ a xs,vs = [.ref a]∧SqL K H1 a xs∧∀ p,H1 p = none→Q (.ref p) (upd H1 p (.lst xs.reverse))
end
end L2
namespace L2
open PySem
end L2
namespace L2
open PySem
section
variable {prog:Program} {w:World} {A:Around} {E:Value→Shared→Prop} {s:Shared}
theorem keys_of_list:typeLookup (.type "list") "keys" = pure none:=by rw [typeLookup_type,builtinLookup_eq_fast]; kernel_rfl
theorem keys_miss {a:Addr} {items:Array Value} {Q:Option Value→Shared→Prop} (hl:s.heap.IsList a items) (hdn:∀ o,s.heap.get? a = some o→o.dict = none) (hA:A.handled = none)
    (h:∀ h' tk,(∀ b o,s.heap.get? b = some o→h'.get? b = some o)→Q none { s with heap:=h',toks:=tk }) :
    wpAny (model prog w) A (getAttr? (.ref a) "keys") Q E s:=by
  obtain ⟨o,hx,hc,k,hdat⟩:=hl
  have hd:=hdn o hx
  obtain ⟨c,dct,dat,sl⟩:=o
  simp only at hc hdat hd
  subst hc hdat hd
  obtain ⟨hp,g,d,tk,os⟩:=s
  have hT:∀ tk',(⟨hp,g,d,tk',os⟩:Shared).TypeIs (.ref a) "list" := fun _=>⟨_,hx,rfl⟩
  have f1:=sub_AttributeError
  have f3:=F.slot_list_getattribute.lookup
  have f4:=F.slot_list_getattribute.bind (.ref a)
  have f5:=am_list_getattr_none
  unfold getAttr? getAttrBy? getAttrBy
  repeat (any_goals (first | assumption | exact hT _ | ((with_reducible show wpAny _ _ (call (Value.builtin "list.__getattribute__") _ _) _ _ _); refine call_meets F.slot_list_getattribute (hT _) am_entry_list_getattribute (F.args_list_getattribute_2 _ _) (meets_getattribute_miss_list a _ k sl "keys" _ keys_of_list (by decide) (by decide)) ⟨hx,hA,fun h' tk' e hx'=>?_⟩) | wp_step))
  obtain ⟨t',u',he⟩:=hx'.there
  show wpAny _ _ (getattributeRaised _ _ _ _ _ _ _) _ _ _
  unfold getattributeRaised
  repeat (any_goals (first | assumption | wp_step))
  exact h _ _ hx'.of.keeps
theorem plain_update_loop:plainId "dict.update.loop" = true:=by decide +kernel
theorem entry_update_loop:entryFor table "dict.update.loop" = some Builtin.«dict.update.loop»:=entryFor_of_fast (by kernel_rfl)
theorem code_update_loop {κ:Type} [DecidableEq κ] {knd:KeyKind prog w κ} {d I ax:Addr} {items:Array Value} {ps:List (κ × Value)} {res:Value} (hh:A.handled = none) (hI:I ≠ ax) (hdI:d ≠ I) (hdx:d ≠ ax) (hps:ps.length = items.size) :
    ∀ (k i:Nat) (s:Shared) (kvs:List (κ × Value)) (t0:Tok) (R:Result→Shared→Prop),items.size - i = k→i ≤ items.size→s.heap.IsListIter I ax i→s.heap.IsList ax items→s.heap.DictOf knd d kvs →
      (∀ (j:Nat) (p:κ × Value),ps[j]? = some p→∃ (t:Addr) (o:Obj) (n:Nat) (key:Value),items[j]? = some (.ref t)∧s.heap.get? t = some o∧o.cls = .type "tuple" ∧ o.data = .seq #[key,p.2] n∧knd.is p.1 key = true∧t ≠ I∧t ≠ d) →
      kvs.length + k ≤ sizeLine →
      (∀ h' tk,h'.DictOf knd d (merged kvs (ps.drop i))→(∀ b o,b ≠ I→b ≠ d→s.heap.get? b = some o→h'.get? b = some o)→R (.ok (.ret res)) { s with heap:=h',toks:=tk }) →
      codeAny (model prog w) A (.builtin "dict.update.loop" ⟨[.ref d,.ref I,.int (i:Int) t0,res],[]⟩) R s:=by
  intro k
  induction k with
  | zero =>
    intro i s kvs t0 R hk hi hit hl hd hT hsz hR
    have hin:i = items.size:=by omega
    refine codeAny_builtin entry_update_loop ?_
    rw [Around.under_plainId plain_update_loop _]
    unfold Builtin.«dict.update.loop»
    show wpAny _ A.in1 (pyNext (.ref I) >>= _) _ _ s
    refine wpAny_bind (wpAny_pyNext_list_end (by simp [hh]) hit hl (by simp [hin]) fun h' he'=>?_)
    show wpAny _ A.in1 (Builtin.Dict.addKeywords d [] >>= _) _ _ _
    refine wpAny_bind (wpAny_pure (wpAny_pure ?_))
    have e:ps.drop i = []:=List.drop_of_length_le (by omega)
    refine hR h' _ ?_ fun b o hb _ e=>he' b o hb e
    rw [e]
    exact hd.extBut he' hdI
  | succ k ih =>
    intro i s kvs t0 R hk hi hit hl hd hT hsz hR
    have hlt:i < items.size:=by omega
    have ep:=List.getElem?_eq_getElem (l:=ps) (i:=i) (by omega)
    obtain ⟨t,o,n,key,e1,e2,e3,e4,e5,e6,e7⟩:=hT i _ ep
    refine codeAny_builtin entry_update_loop ?_
    rw [Around.under_plainId plain_update_loop _]
    unfold Builtin.«dict.update.loop»
    show wpAny _ A.in1 (pyNext (.ref I) >>= _) _ _ s
    refine wpAny_bind (wpAny_pyNext_list_item hit hl e1 fun h' hit' hs'=>?_)
    have et' : h'.get? t = some o:=(hs'.2 t e6).trans e2
    refine wpAny_bind (wpAny_holding ?_)
    refine wpAny_bind (wpAny_tryCatch ?_)
    unfold Builtin.Dict.pairItems
    refine wpAny_bind (wpAny_typeOf (T := "tuple") ⟨o,et',e3⟩ ?_)
    rw [if_pos (by decide)]
    refine wpAny_bind (wpAny_seqItems et' e4 (wpAny_pure ?_))
    show wpAny _ _ (holding [key,(ps[i]).2] (dictSet d key (ps[i]).2)) _ _ _
    refine wpAny_holding ?_
    have hd' : h'.DictOf knd d kvs:=hd.extBut hs'.extBut hdI
    refine wpAny_dictSet_pairs e5 hd' (fun h2 hd2 hs2=>?_) (by omega)
    have kp:∀ b ob,b ≠ I→b ≠ d→s.heap.get? b = some ob→h2.get? b = some ob:=fun b ob n1 n2 e=>(hs2.2 b n2).trans ((hs'.2 b n1).trans e)
    have hsl:(stored kvs (ps[i]).1 (ps[i]).2).length ≤ kvs.length + 1:=by
      unfold stored
      split
      · rw [List.length_map]; omega
      · rw [List.length_append]; simp
    have edr:ps.drop i = ps[i] :: ps.drop (i + 1):=List.drop_eq_getElem_cons (by omega)
    refine wpAny_pure ⟨plainId_quiet plain_update_loop _,?_⟩
    have go:=ih (i + 1) { s with heap:=h2,toks:=s.toks + 1 } (stored kvs (ps[i]).1 (ps[i]).2) 0 R (by omega) (by omega) (hit'.at fun ob e=>(hs2.2 I hdI.symm).trans e) (hl.at fun ob e=>kp ax ob hI.symm hdx.symm e) hd2 (fun j p ej=>?_) (by omega) (fun h3 tk hd3 kp3=>?_)
    · exact go
    · obtain ⟨t',o',n',key',f1,f2,f3,f4,f5,f6,f7⟩:=hT j p ej
      exact ⟨t',o',n',key',f1,kp t' o' f6 f7 f2,f3,f4,f5,f6,f7⟩
    · refine hR h3 tk ?_ fun b ob n1 n2 e=>kp3 b ob n1 n2 (kp b ob n1 n2 e)
      rw [edr]
      exact hd3
theorem call_dict_pairs {κ:Type} [DecidableEq κ] {knd:KeyKind prog w κ} {ax:Addr} {items:Array Value} {ps:List (κ × Value)} {Q:Value→Shared→Prop} (hh:A.handled = none) (hl:s.heap.IsList ax items) (hdn:∀ o,s.heap.get? ax = some o→o.dict = none) (hps:ps.length = items.size) (hsz:items.size ≤ sizeLine) (hnd:(ps.map (·.1)).Nodup)
    (hT:∀ (j:Nat) (p:κ × Value),ps[j]? = some p→∃ (t:Addr) (o:Obj) (n:Nat) (key:Value),items[j]? = some (.ref t)∧s.heap.get? t = some o∧o.cls = .type "tuple" ∧ o.data = .seq #[key,p.2] n∧knd.is p.1 key = true)
    (hQ:∀ h' tk,h'.DictOf knd s.heap.objs.size ps→(∀ b o,s.heap.get? b = some o→h'.get? b = some o)→Q (.ref s.heap.objs.size) { s with heap:=h',toks:=tk }) :
    wpAny (model prog w) A (call (.type "dict") [.ref ax]) Q E s:=by
  refine callType_codes (Q₁:=fun obj s₁=>obj = .ref s.heap.objs.size∧s₁ = { s with heap:=s.heap.push { cls:=.type "dict",data:=.dict #[] } }) F.kt_called_dict (F.kt_typeCall_dict_1 _) F.entry_dict_init (kt_code_dict_new _ ⟨rfl,rfl⟩) ?_
  rintro obj s₁ ⟨rfl,rfl⟩
  have hnew:(s.heap.push { cls:=.type "dict",data:=.dict #[] }).DictOf knd s.heap.objs.size []:=Heap.DictOf.new s.heap
  have k0:∀ b o,s.heap.get? b = some o→(s.heap.push { cls:=.type "dict",data:=.dict #[] }).get? b = some o:=fun b o e=>Heap.get?_push_of_some _ e
  have hl0:=hl.at fun o e=>k0 ax o e
  refine ⟨hnew.typeIs,F.args_dict_init_2 _ _,?_⟩
  unfold Builtin.«dict.__init__»
  refine wpAny_bind ?_
  unfold Builtin.Dict.selfAndRest
  refine wpAny_bind (wpAny_notOrdered_dict hnew.typeIs ?_)
  show wpAny _ _ (pure (s.heap.objs.size,[Value.ref ax])) _ _ _
  refine wpAny_pure ?_
  show wpAny _ _ (Builtin.Dict.updateFrom "dict.__init__" s.heap.objs.size (.ref ax) [] .none) _ _ _
  unfold Builtin.Dict.updateFrom
  refine wpAny_bind (wpAny_typeOf hl0.typeIs ?_)
  rw [if_pos (by decide)]
  have lax:ax < s.heap.objs.size:=by obtain ⟨o,e,_⟩:=id hl; exact Heap.lt_size e
  have hdn0:∀ o,(s.heap.push { cls:=.type "dict",data:=.dict #[] }).get? ax = some o→o.dict = none:=fun o e=>by
    obtain ⟨o',e',_⟩:=id hl
    have e2:=k0 ax o' e'
    rw [e2] at e
    have e3:=Option.some.inj e
    rw [← e3]
    exact hdn o' e'
  refine wpAny_bind (keys_miss (s:={ s with heap:=s.heap.push { cls:=.type "dict",data:=.dict #[] } }) hl0 hdn0 (by simp [hh]) fun h1 tk1 k1=>?_)
  rw [if_pos (by rfl)]
  refine wpAny_bind (wpAny_rule ?_)
  have k01:∀ b o,s.heap.get? b = some o→h1.get? b = some o:=fun b o e=>k1 b o (k0 b o e)
  have hl1:h1.IsList ax items:=hl.at fun o e=>k01 ax o e
  refine wpAny_bind (wpAny_pyIter_list (s:={ s with heap:=h1,toks:=tk1 }) hl1 ?_)
  have k2:∀ b o,h1.get? b = some o→(h1.push { cls:=.type "list_iterator",data:=.fields #[.ref ax,.int 0 0] }).get? b = some o:=fun b o e=>Heap.get?_push_of_some _ e
  have eI:(h1.push { cls:=.type "list_iterator",data:=.fields #[.ref ax,.int 0 0] }).get? h1.objs.size = some { cls:=.type "list_iterator",data:=.fields #[.ref ax,.int 0 0] }:=Heap.get?_push_size _ rfl
  have hd1:h1.DictOf knd s.heap.objs.size []:=by
    obtain ⟨o,es,ep,ho,r⟩:=hnew
    exact ⟨o,es,ep,k1 _ _ ho,r⟩
  have hd2:(h1.push { cls:=.type "list_iterator",data:=.fields #[.ref ax,.int 0 0] }).DictOf knd s.heap.objs.size []:=hd1.push _
  have ld:s.heap.objs.size < h1.objs.size:=by obtain ⟨o,es,ep,ho,_⟩:=hd1; exact Heap.lt_size ho
  have lx1:ax < h1.objs.size:=Nat.lt_trans lax ld
  refine wpAny_pure ⟨plainId_quiet plain_update_loop _,?_⟩
  refine code_update_loop (prog:=prog) (w:=w) (knd:=knd) (d:=s.heap.objs.size) (I:=h1.objs.size) (ax:=ax) (items:=items) (ps:=ps) (res:=.none) (by simp [hh]) (Nat.ne_of_gt lx1) (Nat.ne_of_lt ld) (Nat.ne_of_gt lax) hps items.size 0 { s with heap:=h1.push { cls:=.type "list_iterator",data:=.fields #[.ref ax,.int 0 0] },toks:=tk1 } [] 0 _ (by omega) (Nat.zero_le _) ⟨_,eI,rfl,rfl⟩ (hl1.at fun o e=>k2 ax o e) hd2 (fun j p ej=>?_) (by simpa using hsz) (fun h' tk hd' kp=>?_)
  · obtain ⟨t,o,n,key,f1,f2,f3,f4,f5⟩:=hT j p ej
    have lt:=Heap.lt_size f2
    exact ⟨t,o,n,key,f1,k2 _ _ (k01 _ _ f2),f3,f4,f5,Nat.ne_of_lt (Nat.lt_trans lt ld),Nat.ne_of_lt lt⟩
  · rw [List.drop_zero,merged_nil_of_nodup ps hnd] at hd'
    refine ⟨rfl,hQ h' tk hd' fun b o e=>kp b o (Nat.ne_of_lt (Nat.lt_trans (Heap.lt_size e) ld)) (Nat.ne_of_lt (Heap.lt_size e)) (k2 _ _ (k01 _ _ e))⟩
end
end L2
namespace L2
open PySem
theorem paired_of {α β:Type} {R:α→β→Prop} : ∀ {xs:List α} {ys:List β},xs.length = ys.length→(∀ (j:Nat) (x:α) (y:β),xs[j]? = some x→ys[j]? = some y→R x y)→Paired R xs ys
  | [],[],_,_=>.nil
  | x :: xs,y :: ys,hl,h=>.cons (h 0 x y rfl rfl) (paired_of (by simpa using hl) fun j x' y' e f=>h (j + 1) x' y' (by simpa using e) (by simpa using f))
  | [],_ :: _,hl,_=>by simp at hl
  | _ :: _,[],hl,_=>by simp at hl
theorem list_of {α:Type} {P:Nat→α→Prop} : ∀ n:Nat,(∀ j,j < n→∃ a,P j a)→∃ l:List α,l.length = n∧∀ (j:Nat) (a:α),l[j]? = some a→P j a
  | 0,_=>⟨[],rfl,fun j a e=>by simp at e⟩
  | n + 1,h=>by
    obtain ⟨l,hl,hp⟩:=list_of n fun j hj=>h j (by omega)
    obtain ⟨a,ha⟩:=h n (by omega)
    refine ⟨l ++ [a],by simp [hl],fun j b e=>?_⟩
    by_cases hj:j < l.length
    · rw [List.getElem?_append_left hj] at e; exact hp j b e
    · have:j = n:=by have:=(List.getElem?_eq_some_iff.mp e).1; simp at this; omega
      subst this
      rw [List.getElem?_append_right (by omega),hl,Nat.sub_self] at e
      cases e
      exact ha
def kvT (kvs:List (Str × V)):List (Key × V):=kvs.map fun p=>(Sum.inr p.1,p.2)
theorem kvT_get {kvs:List (Str × V)} {j:Nat} {x:Key × V} (e:(kvT kvs)[j]? = some x):∃ p,kvs[j]? = some p∧x = (Sum.inr p.1,p.2):=by
  unfold kvT at e
  rw [List.getElem?_map] at e
  cases q:kvs[j]? with
  | none=>rw [q] at e; cases e
  | some p=>rw [q] at e; cases e; exact ⟨p,rfl,rfl⟩
theorem kv_look:∀ {kvs:List (Str × V)} {vs:List (Key × Value)} {k:Str} {v:V},KV (kvT kvs) vs→kvs.lookup k = some v→∃ u,valueAt vs (Sum.inr k:Key) = some u∧RelV v u
  | [],_,_,_,_,e=>by cases e
  | (k0,v0) :: kvs,vs,k,v,r,e=>by
    unfold KV at r
    cases r with
    | @cons p q ps qs h t =>
      obtain ⟨h1,h2⟩:=h
      have h1:(Sum.inr k0:Key) = q.1:=h1
      by_cases hk:k = k0
      · subst hk
        rw [List.lookup_cons,beq_self_eq_true] at e
        cases e
        refine ⟨q.2,?_,h2⟩
        unfold valueAt
        rw [List.find?_cons_of_pos (by simp [h1])]
        rfl
      · have e:kvs.lookup k = some v:=by
          rw [List.lookup_cons,beq_eq_false_iff_ne.mpr hk] at e
          exact e
        obtain ⟨u,e1,e2⟩:=kv_look (vs:=qs) t e
        refine ⟨u,?_,e2⟩
        have hne:¬ (q.1 = (Sum.inr k:Key)):=fun z=>hk (by rw [← h1] at z; injection z with z; exact z.symm)
        unfold valueAt at e1 ⊢
        rw [List.find?_cons_of_neg (by simpa using hne)]
        exact e1
section
variable {X:Cx}
theorem big_mod {pins:List (Addr × Obj)} {σ:St} {H:Hp} {s:Shared} (I:Inv X pins σ H s):(s.heap.objs.size == sysModules) = false:=by
  have h:mainGlobals < s.heap.objs.size:=(I.mod.glob.keeps I.bk).lt
  have h2:sysModules < s.heap.objs.size:=Nat.lt_trans (by decide) h
  exact beq_eq_false_iff_ne.mpr (Nat.ne_of_gt h2)
theorem call_dictP (hcm:X.calm = true):CallR X (.type "dict") (fun xs H Q=>∃ (l:Addr) (us:List V) (kvs:List (Str × V)),xs = [.ref l]∧H l = some (.lst us)∧us.length = kvs.length∧(∀ (j:Nat) (p:Str × V),kvs[j]? = some p→∃ t:Addr,us[j]? = some (.ref t)∧H t = some (.tup [.str p.1,p.2]))∧(kvs.map (·.1)).Nodup∧∀ p,H p = none→Q (.ref p) (upd H p (.dK (kvT kvs)))):=by
  intro pins s σ H xs us0 Q I r h
  obtain ⟨l,us,kvs,rfl,el,hl,ht,hnd,q⟩:=h
  obtain ⟨u,rfl,rx⟩:=vals1 r
  cases rx
  obtain ⟨its,n,rv,eg,hz⟩:=I.lst el
  have hil:=rv.length
  obtain ⟨ps,hpl,hps⟩:=list_of (P:=fun j (a:Key × Value)=>∃ (p:Str × V) (t:Addr) (o:Obj) (m:Nat) (key:Value),kvs[j]? = some p∧a.1 = Sum.inr p.1∧its[j]? = some (.ref t)∧RelV p.2 a.2∧s.heap.get? t = some o∧o.cls = .type "tuple" ∧ o.data = .seq #[key,a.2] m∧RelV (.str p.1) key) kvs.length fun j hj=>by
    have ek:=List.getElem?_eq_getElem hj
    obtain ⟨t,e1,e2⟩:=ht j _ ek
    obtain ⟨w',e3,e4⟩:=rv.get e1
    cases (show w' = Value.ref t from e4)
    obtain ⟨_,its',rv',o,ho,hc,m,hd⟩:=I.hok t _ e2
    obtain ⟨key,rest,rfl,rk,rr⟩:∃ key rest,its' = key :: rest∧RelV (.str kvs[j].1) key∧Vals [kvs[j].2] rest:=by
      cases rv' with
      | cons a b=>exact ⟨_,_,rfl,a,b⟩
    obtain ⟨vv,rfl,rv2⟩:=vals1 rr
    exact ⟨(Sum.inr kvs[j].1,vv),kvs[j],t,o,m,key,ek,rfl,e3,rv2,ho,hc,by simpa using hd,rk⟩
  have hkeys:ps.map (·.1) = kvs.map fun p=>(Sum.inr p.1:Key):=by
    refine List.ext_getElem? fun j=>?_
    rw [List.getElem?_map,List.getElem?_map]
    cases e:ps[j]? with
    | none =>
      have:kvs[j]? = none:=by rw [List.getElem?_eq_none_iff] at e ⊢; omega
      rw [this]; rfl
    | some a =>
      obtain ⟨p,t,o,m,key,e1,e2,_⟩:=hps j a e
      rw [e1]
      show some a.1 = some (Sum.inr p.1)
      rw [e2]
  refine call_dict_pairs (knd:=mixKind X.prog X.w) (items:=its.toArray) (ps:=ps) (I.ok.hd hcm) ⟨_,eg,rfl,n,rfl⟩ (fun o e=>by rw [eg] at e; cases e; rfl) (by rw [List.size_toArray,hpl,← hl,hil]) (by rw [List.size_toArray,← hil]; exact hz) ?_ (fun j a ea=>?_) fun h' tk hd kp=>?_
  · rw [hkeys,show (kvs.map fun p=>(Sum.inr p.1:Key)) = (kvs.map (·.1)).map fun z=>(Sum.inr z:Key) by rw [List.map_map]; rfl]
    rw [List.nodup_iff_pairwise_ne] at hnd ⊢
    rw [List.pairwise_map]
    exact hnd.imp fun {a b} hab z=>hab (by injection z)
  · obtain ⟨p,t,o,m,key,e1,e2,e3,e4,e5,e6,e7,e8⟩:=hps j a ea
    refine ⟨t,o,m,key,by simpa using e3,e5,e6,e7,?_⟩
    rw [e2]
    obtain ⟨tt,rfl⟩:=(show ∃ tt,key = Value.str p.1 tt from e8)
    exact mixKind_str X.prog X.w p.1 tt
  · refine ⟨.ref s.heap.objs.size,_,I.laid (h':=h') (t':=tk) (o:=.dK (kvT kvs)) kp (Nat.le_refl _) ⟨by unfold kvT; rw [List.length_map,← hl]; exact hz,big_mod I,ps,paired_of (by unfold kvT; rw [List.length_map,hpl]) fun j x y ex ey=>?_,hd⟩,rfl,q _ (I.hok.fresh (Nat.le_refl _))⟩
    obtain ⟨p,ep,rfl⟩:=kvT_get ex
    obtain ⟨p',t,o,m,key,e1,e2,e3,e4,_⟩:=hps j y ey
    rw [ep] at e1
    cases e1
    exact ⟨e2.symm,e4⟩
def rIxD:R2:=fun x y H Q=>∃ (a:Addr) (kvs:List (Str × V)) (k:Str) (v:V),x = .ref a∧y = .str k∧H a = some (.dK (kvT kvs))∧kvs.lookup k = some v∧Q v H
theorem ix_dict:IxR X rIxD:=by
  intro value slice pins s σ H x y v u Q I rx ry h hs
  obtain ⟨a,kvs,k,z,rfl,rfl,ea,el,q⟩:=h
  cases rx
  obtain ⟨t,rfl⟩:=ry
  obtain ⟨_,_,vs,rel,dd⟩:=(show ObjOk X.prog X.w H s.heap a (.dK (kvT kvs)) from I.hok a _ ea)
  obtain ⟨w',ew,rw'⟩:=kv_look rel el
  exact PyProof.Rows.tail_any dd.mapOf.typeIs slot_dict_getitem.lookup (wpAny_getItem_of (mixKind_str X.prog X.w k t) dd.mapOf ew ⟨z,H,I.tok _,rw',q⟩) hs
end
end L2
namespace L2
open PySem PySem.Spec PyProof.Rows
section
variable {X:Cx}
theorem pe_frB {a:Expr} {ta:TE} {c:Str} {k:Nat} {p1 p2 pos:Pos} (ha:PE X a ta):PE X (.JoinedStr [.Constant (.str c) k p2,.FormattedValue a 114 none p1] pos) (fun σ H Q=>c.length ≤ 1000∧tFr c ta σ H Q):=by
  intro pins s σ H Q I h
  have hb:∀ n,n ≤ 20000→n ≤ sizeLine:=fun n hn=>Nat.le_trans hn (by decide)
  have e0:∀ y:Str,(Str.empty ++ y).length = y.length:=fun y=>by rw [len_app]; show 0 + _ = _; omega
  obtain ⟨hcl,h⟩:=h
  refine wpAny_JoinedStr (Joins_cons ?_)
  refine thn (pe_str (X:=X) (x:=c) (j:=k) (pos:=p2) pins s σ H (fun v H'=>v = .str c∧H' = H) I ⟨rfl,rfl⟩) fun v s2 ⟨y,H2,I2,r2,e1,e2⟩=>?_
  subst e1 e2
  obtain ⟨t2,rfl⟩:=r2
  refine ⟨_,_,rfl,hb _ (by rw [e0]; omega),Joins_cons (wpAny_FormattedValue_repr (thn (ha pins s2 σ H2 _ I2 h) fun v s1 ⟨x,H1,I1,r1,z,ez,hz,hc,hl,q⟩=>?_))⟩
  subst ez
  obtain ⟨t,rfl⟩:=r1
  have hr:=StrLaws.reprText_len z hc
  refine pyReprObj_str (formatField_str (fun t' tk=>?_) (hb _ (by omega))) (hb _ (by omega))
  refine ⟨_,_,rfl,hb _ (by rw [len_app,e0]; omega),Joins_nil ⟨hb _ (by rw [len_app,e0]; omega),?_⟩⟩
  exact ⟨.str _,H1,I1.tok _,⟨_,rfl⟩,q _⟩
end
end L2
namespace L2
open PySem
theorem op_in_seqK {X:Cx} {K:PySem.W.Frag} (h:X.K = K):OpR X (compareOp .In) (rIn K false):=h ▸ op_in_seq
end L2
namespace L2
open PySem PySem.Spec PyProof.Rows
theorem pi_listK {X:Cx} {K:PySem.W.Frag} {tg l:Expr} {tl:TE} (h:X.K = K) (hl:PE X l tl):PI X tg l (iList K tl):=h ▸ pi_list hl
def cmpEnvN (scope:Scope) (cl:List (Str × Addr)) (C:Addr) (env:Env):Env :=
  { scope:=relabel scope env,locals:=C,globals:=env.globals,cells:=cellsFrom (C + 1) scope.names cl,qual:=env.qual,func:=none,code:=env.code,frame:=env.frame,builtins:=env.builtins }
def cmpCxN (X:Cx) (N:List Str) (scope:Scope) (cl:List (Str × Addr)) (fp:List Addr) (C:Addr) (s2:Shared) (H2:Hp):Cx :=
  { prog:=X.prog,w:=X.w,K:=X.K,mg:=X.mg,base:=X.base,A:=X.A,N:=N,s₀:=s2,H₀:=H2,env:=cmpEnvN scope cl C X.env,outer:=X.stack,stack:=X.stack,ex:=fp,fn:=fun y=>scope.names.lookup y == some .cell,calm:=X.calm,pn:=[],xe:=fun _ _=>False }
structure CmpOkN (X:Cx) (N:List Str) (k:Nat) (fr:List Nat) (scope:Scope) (cl:List (Str × Addr)):Prop where
  clos:closureFor scope X.env = pure cl
  kind:scope.kind = .function
  names:∀ y ∈ scope.names,y.2 = .local→scope.names.lookup y.1 = some .local
  len:N.length = k + fr.length
  sub:∀ (i:Nat) (y:Str),N[k + i]? = some y→∃ j,fr[i]? = some j∧X.N[j]? = some y∧(X.env.kindOf y = some .cell∨X.env.kindOf y = some .free)∧((relabel scope X.env).names.lookup y = some .cell∨(relabel scope X.env).names.lookup y = some .free)∧∃ c,cl.lookup y = some c∧∀ C:Addr,(cellsFrom (C + 1) scope.names cl).lookup y = some c
  cells:∀ y c,cl.lookup y = some c→X.env.cells.lookup y = some c
  has:∀ (C:Addr) (y:Str),((relabel scope X.env).names.lookup y = some .cell∨(relabel scope X.env).names.lookup y = some .free)→∃ c,(cellsFrom (C + 1) scope.names cl).lookup y = some c
section
variable {X:Cx} {elt iter tg:Expr} {ifs:List Expr} {pos:Pos} {scope:Scope} {cl:List (Str × Addr)} {N:List Str} {k:Nat} {fr:List Nat} {gt:TG} {tt:TT} {te:TE}
end
def SubN (X:Cx) (N:List Str) (scope:Scope) (cl:List (Str × Addr)):List Nat→Nat→Prop
  | [],_=>True
  | j :: fr,i=>(∃ (y:Str) (c:Addr),N[i]? = some y∧X.N[j]? = some y∧X.env.kindOf y = some .cell∧(relabel scope X.env).names.lookup y = some .cell∧cl.lookup y = some c∧∀ C:Addr,(cellsFrom (C + 1) scope.names cl).lookup y = some c)∧SubN X N scope cl fr (i + 1)
def rInsert:V→List V→Hp→VK→Prop:=fun x vs H Q=>∃ (l:Addr) (xs:List V) (i:Int) (k:Nat) (y:V),x = .ref l∧vs = [.int i,y]∧i = (k:Int)∧H l = some (.lst xs)∧k ≤ xs.length∧xs.length < sizeLine∧Q .non (upd H l (.lst (xs.take k ++ y :: xs.drop k)))
theorem pe_bmK {X:Cx} {K:PySem.W.Frag} {T:String} {name:Str} {id:String} {r:V→List V→Hp→VK→Prop} {o e:Expr} {es:List Expr} {to:TE} {t:TA} {apos cpos:Pos} (hK:X.K = K) (pa:PlainAttrs T) (slot:Slot T name id) (hty:typeOf (.builtin id) = pure (.type "method_descriptor")) (hm:MtR X id r) (ho:PE X o to) (ha:PA X (e :: es) t)
    (hbase:attributeBase o name X.env (eval o X.env) = eval o X.env:=by rfl)
    (hfew:((backTo cpos (starEach (e :: es) X.env)).all (fun x=>!x.1) && (backToKw cpos (keywordEach [] X.env)).all (fun x=>x.1.isSome)
      && decide ((e :: es).length + ([]:List Keyword).length + (if ([]:List Keyword).isEmpty then 0 else 1) < 30)) = true:=by rfl)
    (hline:(apos.endLine == cpos.line) = true:=by rfl) (hs:starEach (e :: es) X.env = (false,eval e X.env) :: starEach es X.env:=by rfl) (hplain:(backTo cpos (starEach es X.env)).any (·.1) = false:=by rfl) :
    PE X (.Call (.Attribute o name apos) (e :: es) [] cpos) (tBM K T r to t):=hK ▸ pe_bm pa slot hty hm ho ha hbase hfew hline hs hplain
end L2
set_option Elab.async false
set_option maxRecDepth 100000
set_option maxHeartbeats 4000000
set_option linter.all false
namespace My
open PySem L2
def top (i:Nat):Stmt:=PySem.Challenge.pw_rowjudge_k71_tables_of_a_book.main.body.getD i (.Pass ⟨0,0,0,0⟩)
abbrev Y21:Stmt:=top 16
abbrev Y24:Stmt:=top 17
abbrev Y23:Stmt:=top 18
abbrev Y20:Stmt:=top 22
abbrev Y39:Stmt:=top 27
abbrev Y42:Stmt:=top 29
abbrev Y41:Stmt:=top 31
abbrev Y44:Stmt:=top 32
abbrev Y37:Stmt:=top 33
abbrev Y47:Stmt:=top 34
abbrev Y22:Stmt:=top 35
abbrev Y48:Stmt:=top 44
abbrev Y43:Stmt:=top 49
abbrev Y40:Stmt:=top 51
abbrev Y46:Stmt:=top 53
abbrev Y45:Stmt:=top 54
abbrev Y38:Stmt:=top 55
abbrev Y26:Stmt:=top 57
abbrev Y36:Stmt:=top 58
abbrev Y28:Stmt:=top 59
abbrev Y32:Stmt:=top 60
abbrev Y34:Stmt:=top 61
abbrev Y33:Stmt:=top 62
abbrev Y27:Stmt:=top 63
abbrev Y30:Stmt:=top 64
abbrev Y35:Stmt:=top 65
abbrev Y29:Stmt:=top 66
abbrev Y31:Stmt:=top 67
abbrev Y0:Stmt:=inClass (top 26) 0
abbrev Y12:Stmt:=inClass (top 48) 0
abbrev Y5:Stmt:=inClass (top 38) 0
abbrev Y13:Stmt:=inClass (top 37) 0
abbrev Y10:Stmt:=inClass (top 39) 0
abbrev Y17:Stmt:=inClass (top 37) 0
abbrev Y7:Stmt:=inClass (top 40) 0
abbrev Y15:Stmt:=inClass (top 37) 0
abbrev Y8:Stmt:=inClass (top 41) 0
abbrev Y16:Stmt:=inClass (top 37) 0
abbrev Y6:Stmt:=inClass (top 42) 0
abbrev Y14:Stmt:=inClass (top 37) 0
abbrev Y11:Stmt:=inClass (top 43) 0
abbrev Y18:Stmt:=inClass (top 37) 0
abbrev Y3:Stmt:=inClass (top 19) 5
abbrev Y4:Stmt:=inClass (top 19) 5
abbrev Y9:Stmt:=inClass (top 20) 0
abbrev Y1:Stmt:=inClass (top 19) 0
abbrev Y19:Stmt:=inClass (top 21) 0
abbrev Y2:Stmt:=inClass (top 19) 0
abbrev Y25:Stmt:=top 68
theorem Z21:FnScope ["text", "signs", "sign"] ["text", "signs"] (defScope Y21):=⟨rfl,rfl,rfl,by decide +kernel,rfl,by decide +kernel,by decide +kernel⟩
theorem Z24:FnScope ["text"] ["text"] (defScope Y24):=⟨rfl,rfl,rfl,by decide +kernel,rfl,by decide +kernel,by decide +kernel⟩
theorem Z23:FnScope ["value"] ["value"] (defScope Y23):=⟨rfl,rfl,rfl,by decide +kernel,rfl,by decide +kernel,by decide +kernel⟩
theorem Z20:FnScope ["one", "other"] ["one", "other"] (defScope Y20):=⟨rfl,rfl,rfl,by decide +kernel,rfl,by decide +kernel,by decide +kernel⟩
theorem Z39:FnScope ["facts", "tables"] ["facts", "tables"] (defScope Y39):=⟨rfl,rfl,rfl,by decide +kernel,rfl,by decide +kernel,by decide +kernel⟩
theorem Z42:FnScope ["facts", "tables", "name", "domain", "names", "table"] ["facts", "tables"] (defScope Y42):=⟨rfl,rfl,rfl,by decide +kernel,rfl,by decide +kernel,by decide +kernel⟩
theorem Z41:FnScope ["facts", "tables", "due", "table", "name", "domain"] ["facts", "tables"] (defScope Y41):=⟨rfl,rfl,rfl,by decide +kernel,rfl,by decide +kernel,by decide +kernel⟩
theorem Z44:FnScope ["tables", "left", "names", "waiting"] ["tables"] (defScope Y44):=⟨rfl,rfl,rfl,by decide +kernel,rfl,by decide +kernel,by decide +kernel⟩
theorem Z37:FnScope ["table", "names"] ["table", "names"] (defScope Y37):=⟨rfl,rfl,rfl,by decide +kernel,rfl,by decide +kernel,by decide +kernel⟩
theorem Z47:FnScope ["book", "name", "table"] ["book", "name"] (defScope Y47):=⟨rfl,rfl,rfl,by decide +kernel,rfl,by decide +kernel,by decide +kernel⟩
theorem Z22:FnScope ["book", "name"] ["book", "name"] (defScope Y22):=⟨rfl,rfl,rfl,by decide +kernel,rfl,by decide +kernel,by decide +kernel⟩
theorem Z48:FnScope ["name", "way"] ["name"] (defScope Y48):=⟨rfl,rfl,rfl,by decide +kernel,rfl,by decide +kernel,by decide +kernel⟩
theorem Z43:FnScope ["names", "name"] ["names"] (defScope Y43):=⟨rfl,rfl,rfl,by decide +kernel,rfl,by decide +kernel,by decide +kernel⟩
theorem Z40:FnScope ["names", "rows"] ["names", "rows"] (defScope Y40):=⟨rfl,rfl,rfl,by decide +kernel,rfl,by decide +kernel,by decide +kernel⟩
theorem Z46:FnScope ["way", "outcome"] ["way", "outcome"] (defScope Y46):=⟨rfl,rfl,rfl,by decide +kernel,rfl,by decide +kernel,by decide +kernel⟩
theorem Z45:FnScope ["domains", "outcome", "cells", "code", "domain", "spans", "low", "high"] ["domains", "outcome", "cells", "code"] (defScope Y45):=⟨rfl,rfl,rfl,by decide +kernel,rfl,by decide +kernel,by decide +kernel⟩
theorem Z38:FnScope ["cells", "code"] ["cells", "code"] (defScope Y38):=⟨rfl,rfl,rfl,by decide +kernel,rfl,by decide +kernel,by decide +kernel⟩
theorem Z26:FnScope ["script", "k"] ["script", "k"] (defScope Y26):=⟨rfl,rfl,rfl,by decide +kernel,rfl,by decide +kernel,by decide +kernel⟩
theorem Z36:FnScope ["cell", "count", "letters", "head", "tail"] ["cell", "count"] (defScope Y36):=⟨rfl,rfl,rfl,by decide +kernel,rfl,by decide +kernel,by decide +kernel⟩
theorem Z28:FnScope ["cell", "low", "width", "words"] ["cell"] (defScope Y28):=⟨rfl,rfl,rfl,by decide +kernel,rfl,by decide +kernel,by decide +kernel⟩
theorem Z32:FnScope ["domain", "cell", "width"] ["domain", "cell"] (defScope Y32):=⟨rfl,rfl,rfl,by decide +kernel,rfl,by decide +kernel,by decide +kernel⟩
theorem Z34:FnScope ["kind", "one", "two", "domain", "parts"] ["kind", "one", "two", "domain"] (defScope Y34):=⟨rfl,rfl,rfl,by decide +kernel,rfl,by decide +kernel,by decide +kernel⟩
theorem Z33:FnScope ["columns", "domains", "pools", "own", "cell", "number", "parts", "k", "one", "two"] ["columns", "domains", "pools", "own", "cell"] (defScope Y33):=⟨rfl,rfl,rfl,by decide +kernel,rfl,by decide +kernel,by decide +kernel⟩
theorem Z27:FnScope ["script", "facts", "total", "domains", "pools", "tables", "own", "cell", "columns", "way", "k", "table"] ["script"] (defScope Y27):=⟨rfl,rfl,rfl,by decide +kernel,rfl,by decide +kernel,by decide +kernel⟩
theorem Z30:FnScope ["domain"] ["domain"] (defScope Y30):=⟨rfl,rfl,rfl,by decide +kernel,rfl,by decide +kernel,by decide +kernel⟩
theorem Z35:FnScope ["plan", "k", "names", "domains", "tables", "own", "columns", "rows", "heads", "taken"] ["plan", "k"] (defScope Y35):=⟨rfl,rfl,rfl,by decide +kernel,rfl,by decide +kernel,by decide +kernel⟩
theorem Z29:FnScope ["plan", "names", "domains", "tables"] ["plan"] (defScope Y29):=⟨rfl,rfl,rfl,by decide +kernel,rfl,by decide +kernel,by decide +kernel⟩
theorem Z31:FnScope ["book", "name", "refused", "e"] ["book", "name"] (defScope Y31):=⟨rfl,rfl,rfl,by decide +kernel,rfl,by decide +kernel,by decide +kernel⟩
theorem Z0:FnScope ["self", "facts", "tables"] ["self", "facts", "tables"] (defScope Y0):=⟨rfl,rfl,rfl,by decide +kernel,rfl,by decide +kernel,by decide +kernel⟩
theorem Z12:FnScope ["self", "name", "names", "domains", "outcome", "way", "rows", "cells", "code"] ["self", "name", "names", "domains", "outcome", "way", "rows"] (defScope Y12):=⟨rfl,rfl,rfl,by decide +kernel,rfl,by decide +kernel,by decide +kernel⟩
theorem Z5:FnScope ["self"] ["self"] (defScope Y5):=⟨rfl,rfl,rfl,by decide +kernel,rfl,by decide +kernel,by decide +kernel⟩
theorem Z13:FnScope ["self", "called"] ["self", "called"] (defScope Y13):=⟨rfl,rfl,rfl,by decide +kernel,rfl,by decide +kernel,by decide +kernel⟩
theorem Z10:FnScope ["self"] ["self"] (defScope Y10):=⟨rfl,rfl,rfl,by decide +kernel,rfl,by decide +kernel,by decide +kernel⟩
theorem Z17:FnScope ["self", "called"] ["self", "called"] (defScope Y17):=⟨rfl,rfl,rfl,by decide +kernel,rfl,by decide +kernel,by decide +kernel⟩
theorem Z7:FnScope ["self"] ["self"] (defScope Y7):=⟨rfl,rfl,rfl,by decide +kernel,rfl,by decide +kernel,by decide +kernel⟩
theorem Z15:FnScope ["self", "called"] ["self", "called"] (defScope Y15):=⟨rfl,rfl,rfl,by decide +kernel,rfl,by decide +kernel,by decide +kernel⟩
theorem Z8:FnScope ["self"] ["self"] (defScope Y8):=⟨rfl,rfl,rfl,by decide +kernel,rfl,by decide +kernel,by decide +kernel⟩
theorem Z16:FnScope ["self", "called"] ["self", "called"] (defScope Y16):=⟨rfl,rfl,rfl,by decide +kernel,rfl,by decide +kernel,by decide +kernel⟩
theorem Z6:FnScope ["self"] ["self"] (defScope Y6):=⟨rfl,rfl,rfl,by decide +kernel,rfl,by decide +kernel,by decide +kernel⟩
theorem Z14:FnScope ["self", "called"] ["self", "called"] (defScope Y14):=⟨rfl,rfl,rfl,by decide +kernel,rfl,by decide +kernel,by decide +kernel⟩
theorem Z11:FnScope ["self"] ["self"] (defScope Y11):=⟨rfl,rfl,rfl,by decide +kernel,rfl,by decide +kernel,by decide +kernel⟩
theorem Z18:FnScope ["self", "called"] ["self", "called"] (defScope Y18):=⟨rfl,rfl,rfl,by decide +kernel,rfl,by decide +kernel,by decide +kernel⟩
theorem Z3:FnScope ["self", "value"] ["self", "value"] (defScope Y3):=⟨rfl,rfl,rfl,by decide +kernel,rfl,by decide +kernel,by decide +kernel⟩
theorem Z4:FnScope ["self", "value"] ["self", "value"] (defScope Y4):=⟨rfl,rfl,rfl,by decide +kernel,rfl,by decide +kernel,by decide +kernel⟩
theorem Z9:FnScope ["self", "low", "high"] ["self", "low", "high"] (defScope Y9):=⟨rfl,rfl,rfl,by decide +kernel,rfl,by decide +kernel,by decide +kernel⟩
theorem Z1:FnScope ["self", "low", "high"] ["self", "low", "high"] (defScope Y1):=⟨rfl,rfl,rfl,by decide +kernel,rfl,by decide +kernel,by decide +kernel⟩
theorem Z19:FnScope ["self", "words", "word"] ["self", "words"] (defScope Y19):=⟨rfl,rfl,rfl,by decide +kernel,rfl,by decide +kernel,by decide +kernel⟩
theorem Z2:FnScope ["self", "low", "high"] ["self", "low", "high"] (defScope Y2):=⟨rfl,rfl,rfl,by decide +kernel,rfl,by decide +kernel,by decide +kernel⟩
theorem Z25:FnScope ["script", "plan", "names", "domains", "tables", "first", "made", "book", "k", "found", "heads", "asked", "due"] ["script"] (defScope Y25):=⟨rfl,rfl,rfl,by decide +kernel,rfl,by decide +kernel,by decide +kernel⟩
structure Bl (K:PySem.W.Frag) (mg:Str→Option Value) (yA yE yN yO yP yQ yR yS yT yU yV yW yX cBook:Addr):Prop where
  TableError_:mg "TableError" = some (.ref yA)
  n_TableError:PySem.W.nsIn K mainGlobals "TableError" = some (some (.ref yA))
  NoTable_:mg "NoTable" = some (.ref yE)
  n_NoTable:PySem.W.nsIn K mainGlobals "NoTable" = some (some (.ref yE))
  Way_:mg "Way" = some (.ref yN)
  n_Way:PySem.W.nsIn K mainGlobals "Way" = some (some (.ref yN))
  First_:mg "First" = some (.ref yO)
  n_First:PySem.W.nsIn K mainGlobals "First" = some (some (.ref yO))
  Only_:mg "Only" = some (.ref yP)
  n_Only:PySem.W.nsIn K mainGlobals "Only" = some (some (.ref yP))
  Like_:mg "Like" = some (.ref yQ)
  n_Like:PySem.W.nsIn K mainGlobals "Like" = some (some (.ref yQ))
  Low_:mg "Low" = some (.ref yR)
  n_Low:PySem.W.nsIn K mainGlobals "Low" = some (some (.ref yR))
  High_:mg "High" = some (.ref yS)
  n_High:PySem.W.nsIn K mainGlobals "High" = some (some (.ref yS))
  Sum_:mg "Sum" = some (.ref yT)
  n_Sum:PySem.W.nsIn K mainGlobals "Sum" = some (some (.ref yT))
  Domain_:mg "Domain" = some (.ref yU)
  n_Domain:PySem.W.nsIn K mainGlobals "Domain" = some (some (.ref yU))
  Numbers_:mg "Numbers" = some (.ref yV)
  n_Numbers:PySem.W.nsIn K mainGlobals "Numbers" = some (some (.ref yV))
  Words_:mg "Words" = some (.ref yW)
  n_Words:PySem.W.nsIn K mainGlobals "Words" = some (some (.ref yW))
  Table_:mg "Table" = some (.ref yX)
  n_Table:PySem.W.nsIn K mainGlobals "Table" = some (some (.ref yX))
  Book_:mg "Book" = some (.ref cBook)
  n_Book:PySem.W.nsIn K mainGlobals "Book" = some (some (.ref cBook))
  x_NoTable:ExcCls K yE
  l_NoTable:ExcLook K yE
  k_First:Cls K yO
  k_Only:Cls K yP
  k_Like:Cls K yQ
  k_Low:Cls K yR
  k_High:Cls K yS
  k_Sum:Cls K yT
  k_Numbers:Cls K yV
  k_Words:Cls K yW
  k_Table:Cls K yX
  k_Book:Cls K cBook
  t_First:InsT K yO
  t_Only:InsT K yP
  t_Like:InsT K yQ
  t_Low:InsT K yR
  t_High:InsT K yS
  t_Sum:InsT K yT
  t_Numbers:InsT K yV
  t_Words:InsT K yW
  t_Table:InsT K yX
  t_Book:InsT K cBook
  na_First_called:NoAttr K yO "called"
  na_Only_called:NoAttr K yP "called"
  na_Like_called:NoAttr K yQ "called"
  na_Low_called:NoAttr K yR "called"
  na_High_called:NoAttr K yS "called"
  na_Sum_called:NoAttr K yT "called"
  na_Numbers_low:NoAttr K yV "low"
  na_Numbers_high:NoAttr K yV "high"
  na_Numbers_words:NoAttr K yV "words"
  na_Words_low:NoAttr K yW "low"
  na_Words_high:NoAttr K yW "high"
  na_Words_words:NoAttr K yW "words"
  na_Table_name:NoAttr K yX "name"
  na_Table_names:NoAttr K yX "names"
  na_Table_domains:NoAttr K yX "domains"
  na_Table_outcome:NoAttr K yX "outcome"
  na_Table_way:NoAttr K yX "way"
  na_Table_rows:NoAttr K yX "rows"
  na_Book_facts:NoAttr K cBook "facts"
  na_Book_tables:NoAttr K cBook "tables"
  f_nn:PySem.W.kitOne K (.ref yV) (.ref yV) = some true
  f_wn:PySem.W.kitOne K (.ref yW) (.ref yV) = some false
  f_ww:PySem.W.kitOne K (.ref yW) (.ref yW) = some true
  f_tt:PySem.W.kitOne K (.ref yX) (.ref yX) = some true
  f_nw:PySem.W.kitOne K (.ref yV) (.ref yW) = some false
  e_NoTable:PySem.W.exmOne K (.ref yE) (.ref yA) = some true
  e2_NoTable:PySem.W.exmOne K (.ref yE) (.ref yE) = some true
  v_NoTable:PySem.W.kitOne K (.ref yE) (.ref yA) = some true
  g_NoTable:PySem.W.kitOne K (.ref yE) (.ref yE) = some true
  len_:mg "len" = none
  isinstance_:mg "isinstance" = none
  int_:mg "int" = none
  bool_:mg "bool" = none
  set_:mg "set" = none
  dict_:mg "dict" = none
  zip_:mg "zip" = none
  list_:mg "list" = none
  range_:mg "range" = none
  min_:mg "min" = none
  max_:mg "max" = none
  MOST_SIGNS_:∃ u,mg "MOST_SIGNS" = some u∧RelV (V.int 12) u
  SMALL_LETTERS_:∃ u,mg "SMALL_LETTERS" = some u∧RelV (V.str "abcdefghijklmnopqrstuvwxyz") u
  MOST_FACTS_:∃ u,mg "MOST_FACTS" = some u∧RelV (V.int 20) u
  MOST_TABLES_:∃ u,mg "MOST_TABLES" = some u∧RelV (V.int 30) u
  MOST_ROWS_:∃ u,mg "MOST_ROWS" = some u∧RelV (V.int 200) u
  MOST_COLUMNS_:∃ u,mg "MOST_COLUMNS" = some u∧RelV (V.int 4) u
  MOST_WORDS_:∃ u,mg "MOST_WORDS" = some u∧RelV (V.int 40) u
theorem p10 (n:Nat):(0:Int) < 10 ^ n:=Int.pow_pos (by decide)
theorem ret_r1 {H:Hp} {r:Addr} {o:HO} {b:Addr} {u:HO} (h:H r = some u) (n:H b = none):upd H b o r = some u:=by rw [upd_ne (ne_of_none h n)]; exact h
theorem take_snoc {α:Type} {l:List α} {i:Nat} {x:α} (e:l[i]? = some x):l.take (i + 1) = l.take i ++ [x]:=by rw [List.take_add_one,e]; rfl
def lets:Str := "abcdefghijklmnopqrstuvwxyz"
def isw (z:Str):Bool:=decide ((1:Int) ≤ ((z.length:Nat):Int)) && (decide (((z.length:Nat):Int) ≤ 12) && (!decide (V.str z = V.str "not") && allIn z lets))
theorem all_no {l:List Nat} {i:Nat} {c:Nat} {p:Nat→Bool} (e:l[i]? = some c) (h:p c = false):l.all p = false:=by
  cases q:l.all p with
  | false=>rfl
  | true=>rw [List.all_eq_true.mp q c (List.mem_of_getElem? e)] at h; cases h
theorem all_succ {l:List Nat} {i:Nat} {c:Nat} {p:Nat→Bool} (e:l[i]? = some c) (h:p c = true) (ha:(l.take i).all p = true):(l.take (i + 1)).all p = true:=by
  rw [take_snoc e,List.all_append,ha]; simp [h]
theorem all_done {z g:Str} (h:(z.cps.toList.take z.cps.size).all (sg g) = true):allIn z g = true:=by
  have e:z.cps.toList.take z.cps.size = z.cps.toList:=by rw [← Array.length_toList]; exact List.take_length
  rw [e] at h; exact h
theorem not_sg {g:Str} {c:Nat} (h:(!(!(Builtin.Str.occurrences g ⟨#[c]⟩ 0 g.length 1).isEmpty)) = true):sg g c = false:=by unfold sg; simpa using h
theorem is_sg {g:Str} {c:Nat} (h:¬ (!(!(Builtin.Str.occurrences g ⟨#[c]⟩ 0 g.length 1).isEmpty)) = true):sg g c = true:=by unfold sg; simpa using h
theorem big {n:Nat} (h:n ≤ 1000):n ≤ sizeLine:=Nat.le_of_lt (small1000 h)
def mkd (C:Addr) (H:Hp) (x dx:Addr) (lo hi:Int):Hp:=upd (upd H x (.ins C dx [("low",.int lo)])) x (.ins C dx [("low",.int lo),("high",.int hi)])
theorem put2 (v u:V):putF (Str.ofString "high") u [(Str.ofString "low",v)] = [(Str.ofString "low",v),(Str.ofString "high",u)]:=by
  unfold putF putF
  rw [if_neg (by decide)]
theorem put3 (v u t:V):putF (Str.ofString "words") t [(Str.ofString "low",v),(Str.ofString "high",u)] = [(Str.ofString "low",v),(Str.ofString "high",u),(Str.ofString "words",t)]:=by
  unfold putF putF putF
  rw [if_neg (by decide),if_neg (by decide)]
def hiW (zs:List Str):Int:=((zs.length:Nat):Int) - 1
structure Good (zs:List Str):Prop where
  some_:1 ≤ zs.length
  few:zs.length ≤ 40
  words:∀ z ∈ zs,isw z = true
  once:zs.Nodup
theorem flat_strs (zs:List Str):(zs.map V.str).all flatV = true:=by
  rw [List.all_map]
  exact List.all_eq_true.mpr fun _ _=>rfl
theorem get_strs {zs:List Str} {i:Nat} {x:V} (e:(zs.map V.str)[i]? = some x):∃ z,x = .str z∧zs[i]? = some z:=by
  rw [List.getElem?_map] at e
  cases q:zs[i]? with
  | none=>rw [q] at e; cases e
  | some z=>rw [q] at e; cases e; exact ⟨z,rfl,rfl⟩
theorem put_strs {zs:List Str} {i:Nat} {z:Str} (e:zs[i]? = some z):(zs.map V.str)[i]? = some (.str z):=by rw [List.getElem?_map,e]; rfl
def six:List Str:=[Str.ofString "first",Str.ofString "only",Str.ofString "like",Str.ofString "low",Str.ofString "high",Str.ofString "sum"]
def WyN (C:Addr) (H:Hp) (x:Addr) (z:Str):Prop:=∃ dx,H x = some (.ins C dx [("called",.str z)])
theorem WyN.same {C:Addr} {H H' : Hp} {x:Addr} {z:Str} (h:WyN C H x z) (s:Same H H'):WyN C H' x z:=let ⟨dx,e⟩:=h; ⟨dx,s _ _ e⟩
def fnew (C:Addr) (z:Str):Sp:=fun vs H Q _=>∃ (x dx:Addr),vs = [.ref x]∧H x = some (.ins C dx [])∧Q .non (upd H x (.ins C dx [("called",.str z)]))
theorem small2:2 ≤ sizeLine:=by decide
def cl6 (a b c d e f:Addr):List Addr:=[a,b,c,d,e,f]
def DomC (C:Addr) (H:Hp) (a:Addr) (lo hi:Int):Prop:=∃ dx fs,H a = some (.ins C dx fs)∧fs.lookup (Str.ofString "low") = some (.int lo)∧fs.lookup (Str.ofString "high") = some (.int hi)∧fs.lookup (Str.ofString "has_code") = none
def Dom (cN cW:Addr) (H:Hp) (a:Addr) (b:Int × Int):Prop:=∃ C,(C = cN∨C = cW)∧DomC C H a b.1 b.2
theorem Dom.same {cN cW:Addr} {H H' : Hp} {a:Addr} {b:Int × Int} (h:Dom cN cW H a b) (s:Same H H'):Dom cN cW H' a b:=let ⟨C,hC,dx,fs,e,r⟩:=h; ⟨C,hC,dx,fs,s _ _ e,r⟩
def RefL {α:Type} (xs:List V) (as:List α) (P:Addr→α→Prop):Prop:=xs.length = as.length∧∀ (j:Nat) (a:α),as[j]? = some a→∃ r,xs[j]? = some (.ref r)∧P r a
theorem RefL.mono {α:Type} {xs:List V} {as:List α} {P Q:Addr→α→Prop} (h:RefL xs as P) (k:∀ r a,P r a→Q r a):RefL xs as Q:=⟨h.1,fun j a e=>let ⟨r,e1,p⟩:=h.2 j a e; ⟨r,e1,k r a p⟩⟩
theorem RefL.nil {α:Type} {P:Addr→α→Prop} : RefL [] [] P:=⟨rfl,(fun j a e=>by simp at e)⟩
theorem RefL.snoc {α:Type} {xs:List V} {as:List α} {P:Addr→α→Prop} {r:Addr} {a:α} (h:RefL xs as P) (p:P r a):RefL (xs ++ [.ref r]) (as ++ [a]) P:=by
  refine ⟨by simp [h.1],fun j b e=>?_⟩
  by_cases hj:j < as.length
  · rw [List.getElem?_append_left hj] at e
    obtain ⟨r',e1,q⟩:=h.2 j b e
    exact ⟨r',by rw [List.getElem?_append_left (by rw [h.1]; exact hj)]; exact e1,q⟩
  · have hj2:j = as.length:=by
      have:=(List.getElem?_eq_some_iff.mp e).1
      simp at this; omega
    subst hj2
    simp at e
    subst e
    exact ⟨r,by rw [← h.1]; simp,p⟩
theorem RefL.get {α:Type} {xs:List V} {as:List α} {P:Addr→α→Prop} (h:RefL xs as P) {j:Nat} {x:V} (e:xs[j]? = some x):∃ r a,x = .ref r∧as[j]? = some a∧P r a:=by
  have hj:=(List.getElem?_eq_some_iff.mp e).1
  have ea:=List.getElem?_eq_getElem (l:=as) (i:=j) (by rw [← h.1]; exact hj)
  obtain ⟨r,e1,p⟩:=h.2 j _ ea
  rw [e] at e1; cases e1
  exact ⟨r,_,rfl,ea,p⟩
abbrev Prs:=List (Int × Int)
def SpA (N:Addr→Prop) (H:Hp) (l:Addr) (ps:Prs):Prop:=N l∧∃ ys,H l = some (.lst ys)∧PL H ys ps
def CL (N:Addr→Prop) (H:Hp) (xs:List V) (pss:List Prs):Prop:=RefL xs pss (SpA N H)
abbrev Rw:=List Prs × Int
def RowA (N:Addr→Prop) (H:Hp) (r:Addr) (rw_:Rw):Prop:=∃ ce cs,H r = some (.tup [.ref ce,.int rw_.2])∧N ce∧H ce = some (.lst cs)∧CL N H cs rw_.1
def RL (N:Addr→Prop) (H:Hp) (xs:List V) (rws:List Rw):Prop:=RefL xs rws (RowA N H)
theorem SpA.same {N:Addr→Prop} {H H' : Hp} {l:Addr} {ps:Prs} (h:SpA N H l ps) (s:Same H H'):SpA N H' l ps:=let ⟨n,ys,e,p⟩:=h; ⟨n,ys,s _ _ e,p.mono s.tups⟩
theorem CL.same {N:Addr→Prop} {H H' : Hp} {xs:List V} {pss:List Prs} (h:CL N H xs pss) (s:Same H H'):CL N H' xs pss:=RefL.mono h fun _ _ p=>p.same s
theorem RowA.same {N:Addr→Prop} {H H' : Hp} {r:Addr} {w:Rw} (h:RowA N H r w) (s:Same H H'):RowA N H' r w:=let ⟨ce,cs,e,n,f,c⟩:=h; ⟨ce,cs,s _ _ e,n,s _ _ f,c.same s⟩
theorem RL.same {N:Addr→Prop} {H H' : Hp} {xs:List V} {rws:List Rw} (h:RL N H xs rws) (s:Same H H'):RL N H' xs rws:=RefL.mono h fun _ _ p=>p.same s
abbrev NT:Addr→Prop:=fun _=>True
theorem SpA.any {N:Addr→Prop} {H:Hp} {l:Addr} {ps:Prs} (h:SpA N H l ps):SpA NT H l ps:=⟨trivial,h.2⟩
theorem CL.any {N:Addr→Prop} {H:Hp} {xs:List V} {pss:List Prs} (h:CL N H xs pss):CL NT H xs pss:=RefL.mono h fun _ _ p=>p.any
theorem RowA.any {N:Addr→Prop} {H:Hp} {r:Addr} {w:Rw} (h:RowA N H r w):RowA NT H r w:=let ⟨ce,cs,e,_,f,c⟩:=h; ⟨ce,cs,e,trivial,f,c.any⟩
theorem RL.any {N:Addr→Prop} {H:Hp} {xs:List V} {rws:List Rw} (h:RL N H xs rws):RL NT H xs rws:=RefL.mono h fun _ _ p=>p.any
theorem SpA.wk {N N' : Addr→Prop} {H:Hp} {l:Addr} {ps:Prs} (h:SpA N H l ps) (k:∀ a,N a→N' a):SpA N' H l ps:=⟨k _ h.1,h.2⟩
theorem CL.wk {N N' : Addr→Prop} {H:Hp} {xs:List V} {pss:List Prs} (h:CL N H xs pss) (k:∀ a,N a→N' a):CL N' H xs pss:=RefL.mono h fun _ _ p=>p.wk k
theorem RowA.wk {N N' : Addr→Prop} {H:Hp} {r:Addr} {w:Rw} (h:RowA N H r w) (k:∀ a,N a→N' a):RowA N' H r w:=let ⟨ce,cs,e,n,f,c⟩:=h; ⟨ce,cs,e,k _ n,f,c.wk k⟩
theorem SpA.updN {N:Addr→Prop} {D:Addr} {H:Hp} {l:Addr} {ps:Prs} {zs:List V} {o:HO} (h:SpA N H l ps) (n:¬ N D) (e:H D = some (.lst zs)):SpA N (upd H D o) l ps :=
  let ⟨m,ys,f,p⟩:=h
  ⟨m,ys,(upd_ne (fun z=>n (by rw [← z]; exact m))).trans f,p.mono (sameT_lst e)⟩
theorem CL.updN {N:Addr→Prop} {D:Addr} {H:Hp} {xs:List V} {pss:List Prs} {zs:List V} {o:HO} (h:CL N H xs pss) (n:¬ N D) (e:H D = some (.lst zs)):CL N (upd H D o) xs pss:=RefL.mono h fun _ _ p=>p.updN n e
theorem RowA.updN {N:Addr→Prop} {D:Addr} {H:Hp} {r:Addr} {w:Rw} {zs:List V} {o:HO} (h:RowA N H r w) (n:¬ N D) (e:H D = some (.lst zs)):RowA N (upd H D o) r w :=
  let ⟨ce,cs,f,m,g,c⟩:=h
  ⟨ce,cs,(upd_ne (ne_of f e (by intro z; cases z))).trans f,m,(upd_ne (fun z=>n (by rw [← z]; exact m))).trans g,c.updN n e⟩
theorem RL.updN {N:Addr→Prop} {D:Addr} {H:Hp} {xs:List V} {rws:List Rw} {zs:List V} {o:HO} (h:RL N H xs rws) (n:¬ N D) (e:H D = some (.lst zs)):RL N (upd H D o) xs rws:=RefL.mono h fun _ _ p=>p.updN n e
def Fr (H:Hp) (D:Addr):Addr→Prop:=fun a=>H a = none∧a ≠ D
theorem Fr.out {H:Hp} {D:Addr} : ¬ Fr H D D:=fun h=>h.2 rfl
structure RngOk (b:Int × Int) (zs:List Str):Prop where
  le:b.1 ≤ b.2
  ws:zs ≠ []→Good zs∧b = (0,hiW zs)
def ColA (N:Addr→Prop) (H:Hp) (l:Addr) (b:Int × Int):Prop:=∃ (w:Addr) (zs:List Str),N l∧N w∧H l = some (.lst [.int b.1,.int b.2,.ref w])∧H w = some (.lst (zs.map V.str))∧RngOk b zs
def Cols (N:Addr→Prop) (H:Hp) (xs:List V) (bs:Prs):Prop:=RefL xs bs (ColA N H)
structure RowOk (bs:Prs) (o:Int × Int) (w:Rw):Prop where
  len:w.1.length = bs.length
  inn:∀ (j:Nat) (ps:Prs) (b:Int × Int),w.1[j]? = some ps→bs[j]? = some b→∀ p ∈ ps,b.1 ≤ p.1∧p.2 ≤ b.2
  lo:o.1 ≤ w.2
  hi:w.2 ≤ o.2
def rfit (pss:List Prs) (cs:List Int):Bool:=(List.range cs.length).all fun j=>inP (pss.getD j []) (cs.getD j 0)
theorem pf1 (v0 v1:V):putF (Str.ofString "names") v1 [(Str.ofString "name",v0)] = [(Str.ofString "name",v0),(Str.ofString "names",v1)]:=by
  unfold putF putF
  rw [if_neg (by decide)]
theorem pf2 (v0 v1 v2:V):putF (Str.ofString "domains") v2 [(Str.ofString "name",v0),(Str.ofString "names",v1)] = [(Str.ofString "name",v0),(Str.ofString "names",v1),(Str.ofString "domains",v2)]:=by
  unfold putF putF putF
  rw [if_neg (by decide),if_neg (by decide)]
theorem pf3 (v0 v1 v2 v3:V):putF (Str.ofString "outcome") v3 [(Str.ofString "name",v0),(Str.ofString "names",v1),(Str.ofString "domains",v2)] = [(Str.ofString "name",v0),(Str.ofString "names",v1),(Str.ofString "domains",v2),(Str.ofString "outcome",v3)]:=by
  unfold putF putF putF putF
  rw [if_neg (by decide),if_neg (by decide),if_neg (by decide)]
theorem pf4 (v0 v1 v2 v3 v4:V):putF (Str.ofString "way") v4 [(Str.ofString "name",v0),(Str.ofString "names",v1),(Str.ofString "domains",v2),(Str.ofString "outcome",v3)] = [(Str.ofString "name",v0),(Str.ofString "names",v1),(Str.ofString "domains",v2),(Str.ofString "outcome",v3),(Str.ofString "way",v4)]:=by
  unfold putF putF putF putF putF
  rw [if_neg (by decide),if_neg (by decide),if_neg (by decide),if_neg (by decide)]
theorem pf5 (v0 v1 v2 v3 v4 v5:V):putF (Str.ofString "rows") v5 [(Str.ofString "name",v0),(Str.ofString "names",v1),(Str.ofString "domains",v2),(Str.ofString "outcome",v3),(Str.ofString "way",v4)] = [(Str.ofString "name",v0),(Str.ofString "names",v1),(Str.ofString "domains",v2),(Str.ofString "outcome",v3),(Str.ofString "way",v4),(Str.ofString "rows",v5)]:=by
  unfold putF putF putF putF putF putF
  rw [if_neg (by decide),if_neg (by decide),if_neg (by decide),if_neg (by decide),if_neg (by decide)]
def hide (H:Hp) (x:Addr):Hp:=fun b=>if b = x then none else H b
theorem hide_of {H:Hp} {x b:Addr} {o:HO} (e:H b = some o) (n:b ≠ x):hide H x b = some o:=by unfold hide; rw [if_neg n]; exact e
theorem hide_same {H H' : Hp} {x:Addr} (k:∀ b o,b ≠ x→H b = some o→H' b = some o):Same (hide H x) H':=fun b o e=>by
  unfold hide at e
  by_cases h:b = x
  · rw [if_pos h] at e; cases e
  · rw [if_neg h] at e; exact k b o h e
theorem PL.hide {H:Hp} {x C dx:Addr} {fs:List (Str × V)} (hx:H x = some (.ins C dx fs)) {ys:List V} {ps:Prs} (h:PL H ys ps):PL (hide H x) ys ps :=
  h.mono fun b xs e=>hide_of e (ne_of e hx (by intro z; cases z))
theorem RL.hide {H:Hp} {x C dx:Addr} {fs:List (Str × V)} (hx:H x = some (.ins C dx fs)) {xs:List V} {rws:List Rw} (h:RL NT H xs rws):RL NT (My.hide H x) xs rws :=
  RefL.mono h fun r w ⟨ce,cs,e,_,f,c⟩=>⟨ce,cs,hide_of e (ne_of e hx (by intro z; cases z)),trivial,hide_of f (ne_of f hx (by intro z; cases z)),RefL.mono c fun l ps ⟨_,ys,g,p⟩=>⟨trivial,ys,hide_of g (ne_of g hx (by intro z; cases z)),PL.hide hx p⟩⟩
def wcs (c k:Int):List Nat:=List.replicate (c / 26 % 6).toNat (97 + (c % 26).toNat) ++ ([97 + (k / 7 % 7).toNat,97 + (k % 7).toNat] ++ List.replicate (k % 5).toNat (97 + (c / 156 % 26).toNat))
def wd (c k:Int):Str:=⟨(wcs c k).toArray⟩
theorem sg_let {c:Nat} (h:97 ≤ c∧c ≤ 122):sg lets c = true:=by
  have:∀ d:Nat,d < 26→sg lets (97 + d) = true:=by decide +kernel
  have z:=this (c - 97) (by omega)
  rw [show 97 + (c - 97) = c by omega] at z
  exact z
theorem lets_at {s:Str} {n:Nat} (h:s.cps.toList = (List.range n).map (97 + ·)) {k:Int} (h0:0 ≤ k) (h1:k < n):atI s.cps.toList k = some (97 + k.toNat):=by
  have hk:k.toNat < n:=by omega
  have z:s.cps.toList[k.toNat]? = some (97 + k.toNat):=by rw [h,List.getElem?_map,List.getElem?_range hk]; rfl
  have q:=atI_nat z
  rw [show ((k.toNat:Nat):Int) = k by omega] at q
  exact q
theorem abc26:(Str.ofString "abcdefghijklmnopqrstuvwxyz").cps.toList = (List.range 26).map (97 + ·):=by decide +kernel
def wds (c:Int) (n:Nat):List Str:=(List.range n).map fun j:Nat=>wd c (j:Int)
abbrev SI:=Str × Int
def tp (p:SI):List V:=[.str p.1,.int p.2]
def say (i:Int):SI:=(Str.ofString "say",i)
def clash:SI:=(Str.ofString "clash",0)
def non_:SI:=(Str.ofString "none",0)
def least (ns:List Int):Int:=ns.foldl (fun m c=>if c < m then c else m) (ns.headD 0)
def great (ns:List Int):Int:=ns.foldl (fun m c=>if c > m then c else m) (ns.headD 0)
def fLow (ns:List Int):SI:=say (least ns)
def fHigh (ns:List Int):SI:=say (great ns)
def fLike (ns:List Int):SI:=if least ns = great ns then say (least ns) else clash
def ver (f:List Int→SI):List Int→SI
  | []=>non_
  | n :: ns=>f (n :: ns)
def Wy (C:Addr) (H:Hp) (x:Addr):Prop:=∃ dx z,H x = some (.ins C dx [("called",.str z)])
def fFirst (ns:List Int):SI:=say (ns.headD 0)
def fOnly (ns:List Int):SI:=if ns.length = 1 then say (ns.headD 0) else clash
def near (lo hi n:Int):Int:=if n < lo then lo else if n > hi then hi else n
def wf:Nat→Int→Int→List Int→SI
  | 0,_,_=>fFirst
  | 1,_,_=>fOnly
  | 2,_,_=>fLike
  | 3,_,_=>fLow
  | 4,_,_=>fHigh
  | _,lo,hi=>fun ns=>say (near lo hi ns.sum)
def spCh (K:PySem.W.Frag) (C cN cW:Addr) (i:Nat):Sp:=fun vs H Q _=>∃ (x c o:Addr) (n:Int) (ns:List Int) (b:Int × Int),vs = [.ref x,.ref c,.ref o]∧Wy C H x∧Dom cN cW H o b∧b.1 ≤ b.2∧SqL K H c ((n :: ns).map V.int)∧ns.length < 900∧∀ (r:Addr) (H' : Hp),Same H H'→SqT K H' r (tp (wf i b.1 b.2 (n :: ns)))→Q (.ref r) H'
def spVe (K:PySem.W.Frag) (C cN cW:Addr) (i:Nat):Sp:=fun vs H Q _=>∃ (x c o:Addr) (ns:List Int) (b:Int × Int),vs = [.ref x,.ref c,.ref o]∧Wy C H x∧Dom cN cW H o b∧b.1 ≤ b.2∧SqL K H c (ns.map V.int)∧ns.length < 900∧∀ (r:Addr) (H' : Hp),Same H H'→SqT K H' r (tp (ver (wf i b.1 b.2) ns))→Q (.ref r) H'
def msk (f:Nat→Bool):Nat→Nat
  | 0=>0
  | n + 1=>(if f n then 2 ^ n else 0) + msk f n
def bitOn (m:Int) (k:Nat):Bool:=Builtin.bitAnd (m / 2 ^ k) 1 != 0
def pkF (rws:List Rw) (f:Nat→Bool) (n:Nat):List Int:=((List.range n).filter f).map fun k=>(rws.getD k ([],0)).2
def Tbl (cT cN cW:Addr) (H:Hp) (t:Addr) (rws:List Rw) (i:Nat) (o:Int × Int):Prop:=∃ (rl ou dx:Addr) (fs:List (Str × V)) (xs:List V) (wy:Str),H t = some (.ins cT dx fs)∧fs.lookup (Str.ofString "rows") = some (.ref rl)∧fs.lookup (Str.ofString "way") = some (.str wy)∧fs.lookup (Str.ofString "outcome") = some (.ref ou)∧H rl = some (.lst xs)∧RL NT H xs rws∧six[i]? = some wy∧Dom cN cW H ou o∧o.1 ≤ o.2∧xs.length ≤ 200
def fitF (rws:List Rw) (cs:List Int) (k:Nat):Bool:=rfit (rws.getD k ([],0)).1 cs
def fl (rws:List Rw) (cs:List Int):List Int:=(rws.filter fun w=>rfit w.1 cs).map (·.2)
def ord:List Nat:=[3,4,2,1,0,5]
def w6:List Str:=[Str.ofString "low",Str.ofString "high",Str.ofString "like",Str.ofString "only",Str.ofString "first",Str.ofString "sum"]
def dueL (lo hi:Int) (ns:List Int):List SI:=ord.map fun i=>ver (wf i lo hi) ns
def DL (H:Hp) (xs:List V) (ps:List SI):Prop:=RefL xs ps fun r p=>H r = some (.tup (tp p))
def TblX (cT:Addr) (H:Hp) (t:Addr) (nm wy:Str) (ou:Addr) (zs:List Str) (dv:List V):Prop:=∃ (dx na dl:Addr) (fs:List (Str × V)),H t = some (.ins cT dx fs)∧fs.lookup (Str.ofString "name") = some (.str nm)∧fs.lookup (Str.ofString "way") = some (.str wy)∧fs.lookup (Str.ofString "outcome") = some (.ref ou)∧fs.lookup (Str.ofString "names") = some (.ref na)∧fs.lookup (Str.ofString "domains") = some (.ref dl)∧H na = some (.lst (zs.map V.str))∧H dl = some (.lst dv)
theorem deq_lst {K:PySem.W.Frag} {H:Hp} {n:Nat} {a b:Addr} {xs ys:List V} (ha:SqL K H a xs) (hb:SqL K H b ys) (hl:xs.length = ys.length) (h:∀ (j:Nat) (x y:V),xs[j]? = some x→ys[j]? = some y→DEq K H n x y true):DEq K H (n + 1) (.ref a) (.ref b) true:=by
  by_cases e:a = b
  · subst e; exact .same a
  · have:=DEq.lst (f:=fun _=>true) e ha hb hl h
    rw [show (List.range xs.length).all (fun _=>true) = true by simp] at this
    exact this
theorem deq_tup {K:PySem.W.Frag} {H:Hp} {n:Nat} {a b:Addr} {xs ys:List V} (ha:SqT K H a xs) (hb:SqT K H b ys) (hl:xs.length = ys.length) (h:∀ (j:Nat) (x y:V),xs[j]? = some x→ys[j]? = some y→DEq K H n x y true):DEq K H (n + 1) (.ref a) (.ref b) true:=by
  by_cases e:a = b
  · subst e; exact .same a
  · have:=DEq.tup (f:=fun _=>true) e ha hb h
    rw [show ((List.range (min xs.length ys.length)).all (fun _=>true) && xs.length == ys.length) = true by simp [hl]] at this
    exact this
theorem deq_int {K:PySem.W.Frag} {H:Hp} {n:Nat} (i:Int):DEq K H n (.int i) (.int i) true:=by
  have:=DEq.flat (K:=K) (H:=H) (n:=n) (x:=.int i) (y:=.int i) rfl rfl
  rw [show eqV (.int i) (.int i) = true by simp [eqV]] at this
  exact this
theorem deq_pl {K:PySem.W.Frag} {H:Hp} {n:Nat} {xs ys:List V} {ps:Prs} (h:PL H xs ps) (h' : PL H ys ps) (j:Nat) (x y:V) (e1:xs[j]? = some x) (e2:ys[j]? = some y):DEq K H (n + 1) x y true:=by
  obtain ⟨u,r,g1,rfl,h1⟩:=h.get e1
  obtain ⟨u',r',g2,rfl,h2⟩:=h'.get e2
  rw [g1] at g2
  cases g2
  refine deq_tup (SqT.of h1) (SqT.of h2) rfl fun j x y f1 f2=>?_
  rw [f1] at f2
  cases f2
  match j,f1 with
  | 0,f1=>cases f1; exact deq_int _
  | 1,f1=>cases f1; exact deq_int _
  | j + 2,f1=>simp at f1
theorem deq_row {K:PySem.W.Frag} {H:Hp} {r r' : Addr} {w:Rw} (h:RowA NT H r w) (h' : RowA NT H r' w):DEq K H 60 (.ref r) (.ref r') true:=by
  obtain ⟨ce,cs,g1,_,g2,g3⟩:=h
  obtain ⟨ce',cs',g1',_,g2',g3'⟩:=h'
  refine deq_tup (n:=59) (SqT.of g1) (SqT.of g1') rfl fun j x y e1 e2=>?_
  match j,e1,e2 with
  | 0,e1,e2 =>
    cases e1; cases e2
    refine deq_lst (n:=58) (SqL.of g2) (SqL.of g2') (by rw [g3.1,g3'.1]) fun j x y f1 f2=>?_
    obtain ⟨l,ps,rfl,ep,_,ys,el,hp⟩:=RefL.get g3 f1
    obtain ⟨l',ps',rfl,ep',_,ys',el',hp'⟩:=RefL.get g3' f2
    rw [ep] at ep'
    cases ep'
    exact deq_lst (n:=57) (SqL.of el) (SqL.of el') (by rw [hp.length,hp'.length]) (deq_pl (n:=56) hp hp')
  | 1,e1,e2=>cases e1; cases e2; exact deq_int _
  | j + 2,e1,e2=>simp at e1
theorem neDL_same {K:PySem.W.Frag} {H:Hp} {Q:VK} {a b:Addr} {xs ys:List V} (ha:SqL K H a xs) (hb:SqL K H b ys) (hl:xs.length = ys.length) (h:∀ (j:Nat) (x y:V),xs[j]? = some x→ys[j]? = some y→DEq K H 60 x y true) (q:Q (.bl false) H):rEqDL K true (.ref a) (.ref b) H Q:=by
  refine ⟨a,b,xs,ys,rfl,rfl,ha,hb,.inr ⟨hl,fun _=>true,h,?_⟩⟩
  rw [show (List.range xs.length).all (fun _=>true) = true by simp]
  exact q
theorem deq_rows {K:PySem.W.Frag} {H:Hp} {xs ys:List V} {rws:List Rw} (h:RL NT H xs rws) (h' : RL NT H ys rws) (j:Nat) (x y:V) (e1:xs[j]? = some x) (e2:ys[j]? = some y):DEq K H 60 x y true:=by
  obtain ⟨r,w,rfl,ew,hr⟩:=RefL.get h e1
  obtain ⟨r',w',rfl,ew',hr'⟩:=RefL.get h' e2
  rw [ew] at ew'
  cases ew'
  exact deq_row hr hr'
structure Col where
  prs:Prs
  w:Bool
  sd:Int
def ColN (N:Addr→Prop) (H:Hp) (l:Addr) (c:Col):Prop:=∃ (pl:Addr) (ts:List V),N l∧N pl∧H l = some (.lst [.ref pl,.bl c.w,.int c.sd])∧H pl = some (.lst ts)∧PL H ts c.prs
def ColsN (N:Addr→Prop) (H:Hp) (xs:List V) (cs:List Col):Prop:=RefL xs cs (ColN N H)
structure Ch (ps:Prs):Prop where
  le:∀ (i:Nat) (p:Int × Int),ps[i]? = some p→p.1 ≤ p.2
  nxt:∀ (i:Nat) (p q:Int × Int),ps[i]? = some p→ps[i + 1]? = some q→q.1 = p.2 + 1
structure ColOk (c:Col):Prop where
  some_:1 ≤ c.prs.length
  few:c.prs.length ≤ 6
  ch:Ch c.prs
  w0:c.w = true→∀ p,c.prs[0]? = some p→p.1 = 0
  wl:c.w = true→∀ (i:Nat) (p:Int × Int),c.prs[i]? = some p→p.2 < 40
def Col.lo (c:Col):Int:=(c.prs.headD (0,0)).1
def Col.hi (c:Col):Int:=(c.prs.getLastD (0,0)).2
def Col.b (c:Col):Int × Int:=(c.lo,c.hi)
structure Srt (ps:Prs):Prop where
  le:∀ (i:Nat) (p:Int × Int),ps[i]? = some p→p.1 ≤ p.2
  lt:∀ (i j:Nat) (p q:Int × Int),i < j→ps[i]? = some p→ps[j]? = some q→p.2 < q.1
structure SpOk (prs:Prs) (b n:Nat) (ps:Prs):Prop where
  srt:Srt ps
  iff:∀ x:Int,inP ps x = true↔∃ (k:Nat) (p:Int × Int),k < n∧prs[k]? = some p∧b.testBit k = true∧p.1 ≤ x∧x ≤ p.2
def mrg (prs:Prs) (b:Nat):Nat→Prs
  | 0=>[]
  | n + 1=>if b.testBit n then (if (decide (0 < n) && b.testBit (n - 1)) then (mrg prs b n).dropLast ++ [(((mrg prs b n).getLastD (0,0)).1,(prs.getD n (0,0)).2)] else mrg prs b n ++ [prs.getD n (0,0)]) else mrg prs b n
abbrev BW:=List Nat × Int
def vN (bs:List Nat):List V:=bs.map fun b:Nat=>V.int (b:Int)
theorem vN_len (bs:List Nat):(vN bs).length = bs.length:=by unfold vN; rw [List.length_map]
theorem vN_of {bs:List Nat} {j:Nat} {x:V} (e:(vN bs)[j]? = some x):∃ b:Nat,x = .int (b:Int)∧bs[j]? = some b:=by
  unfold vN at e
  rw [List.getElem?_map] at e
  cases q:bs[j]? with
  | none=>rw [q] at e; cases e
  | some b=>rw [q] at e; cases e; exact ⟨b,rfl,rfl⟩
def BRowA (N:Addr→Prop) (H:Hp) (r:Addr) (w:BW):Prop:=∃ bl,H r = some (.tup [.ref bl,.int w.2])∧N bl∧H bl = some (.lst (vN w.1))
def BRL (N:Addr→Prop) (H:Hp) (xs:List V) (ws:List BW):Prop:=RefL xs ws (BRowA N H)
structure BitOk (cs:List Col) (o:Col) (w:BW):Prop where
  len:w.1.length = cs.length
  lt:∀ (j b:Nat) (c:Col),w.1[j]? = some b→cs[j]? = some c→b < 2 ^ c.prs.length
  lo:o.lo ≤ w.2
  hi:w.2 ≤ o.hi
structure RwOf (cs:List Col) (w:BW) (x:Rw):Prop where
  code:x.2 = w.2
  len:x.1.length = cs.length
  sp:∀ (j:Nat) (ps:Prs) (c:Col) (b:Nat),x.1[j]? = some ps→cs[j]? = some c→w.1[j]? = some b→SpOk c.prs b c.prs.length ps
  is:∀ (j:Nat) (ps:Prs) (c:Col) (b:Nat),x.1[j]? = some ps→cs[j]? = some c→w.1[j]? = some b→ps = mrg c.prs b c.prs.length
def RwsOf (cs:List Col) (ws:List BW) (rws:List Rw):Prop:=rws.length = ws.length∧∀ (k:Nat) (w:BW) (x:Rw),ws[k]? = some w→rws[k]? = some x→RwOf cs w x
def grow (pts:List (List Nat)) (n:Nat):List (List Nat):=pts.flatMap fun p=>(List.range n).map fun k=>p ++ [k]
def prodP (ls:List Nat):List (List Nat):=ls.foldl grow [[]]
def PtOk (ls:List Nat) (p:List Nat):Prop:=p.length = ls.length∧∀ (j a m:Nat),p[j]? = some a→ls[j]? = some m→a < m
def PtL (N:Addr→Prop) (H:Hp) (xs:List V) (pts:List (List Nat)):Prop:=RefL xs pts fun r p=>N r∧H r = some (.lst (vN p))
def lens (cs:List Col):List Nat:=cs.map fun c=>c.prs.length
def AtP (cs:List Col) (p:List Nat) (cd:List Int):Prop:=cd.length = cs.length∧∀ (j:Nat) (x:Int) (c:Col) (a:Nat),cd[j]? = some x→cs[j]? = some c→p[j]? = some a→∃ pr,c.prs[a]? = some pr∧(x = pr.1∨x = pr.2)
def bfit (bs p:List Nat):Bool:=(List.range p.length).all fun j=>(bs.getD j 0).testBit (p.getD j 0)
def bF (ws:List BW) (p:List Nat) (k:Nat):Bool:=bfit (ws.getD k ([],0)).1 p
def cnt (ws:List BW) (p:List Nat):List Nat:=(List.range ws.length).filter (bF ws p)
def DomX (cN cW:Addr) (H:Hp) (a:Addr) (c:Col):Prop:=(c.w = false∧∃ dx fs,H a = some (.ins cN dx fs)∧fs.lookup (Str.ofString "low") = some (.int c.lo)∧fs.lookup (Str.ofString "high") = some (.int c.hi)∧fs.lookup (Str.ofString "has_code") = none) ∨
  (c.w = true∧∃ dx fs l,H a = some (.ins cW dx fs)∧fs.lookup (Str.ofString "low") = some (.int c.lo)∧fs.lookup (Str.ofString "high") = some (.int c.hi)∧fs.lookup (Str.ofString "has_code") = none∧fs.lookup (Str.ofString "words") = some (.ref l)∧H l = some (.lst ((wds c.sd (c.hi + 1).toNat).map V.str)))
def prm {α:Type} (os:List Nat) (xs:List α):List α:=os.filterMap (xs[·]?)
structure Pm (os:List Nat) (n:Nat):Prop where
  len:os.length = n
  lt:∀ k ∈ os,k < n
  nd:os.Nodup
  all:∀ k,k < n→k ∈ os
theorem prm_cons {α:Type} {o:Nat} {os:List Nat} {xs:List α} (h:o < xs.length):prm (o :: os) xs = xs[o] :: prm os xs:=by
  unfold prm
  rw [List.filterMap_cons,List.getElem?_eq_getElem h]
theorem prm_get {α:Type} : ∀ {os:List Nat} {xs:List α},(∀ k ∈ os,k < xs.length)→(prm os xs).length = os.length∧∀ (j k:Nat),os[j]? = some k→(prm os xs)[j]? = xs[k]?
  | [],xs,_=>⟨rfl,fun j k e=>by simp at e⟩
  | o :: os,xs,h=>by
    obtain ⟨h1,h2⟩:=prm_get (os:=os) (xs:=xs) fun k hk=>h k (List.mem_cons_of_mem _ hk)
    have ho:=h o List.mem_cons_self
    rw [prm_cons ho]
    refine ⟨by rw [List.length_cons,List.length_cons,h1],fun j k f=>?_⟩
    match j,f with
    | 0,f =>
      have:o = k:=by simpa using f
      subst this
      rw [List.getElem?_eq_getElem ho]; rfl
    | j + 1,f=>exact h2 j k (by simpa using f)
theorem prm_snoc {α:Type} {os:List Nat} {k:Nat} {xs:List α} {x:α} (e:xs[k]? = some x):prm (os ++ [k]) xs = prm os xs ++ [x]:=by
  unfold prm
  rw [List.filterMap_append]
  simp [e]
theorem prm_map {α β:Type} (f:α→β) (os:List Nat) (xs:List α):prm os (xs.map f) = (prm os xs).map f:=by
  unfold prm
  rw [List.map_filterMap]
  congr 1
  funext k
  rw [List.getElem?_map]
theorem mem_prm {α:Type} {os:List Nat} {xs:List α} {x:α} (h:x ∈ prm os xs):x ∈ xs:=by
  unfold prm at h
  obtain ⟨k,_,e⟩:=List.mem_filterMap.mp h
  exact List.mem_of_getElem? e
theorem nd_ix {α:Type} {xs:List α} (h:xs.Nodup) {i j:Nat} {x:α} (e:xs[i]? = some x) (f:xs[j]? = some x):i = j:=by
  obtain ⟨hi,ei⟩:=List.getElem?_eq_some_iff.mp e
  obtain ⟨hj,ej⟩:=List.getElem?_eq_some_iff.mp f
  have p:=List.pairwise_iff_getElem.mp (List.nodup_iff_pairwise_ne.mp h)
  rcases Nat.lt_trichotomy i j with q | q | q
  · exact absurd (ei.trans ej.symm) (p i j hi hj q)
  · exact q
  · exact absurd (ej.trans ei.symm) (p j i hj hi q)
theorem prm_nodup {α:Type} {os:List Nat} {xs:List α} (ho:os.Nodup) (hx:xs.Nodup) (hl:∀ k ∈ os,k < xs.length):(prm os xs).Nodup:=by
  induction os with
  | nil=>exact List.nodup_nil
  | cons o os ih =>
    rw [List.nodup_cons] at ho
    have hi:=ih ho.2 fun k hk=>hl k (List.mem_cons_of_mem _ hk)
    have h0:=hl o List.mem_cons_self
    rw [prm_cons h0,List.nodup_cons]
    refine ⟨fun hm=>?_,hi⟩
    unfold prm at hm
    obtain ⟨k,hk,f⟩:=List.mem_filterMap.mp hm
    have:k = o:=nd_ix hx f (List.getElem?_eq_getElem h0)
    subst this
    exact ho.1 hk
def TF (cT:Addr) (H:Hp) (t:Addr) (nm wy:Str) (ou:Addr) (zs:List Str) (dv:List V) (rws:List Rw):Prop:=∃ (rl dx na dl:Addr) (fs:List (Str × V)) (xs:List V),H t = some (.ins cT dx fs)∧fs.lookup (Str.ofString "rows") = some (.ref rl)∧fs.lookup (Str.ofString "name") = some (.str nm)∧fs.lookup (Str.ofString "way") = some (.str wy)∧fs.lookup (Str.ofString "outcome") = some (.ref ou)∧fs.lookup (Str.ofString "names") = some (.ref na)∧fs.lookup (Str.ofString "domains") = some (.ref dl)∧H na = some (.lst (zs.map V.str))∧H dl = some (.lst dv)∧H rl = some (.lst xs)∧RL NT H xs rws∧xs.length ≤ 200
theorem TF.same {cT:Addr} {H H' : Hp} {t:Addr} {nm wy:Str} {ou:Addr} {zs:List Str} {dv:List V} {rws:List Rw} (h:TF cT H t nm wy ou zs dv rws) (s:Same H H'):TF cT H' t nm wy ou zs dv rws :=
  let ⟨rl,dx,na,dl,fs,xs,h1,h2,h3,h4,h5,h6,h7,h8,h9,h10,h11,r⟩:=h
  ⟨rl,dx,na,dl,fs,xs,s _ _ h1,h2,h3,h4,h5,h6,h7,s _ _ h8,s _ _ h9,s _ _ h10,h11.same s,r⟩
def trn (os:List Nat) (x:Rw):Rw:=(prm os x.1,x.2)
structure TOk (cN cW:Addr) (H:Hp) (nm wy:Str) (ou:Addr) (zs:List Str) (dv:List V) (rws:List Rw) (bs:Prs) (o:Int × Int):Prop where
  words:∀ z ∈ nm :: zs,isw z = true
  once:(nm :: zs).Nodup
  one:1 ≤ zs.length
  four:zs.length ≤ 4
  way:wy ∈ six
  sum:wy = Str.ofString "sum" → ∃ dx fs,H ou = some (.ins cN dx fs)
  doms:RefL dv bs (Dom cN cW H)
  out:Dom cN cW H ou o
  len:bs.length = zs.length
  rows:∀ w ∈ rws,RowOk bs o w
  few:rws.length ≤ 200
theorem hide_upd {H:Hp} {D:Addr} {o:HO} : hide (upd H D o) D = hide H D:=by
  funext b
  unfold hide
  by_cases h:b = D
  · rw [if_pos h,if_pos h]
  · rw [if_neg h,if_neg h,upd_ne h]
theorem hide_mono {H H' : Hp} {D:Addr} (s:Same H H'):Same (hide H D) (hide H' D):=fun b o e=>by
  unfold hide at e ⊢
  by_cases h:b = D
  · rw [if_pos h] at e; cases e
  · rw [if_neg h] at e ⊢; exact s b o e
theorem hide_le (H:Hp) (D:Addr):Same (hide H D) H:=fun b o e=>by
  unfold hide at e
  by_cases h:b = D
  · rw [if_pos h] at e; cases e
  · rw [if_neg h] at e; exact e
def pc (ws:List BW) (p:List Nat):List Int:=(ws.filter fun w=>bfit w.1 p).map (·.2)
def WrdD (C:Addr) (H:Hp) (a:Addr) (zs:List Str):Prop:=∃ dx l,H a = some (.ins C dx [("low",.int 0),("high",.int (hiW zs)),("words",.ref l)])∧H l = some (.lst (zs.map V.str))
def NumD (C:Addr) (H:Hp) (a:Addr) (lo hi:Int):Prop:=∃ dx,H a = some (.ins C dx [("low",.int lo),("high",.int hi)])
theorem WrdD.same {C:Addr} {H H' : Hp} {a:Addr} {zs:List Str} (h:WrdD C H a zs) (s:Same H H'):WrdD C H' a zs:=let ⟨dx,l,e,f⟩:=h; ⟨dx,l,s _ _ e,s _ _ f⟩
theorem NumD.same {C:Addr} {H H' : Hp} {a:Addr} {lo hi:Int} (h:NumD C H a lo hi) (s:Same H H'):NumD C H' a lo hi:=let ⟨dx,e⟩:=h; ⟨dx,s _ _ e⟩
def bnd (i:Int):Prop:=i.natAbs < 10 ^ 60
def Shown (cN cW:Addr) (H:Hp) (d:Addr) (c:Int) (z:Str):Prop :=
  (∃ lo hi,NumD cN H d lo hi∧lo ≤ c∧c ≤ hi∧bnd c∧z = toString c)∨∃ zs,WrdD cW H d zs∧0 ≤ c∧zs[c.toNat]? = some z
theorem isw_of {l:List Nat} (h1:1 ≤ l.length) (h2:l.length ≤ 12) (h3:∀ x ∈ l,97 ≤ x∧x ≤ 122) (h4:l ≠ [110,111,116]):isw ⟨l.toArray⟩ = true:=by
  have ha:allIn ⟨l.toArray⟩ lets = true:=by
    unfold allIn
    rw [List.all_eq_true]
    intro x hx
    exact sg_let (h3 x (by simpa using hx))
  have hn:¬ (V.str ⟨l.toArray⟩ = V.str (Str.ofString "not")):=fun h=>by
    injection h with h
    have e:Str.ofString "not" = ⟨[110,111,116].toArray⟩:=by decide +kernel
    rw [e] at h
    injection h with h
    exact h4 (by simpa using congrArg Array.toList h)
  have hl:(⟨l.toArray⟩:Str).length = l.length:=by simp [Str.length]
  unfold isw
  rw [ha,decide_eq_true (show (1:Int) ≤ (((⟨l.toArray⟩:Str).length:Nat):Int) by omega),decide_eq_true (show (((⟨l.toArray⟩:Str).length:Nat):Int) ≤ 12 by omega)]
  show (true && (true && (!decide (V.str ⟨l.toArray⟩ = V.str (Str.ofString "not")) && true))) = true
  rw [decide_eq_false hn]; rfl
def pz (t:Int):List Nat:=[122,117,118].take t.toNat
def l2w (c k:Int):List Nat:=[97 + (k % 8).toNat,97 + ((k / 8 + c / 80) % 8).toNat]
def w92 (c k:Int):Str:=⟨(pz (c / 80 % 4) ++ l2w c k).toArray⟩
def ws92 (c:Int) (n:Nat):List Str:=(List.range n).map fun j:Nat=>w92 c (0 + (j:Int))
theorem bnd40 {k:Int} (h0:0 ≤ k) (h1:k < 40):bnd k:=by
  unfold bnd
  have e:(40:Nat) ≤ 10 ^ 60:=by decide
  generalize (10 ^ 60:Nat) = W at e ⊢
  omega
abbrev Dk:=Option (List Str) × Int × Int
def DomD (cN cW:Addr) (H:Hp) (d:Addr) (k:Dk):Prop:=match k.1 with
  | none=>NumD cN H d k.2.1 k.2.2
  | some zs=>WrdD cW H d zs∧k.2.1 = 0∧k.2.2 = hiW zs∧Good zs
theorem DomD.same {cN cW:Addr} {H H' : Hp} {d:Addr} {k:Dk} (h:DomD cN cW H d k) (s:Same H H'):DomD cN cW H' d k:=by
  obtain ⟨w,lo,hi⟩:=k
  cases w with
  | none=>exact NumD.same h s
  | some zs=>exact ⟨h.1.same s,h.2⟩
def cutS (zs:List Str) (lo hi:Option Int):List Str:=(zs.drop (HT.sIx zs.length 0 lo)).take (HT.sIx zs.length zs.length hi - HT.sIx zs.length 0 lo)
def shT (k:Dk) (p:Pr):Str :=
  if p = k.2 then Str.ofString "-" else match k.1 with
  | some zs=>Txt.join (Str.ofString ", ") (cutS zs (some p.1) (some (p.2 + 1)))
  | none=>if p.1 = p.2 then Str.ofString (toString p.1) else if p.1 = k.2.1 then Str.ofString ".." ++ Str.ofString (toString p.2) else if p.2 = k.2.2 then Str.ofString (toString p.1) ++ Str.ofString ".." else Str.ofString (toString p.1) ++ Str.ofString ".." ++ Str.ofString (toString p.2)
structure PrOk (k:Dk) (p:Pr):Prop where
  lo:k.2.1 ≤ p.1
  le:p.1 ≤ p.2
  hi:p.2 ≤ k.2.2
  b1:bnd p.1
  b2:bnd p.2
def GdK (k:Dk):Prop:=match k.1 with
  | none=>True
  | some zs=>Good zs
def WvOk (H:Hp) (wv:V) (k:Dk):Prop:=match k.1 with
  | none=>wv = .non
  | some zs=>∃ l,wv = .ref l∧H l = some (.lst (zs.map V.str))∧Good zs
def DomN (N:Addr→Prop) (cN cW:Addr) (H:Hp) (d:Addr) (k:Dk):Prop:=match k.1 with
  | none=>NumD cN H d k.2.1 k.2.2
  | some zs=>(∃ dx l,N l∧H d = some (.ins cW dx [("low",.int 0),("high",.int (hiW zs)),("words",.ref l)])∧H l = some (.lst (zs.map V.str)))∧k.2.1 = 0∧k.2.2 = hiW zs∧Good zs
theorem DomN.dom {N:Addr→Prop} {cN cW:Addr} {H:Hp} {d:Addr} {k:Dk} (h:DomN N cN cW H d k):DomD cN cW H d k:=by
  obtain ⟨w,lo,hi⟩:=k
  cases w with
  | none=>exact h
  | some zs=>obtain ⟨⟨dx,l,_,e,f⟩,r⟩:=h; exact ⟨⟨dx,l,e,f⟩,r⟩
theorem DomN.same {N:Addr→Prop} {cN cW:Addr} {H H' : Hp} {d:Addr} {k:Dk} (h:DomN N cN cW H d k) (s:Same H H'):DomN N cN cW H' d k:=by
  obtain ⟨w,lo,hi⟩:=k
  cases w with
  | none=>exact NumD.same h s
  | some zs=>obtain ⟨⟨dx,l,n,e,f⟩,r⟩:=h; exact ⟨⟨dx,l,n,s _ _ e,s _ _ f⟩,r⟩
theorem DomN.upd {N:Addr→Prop} {cN cW:Addr} {H:Hp} {d D:Addr} {k:Dk} {o:HO} {zs:List V} (h:DomN N cN cW H d k) (n:¬ N D) (e:H D = some (.lst zs)):DomN N cN cW (upd H D o) d k:=by
  obtain ⟨w,lo,hi⟩:=k
  cases w with
  | none =>
    obtain ⟨dx,f⟩:=h
    exact ⟨dx,(upd_ne (ne_of f e (by intro z; cases z))).trans f⟩
  | some ws =>
    obtain ⟨⟨dx,l,m,f,g⟩,r⟩:=h
    exact ⟨⟨dx,l,m,(upd_ne (ne_of f e (by intro z; cases z))).trans f,(upd_ne (fun (z:l = D)=>n (by rw [← z]; exact m))).trans g⟩,r⟩
def WvN (N:Addr→Prop) (H:Hp) (wv:V) (k:Dk):Prop:=match k.1 with
  | none=>wv = .non
  | some zs=>∃ l,N l∧wv = .ref l∧H l = some (.lst (zs.map V.str))∧Good zs
theorem isw_len {z:Str} (h:isw z = true):z.length ≤ 12:=by
  unfold isw at h
  simp only [Bool.and_eq_true,decide_eq_true_eq] at h
  omega
theorem sum_le {zs:List Str} {m:Nat} (h:∀ z ∈ zs,z.length ≤ m):(zs.map (·.length)).sum ≤ zs.length * m:=by
  induction zs with
  | nil=>simp
  | cons z zs ih =>
    have h1:=h z (by simp)
    have h2:=ih fun y hy=>h y (List.mem_cons_of_mem _ hy)
    rw [List.map_cons,List.sum_cons,List.length_cons,Nat.succ_mul]
    omega
theorem join_ok {zs:List Str} {m n:Nat} (h:∀ z ∈ zs,z.length ≤ m) (hl:zs.length ≤ n) (hm:n * m + n * 64 ≤ 16777216):(zs.map (·.length)).sum + zs.length * 64 ≤ 16777216:=by
  have h1:=sum_le h
  have h2:zs.length * m ≤ n * m:=Nat.mul_le_mul_right m hl
  have h3:zs.length * 64 ≤ n * 64:=Nat.mul_le_mul_right 64 hl
  omega
def pairEq (p q:Pr):Bool:=eqV (.int p.1) (.int q.1) && eqV (.int p.2) (.int q.2)
def shN (lo hi:Int) (p:Pr):Str:=if p.1 = p.2 then Str.ofString (toString p.1) else if p.1 = lo then Str.ofString ".." ++ Str.ofString (toString p.2) else if p.2 = hi then Str.ofString (toString p.1) ++ Str.ofString ".." else Str.ofString (toString p.1) ++ Str.ofString ".." ++ Str.ofString (toString p.2)
theorem len_ap (a b:Str):(a ++ b).length = a.length + b.length:=by
  show (Str.append a b).length = _
  unfold Str.append Str.length
  simp
def hcs (c:Int):List Nat:=(List.range (c % 6).toNat).map fun j:Nat=>97 + (c / (3 * (0 + (j:Int)) + 1) % 13).toNat
def tcs (c:Int):List Nat:=(List.range (c / 7 % 6).toNat).map fun j:Nat=>97 + (c / (5 * (0 + (j:Int)) + 2) % 13).toNat
def lwc (c k:Int):List Nat:=hcs c ++ ([97 + ((c / 11 + 3 * k) % 26).toNat] ++ tcs c)
def lw (c k:Int):Str:=⟨(lwc c k).toArray⟩
def lws (c:Int) (n:Nat):List Str:=(List.range n).map fun j:Nat=>lw c (0 + (j:Int))
theorem lws_succ (c:Int) (n:Nat):lws c (n + 1) = lws c n ++ [lw c (0 + (n:Int))]:=by unfold lws; rw [List.range_succ,List.map_append]; rfl
theorem lws_len (c:Int) (n:Nat):(lws c n).length = n:=by unfold lws; simp
theorem lwc_mem {c k:Int} {x:Nat} (h:x ∈ lwc c k):(97 ≤ x∧x ≤ 109)∨x = 97 + ((c / 11 + 3 * k) % 26).toNat:=by
  unfold lwc at h
  rcases List.mem_append.mp h with h | h
  · unfold hcs at h
    obtain ⟨j,_,rfl⟩:=List.mem_map.mp h
    have:=Int.emod_lt_of_pos (c / (3 * (0 + (j:Int)) + 1)) (show (0:Int) < 13 by decide)
    omega
  · rcases List.mem_append.mp h with h | h
    · exact .inr (by simpa using h)
    · unfold tcs at h
      obtain ⟨j,_,rfl⟩:=List.mem_map.mp h
      have:=Int.emod_lt_of_pos (c / (5 * (0 + (j:Int)) + 2)) (show (0:Int) < 13 by decide)
      omega
theorem hcs_len (c:Int):(hcs c).length ≤ 5:=by
  unfold hcs
  rw [List.length_map,List.length_range]
  have:=Int.emod_lt_of_pos c (show (0:Int) < 6 by decide)
  omega
theorem tcs_len (c:Int):(tcs c).length ≤ 5:=by
  unfold tcs
  rw [List.length_map,List.length_range]
  have:=Int.emod_lt_of_pos (c / 7) (show (0:Int) < 6 by decide)
  omega
theorem lw_isw (c k:Int):isw (lw c k) = true:=by
  have h1:=hcs_len c
  have h2:=tcs_len c
  have m1:=Int.emod_lt_of_pos (c / 11 + 3 * k) (show (0:Int) < 26 by decide)
  refine isw_of (by unfold lwc; simp; omega) (by unfold lwc; simp; omega) (fun x hx=>?_) (fun h=>?_)
  · rcases lwc_mem hx with hx | hx <;> omega
  · have a:(110:Nat) ∈ lwc c k:=by rw [h]; simp
    have b:(111:Nat) ∈ lwc c k:=by rw [h]; simp
    rcases lwc_mem a with a | a
    · omega
    · rcases lwc_mem b with b | b <;> omega
theorem lw_inj {c k k' : Int} (h0:0 ≤ k) (h1:k < 8) (h2:0 ≤ k') (h3:k' < 8) (e:lw c k = lw c k'):k = k':=by
  unfold lw at e
  injection e with e
  have e:lwc c k = lwc c k':=by simpa using congrArg Array.toList e
  unfold lwc at e
  have e:=List.append_cancel_left e
  injection e with e1 e2
  have:=Int.emod_nonneg (c / 11 + 3 * k) (show (26:Int) ≠ 0 by decide)
  have:=Int.emod_nonneg (c / 11 + 3 * k') (show (26:Int) ≠ 0 by decide)
  generalize c / 11 = d at *
  omega
theorem lws_nodup {c:Int} {n:Nat} (h:n ≤ 8):(lws c n).Nodup:=by
  unfold lws
  rw [List.nodup_iff_pairwise_ne,List.pairwise_map]
  refine List.Pairwise.imp_of_mem (R:=fun a b=>a ≠ b) (fun {a b} ha hb hab e=>?_) List.nodup_range
  have ha:=List.mem_range.mp ha
  have hb:=List.mem_range.mp hb
  have:=lw_inj (by omega) (by omega) (by omega) (by omega) e
  omega
theorem lws_isw {c:Int} {n:Nat} {z:Str} (hz:z ∈ lws c n):isw z = true:=by
  unfold lws at hz
  obtain ⟨j,_,rfl⟩:=List.mem_map.mp hz
  exact lw_isw _ _
theorem lws_good {c:Int} {n:Nat} (h1:1 ≤ n) (h2:n ≤ 8):Good (lws c n):=⟨by rw [lws_len]; exact h1,by rw [lws_len]; omega,fun z hz=>lws_isw hz,lws_nodup h2⟩
theorem join_chars:∀ xs:List Nat,Txt.join (Str.ofString "") (xs.map fun x=>(⟨#[x]⟩:Str)) = ⟨xs.toArray⟩:=fun xs=>by
  rw [show Txt.join (Str.ofString "") (xs.map fun x=>(⟨#[x]⟩:Str)) = (Str.ofString "").join (xs.map fun x=>(⟨#[x]⟩:Str)) from StrLaws.glued_eq_join _ _]
  have e0:Str.ofString "" = Str.empty:=by decide +kernel
  rw [e0]
  induction xs with
  | nil=>rfl
  | cons x xs ih =>
    cases xs with
    | nil=>rfl
    | cons y ys =>
      show (⟨#[x]⟩:Str) ++ Str.empty ++ Str.join Str.empty ((y :: ys).map fun x=>(⟨#[x]⟩:Str)) = _
      rw [ih]
      show Str.append (Str.append _ _) _ = _
      unfold Str.append Str.empty
      simp
theorem chars_ok (xs:List Nat) (h:xs.length ≤ 5):((xs.map fun x=>(⟨#[x]⟩:Str)).map (·.length)).sum + (xs.map fun x=>(⟨#[x]⟩:Str)).length * 64 ≤ 16777216 :=
  join_ok (m:=1) (n:=5) (fun z hz=>by obtain ⟨x,_,rfl⟩:=List.mem_map.mp hz; exact Nat.le_refl 1) (by rw [List.length_map]; exact h) (by decide)
structure PD where
  lo:Int
  hi:Int
  ws:List Str
def PDA (N:Addr→Prop) (H:Hp) (r:Addr) (p:PD):Prop:=∃ l:Addr,N r∧N l∧H r = some (.tup [.int p.lo,.int p.hi,.ref l])∧H l = some (.lst (p.ws.map V.str))
theorem PDA.same {N:Addr→Prop} {H H' : Hp} {r:Addr} {p:PD} (h:PDA N H r p) (s:Same H H'):PDA N H' r p:=let ⟨l,n,m,e,f⟩:=h; ⟨l,n,m,s _ _ e,s _ _ f⟩
theorem PDA.wk {N N' : Addr→Prop} {H:Hp} {r:Addr} {p:PD} (h:PDA N H r p) (w:∀ x,N x→N' x):PDA N' H r p:=let ⟨l,n,m,e,f⟩:=h; ⟨l,w _ n,w _ m,e,f⟩
def PD.k (p:PD):Dk:=(if p.ws = [] then none else some p.ws,p.lo,p.hi)
structure PDok (p:PD):Prop where
  le:p.lo ≤ p.hi
  wd:p.ws ≠ []→Good p.ws∧p.lo = 0∧p.hi = hiW p.ws
  bd:∀ x:Int,p.lo ≤ x→x ≤ p.hi→bnd x
theorem p30:(10:Int) ^ (30:Int).toNat = ((10 ^ 30:Nat):Int):=by decide
theorem p29:(10:Int) ^ (29:Int).toNat = ((10 ^ 29:Nat):Int):=by decide
theorem bnd31 {x:Int} (h0 : -((10 ^ 31:Nat):Int) ≤ x) (h1:x ≤ ((10 ^ 31:Nat):Int)):bnd x:=by
  unfold bnd
  have k:(10 ^ 31:Nat) < 10 ^ 60:=by decide
  generalize (10 ^ 31:Nat) = A at h0 h1 k
  generalize (10 ^ 60:Nat) = W at k ⊢
  omega
theorem cdiv_small {i j:Int} (h:0 < j) (h2:j < 1000):CDiv i j:=⟨h,by omega⟩
theorem pl1 {H:Hp} {t l:Addr} {a b:Int} (ht:H t = none) (hl:upd H t (.tup [.int a,.int b]) l = none):Same H (upd (upd H t (.tup [.int a,.int b])) l (.lst [.ref t]))∧upd (upd H t (.tup [.int a,.int b])) l (.lst [.ref t]) l = some (.lst [.ref t])∧PL (upd (upd H t (.tup [.int a,.int b])) l (.lst [.ref t])) [.ref t] [(a,b)] :=
  ⟨(same_new ht _).trans (same_new hl _),upd_same,.cons ⟨t,rfl,same_new hl _ _ _ upd_same⟩ .nil⟩
theorem pl2 {H:Hp} {t u l:Addr} {a b c d:Int} (ht:H t = none) (hu:upd H t (.tup [.int a,.int b]) u = none) (hl:upd (upd H t (.tup [.int a,.int b])) u (.tup [.int c,.int d]) l = none):Same H (upd (upd (upd H t (.tup [.int a,.int b])) u (.tup [.int c,.int d])) l (.lst [.ref t,.ref u]))∧upd (upd (upd H t (.tup [.int a,.int b])) u (.tup [.int c,.int d])) l (.lst [.ref t,.ref u]) l = some (.lst [.ref t,.ref u])∧PL (upd (upd (upd H t (.tup [.int a,.int b])) u (.tup [.int c,.int d])) l (.lst [.ref t,.ref u])) [.ref t,.ref u] [(a,b),(c,d)] :=
  ⟨((same_new ht _).trans (same_new hu _)).trans (same_new hl _),upd_same,.cons ⟨t,rfl,same_new hl _ _ _ (same_new hu _ _ _ upd_same)⟩ (.cons ⟨u,rfl,same_new hl _ _ _ upd_same⟩ .nil)⟩
def SPI (p:PD) (H H' : Hp) (pl:Addr):Prop:=Same H H'∧∃ (ts:List V) (ps:Prs),H' pl = some (.lst ts)∧PL H' ts ps∧(∀ x ∈ ps,p.lo ≤ x.1∧x.2 ≤ p.hi)∧ps.length ≤ 2
theorem SPI.one {p:PD} {H H1 H2:Hp} {l t:Addr} {a b:Int} (s:Same H H1) (h:Same H1 H2∧H2 l = some (.lst [.ref t])∧PL H2 [.ref t] [(a,b)]) (h1:p.lo ≤ a) (h2:b ≤ p.hi):SPI p H H2 l :=
  ⟨s.trans h.1,_,_,h.2.1,h.2.2,(fun x hx=>by rw [show x = (a,b) by simpa using hx]; exact ⟨h1,h2⟩),by simp⟩
theorem SPI.two {p:PD} {H H1 H2:Hp} {l t u:Addr} {a b c d:Int} (s:Same H H1) (h:Same H1 H2∧H2 l = some (.lst [.ref t,.ref u])∧PL H2 [.ref t,.ref u] [(a,b),(c,d)]) (h1:p.lo ≤ a) (h2:b ≤ p.hi) (h3:p.lo ≤ c) (h4:d ≤ p.hi):SPI p H H2 l :=
  ⟨s.trans h.1,_,_,h.2.1,h.2.2,(fun x hx=>by
    rcases List.mem_cons.mp hx with rfl | hx
    · exact ⟨h1,h2⟩
    · rw [show x = (c,d) by simpa using hx]; exact ⟨h3,h4⟩),by simp⟩
def PoA (N:Addr→Prop) (H:Hp) (a:Addr) (p:PD):Prop:=N a∧∃ xs:List Int,H a = some (.lst (xs.map V.int))∧xs.length = 3∧∀ x ∈ xs,p.lo ≤ x∧x ≤ p.hi
theorem PoA.same {N:Addr→Prop} {H H' : Hp} {a:Addr} {p:PD} (h:PoA N H a p) (s:Same H H'):PoA N H' a p:=let ⟨n,xs,e,r⟩:=h; ⟨n,xs,s _ _ e,r⟩
theorem PoA.pick {N:Addr→Prop} {H:Hp} {a:Addr} {p:PD} (h:PoA N H a p) {K:PySem.W.Frag} (m:Int):∃ xs x,SqL K H a xs∧atI xs (m % 3) = some (.int x)∧p.lo ≤ x∧x ≤ p.hi:=by
  obtain ⟨_,xs,e,hl,hb⟩:=h
  have m0:=Int.emod_nonneg m (show (3:Int) ≠ 0 by decide)
  have m1:=Int.emod_lt_of_pos m (show (0:Int) < 3 by decide)
  obtain ⟨k,ek⟩:∃ k:Nat,m % 3 = (k:Int):=⟨_,(Int.toNat_of_nonneg m0).symm⟩
  have hk:k < xs.length:=by omega
  have ex:=List.getElem?_eq_getElem hk
  refine ⟨_,xs[k],SqL.of e,?_,hb _ (List.mem_of_getElem? ex)⟩
  rw [ek]
  exact atI_nat (by rw [List.getElem?_map,ex]; rfl)
structure RowFit (ds:List PD) (cols:List Nat) (ow:Nat) (w:Rw):Prop where
  len:w.1.length = cols.length
  inn:∀ (j k:Nat) (ps:Prs) (p:PD),w.1[j]? = some ps→cols[j]? = some k→ds[k]? = some p→∀ x ∈ ps,p.lo ≤ x.1∧x.1 ≤ x.2∧x.2 ≤ p.hi
  few:∀ ps ∈ w.1,ps.length ≤ 2
  code:∀ p,ds[ow]? = some p→p.lo ≤ w.2∧w.2 ≤ p.hi
theorem PDA.updN {N:Addr→Prop} {H:Hp} {r D:Addr} {p:PD} {zs:List V} {o:HO} (h:PDA N H r p) (n:¬ N D) (e:H D = some (.lst zs)):PDA N (upd H D o) r p :=
  let ⟨l,n1,n2,f,g⟩:=h
  ⟨l,n1,n2,(upd_ne (ne_of f e (by intro z; cases z))).trans f,(upd_ne (fun (z:l = D)=>n (by rw [← z]; exact n2))).trans g⟩
theorem PoA.updN {N:Addr→Prop} {H:Hp} {r D:Addr} {p:PD} {o:HO} (h:PoA N H r p) (n:¬ N D):PoA N (upd H D o) r p :=
  let ⟨n1,xs,f,g⟩:=h
  ⟨n1,xs,(upd_ne (fun (z:r = D)=>n (by rw [← z]; exact n1))).trans f,g⟩
theorem PoA.any {N:Addr→Prop} {H:Hp} {r:Addr} {p:PD} (h:PoA N H r p):PoA NT H r p:=⟨trivial,h.2⟩
def hideL (H:Hp) (F:List Addr):Hp:=fun b=>if b ∈ F then none else H b
theorem hideL_of {H:Hp} {F:List Addr} {b:Addr} {o:HO} (e:H b = some o) (n:b ∉ F):hideL H F b = some o:=by unfold hideL; rw [if_neg n]; exact e
theorem hideL_le (H:Hp) (F:List Addr):Same (hideL H F) H:=fun b o e=>by
  unfold hideL at e
  by_cases h:b ∈ F
  · rw [if_pos h] at e; cases e
  · rw [if_neg h] at e; exact e
theorem hideL_mono {H H' : Hp} {F:List Addr} (s:Same H H'):Same (hideL H F) (hideL H' F):=fun b o e=>by
  by_cases h:b ∈ F
  · unfold hideL at e; rw [if_pos h] at e; cases e
  · exact hideL_of (s b o (hideL_le H F b o e)) h
theorem hideL_upd {H:Hp} {F:List Addr} {D:Addr} {o:HO} (h:D ∈ F):hideL (upd H D o) F = hideL H F:=by
  funext b
  unfold hideL
  by_cases hb:b ∈ F
  · rw [if_pos hb,if_pos hb]
  · rw [if_neg hb,if_neg hb]
    exact upd_ne fun z=>hb (by rw [z]; exact h)
theorem hideL_keep {H H' : Hp} {F:List Addr} (s:Same H H') (n:∀ D ∈ F,H D = none):Same H (hideL H' F):=fun b o e=>hideL_of (s b o e) fun hb=>by rw [n b hb] at e; cases e
theorem hideL_tups {H:Hp} {F:List Addr} (hF:∀ D ∈ F,∃ zs,H D = some (.lst zs)):SameT H (hideL H F):=fun b t e=>hideL_of e fun hb=>by
  obtain ⟨zs,ez⟩:=hF b hb
  rw [ez] at e
  cases e
theorem RowA.hideL {H H2:Hp} {F:List Addr} {r:Addr} {w:Rw} (h:RowA (fun a=>H a = none) H2 r w) (hF:∀ D ∈ F,∃ zs,H D = some (.lst zs)) (s:Same H H2):RowA NT (My.hideL H2 F) r w:=by
  obtain ⟨ce,cs,e,n,f,c⟩:=h
  have hF2:∀ D ∈ F,∃ zs,H2 D = some (.lst zs):=fun D hD=>let ⟨zs,ez⟩:=hF D hD; ⟨zs,s _ _ ez⟩
  have out:∀ x,H x = none→x ∉ F:=fun x hx hm=>by obtain ⟨zs,ez⟩:=hF x hm; rw [ez] at hx; cases hx
  refine ⟨ce,cs,hideL_tups hF2 _ _ e,trivial,hideL_of f (out _ n),RefL.mono c fun l ps h=>?_⟩
  obtain ⟨n1,ys,g,pl⟩:=h
  exact ⟨trivial,ys,hideL_of g (out _ n1),pl.mono (hideL_tups hF2)⟩
def TT (H:Hp) (r:Addr) (t:(List Nat × Str) × Addr):Prop:=∃ cl:Addr,H r = some (.tup [.ref cl,.str t.1.2,.ref t.2])∧H cl = some (.lst (vN t.1.1))
theorem TT.same {H H' : Hp} {r:Addr} {t:(List Nat × Str) × Addr} (h:TT H r t) (s:Same H H'):TT H' r t:=let ⟨cl,e,f⟩:=h; ⟨cl,s _ _ e,s _ _ f⟩
structure TOk2 (fN:Nat) (ds:List PD) (j:Nat) (t:List Nat × Str):Prop where
  some_:1 ≤ t.1.length
  few:t.1.length ≤ 3
  lt:∀ k ∈ t.1,k < fN + j
  nd:t.1.Nodup
  way:t.2 ∈ six
  sum:t.2 = Str.ofString "sum" → ∀ p,ds[fN + j]? = some p→p.ws = []
def clm (c:Int) (ow:Nat) (m:Nat):List Nat:=(List.range m).map fun j:Nat=>((c / 3 + (0 + (j:Int))) % (ow:Int)).toNat
theorem clm_lt {c:Int} {ow m:Nat} (h:1 ≤ ow):∀ k ∈ clm c ow m,k < ow:=fun k hk=>by
  unfold clm at hk
  obtain ⟨j,_,rfl⟩:=List.mem_map.mp hk
  have h1:=Int.emod_lt_of_pos (c / 3 + (0 + (j:Int))) (show (0:Int) < (ow:Int) by omega)
  have h0:=Int.emod_nonneg (c / 3 + (0 + (j:Int))) (show (ow:Int) ≠ 0 by omega)
  omega
theorem emod_near {x i j n:Int} (h0:0 ≤ i) (h1:i < n) (h2:0 ≤ j) (h3:j < n) (e:(x + i) % n = (x + j) % n):i = j:=by
  have key:∀ a b:Int,0 ≤ a→a < n→0 ≤ b→b < n→b ≤ a→(x + a) % n = (x + b) % n→a = b:=fun a b a0 a1 b0 b1 hab e=>by
    have h:=Int.emod_eq_emod_iff_emod_sub_eq_zero.mp e
    rw [show x + a - (x + b) = a - b by omega,Int.emod_eq_of_lt (by omega) (by omega)] at h
    omega
  by_cases h:j ≤ i
  · exact key i j h0 h1 h2 h3 h e
  · exact (key j i h2 h3 h0 h1 (by omega) e.symm).symm
theorem clm_nd {c:Int} {ow m:Nat} (h:1 ≤ ow) (hm:m ≤ ow):(clm c ow m).Nodup:=by
  unfold clm
  rw [List.nodup_iff_pairwise_ne,List.pairwise_map]
  refine List.Pairwise.imp_of_mem (R:=fun a b=>a ≠ b) (fun {a b} ha hb hab e=>?_) List.nodup_range
  have ha:=List.mem_range.mp ha
  have hb:=List.mem_range.mp hb
  have a0:=Int.emod_nonneg (c / 3 + (0 + (a:Int))) (show (ow:Int) ≠ 0 by omega)
  have b0:=Int.emod_nonneg (c / 3 + (0 + (b:Int))) (show (ow:Int) ≠ 0 by omega)
  have:=emod_near (x:=c / 3) (i:=0 + (a:Int)) (j:=0 + (b:Int)) (n:=(ow:Int)) (by omega) (by omega) (by omega) (by omega) (by omega)
  omega
theorem clm_len (c:Int) (ow m:Nat):(clm c ow m).length = m:=by unfold clm; simp
theorem clm_succ (c:Int) (ow m:Nat):vN (clm c ow (m + 1)) = vN (clm c ow m) ++ [.int ((((c / 3 + (0 + (m:Int))) % (ow:Int)).toNat:Nat):Int)]:=by
  unfold clm vN
  rw [List.range_succ,List.map_append,List.map_append]
  rfl
structure PT where
  cols:List Nat
  way:Str
  rows:List Rw
def PTA (H:Hp) (r:Addr) (t:PT):Prop:=∃ (cl rl:Addr) (zs:List V),H r = some (.tup [.ref cl,.str t.way,.ref rl])∧H cl = some (.lst (vN t.cols))∧H rl = some (.lst zs)∧RL NT H zs t.rows
theorem PTA.same {H H' : Hp} {r:Addr} {t:PT} (h:PTA H r t) (s:Same H H'):PTA H' r t:=let ⟨cl,rl,zs,e,f,g,k⟩:=h; ⟨cl,rl,zs,s _ _ e,s _ _ f,s _ _ g,k.same s⟩
structure PTok (fN:Nat) (ds:List PD) (j:Nat) (t:PT):Prop where
  ok:TOk2 fN ds j (t.cols,t.way)
  rows:∀ w ∈ t.rows,RowFit ds t.cols (fN + j) w
  few:t.rows.length ≤ 200
def PlA (H:Hp) (r:Addr) (zs:List Str) (ds:List PD) (ts:List PT):Prop:=∃ (nl dl tl_:Addr) (dv tv:List V),H r = some (.tup [.ref nl,.ref dl,.ref tl_])∧H nl = some (.lst (zs.map V.str))∧H dl = some (.lst dv)∧RefL dv ds (PDA NT H)∧H tl_ = some (.lst tv)∧RefL tv ts (PTA H)
theorem PlA.same {H H' : Hp} {r:Addr} {zs:List Str} {ds:List PD} {ts:List PT} (h:PlA H r zs ds ts) (s:Same H H'):PlA H' r zs ds ts :=
  let ⟨nl,dl,tl_,dv,tv,e1,e2,e3,h1,e4,h2⟩:=h
  ⟨nl,dl,tl_,dv,tv,s _ _ e1,s _ _ e2,s _ _ e3,RefL.mono h1 (fun _ _ p=>p.same s),s _ _ e4,RefL.mono h2 fun _ _ p=>p.same s⟩
structure PlOk (zs:List Str) (ds:List PD) (ts:List PT) (fN:Nat):Prop where
  words:∀ z ∈ zs,isw z = true
  nd:zs.Nodup
  len:zs.length = ds.length
  n7:ds.length ≤ 7
  tab:fN + ts.length = ds.length
  some_:1 ≤ ts.length
  doms:∀ p ∈ ds,PDok p
  tabs:∀ (j:Nat) (t:PT),ts[j]? = some t→PTok fN ds j t
theorem grow_hide {H H9:Hp} {F F' : List Addr} (h:∀ b o,b ∉ F→H b = some o→H9 b = some o∧b ∉ F'):Same (hideL H F) (hideL H9 F'):=fun b o e=>by
  by_cases hb:b ∈ F
  · unfold hideL at e; rw [if_pos hb] at e; cases e
  · obtain ⟨e9,n9⟩:=h b o hb (hideL_le H F b o e)
    exact hideL_of e9 n9
def rls (ts:List ((List Nat × Str) × Addr)):List Addr:=ts.map (·.2)
theorem rls_snoc (ts:List ((List Nat × Str) × Addr)) (t:(List Nat × Str) × Addr):rls (ts ++ [t]) = rls ts ++ [t.2]:=by unfold rls; rw [List.map_append]; rfl
theorem nat_min {c:Int} {ow:Nat} (h1:1 ≤ ow):∃ m:Nat,(if (ow:Int) < 1 + c % 3 then (ow:Int) else 1 + c % 3) = (m:Int)∧1 ≤ m∧m ≤ 3∧m ≤ ow:=by
  have c0:=Int.emod_nonneg c (show (3:Int) ≠ 0 by decide)
  have c1:=Int.emod_lt_of_pos c (show (0:Int) < 3 by decide)
  refine ⟨(if (ow:Int) < 1 + c % 3 then (ow:Int) else 1 + c % 3).toNat,?_,?_,?_,?_⟩ <;> split <;> omega
theorem rls_get {ts:List ((List Nat × Str) × Addr)} {j:Nat} {t:(List Nat × Str) × Addr} (e:ts[j]? = some t):(rls ts)[j]? = some t.2:=by unfold rls; rw [List.getElem?_map,e]; rfl
theorem rls_mem {ts:List ((List Nat × Str) × Addr)} {j:Nat} {t:(List Nat × Str) × Addr} (e:ts[j]? = some t):t.2 ∈ rls ts:=List.mem_of_getElem? (rls_get e)
def mkT (t:(List Nat × Str) × Addr) (rs:List Rw):PT:=⟨t.1.1,t.1.2,rs⟩
def RwI (H:Hp) (F:List Addr) (fN:Nat) (ds:List PD) (ts:List ((List Nat × Str) × Addr)) (rss:List (List Rw)) (n:Nat):Prop:=rss.length = ts.length∧∀ (j:Nat) (t:(List Nat × Str) × Addr) (rs:List Rw),ts[j]? = some t→rss[j]? = some rs→(∃ zs,H t.2 = some (.lst zs)∧RL NT (hideL H F) zs rs)∧(∀ w ∈ rs,RowFit ds t.1.1 (fN + j) w)∧rs.length ≤ n
theorem RwI.grow {H H2:Hp} {fN n jj:Nat} {ds:List PD} {ts:List ((List Nat × Str) × Addr)} {rss:List (List Rw)} {t:(List Nat × Str) × Addr} {rs:List Rw} {zs:List V} {r:Addr} {w:Rw} (h:RwI H (rls ts) fN ds ts rss n) (hnd:(rls ts).Nodup) (s:Same H H2) (et:ts[jj]? = some t) (er:rss[jj]? = some rs) (ez:H t.2 = some (.lst zs)) (hz:RL NT (hideL H (rls ts)) zs rs) (hw:RowA NT (hideL H2 (rls ts)) r w) (hf:RowFit ds t.1.1 (fN + jj) w):RwI (upd H2 t.2 (.lst (zs ++ [.ref r]))) (rls ts) fN ds ts (rss.set jj (rs ++ [w])) (n + 1):=by
  refine ⟨by rw [List.length_set]; exact h.1,fun j t' rs' e1 e2=>?_⟩
  have hh:hideL (upd H2 t.2 (.lst (zs ++ [.ref r]))) (rls ts) = hideL H2 (rls ts):=hideL_upd (rls_mem et)
  rw [hh]
  by_cases hj:jj = j
  · subst hj
    rw [et] at e1
    cases e1
    rw [List.getElem?_set_self (List.getElem?_eq_some_iff.mp er).1] at e2
    cases e2
    obtain ⟨_,h2,h3⟩:=h.2 jj t rs et er
    refine ⟨⟨_,upd_same,RefL.snoc (hz.same (hideL_mono s)) hw⟩,fun w' hw'=>?_,by rw [List.length_append,List.length_singleton]; omega⟩
    rcases List.mem_append.mp hw' with hw' | hw'
    · exact h2 w' hw'
    · rw [show w' = w by simpa using hw']; exact hf
  · rw [List.getElem?_set_ne hj] at e2
    obtain ⟨⟨zs',f1,f2⟩,h2,h3⟩:=h.2 j t' rs' e1 e2
    refine ⟨⟨zs',(upd_ne fun z=>?_).trans (s _ _ f1),f2.same (hideL_mono s)⟩,h2,by omega⟩
    have a1:=rls_get e1
    have a2:=rls_get et
    rw [z] at a1
    exact hj (nd_ix hnd a2 a1)
abbrev ofS:=Str.ofString
def cutW (zs:List Str) (p:Pr):List Str:=cutS zs (some p.1) (some (p.2 + 1))
def partT (k:Dk) (p:Pr):Str:=match k.1 with
  | some zs=>Txt.join (ofS ", ") (cutW zs p)
  | none=>shN k.2.1 k.2.2 p
def fieldT (k:Dk) (ps:Prs):Str:=if ps = [] then ofS "not -" else if ps = [k.2] then ofS "-" else Txt.join (ofS ", ") (ps.map (partT k))
def writT (k:Dk):Str:=match k.1 with
  | some zs=>Txt.join (ofS ", ") zs
  | none=>Str.ofString (toString k.2.1) ++ ofS ".." ++ Str.ofString (toString k.2.2)
structure CellOk (k:Dk) (ps:Prs):Prop where
  few:ps.length ≤ 2
  inn:∀ p ∈ ps,PrOk k p
  gd:GdK k
  w0:∀ zs,k.1 = some zs→k.2 = (0,hiW zs)
theorem PD.k_none {p:PD} (h:p.ws = []):p.k = (none,p.lo,p.hi):=by unfold PD.k; rw [if_pos h]
theorem PD.k_some {p:PD} (h:p.ws ≠ []):p.k = (some p.ws,p.lo,p.hi):=by unfold PD.k; rw [if_neg h]
theorem DomD.dom {cN cW:Addr} {H:Hp} {d:Addr} {k:Dk} (h:DomD cN cW H d k):Dom cN cW H d k.2:=by
  obtain ⟨w,lo,hi⟩:=k
  cases w with
  | none=>obtain ⟨dx,e⟩:=h; exact ⟨cN,.inl rfl,dx,_,e,rfl,rfl,rfl⟩
  | some zs =>
    obtain ⟨⟨dx,l,e,_⟩,h0,h1,_⟩:=h
    have h0:lo = 0:=h0
    have h1:hi = hiW zs:=h1
    subst h0 h1
    exact ⟨cW,.inr rfl,dx,_,e,rfl,rfl,rfl⟩
def valT (k:Dk) (c:Int):Str:=match k.1 with
  | some zs=>zs.getD c.toNat Str.empty
  | none=>Str.ofString (toString c)
def headT (nm:Str) (zs:List Str) (k:Dk) (wy:Str):Str:=ofS "table " ++ nm ++ ofS ": " ++ Txt.join (ofS ", ") zs ++ ofS " -> " ++ writT k ++ ofS " by " ++ wy
def rowT (ks:List Dk) (w:Rw) (ko:Dk):Str:=ofS "when " ++ Txt.join (ofS " | ") (List.zipWith fieldT ks w.1) ++ ofS " -> " ++ valT ko w.2
theorem PlOk.own {zs:List Str} {ds:List PD} {ts:List PT} {fN:Nat} (h:PlOk zs ds ts fN) {k:Nat} {t:PT} (e:ts[k]? = some t):fN + k < ds.length:=by
  have:=(List.getElem?_eq_some_iff.mp e).1
  have:=h.tab
  omega
theorem PlOk.lt {zs:List Str} {ds:List PD} {ts:List PT} {fN:Nat} (h:PlOk zs ds ts fN) {k:Nat} {t:PT} (e:ts[k]? = some t):∀ j ∈ t.cols,j < ds.length:=fun j hj=>by
  have h1:=(h.tabs k t e).ok.lt j hj
  have h2:=h.own e
  omega
theorem PlOk.rows {zs:List Str} {ds:List PD} {ts:List PT} {fN:Nat} (h:PlOk zs ds ts fN) {k:Nat} {t:PT} (e:ts[k]? = some t) {po:PD} (eo:ds[fN + k]? = some po):∀ w ∈ t.rows,RowOk (prm t.cols (ds.map fun p=>(p.lo,p.hi))) (po.lo,po.hi) w:=fun w hw=>by
  have f:=(h.tabs k t e).rows w hw
  have lt:=h.lt e
  have lt2:∀ j ∈ t.cols,j < (ds.map fun p=>(p.lo,p.hi)).length:=fun j hj=>by rw [List.length_map]; exact lt j hj
  have g:=prm_get (os:=t.cols) (xs:=ds.map fun p=>(p.lo,p.hi)) lt2
  have c:=f.code po eo
  refine ⟨by rw [f.len,g.1],fun j ps b e1 e2 p hp=>?_,c.1,c.2⟩
  have hj:j < t.cols.length:=by rw [← f.len]; exact (List.getElem?_eq_some_iff.mp e1).1
  have ec:=List.getElem?_eq_getElem hj
  rw [g.2 j _ ec,List.getElem?_map] at e2
  have ed:=List.getElem?_eq_getElem (lt _ (List.mem_of_getElem? ec))
  rw [ed] at e2
  cases e2
  have:=f.inn j _ ps _ e1 ec ed p hp
  exact ⟨this.1,this.2.2⟩
theorem hide_tups {H:Hp} {D:Addr} {zs:List V} (e:H D = some (.lst zs)):SameT H (hide H D):=fun b t f=>hide_of f (ne_of f e (by intro z; cases z))
theorem prm_snoc2 {α:Type} {os:List Nat} {o:Nat} {xs:List α} {x:α} (e:xs[o]? = some x):prm (os ++ [o]) xs = prm os xs ++ [x]:=by
  unfold prm
  rw [List.filterMap_append]
  simp [e]
theorem DomN.wk {N N' : Addr→Prop} {cN cW:Addr} {H:Hp} {d:Addr} {k:Dk} (h:DomN N cN cW H d k) (w:∀ x,N x→N' x):DomN N' cN cW H d k:=by
  obtain ⟨w_,lo,hi⟩:=k
  cases w_ with
  | none=>exact h
  | some zs=>obtain ⟨⟨dx,l,n,e,f⟩,r⟩:=h; exact ⟨⟨dx,l,w _ n,e,f⟩,r⟩
theorem PlOk.nm12 {zs:List Str} {ds:List PD} {ts:List PT} {fN:Nat} (h:PlOk zs ds ts fN) {z:Str} (hz:z ∈ zs):z.length ≤ 12:=isw_len (h.words z hz)
theorem get_bls {bs:List Bool} {i:Nat} {x:V} (e:(bs.map V.bl)[i]? = some x):∃ b,x = .bl b∧bs[i]? = some b:=by
  rw [List.getElem?_map] at e
  cases q:bs[i]? with
  | none=>rw [q] at e; cases e
  | some z=>rw [q] at e; cases e; exact ⟨z,rfl,rfl⟩
theorem rEqL_bls {K:PySem.W.Frag} {H:Hp} {Q:VK} {a b:Addr} {xs ys:List Bool} {r:Bool} (ha:SqL K H a (xs.map V.bl)) (hb:SqL K H b (ys.map V.bl)) (hr:r = true↔xs = ys) (q:Q (.bl r) H):rEqL K false (.ref a) (.ref b) H Q:=by
  by_cases hl:xs.length = ys.length
  · refine ⟨a,b,_,_,rfl,rfl,ha,hb,.inr ⟨by rw [List.length_map,List.length_map]; exact hl,fun j=>decide (xs[j]? = ys[j]?),fun j x y e1 e2=>?_,?_⟩⟩
    · obtain ⟨z,rfl,f1⟩:=get_bls e1
      obtain ⟨z2,rfl,f2⟩:=get_bls e2
      have h1:=EqI.flat (K:=K) (H:=H) (x:=V.bl z) (y:=V.bl z2) rfl rfl
      have h2:eqV (V.bl z) (V.bl z2) = decide (xs[j]? = ys[j]?):=by
        rw [f1,f2,Bool.eq_iff_iff]
        simp [eqV]
      rw [h2] at h1
      exact h1
    · have e:(List.range (xs.map V.bl).length).all (fun j=>decide (xs[j]? = ys[j]?)) = r:=by
        rw [Bool.eq_iff_iff,hr,List.all_eq_true]
        constructor
        · intro h
          apply List.ext_getElem?
          intro j
          by_cases hj:j < xs.length
          · exact of_decide_eq_true (h j (List.mem_range.mpr (by rw [List.length_map]; exact hj)))
          · rw [List.getElem?_eq_none (by omega),List.getElem?_eq_none (by omega)]
        · intro h j _
          rw [h]
          exact decide_eq_true rfl
      rw [if_neg Bool.false_ne_true,e]
      exact q
  · have e:r = false:=by
      rw [Bool.eq_false_iff]
      intro z
      exact hl (by rw [hr.mp z])
    rw [e] at q
    exact ⟨a,b,_,_,rfl,rfl,ha,hb,.inl ⟨by rw [List.length_map,List.length_map]; exact hl,q⟩⟩
theorem inV_strs (z:Str) (ns:List Str):inV (.str z) (ns.map V.str) = ns.contains z:=by
  unfold inV
  induction ns with
  | nil=>rfl
  | cons n ns ih =>
    rw [List.map_cons,List.any_cons,List.contains_cons,ih]
    congr 1
    show (n == z) = (z == n)
    rw [Bool.eq_iff_iff,beq_iff_eq,beq_iff_eq]
    exact ⟨Eq.symm,Eq.symm⟩
def TbA (cT cN cW:Addr) (H:Hp) (zs:List Str) (ds:List PD) (ts:List PT) (fN:Nat) (a:Addr) (k:Nat):Prop:=∃ (t:PT) (nm:Str) (po:PD) (ou:Addr) (dv:List V),ts[k]? = some t∧zs[fN + k]? = some nm∧ds[fN + k]? = some po∧TF cT H a nm t.way ou (prm t.cols zs) dv t.rows∧RefL dv (prm t.cols (ds.map PD.k)) (DomD cN cW H)∧DomD cN cW H ou po.k
theorem TbA.same {cT cN cW:Addr} {H H' : Hp} {zs:List Str} {ds:List PD} {ts:List PT} {fN:Nat} {a:Addr} {k:Nat} (h:TbA cT cN cW H zs ds ts fN a k) (s:Same H H'):TbA cT cN cW H' zs ds ts fN a k :=
  let ⟨t,nm,po,ou,dv,h1,h2,h3,h4,h5,h6⟩:=h
  ⟨t,nm,po,ou,dv,h1,h2,h3,h4.same s,RefL.mono h5 (fun _ _ p=>p.same s),h6.same s⟩
def FcA (cN cW:Addr) (H:Hp) (zs:List Str) (ds:List PD) (r:Addr) (k:Nat):Prop:=∃ (nm:Str) (po:PD) (d:Addr),zs[k]? = some nm∧ds[k]? = some po∧H r = some (.tup [.str nm,.ref d])∧DomD cN cW H d po.k
theorem FcA.same {cN cW:Addr} {H H' : Hp} {zs:List Str} {ds:List PD} {r:Addr} {k:Nat} (h:FcA cN cW H zs ds r k) (s:Same H H'):FcA cN cW H' zs ds r k :=
  let ⟨nm,po,d,h1,h2,h3,h4⟩:=h
  ⟨nm,po,d,h1,h2,s _ _ h3,h4.same s⟩
def tnm (zs:List Str) (fN k:Nat):Str:=zs.getD (fN + k) Str.empty
theorem tnm_at {zs:List Str} {fN k:Nat} {nm:Str} (e:zs[fN + k]? = some nm):tnm zs fN k = nm:=by unfold tnm; rw [List.getD_eq_getElem?_getD,e]; rfl
structure BkI (cT cN cW:Addr) (H:Hp) (zs:List Str) (ds:List PD) (ts:List PT) (fN:Nat) (fv mv:List V) (L:List Nat):Prop where
  ok:PlOk zs ds ts fN
  facts:RefL fv (List.range fN) (FcA cN cW H zs ds)
  tabs:RefL mv L (TbA cT cN cW H zs ds ts fN)
  lt:∀ k ∈ L,k < ts.length
  nd:L.Nodup
  len:L.length = ts.length
  all:∀ k,k < ts.length→k ∈ L
theorem BkI.same {cT cN cW:Addr} {H H' : Hp} {zs:List Str} {ds:List PD} {ts:List PT} {fN:Nat} {fv mv:List V} {L:List Nat} (h:BkI cT cN cW H zs ds ts fN fv mv L) (s:Same H H'):BkI cT cN cW H' zs ds ts fN fv mv L :=
  ⟨h.ok,RefL.mono h.facts (fun _ _ p=>p.same s),RefL.mono h.tabs (fun _ _ p=>p.same s),h.lt,h.nd,h.len,h.all⟩
def bnm (zs:List Str) (fN:Nat) (L:List Nat):List Str:=zs.take fN ++ L.map (tnm zs fN)
section
variable {cT cN cW:Addr} {H:Hp} {zs:List Str} {ds:List PD} {ts:List PT} {fN:Nat} {fv mv:List V} {L:List Nat}
theorem BkI.few (h:BkI cT cN cW H zs ds ts fN fv mv L):L.length ≤ 7∧fN ≤ 7∧fN ≤ zs.length:=by
  have h1:=h.ok.n7
  have h2:=h.ok.tab
  have h3:=h.ok.len
  have h4:=h.len
  omega
theorem BkI.tn (h:BkI cT cN cW H zs ds ts fN fv mv L) {k:Nat} (hk:k ∈ L):zs[fN + k]? = some (tnm zs fN k):=by
  have h1:=h.lt k hk
  have h2:=h.ok.tab
  have h3:=h.ok.len
  have e:=List.getElem?_eq_getElem (l:=zs) (i:=fN + k) (by omega)
  rw [e,tnm_at e]
theorem BkI.bnd_ (h:BkI cT cN cW H zs ds ts fN fv mv L):(bnm zs fN L).Nodup:=by
  have hz:=h.ok.nd
  unfold bnm
  refine List.nodup_append.mpr ⟨hz.sublist (List.take_sublist _ _),?_,fun a ha b hb e=>?_⟩
  · rw [List.nodup_iff_pairwise_ne,List.pairwise_map]
    refine List.Pairwise.imp_of_mem (R:=fun a b=>a ≠ b) (fun {a b} ha hb hab e=>?_) h.nd
    have e1:=h.tn ha
    have e2:=h.tn hb
    rw [e] at e1
    have:=nd_ix hz e1 e2
    omega
  · subst e
    obtain ⟨k,hk,e⟩:=List.mem_map.mp hb
    obtain ⟨j,hj⟩:=List.getElem?_of_mem ha
    rw [List.getElem?_take] at hj
    split at hj
    · have e2:=h.tn hk
      rw [e] at e2
      have:=nd_ix hz hj e2
      omega
    · cases hj
theorem BkI.has (h:BkI cT cN cW H zs ds ts fN fv mv L) {z:Str} (hz:z ∈ zs):z ∈ bnm zs fN L:=by
  obtain ⟨j,ej⟩:=List.getElem?_of_mem hz
  unfold bnm
  by_cases hj:j < fN
  · exact List.mem_append_left _ (List.mem_of_getElem? (by rw [List.getElem?_take,if_pos hj]; exact ej))
  · refine List.mem_append_right _ (List.mem_map.mpr ⟨j - fN,h.all _ ?_,?_⟩)
    · have:=(List.getElem?_eq_some_iff.mp ej).1
      have h2:=h.ok.tab
      have h3:=h.ok.len
      omega
    · exact tnm_at (by rw [show fN + (j - fN) = j by omega]; exact ej)
end
def FcN (N:Addr→Prop) (cN cW:Addr) (H:Hp) (zs:List Str) (ds:List PD) (r:Addr) (k:Nat):Prop:=∃ (nm:Str) (po:PD) (d:Addr),zs[k]? = some nm∧ds[k]? = some po∧H r = some (.tup [.str nm,.ref d])∧DomN N cN cW H d po.k
theorem FcN.same {N:Addr→Prop} {cN cW:Addr} {H H' : Hp} {zs:List Str} {ds:List PD} {r:Addr} {k:Nat} (h:FcN N cN cW H zs ds r k) (s:Same H H'):FcN N cN cW H' zs ds r k :=
  let ⟨nm,po,d,h1,h2,h3,h4⟩:=h
  ⟨nm,po,d,h1,h2,s _ _ h3,h4.same s⟩
theorem FcN.upd {N:Addr→Prop} {cN cW:Addr} {H:Hp} {zs:List Str} {ds:List PD} {r D:Addr} {k:Nat} {o:HO} {ys:List V} (h:FcN N cN cW H zs ds r k) (n:¬ N D) (e:H D = some (.lst ys)):FcN N cN cW (L2.upd H D o) zs ds r k :=
  let ⟨nm,po,d,h1,h2,h3,h4⟩:=h
  ⟨nm,po,d,h1,h2,(upd_ne (ne_of h3 e (by intro z; cases z))).trans h3,h4.upd n e⟩
theorem FcN.fc {N:Addr→Prop} {cN cW:Addr} {H:Hp} {zs:List Str} {ds:List PD} {r:Addr} {k:Nat} (h:FcN N cN cW H zs ds r k):FcA cN cW H zs ds r k :=
  let ⟨nm,po,d,h1,h2,h3,h4⟩:=h
  ⟨nm,po,d,h1,h2,h3,h4.dom⟩
theorem rng_get {n j k:Nat} (e:(List.range n)[j]? = some k):k = j∧j < n:=by
  have hj:=(List.getElem?_eq_some_iff.mp e).1
  rw [List.length_range] at hj
  rw [List.getElem?_range hj] at e
  cases e
  exact ⟨rfl,hj⟩
section
variable {cT cN cW:Addr} {H:Hp} {zs:List Str} {ds:List PD} {ts:List PT} {fN:Nat} {fv mv:List V} {L:List Nat}
def DueA (cN cW:Addr) (H:Hp) (zs:List Str) (ds:List PD) (kvs:List (Str × V)):Prop:=∀ (j:Nat) (z:Str) (p:PD),zs[j]? = some z→ds[j]? = some p→∃ d,kvs.lookup z = some (.ref d)∧DomD cN cW H d p.k
theorem look_at {kvs:List (Str × V)} (hn:(kvs.map (·.1)).Nodup):∀ {j:Nat} {k:Str} {v:V},kvs[j]? = some (k,v)→kvs.lookup k = some v:=by
  induction kvs with
  | nil=>intro j k v e; simp at e
  | cons p kvs ih =>
    intro j k v e
    obtain ⟨k0,v0⟩:=p
    rw [List.map_cons] at hn
    have hn':=List.nodup_cons.mp hn
    cases j with
    | zero =>
      cases e
      rw [List.lookup_cons,beq_self_eq_true]
    | succ j =>
      have e:kvs[j]? = some (k,v):=by simpa using e
      have hk:k ≠ k0:=fun z=>hn'.1 (List.mem_map.mpr ⟨(k,v),List.mem_of_getElem? e,z⟩)
      rw [List.lookup_cons,beq_eq_false_iff_ne.mpr hk]
      exact ih hn'.2 e
end
def wts (ts:List PT) (fN:Nat) (L:List Nat) (k:Nat):Bool:=match ts[k]? with
  | some t=>t.cols.any fun c=>decide (fN ≤ c) && L.contains (c - fN)
  | none=>false
theorem min_of:∀ {L:List Nat},L ≠ []→∃ k ∈ L,∀ j ∈ L,k ≤ j
  | [],h=>absurd rfl h
  | [x],_=>⟨x,by simp,fun j hj=>by rw [show j = x by simpa using hj]; exact Nat.le_refl _⟩
  | x :: y :: r,_=>by
    obtain ⟨k,hk,hm⟩:=min_of (L:=y :: r) (by simp)
    by_cases h:x ≤ k
    · refine ⟨x,by simp,fun j hj=>?_⟩
      rcases List.mem_cons.mp hj with rfl | hj
      · exact Nat.le_refl _
      · exact Nat.le_trans h (hm j hj)
    · refine ⟨k,List.mem_cons_of_mem _ hk,fun j hj=>?_⟩
      rcases List.mem_cons.mp hj with rfl | hj
      · omega
      · exact hm j hj
theorem wts_less {zs:List Str} {ds:List PD} {ts:List PT} {fN:Nat} (ok:PlOk zs ds ts fN) {L:List Nat} (hL:L ≠ []):(L.filter (wts ts fN L)).length < L.length:=by
  obtain ⟨k,hk,hm⟩:=min_of hL
  have hw:wts ts fN L k = false:=by
    unfold wts
    cases e:ts[k]? with
    | none=>rfl
    | some t =>
      show (t.cols.any fun c=>decide (fN ≤ c) && L.contains (c - fN)) = false
      rw [List.any_eq_false]
      intro c hc hb
      rw [Bool.and_eq_true,decide_eq_true_iff] at hb
      have h1:=(ok.tabs k t e).ok.lt c hc
      have h2:=hm (c - fN) (by simpa using hb.2)
      omega
  have h1:=List.length_filter_le (wts ts fN L) L
  by_cases h:(L.filter (wts ts fN L)).length = L.length
  · have:=List.length_filter_eq_length_iff.mp h k hk
    rw [hw] at this
    cases this
  · omega
theorem wts_names {zs:List Str} {ds:List PD} {ts:List PT} {fN:Nat} (ok:PlOk zs ds ts fN) {L:List Nat} (hL:∀ k ∈ L,k < ts.length) {k:Nat} {t:PT} (e:ts[k]? = some t):(!((prm t.cols zs).filter fun z=>(L.map (tnm zs fN)).contains z).isEmpty) = wts ts fN L k:=by
  have hlt:=ok.lt e
  have hl1:=ok.len
  have hl2:=ok.tab
  have ltz:∀ j ∈ t.cols,j < zs.length:=fun j hj=>by rw [hl1]; exact hlt j hj
  have gz:=prm_get (os:=t.cols) (xs:=zs) ltz
  have tn:∀ k ∈ L,zs[fN + k]? = some (tnm zs fN k):=fun k hk=>by
    have:=hL k hk
    have e:=List.getElem?_eq_getElem (l:=zs) (i:=fN + k) (by omega)
    rw [e,tnm_at e]
  rw [Bool.eq_iff_iff]
  unfold wts
  rw [e]
  show _↔(t.cols.any fun c=>decide (fN ≤ c) && L.contains (c - fN)) = true
  rw [List.any_eq_true]
  constructor
  · intro h
    have hne:((prm t.cols zs).filter fun z=>(L.map (tnm zs fN)).contains z) ≠ []:=fun z=>by rw [z] at h; cases h
    obtain ⟨z,hz⟩:=List.exists_mem_of_ne_nil _ hne
    obtain ⟨hz1,hz2⟩:=List.mem_filter.mp hz
    have hz2:z ∈ L.map (tnm zs fN):=by simpa using hz2
    obtain ⟨k',hk',rfl⟩:=List.mem_map.mp hz2
    obtain ⟨j,ej⟩:=List.getElem?_of_mem hz1
    have hj:j < t.cols.length:=by rw [← gz.1]; exact (List.getElem?_eq_some_iff.mp ej).1
    have ec:=List.getElem?_eq_getElem hj
    rw [gz.2 j _ ec] at ej
    have:=nd_ix ok.nd ej (tn k' hk')
    refine ⟨_,List.mem_of_getElem? ec,?_⟩
    rw [this,Bool.and_eq_true,decide_eq_true_iff]
    refine ⟨by omega,?_⟩
    rw [show fN + k' - fN = k' by omega]
    simpa using hk'
  · rintro ⟨c,hc,hb⟩
    rw [Bool.and_eq_true,decide_eq_true_iff] at hb
    have hm:c - fN ∈ L:=by simpa using hb.2
    have hz:=tn _ hm
    rw [show fN + (c - fN) = c by omega] at hz
    obtain ⟨j,ej⟩:=List.getElem?_of_mem hc
    have e1:=gz.2 j c ej
    rw [hz] at e1
    have hin:tnm zs fN (c - fN) ∈ (prm t.cols zs).filter fun z=>(L.map (tnm zs fN)).contains z:=List.mem_filter.mpr ⟨List.mem_of_getElem? e1,by simpa using ⟨_,hm,rfl⟩⟩
    cases h:(prm t.cols zs).filter fun z=>(L.map (tnm zs fN)).contains z with
    | nil=>rw [h] at hin; cases hin
    | cons _ _=>rfl
def SmB (z:Str):Prop:=z.length ≤ 1000∧∀ n ∈ z.cps.toList,n < 16 ^ 8
def BkA (cB:Addr) (H:Hp) (b:Addr) (mv:List V):Prop:=∃ (dx:Addr) (fs:List (Str × V)) (ta:Addr),H b = some (.ins cB dx fs)∧fs.lookup (Str.ofString "tables") = some (.ref ta)∧H ta = some (.lst mv)
theorem BkA.same {cB:Addr} {H H' : Hp} {b:Addr} {mv:List V} (h:BkA cB H b mv) (s:Same H H'):BkA cB H' b mv :=
  let ⟨dx,fs,ta,h1,h2,h3⟩:=h
  ⟨dx,fs,ta,s _ _ h1,h2,s _ _ h3⟩
structure BkT (cT cN cW cB:Addr) (H:Hp) (b:Addr) (zs:List Str) (ds:List PD) (ts:List PT) (fN:Nat) (mv:List V) (L:List Nat):Prop where
  bk:BkA cB H b mv
  ok:PlOk zs ds ts fN
  tabs:RefL mv L (TbA cT cN cW H zs ds ts fN)
  lt:∀ k ∈ L,k < ts.length
  few:L.length ≤ 7
theorem BkT.same {cT cN cW cB:Addr} {H H' : Hp} {b:Addr} {zs:List Str} {ds:List PD} {ts:List PT} {fN:Nat} {mv:List V} {L:List Nat} (h:BkT cT cN cW cB H b zs ds ts fN mv L) (s:Same H H'):BkT cT cN cW cB H' b zs ds ts fN mv L :=
  ⟨h.bk.same s,h.ok,RefL.mono h.tabs (fun _ _ p=>p.same s),h.lt,h.few⟩
theorem lws_even {c:Int} {n:Nat} : ∀ z ∈ lws c n,∀ y ∈ lws c n,z.length = y.length:=fun z hz y hy=>by
  obtain ⟨i,_,rfl⟩:=List.mem_map.mp hz
  obtain ⟨j,_,rfl⟩:=List.mem_map.mp hy
  show (lwc c _).toArray.size = (lwc c _).toArray.size
  unfold lwc
  simp
theorem free_back {H H' : Hp} {x a:Addr} {o:HO} (k:∀ b o,b ≠ x→H b = some o→H' b = some o) (hx:H' x = some o) (h:H' a = none):H a = none:=by
  cases e:H a with
  | none=>rfl
  | some u =>
    have n:a ≠ x:=fun z=>by rw [z,hx] at h; cases h
    rw [k a u n e] at h
    cases h
theorem RL.hideN {N:Addr→Prop} {H:Hp} {x C dx:Addr} {fs:List (Str × V)} (hx:H x = some (.ins C dx fs)) {xs:List V} {rws:List Rw} (h:RL N H xs rws):RL N (My.hide H x) xs rws :=
  RefL.mono h fun r w ⟨ce,cs,e,n,f,c⟩=>⟨ce,cs,hide_of e (ne_of e hx (by intro z; cases z)),n,hide_of f (ne_of f hx (by intro z; cases z)),RefL.mono c fun l ps ⟨m,ys,g,p⟩=>⟨m,ys,hide_of g (ne_of g hx (by intro z; cases z)),PL.hide hx p⟩⟩
def TbN (N:Addr→Prop) (cT cN cW:Addr) (H:Hp) (zs:List Str) (ds:List PD) (ts:List PT) (fN:Nat) (a:Addr) (k:Nat):Prop:=∃ (t:PT) (nm:Str) (po:PD) (ou:Addr) (dv:List V) (rl dx na dl:Addr) (fs:List (Str × V)) (xs:List V),ts[k]? = some t∧zs[fN + k]? = some nm∧ds[fN + k]? = some po∧H a = some (.ins cT dx fs)∧fs.lookup (Str.ofString "rows") = some (.ref rl)∧fs.lookup (Str.ofString "name") = some (.str nm)∧fs.lookup (Str.ofString "way") = some (.str t.way)∧fs.lookup (Str.ofString "outcome") = some (.ref ou)∧fs.lookup (Str.ofString "names") = some (.ref na)∧fs.lookup (Str.ofString "domains") = some (.ref dl)∧N na∧N dl∧N rl∧H na = some (.lst ((prm t.cols zs).map V.str))∧H dl = some (.lst dv)∧H rl = some (.lst xs)∧RL N H xs t.rows∧xs.length ≤ 200∧RefL dv (prm t.cols (ds.map PD.k)) (DomN N cN cW H)∧DomN N cN cW H ou po.k
section
variable {N N' : Addr→Prop} {cT cN cW:Addr} {H H' : Hp} {zs:List Str} {ds:List PD} {ts:List PT} {fN:Nat} {a:Addr} {k:Nat}
theorem TbN.tb (h:TbN N cT cN cW H zs ds ts fN a k):TbA cT cN cW H zs ds ts fN a k :=
  let ⟨t,nm,po,ou,dv,rl,dx,na,dl,fs,xs,h1,h2,h3,h4,h5,h6,h7,h8,h9,h10,_,_,_,h11,h12,h13,h14,h15,h16,h17⟩:=h
  ⟨t,nm,po,ou,dv,h1,h2,h3,⟨rl,dx,na,dl,fs,xs,h4,h5,h6,h7,h8,h9,h10,h11,h12,h13,h14.any,h15⟩,RefL.mono h16 (fun _ _ p=>p.dom),h17.dom⟩
theorem TbN.same (h:TbN N cT cN cW H zs ds ts fN a k) (s:Same H H'):TbN N cT cN cW H' zs ds ts fN a k :=
  let ⟨t,nm,po,ou,dv,rl,dx,na,dl,fs,xs,h1,h2,h3,h4,h5,h6,h7,h8,h9,h10,n1,n2,n3,h11,h12,h13,h14,h15,h16,h17⟩:=h
  ⟨t,nm,po,ou,dv,rl,dx,na,dl,fs,xs,h1,h2,h3,s _ _ h4,h5,h6,h7,h8,h9,h10,n1,n2,n3,s _ _ h11,s _ _ h12,s _ _ h13,h14.same s,h15,RefL.mono h16 (fun _ _ p=>p.same s),h17.same s⟩
theorem TbN.wk (h:TbN N cT cN cW H zs ds ts fN a k) (w:∀ x,N x→N' x):TbN N' cT cN cW H zs ds ts fN a k :=
  let ⟨t,nm,po,ou,dv,rl,dx,na,dl,fs,xs,h1,h2,h3,h4,h5,h6,h7,h8,h9,h10,n1,n2,n3,h11,h12,h13,h14,h15,h16,h17⟩:=h
  ⟨t,nm,po,ou,dv,rl,dx,na,dl,fs,xs,h1,h2,h3,h4,h5,h6,h7,h8,h9,h10,w _ n1,w _ n2,w _ n3,h11,h12,h13,RefL.mono h14 (fun _ _ p=>p.wk w),h15,RefL.mono h16 (fun _ _ p=>p.wk w),h17.wk w⟩
theorem TbN.upd {D:Addr} {zz:List V} {o:HO} (h:TbN N cT cN cW H zs ds ts fN a k) (n:¬ N D) (e:H D = some (.lst zz)):TbN N cT cN cW (L2.upd H D o) zs ds ts fN a k :=
  let ⟨t,nm,po,ou,dv,rl,dx,na,dl,fs,xs,h1,h2,h3,h4,h5,h6,h7,h8,h9,h10,n1,n2,n3,h11,h12,h13,h14,h15,h16,h17⟩:=h
  have ne:∀ {b:Addr},N b→b ≠ D:=fun hb z=>n (z ▸ hb)
  ⟨t,nm,po,ou,dv,rl,dx,na,dl,fs,xs,h1,h2,h3,(upd_ne (ne_of h4 e (by intro z; cases z))).trans h4,h5,h6,h7,h8,h9,h10,n1,n2,n3,(upd_ne (ne n1)).trans h11,(upd_ne (ne n2)).trans h12,(upd_ne (ne n3)).trans h13,h14.updN n e,h15,RefL.mono h16 (fun _ _ p=>p.upd n e),h17.upd n e⟩
end
theorem RefL.rev {α:Type} {xs:List V} {as:List α} {P:Addr→α→Prop} (h:RefL xs as P):RefL xs.reverse as.reverse P:=by
  refine ⟨by rw [List.length_reverse,List.length_reverse]; exact h.1,fun j a e=>?_⟩
  have hj:j < as.length:=by have:=(List.getElem?_eq_some_iff.mp e).1; rwa [List.length_reverse] at this
  rw [List.getElem?_reverse hj] at e
  obtain ⟨r,e1,p⟩:=h.2 _ a e
  refine ⟨r,?_,p⟩
  rw [List.getElem?_reverse (by rw [h.1]; exact hj),h.1]
  exact e1
theorem neL_same {K:PySem.W.Frag} {H:Hp} {Q:VK} {a b:Addr} {xs:List V} (ha:SqL K H a xs) (hb:SqL K H b xs) (fl:∀ x ∈ xs,flatV x = true) (q:Q (.bl false) H):rEqL K true (.ref a) (.ref b) H Q:=by
  refine ⟨a,b,xs,xs,rfl,rfl,ha,hb,.inr ⟨rfl,fun _=>true,fun j x y e1 e2=>?_,?_⟩⟩
  · rw [e1] at e2; cases e2
    have z:=fl x (List.mem_of_getElem? e1)
    have:=EqI.flat (K:=K) (H:=H) z z
    rw [eqV_refl z] at this
    exact this
  · have:(List.range xs.length).all (fun _=>true) = true:=by simp
    rw [this]
    exact q
theorem flat_map_str (zs:List Str):∀ x ∈ zs.map V.str,flatV x = true:=fun x hx=>by
  obtain ⟨z,_,rfl⟩:=List.mem_map.mp hx
  rfl
theorem lws_sm {c:Int} {n:Nat} : ∀ z ∈ lws c n,SmB z:=fun z hz=>by
  obtain ⟨i,_,rfl⟩:=List.mem_map.mp hz
  refine ⟨Nat.le_trans (isw_len (lw_isw c _)) (by decide),fun x hx=>?_⟩
  have hx:x ∈ lwc c (0 + (i:Int)):=by simpa [lw] using hx
  have m0:=Int.emod_nonneg (c / 11 + 3 * (0 + (i:Int))) (show (26:Int) ≠ 0 by decide)
  have m1:=Int.emod_lt_of_pos (c / 11 + 3 * (0 + (i:Int))) (show (0:Int) < 26 by decide)
  show x < 4294967296
  rcases lwc_mem hx with h | h <;> omega
theorem smB_app {x y:Str} (h1:SmB x) (h2:SmB y) (hl:x.length + y.length ≤ 1000):SmB (x ++ y):=by
  refine ⟨by rw [len_ap]; exact hl,fun n hn=>?_⟩
  have hn:n ∈ (Str.append x y).cps.toList:=hn
  unfold Str.append at hn
  have hn:n ∈ x.cps∨n ∈ y.cps:=by simpa using hn
  rcases hn with h | h
  · exact h1.2 n (by simpa using h)
  · exact h2.2 n (by simpa using h)
theorem BkT.mem {cT cN cW cB:Addr} {H:Hp} {b:Addr} {zs:List Str} {ds:List PD} {ts:List PT} {fN:Nat} {mv:List V} {L:List Nat} (h:BkT cT cN cW cB H b zs ds ts fN mv L) (all:∀ k,k < ts.length→k ∈ L) {j:Nat} {z:Str} (e:zs[j]? = some z):(L.map (tnm zs fN)).contains z = decide (fN ≤ j):=by
  have hl1:=h.ok.len
  have hl2:=h.ok.tab
  have hj:=(List.getElem?_eq_some_iff.mp e).1
  rw [Bool.eq_iff_iff,decide_eq_true_iff]
  constructor
  · intro hc
    have hc:z ∈ L.map (tnm zs fN):=by simpa using hc
    obtain ⟨k,hk,rfl⟩:=List.mem_map.mp hc
    have hk2:=h.lt k hk
    have e2:=List.getElem?_eq_getElem (l:=zs) (i:=fN + k) (by omega)
    rw [tnm_at e2] at e
    have:=nd_ix h.ok.nd e e2
    omega
  · intro hf
    have hm:=all (j - fN) (by omega)
    have:tnm zs fN (j - fN) = z:=tnm_at (by rw [show fN + (j - fN) = j by omega]; exact e)
    have:z ∈ L.map (tnm zs fN):=List.mem_map.mpr ⟨_,hm,this⟩
    simpa using this
def J21 (K:PySem.W.Frag) (yA yE yN yO yP yQ yR yS yT yU yV yW yX cBook:Addr):Sp:=fun vs H Q _=>∃ (z g:Str),vs = [.str z,.str g]∧Q (.bl (allIn z g)) H
def J23 (K:PySem.W.Frag) (yA yE yN yO yP yQ yR yS yT yU yV yW yX cBook:Addr):Sp:=fun vs H Q _=>∃ i:Int,vs = [.int i]∧Q (.bl true) H
def J20 (K:PySem.W.Frag) (yA yE yN yO yP yQ yR yS yT yU yV yW yX cBook:Addr):Sp:=fun vs H Q _=>∃ (a b:Addr) (k:Dk),vs = [.ref a,.ref b]∧DomD yV yW H a k∧DomD yV yW H b k∧Q (.bl true) H
def J39 (K:PySem.W.Frag) (yA yE yN yO yP yQ yR yS yT yU yV yW yX cBook:Addr):Sp:=fun vs H Q _=>∃ (fa ma:Addr) (fv mv:List V),vs = [.ref fa,.ref ma]∧H fa = some (.lst fv)∧H ma = some (.lst mv)∧fv.length ≤ 20∧mv.length ≤ 30∧Q .non H
def J37 (K:PySem.W.Frag) (yA yE yN yO yP yQ yR yS yT yU yV yW yX cBook:Addr):Sp:=fun vs H Q _=>∃ (t na ou:Addr) (nm wy:Str) (zs ns:List Str) (dv:List V) (rws:List Rw),vs = [.ref t,.ref na]∧TF yX H t nm wy ou zs dv rws∧H na = some (.lst (ns.map V.str))∧zs.length ≤ 100∧∀ (l:Addr) (H' : Hp),Same H H'→H l = none→H' l = some (.lst ((zs.filter fun z=>ns.contains z).map V.str))→Q (.ref l) H'
def J47 (K:PySem.W.Frag) (yA yE yN yO yP yQ yR yS yT yU yV yW yX cBook:Addr):Sp:=fun vs H Q E=>∃ (b:Addr) (nm:Str) (zs:List Str) (ds:List PD) (ts:List PT) (fN:Nat) (mv:List V) (L:List Nat),vs = [.ref b,.str nm]∧BkT yX yV yW cBook H b zs ds ts fN mv L∧SmB nm∧(∀ (a:Addr) (k:Nat),k ∈ L→tnm zs fN k = nm→TbA yX yV yW H zs ds ts fN a k→Q (.ref a) H)∧((∀ k ∈ L,tnm zs fN k ≠ nm)→E (.ref yE) none H)
def J40 (K:PySem.W.Frag) (yA yE yN yO yP yQ yR yS yT yU yV yW yX cBook:Addr):Sp:=fun vs H Q _=>∃ (p r:Addr) (xs ys:List V),vs = [.ref p,.ref r]∧SqL K H p xs∧SqL K H r ys∧1 ≤ xs.length∧xs.length ≤ 4∧ys.length ≤ 200∧Q .non H
def J38 (K:PySem.W.Frag) (yA yE yN yO yP yQ yR yS yT yU yV yW yX cBook:Addr):Sp:=fun vs H Q _=>∃ (cl:Addr) (xs:List V) (w:Rw),vs = [.ref cl,.int w.2]∧H cl = some (.lst xs)∧CL NT H xs w.1∧w.1.length ≤ 100∧∀ (r:Addr) (H' : Hp),Same H H'→H r = none→RowA (fun a=>H a = none) H' r w→Q (.ref r) H'
def J26 (K:PySem.W.Frag) (yA yE yN yO yP yQ yR yS yT yU yV yW yX cBook:Addr):Sp:=fun vs H Q _=>∃ (a:Addr) (ns:List Int) (k:Int),vs = [.ref a,.int k]∧SqL K H a (ns.map V.int)∧0 ≤ k∧∀ r:Int,Q (.int r) H
def J36 (K:PySem.W.Frag) (yA yE yN yO yP yQ yR yS yT yU yV yW yX cBook:Addr):Sp:=fun vs H Q _=>∃ (c:Int) (n:Nat),vs = [.int c,.int (n:Int)]∧n ≤ 40∧∀ (l:Addr) (H' : Hp),Same H H'→H l = none→H' l = some (.lst ((lws c n).map V.str))→Q (.ref l) H'
def J32 (K:PySem.W.Frag) (yA yE yN yO yP yQ yR yS yT yU yV yW yX cBook:Addr):Sp:=fun vs H Q _=>∃ (r:Addr) (p:PD) (c:Int),vs = [.ref r,.int c]∧PDA NT H r p∧PDok p∧∀ (l:Addr) (xs:List Int) (H' : Hp),Same H H'→H l = none→H' l = some (.lst (xs.map V.int))→xs.length = 3→(∀ x ∈ xs,p.lo ≤ x∧x ≤ p.hi)→Q (.ref l) H'
def J34 (K:PySem.W.Frag) (yA yE yN yO yP yQ yR yS yT yU yV yW yX cBook:Addr):Sp:=fun vs H Q _=>∃ (kd one two:Int) (r:Addr) (p:PD),vs = [.int kd,.int one,.int two,.ref r]∧PDA NT H r p∧p.lo ≤ one∧one ≤ two∧two ≤ p.hi∧∀ (l:Addr) (ps:Prs) (H' : Hp),Same H H'→SpA (fun a=>H a = none) H' l ps→(∀ x ∈ ps,p.lo ≤ x.1∧x.1 ≤ x.2∧x.2 ≤ p.hi)→ps.length ≤ 2→Q (.ref l) H'
def J13 (K:PySem.W.Frag) (yA yE yN yO yP yQ yR yS yT yU yV yW yX cBook:Addr):Sp:=fun vs H Q _=>∃ (x dx:Addr) (z:Str),vs = [.ref x,.str z]∧H x = some (.ins yO dx [])∧Q .non (upd H x (.ins yO dx [("called",.str z)]))
def J17 (K:PySem.W.Frag) (yA yE yN yO yP yQ yR yS yT yU yV yW yX cBook:Addr):Sp:=fun vs H Q _=>∃ (x dx:Addr) (z:Str),vs = [.ref x,.str z]∧H x = some (.ins yP dx [])∧Q .non (upd H x (.ins yP dx [("called",.str z)]))
def J15 (K:PySem.W.Frag) (yA yE yN yO yP yQ yR yS yT yU yV yW yX cBook:Addr):Sp:=fun vs H Q _=>∃ (x dx:Addr) (z:Str),vs = [.ref x,.str z]∧H x = some (.ins yQ dx [])∧Q .non (upd H x (.ins yQ dx [("called",.str z)]))
def J16 (K:PySem.W.Frag) (yA yE yN yO yP yQ yR yS yT yU yV yW yX cBook:Addr):Sp:=fun vs H Q _=>∃ (x dx:Addr) (z:Str),vs = [.ref x,.str z]∧H x = some (.ins yR dx [])∧Q .non (upd H x (.ins yR dx [("called",.str z)]))
def J14 (K:PySem.W.Frag) (yA yE yN yO yP yQ yR yS yT yU yV yW yX cBook:Addr):Sp:=fun vs H Q _=>∃ (x dx:Addr) (z:Str),vs = [.ref x,.str z]∧H x = some (.ins yS dx [])∧Q .non (upd H x (.ins yS dx [("called",.str z)]))
def J18 (K:PySem.W.Frag) (yA yE yN yO yP yQ yR yS yT yU yV yW yX cBook:Addr):Sp:=fun vs H Q _=>∃ (x dx:Addr) (z:Str),vs = [.ref x,.str z]∧H x = some (.ins yT dx [])∧Q .non (upd H x (.ins yT dx [("called",.str z)]))
def J1 (K:PySem.W.Frag) (yA yE yN yO yP yQ yR yS yT yU yV yW yX cBook:Addr):Sp:=fun vs H Q _=>∃ (x dx:Addr) (lo hi:Int),vs = [.ref x,.int lo,.int hi]∧H x = some (.ins yV dx [])∧Q .non (mkd yV H x dx lo hi)
def J2 (K:PySem.W.Frag) (yA yE yN yO yP yQ yR yS yT yU yV yW yX cBook:Addr):Sp:=fun vs H Q _=>∃ (x dx:Addr) (lo hi:Int),vs = [.ref x,.int lo,.int hi]∧H x = some (.ins yW dx [])∧Q .non (mkd yW H x dx lo hi)
def J24 (K:PySem.W.Frag) (yA yE yN yO yP yQ yR yS yT yU yV yW yX cBook:Addr):Sp:=fun vs H Q _=>∃ (z:Str),vs = [.str z]∧z.length ≤ 1000∧Q (.bl (isw z)) H
def J41 (K:PySem.W.Frag) (yA yE yN yO yP yQ yR yS yT yU yV yW yX cBook:Addr):Sp:=fun vs H Q _=>∃ (fa ma:Addr) (fv mv:List V) (zs:List Str) (ds:List PD) (ts:List PT) (fN:Nat) (L:List Nat),vs = [.ref fa,.ref ma]∧H fa = some (.lst fv)∧H ma = some (.lst mv)∧BkI yX yV yW H zs ds ts fN fv mv L∧∀ H',Same H H'→Q .non H'
def J44 (K:PySem.W.Frag) (yA yE yN yO yP yQ yR yS yT yU yV yW yX cBook:Addr):Sp:=fun vs H Q _=>∃ (ma:Addr) (mv:List V) (zs:List Str) (ds:List PD) (ts:List PT) (fN:Nat) (L:List Nat),vs = [.ref ma]∧H ma = some (.lst mv)∧PlOk zs ds ts fN∧RefL mv L (TbA yX yV yW H zs ds ts fN)∧(∀ k ∈ L,k < ts.length)∧L.length ≤ 7∧∀ H',Same H H'→Q .non H'
def J22 (K:PySem.W.Frag) (yA yE yN yO yP yQ yR yS yT yU yV yW yX cBook:Addr):Sp:=fun vs H Q E=>∃ (b:Addr) (nm:Str) (zs:List Str) (ds:List PD) (ts:List PT) (fN:Nat) (mv:List V) (L:List Nat),vs = [.ref b,.str nm]∧BkT yX yV yW cBook H b zs ds ts fN mv L∧SmB nm∧(∀ (k:Nat) (t:PT) (l:Addr) (H' : Hp),k ∈ L→tnm zs fN k = nm→ts[k]? = some t→Same H H'→H l = none→H' l = some (.lst (((prm t.cols zs).filter fun z=>(L.map (tnm zs fN)).contains z).map V.str))→Q (.ref l) H')∧((∀ k ∈ L,tnm zs fN k ≠ nm)→E (.ref yE) none H)
def J28 (K:PySem.W.Frag) (yA yE yN yO yP yQ yR yS yT yU yV yW yX cBook:Addr):Sp:=fun vs H Q _=>∃ c:Int,vs = [.int c]∧∀ (r:Addr) (p:PD) (H' : Hp),Same H H'→PDA (fun a=>H a = none) H' r p→PDok p→Q (.ref r) H'
def J33 (K:PySem.W.Frag) (yA yE yN yO yP yQ yR yS yT yU yV yW yX cBook:Addr):Sp:=fun vs H Q _=>∃ (cl dl pl:Addr) (ow:Nat) (c:Int) (cols:List Nat) (dv pvs:List V) (ds:List PD),vs = [.ref cl,.ref dl,.ref pl,.int (ow:Int),.int c]∧H cl = some (.lst (vN cols))∧H dl = some (.lst dv)∧RefL dv ds (PDA NT H)∧H pl = some (.lst pvs)∧RefL pvs ds (PoA NT H)∧(∀ k ∈ cols,k < ds.length)∧ow < ds.length∧cols.length ≤ 10∧∀ (r:Addr) (w:Rw) (H' : Hp),Same H H'→RowA (fun a=>H a = none) H' r w→RowFit ds cols ow w→Q (.ref r) H'
def J5 (K:PySem.W.Frag) (yA yE yN yO yP yQ yR yS yT yU yV yW yX cBook:Addr):Sp:=fnew yO (Str.ofString "first")
def J10 (K:PySem.W.Frag) (yA yE yN yO yP yQ yR yS yT yU yV yW yX cBook:Addr):Sp:=fnew yP (Str.ofString "only")
def J7 (K:PySem.W.Frag) (yA yE yN yO yP yQ yR yS yT yU yV yW yX cBook:Addr):Sp:=fnew yQ (Str.ofString "like")
def J8 (K:PySem.W.Frag) (yA yE yN yO yP yQ yR yS yT yU yV yW yX cBook:Addr):Sp:=fnew yR (Str.ofString "low")
def J6 (K:PySem.W.Frag) (yA yE yN yO yP yQ yR yS yT yU yV yW yX cBook:Addr):Sp:=fnew yS (Str.ofString "high")
def J11 (K:PySem.W.Frag) (yA yE yN yO yP yQ yR yS yT yU yV yW yX cBook:Addr):Sp:=fnew yT (Str.ofString "sum")
def J3 (K:PySem.W.Frag) (yA yE yN yO yP yQ yR yS yT yU yV yW yX cBook:Addr):Sp:=fun vs H Q _=>∃ (a:Addr) (b:Int × Int) (i:Int),vs = [.ref a,.int i]∧DomC yV H a b.1 b.2∧b.1 ≤ i∧i ≤ b.2∧Q (.bl true) H
def J4 (K:PySem.W.Frag) (yA yE yN yO yP yQ yR yS yT yU yV yW yX cBook:Addr):Sp:=fun vs H Q _=>∃ (a:Addr) (b:Int × Int) (i:Int),vs = [.ref a,.int i]∧DomC yW H a b.1 b.2∧b.1 ≤ i∧i ≤ b.2∧Q (.bl true) H
def J9 (K:PySem.W.Frag) (yA yE yN yO yP yQ yR yS yT yU yV yW yX cBook:Addr):Sp:=fun vs H Q _=>∃ (x dx:Addr) (lo hi:Int),vs = [.ref x,.int lo,.int hi]∧H x = some (.ins yV dx [])∧lo ≤ hi∧Q .non (mkd yV H x dx lo hi)
def J42 (K:PySem.W.Frag) (yA yE yN yO yP yQ yR yS yT yU yV yW yX cBook:Addr):Sp:=fun vs H Q _=>∃ (fa ma:Addr) (fv mv:List V) (zs:List Str) (ds:List PD) (ts:List PT) (fN:Nat) (L:List Nat),vs = [.ref fa,.ref ma]∧H fa = some (.lst fv)∧H ma = some (.lst mv)∧BkI yX yV yW H zs ds ts fN fv mv L∧∀ H',Same H H'→Q .non H'
def J43 (K:PySem.W.Frag) (yA yE yN yO yP yQ yR yS yT yU yV yW yX cBook:Addr):Sp:=fun vs H Q _=>∃ (p:Addr) (zs:List Str),vs = [.ref p]∧SqL K H p (zs.map V.str)∧(∀ z ∈ zs,isw z = true)∧zs.Nodup∧zs.length ≤ 100∧∀ H',Same H H'→Q .non H'
def J45 (K:PySem.W.Frag) (yA yE yN yO yP yQ yR yS yT yU yV yW yX cBook:Addr):Sp:=fun vs H Q _=>∃ (dl ou cl:Addr) (dv xs:List V) (bs:Prs) (o:Int × Int) (w:Rw),vs = [.ref dl,.ref ou,.ref cl,.int w.2]∧SqL K H dl dv∧RefL dv bs (Dom yV yW H)∧Dom yV yW H ou o∧H cl = some (.lst xs)∧CL NT H xs w.1∧RowOk bs o w∧∀ H',Same H H'→Q .non H'
def J27 (K:PySem.W.Frag) (yA yE yN yO yP yQ yR yS yT yU yV yW yX cBook:Addr):Sp:=fun vs H Q _=>∃ (a:Addr) (ns:List Int),vs = [.ref a]∧SqL K H a (ns.map V.int)∧∀ (r:Addr) (zs:List Str) (ds:List PD) (ts:List PT) (fN:Nat) (H' : Hp),Same H H'→PlA H' r zs ds ts→PlOk zs ds ts fN→1 ≤ fN→(∀ z ∈ zs,∀ y ∈ zs,z.length = y.length)→(∀ z ∈ zs,SmB z)→Q (.ref r) H'
def J31 (K:PySem.W.Frag) (yA yE yN yO yP yQ yR yS yT yU yV yW yX cBook:Addr):Sp:=fun vs H Q _=>∃ (b:Addr) (nm:Str) (zs:List Str) (ds:List PD) (ts:List PT) (fN:Nat) (mv:List V) (L:List Nat),vs = [.ref b,.str nm]∧BkT yX yV yW cBook H b zs ds ts fN mv L∧SmB nm∧(∀ k ∈ L,tnm zs fN k ≠ nm)∧∀ H',Same H H'→Q (.bl true) H'
def J19 (K:PySem.W.Frag) (yA yE yN yO yP yQ yR yS yT yU yV yW yX cBook:Addr):Sp:=fun vs H Q _=>∃ (x dx p:Addr) (zs:List Str),vs = [.ref x,.ref p]∧H x = some (.ins yW dx [])∧H p = some (.lst (zs.map V.str))∧Good zs ∧
  ∀ (H' : Hp) (l:Addr),(∀ b o,b ≠ x→H b = some o→H' b = some o)→H' x = some (.ins yW dx [("low",.int 0),("high",.int (hiW zs)),("words",.ref l)])→H' l = some (.lst (zs.map V.str))→H l = none→Q .non H'
def J48 (K:PySem.W.Frag) (yA yE yN yO yP yQ yR yS yT yU yV yW yX cBook:Addr):Sp:=fun vs H Q _=>∃ z:Str,vs = [.str z]∧z ∈ six∧(∀ i:Nat,six[i]? = some z→∀ (x C:Addr) (H' : Hp),Same H H'→(cl6 yO yP yQ yR yS yT)[i]? = some C→WyN C H' x z→Q (.ref x) H')
def J0 (K:PySem.W.Frag) (yA yE yN yO yP yQ yR yS yT yU yV yW yX cBook:Addr):Sp:=fun vs H Q _=>∃ (x dx fa ma:Addr) (fv mv:List V) (zs:List Str) (ds:List PD) (ts:List PT) (fN:Nat) (L:List Nat),vs = [.ref x,.ref fa,.ref ma]∧H x = some (.ins cBook dx [])∧H fa = some (.lst fv)∧H ma = some (.lst mv)∧BkI yX yV yW H zs ds ts fN fv mv L∧∀ (H' : Hp) (fs:List (Str × V)) (ta:Addr),(∀ b o,b ≠ x→H b = some o→H' b = some o)→H' x = some (.ins cBook dx fs)→fs.lookup (Str.ofString "tables") = some (.ref ta)→H' ta = some (.lst mv)→Q .non H'
def J46 (K:PySem.W.Frag) (yA yE yN yO yP yQ yR yS yT yU yV yW yX cBook:Addr):Sp:=fun vs H Q _=>∃ (z:Str) (ou:Addr),vs = [.str z,.ref ou]∧z ∈ six∧(z = Str.ofString "sum" → ∃ dx fs,H ou = some (.ins yV dx fs))∧∀ H',Same H H'→Q .non H'
def J30 (K:PySem.W.Frag) (yA yE yN yO yP yQ yR yS yT yU yV yW yX cBook:Addr):Sp:=fun vs H Q _=>∃ (r:Addr) (p:PD),vs = [.ref r]∧PDA NT H r p∧PDok p∧∀ (a:Addr) (H' : Hp),Same H H'→DomN (fun x=>H x = none) yV yW H' a p.k→Q (.ref a) H'
def J29 (K:PySem.W.Frag) (yA yE yN yO yP yQ yR yS yT yU yV yW yX cBook:Addr):Sp:=fun vs H Q _=>∃ (r:Addr) (zs:List Str) (ds:List PD) (ts:List PT) (fN:Nat),vs = [.ref r]∧PlA H r zs ds ts∧PlOk zs ds ts fN∧∀ (l:Addr) (fv:List V) (H' : Hp),Same H H'→H' l = some (.lst fv)→RefL fv (List.range fN) (FcA yV yW H' zs ds)→Q (.ref l) H'
def J12 (K:PySem.W.Frag) (yA yE yN yO yP yQ yR yS yT yU yV yW yX cBook:Addr):Sp:=fun vs H Q _=>∃ (x dx na dl ou rl:Addr) (nm wy:Str) (zs:List Str) (dv rx:List V) (bs:Prs) (o:Int × Int) (rws:List Rw),vs = [.ref x,.str nm,.ref na,.ref dl,.ref ou,.str wy,.ref rl]∧H x = some (.ins yX dx [])∧H na = some (.lst (zs.map V.str))∧(∀ z ∈ nm :: zs,isw z = true)∧(nm :: zs).Nodup∧1 ≤ zs.length∧zs.length ≤ 4∧wy ∈ six∧(wy = Str.ofString "sum" → ∃ dx fs,H ou = some (.ins yV dx fs))∧H dl = some (.lst dv)∧RefL dv bs (Dom yV yW H)∧Dom yV yW H ou o∧H rl = some (.lst rx)∧RL NT H rx rws∧rx.length ≤ 200∧bs.length ≤ 4∧(∀ w ∈ rws,RowOk bs o w) ∧
  ∀ (H' : Hp) (fs:List (Str × V)) (rl' : Addr) (xs' : List V),(∀ b o,b ≠ x→H b = some o→H' b = some o)→H' x = some (.ins yX dx fs)→fs.lookup (Str.ofString "rows") = some (.ref rl')→fs.lookup (Str.ofString "way") = some (.str wy)→fs.lookup (Str.ofString "outcome") = some (.ref ou)→fs.lookup (Str.ofString "name") = some (.str nm)→(∃ na' dl' : Addr,H na' = none∧H dl' = none∧fs.lookup (Str.ofString "names") = some (.ref na')∧fs.lookup (Str.ofString "domains") = some (.ref dl')∧H' na' = some (.lst (zs.map V.str))∧H' dl' = some (.lst dv))→H rl' = none→H' rl' = some (.lst xs')→RL (fun a=>H a = none) H' xs' rws→Q .non H'
def J35 (K:PySem.W.Frag) (yA yE yN yO yP yQ yR yS yT yU yV yW yX cBook:Addr):Sp:=fun vs H Q _=>∃ (r:Addr) (k:Nat) (zs:List Str) (ds:List PD) (ts:List PT) (fN:Nat) (t:PT) (nm:Str) (po:PD),vs = [.ref r,.int (k:Int)]∧PlA H r zs ds ts∧PlOk zs ds ts fN∧ts[k]? = some t∧zs[fN + k]? = some nm∧ds[fN + k]? = some po∧∀ (x:Addr) (H' : Hp),Same H H'→TbN (fun a=>H a = none) yX yV yW H' zs ds ts fN x k→Q (.ref x) H'
def J25 (K:PySem.W.Frag):Sp:=fun vs H Q _=>∃ (a:Addr) (ns:List Int),vs = [.ref a]∧SqL K H a (ns.map V.int)∧ns.length ≤ 63∧∀ H',Q (.bl true) H'
section
variable {P:Program} {w:World} {K:PySem.W.Frag} {mg:Str→Option Value} {base:Heap} {f:Addr} {fd:FuncData} {yA yE yN yO yP yQ yR yS yT yU yV yW yX cBook:Addr}
theorem O_21 (F:Fun K "all_among" "all_among" Y21 f fd) (bl:Bl K mg yA yE yN yO yP yQ yR yS yT yU yV yW yX cBook)  : FnOk P w K mg base CX0 1 f fd ["text", "signs"] (J21 K yA yE yN yO yP yQ yR yS yT yU yV yW yX cBook):=by
  refine F.ok Z21 (fun vs H Q E h=>?_) (fun cdv A outer s H vs Q E hr h=>?_)
  · obtain ⟨z,g,rfl,q⟩:=h
    rfl
  obtain ⟨z,g,rfl,q⟩:=h
  refine ⟨_,(pss_cons (ps_for PassesOwn.never rfl (pi_str (pv 0)) (pg_name (i:=2) Z21.nd rfl (Or.inl rfl))
     (pss_one (ps_if (pt_cmpR op_notin_str (pv 2) (pv 1) (by with_unfolding_all rfl))
     (pss_one (ps_ret pe_bl))
     pss_nil)))
     (pss_one (ps_ret pe_bl))),?_⟩
  refine ⟨_,rfl,z,rfl,for_str (fun i σ H'=>(∃ c2:Option V,σ = [some (.str z),some (.str g),c2])∧H' = H∧(z.cps.toList.take i).all (sg g) = true) ⟨⟨_,rfl⟩,rfl,rfl⟩ (fun i c σ H' e h=>?_) (fun σ H' h=>?_)⟩
  · obtain ⟨⟨c2,rfl⟩,e0,ha⟩:=h
    rw [e0]
    refine ⟨_,rfl,_,rfl,_,_,rfl,rfl,_,rfl,?_⟩
    refine ite2 (fun d=>?_) (fun d=>?_)
    · have z2:allIn z g = false:=all_no e (not_sg d)
      rw [z2] at q; exact q
    · exact ⟨⟨_,rfl⟩,rfl,all_succ e (is_sg d) ha⟩
  · obtain ⟨⟨c2,rfl⟩,e0,ha⟩:=h
    rw [e0]
    rw [all_done ha] at q; exact q
theorem O_23 (F:Fun K "is_whole" "is_whole" Y23 f fd) (bl:Bl K mg yA yE yN yO yP yQ yR yS yT yU yV yW yX cBook)  : FnOk P w K mg base CX0 1 f fd ["value"] (J23 K yA yE yN yO yP yQ yR yS yT yU yV yW yX cBook):=by
  refine F.ok Z23 (fun vs H Q E h=>?_) (fun cdv A outer s H vs Q E hr h=>?_)
  · obtain ⟨i,rfl,q⟩:=h
    rfl
  obtain ⟨i,rfl,q⟩:=h
  refine ⟨_,(pss_one (ps_ret (pe_and (pe_callB call_isiG rfl bl.isinstance_ PyProof.Rows.boot_isinstance (pa_cons (pv 0) (pa_cons (pe_bltn (v:=.ty "int") rfl bl.int_ PyProof.Rows.boot_int rfl) pa_nil))) (pe_one (pe_not (pe_callB call_isiG rfl bl.isinstance_ PyProof.Rows.boot_isinstance (pa_cons (pv 0) (pa_cons (pe_bltn (v:=.ty "bool") rfl bl.bool_ PyProof.Rows.boot_bool rfl) pa_nil)))))))),?_⟩
  exact ⟨_,rfl,_,_,_,_,true,rfl,.ty _,.inl (.int _),(by first | rfl | with_unfolding_all rfl | decide +kernel),_,rfl,iteT ⟨_,rfl,_,_,_,_,false,rfl,.ty _,.inl (.int _),(by first | rfl | with_unfolding_all rfl | decide +kernel),_,rfl,q⟩⟩
theorem O_20 (F:Fun K "alike" "alike" Y20 f fd) (bl:Bl K mg yA yE yN yO yP yQ yR yS yT yU yV yW yX cBook)  : FnOk P w K mg base CX0 1 f fd ["one", "other"] (J20 K yA yE yN yO yP yQ yR yS yT yU yV yW yX cBook):=by
  refine F.ok Z20 (fun vs H Q E h=>?_) (fun cdv A outer s H vs Q E hr h=>?_)
  · obtain ⟨a,b,k,rfl,ha,hb,q⟩:=h
    rfl
  obtain ⟨a,b,k,rfl,ha,hb,q⟩:=h
  refine ⟨_,(pss_cons (ps_if (PW.pt (pw_and (pt_val (pe_callB call_isiG rfl bl.isinstance_ PyProof.Rows.boot_isinstance (pa_cons (pv 0) (pa_cons (pe_glob (v:=.ref yV) rfl bl.Numbers_ rfl) pa_nil)))) (pw_and1 (pt_val (pe_callB call_isiG rfl bl.isinstance_ PyProof.Rows.boot_isinstance (pa_cons (pv 1) (pa_cons (pe_glob (v:=.ref yV) rfl bl.Numbers_ rfl) pa_nil)))))))
     (pss_one (ps_ret (pe_and (pe_cmpR op_eq (pe_fld (pv 0) rfl) (pe_fld (pv 1) rfl) (nomark _)) (pe_one (pe_cmpR op_eq (pe_fld (pv 0) rfl) (pe_fld (pv 1) rfl) (nomark _))))))
     pss_nil)
     (pss_cons (ps_if (PW.pt (pw_and (pt_val (pe_callB call_isiG rfl bl.isinstance_ PyProof.Rows.boot_isinstance (pa_cons (pv 0) (pa_cons (pe_glob (v:=.ref yW) rfl bl.Words_ rfl) pa_nil)))) (pw_and1 (pt_val (pe_callB call_isiG rfl bl.isinstance_ PyProof.Rows.boot_isinstance (pa_cons (pv 1) (pa_cons (pe_glob (v:=.ref yW) rfl bl.Words_ rfl) pa_nil)))))))
     (pss_one (ps_ret (pe_cmpR (op_eqL hr) (pe_fld (pv 0) rfl) (pe_fld (pv 1) rfl) (nomark _))))
     pss_nil)
     (pss_one (ps_ret pe_bl)))),?_⟩
  obtain ⟨w,lo,hi⟩:=k
  cases w with
  | none =>
    obtain ⟨dx,e⟩:=ha
    obtain ⟨dx2,e2⟩:=hb
    refine ⟨_,rfl,_,_,_,_,true,rfl,.ref _,bl.t_Numbers.ty e,bl.f_nn,_,rfl,iteT ?_⟩
    refine ⟨_,rfl,_,_,_,_,true,rfl,.ref _,bl.t_Numbers.ty e2,bl.f_nn,_,rfl,iteT ?_⟩
    refine ⟨_,rfl,a,_,_,_,_,rfl,e,bl.k_Numbers,bl.na_Numbers_low,rfl,_,rfl,b,_,_,_,_,rfl,e2,bl.k_Numbers,bl.na_Numbers_low,rfl,rfl,_,rfl,iteTS rfl ?_⟩
    refine ⟨_,rfl,a,_,_,_,_,rfl,e,bl.k_Numbers,bl.na_Numbers_high,rfl,_,rfl,b,_,_,_,_,rfl,e2,bl.k_Numbers,bl.na_Numbers_high,rfl,rfl,?_⟩
    rw [decide_eq_true rfl]
    exact q
  | some zs =>
    obtain ⟨⟨dx,l,e,f⟩,_⟩:=ha
    obtain ⟨⟨dx2,l2,e2,f2⟩,_⟩:=hb
    refine ⟨_,rfl,_,_,_,_,false,rfl,.ref _,bl.t_Words.ty e,bl.f_wn,_,rfl,iteF (iteF ?_)⟩
    refine ⟨_,rfl,_,_,_,_,true,rfl,.ref _,bl.t_Words.ty e,bl.f_ww,_,rfl,iteT ?_⟩
    refine ⟨_,rfl,_,_,_,_,true,rfl,.ref _,bl.t_Words.ty e2,bl.f_ww,_,rfl,iteT ?_⟩
    refine ⟨_,rfl,a,_,_,_,_,rfl,e,bl.k_Words,bl.na_Words_words,rfl,_,rfl,b,_,_,_,_,rfl,e2,bl.k_Words,bl.na_Words_words,rfl,?_⟩
    exact rEqL_same (SqL.of f) (SqL.of f2) (fun x hx=>.inl (List.all_eq_true.mp (flat_strs zs) x hx)) q
theorem O_39 (F:Fun K "refuse_counts" "refuse_counts" Y39 f fd) (bl:Bl K mg yA yE yN yO yP yQ yR yS yT yU yV yW yX cBook)  : FnOk P w K mg base CX0 1 f fd ["facts", "tables"] (J39 K yA yE yN yO yP yQ yR yS yT yU yV yW yX cBook):=by
  refine F.ok Z39 (fun vs H Q E h=>?_) (fun cdv A outer s H vs Q E hr h=>?_)
  · obtain ⟨fa,ma,fv,mv,rfl,e1,e2,h1,h2,q⟩:=h
    rfl
  obtain ⟨fa,ma,fv,mv,rfl,e1,e2,h1,h2,q⟩:=h
  refine ⟨_,(pss_cons (ps_if (pt_cmpR op_gt (pe_callB call_len_seq rfl bl.len_ PySem.boot_len (pa_cons (pv 0) pa_nil)) (pe_gl rfl bl.MOST_FACTS_) (nomark _))
     (pss_one ps_never)
     pss_nil)
     (pss_one (ps_if (pt_cmpR op_gt (pe_callB call_len_seq rfl bl.len_ PySem.boot_len (pa_cons (pv 1) pa_nil)) (pe_gl rfl bl.MOST_TABLES_) (nomark _))
     (pss_one ps_never)
     pss_nil))),?_⟩
  refine ⟨_,rfl,fa,_,rfl,.inl (SqL.of e1),_,_,rfl,rfl,_,rfl,iteFS (by omega) ?_⟩
  exact ⟨_,rfl,ma,_,rfl,.inl (SqL.of e2),_,_,rfl,rfl,_,rfl,iteFS (by omega) q⟩
theorem O_37 (F:Fun K "named_among" "named_among" Y37 f fd) (bl:Bl K mg yA yE yN yO yP yQ yR yS yT yU yV yW yX cBook)  : FnOk P w K mg base CX0 1 f fd ["table", "names"] (J37 K yA yE yN yO yP yQ yR yS yT yU yV yW yX cBook):=by
  refine F.ok Z37 (fun vs H Q E h=>?_) (fun cdv A outer s H vs Q E hr h=>?_)
  · obtain ⟨t,na,ou,nm,wy,zs,ns,dv,rws,rfl,⟨rl,dx,tna,dl,fs,xs,ht,f1,f2,f3,f4,f5,f6,ena,edl,erl,hR,h200⟩,hna,h100,q⟩:=h
    rfl
  obtain ⟨t,na,ou,nm,wy,zs,ns,dv,rws,rfl,⟨rl,dx,tna,dl,fs,xs,ht,f1,f2,f3,f4,f5,f6,ena,edl,erl,hR,h200⟩,hna,h100,q⟩:=h
  refine ⟨_,(pss_one (ps_ret (pe_comp (pi_list (pe_fld (pv 0) rfl)) (cmpOk_free (N:=["name", "names"]) (fr:=[1]) (cl:=[("names",s.heap.objs.size + 1)]) rfl rfl (by decide +kernel) (by decide +kernel) rfl (by decide +kernel) rfl rfl rfl (List.forall_mem_cons.mpr ⟨rfl,List.forall_mem_nil _⟩) rfl) rfl (fun _ _ _ _=>(pif_one (pt_cmpR (op_in_seqK (K:=K) rfl) (pv 0) (pv 1) (by with_unfolding_all rfl)))) (fun _ _ _ _=>(pv 0))))),?_⟩
  have hzl:(zs.map V.str).length = zs.length:=List.length_map _
  refine ⟨_,rfl,t,_,_,_,_,rfl,ht,bl.k_Table,bl.na_Table_names,f5,tna,rfl,⟨_,SqL.of ena⟩,comp_list (xs:=zs.map V.str) (fun D i ys H'=>Same H H'∧H' D = some (.lst ys)∧ys = ((zs.take i).filter fun z=>ns.contains z).map V.str) (fun D hD=>⟨same_new hD _,upd_same,rfl⟩) (fun D i ys H' hD _ h=>SqL.of (h.1 _ _ ena)) (fun D i y ys H' hD e h=>?_) (fun D ys H' hD h=>?_)⟩
  · obtain ⟨sm,eD,rfl⟩:=h
    obtain ⟨z,rfl,ez⟩:=get_strs e
    have hi:i < (zs.map V.str).length:=(List.getElem?_eq_some_iff.mp e).1
    have hfl:((zs.take i).filter fun z=>ns.contains z).length ≤ i:=Nat.le_trans (List.length_filter_le ..) (by rw [List.length_take]; omega)
    refine ⟨_,rfl,_,rfl,na,_,rfl,.inl (SqL.of (sm _ _ hna)),rfl,flat_strs ns,_,rfl,?_⟩
    rw [show (if false = true then !inV (V.str z) (ns.map V.str) else inV (V.str z) (ns.map V.str)) = ns.contains z by rw [if_neg Bool.false_ne_true,inV_strs]]
    have hf:((zs.take (i + 1)).filter fun z=>ns.contains z) = ((zs.take i).filter fun z=>ns.contains z) ++ (if ns.contains z then [z] else []):=by
      rw [take_snoc ez,List.filter_append]
      congr 1
      cases h:ns.contains z with
      | true=>rw [List.filter_cons_of_pos h,List.filter_nil]; rfl
      | false=>rw [List.filter_cons_of_neg (by rw [h]; exact Bool.false_ne_true),List.filter_nil]; rfl
    cases hc:ns.contains z with
    | true =>
      rw [hc] at hf
      refine iteT ⟨_,rfl,CYes.mk hi eD (small1000 (by rw [List.length_map]; omega)) ⟨sm.upd hD,upd_same,?_⟩⟩
      rw [hf,List.map_append]
      rfl
    | false =>
      rw [hc] at hf
      refine iteF (CNext.mk (zs:=((zs.take i).filter fun z=>ns.contains z).map V.str) hi ⟨sm,eD,?_⟩)
      rw [hf]
      simp
  · obtain ⟨sm,eD,rfl⟩:=h
    rw [hzl,List.take_length] at eD
    exact q D H' sm hD eD
theorem O_47 (F:Fun K "table_of" "table_of" Y47 f fd) (bl:Bl K mg yA yE yN yO yP yQ yR yS yT yU yV yW yX cBook)  : FnOk P w K mg base (CX1 P w) 1 f fd ["book", "name"] (J47 K yA yE yN yO yP yQ yR yS yT yU yV yW yX cBook):=by
  refine F.okE Z47 (fun vs H Q E h=>?_) (fun cdv A outer s H vs Q E hr h=>?_)
  · obtain ⟨b,nm,zs,ds,ts,fN,mv,L,rfl,hB,hs,q,qE⟩:=h
    rfl
  obtain ⟨b,nm,zs,ds,ts,fN,mv,L,rfl,hB,hs,q,qE⟩:=h
  refine ⟨_,(pss_cons (ps_for (passes_XE rfl rfl rfl) rfl (pi_list (pe_fld (pv 0) rfl)) (pg_name (i:=2) Z47.nd rfl (Or.inl rfl))
     (pss_one (ps_if (pt_cmpR op_eq (pe_fld (pv 2) rfl) (pv 1) (nomark _))
     (pss_one (ps_ret (pv 2)))
     pss_nil)))
     (pss_one (ps_raiseE bl.x_NoTable hr.hd rfl bl.NoTable_ (pa_cons (pe_frB (pv 1)) pa_nil)))),?_⟩
  obtain ⟨dx,fs,ta,hb,ft,eta⟩:=hB.bk
  have hml:mv.length = L.length:=hB.tabs.1
  refine ⟨_,rfl,b,_,_,_,_,rfl,hb,bl.k_Book,bl.na_Book_tables,ft,ta,rfl,⟨_,SqL.of eta⟩,for_list (xs:=mv) (fun i σ H'=>H' = H∧(∀ k ∈ L.take i,tnm zs fN k ≠ nm)∧∃ c2:Option V,σ = [some (.ref b),some (.str nm),c2]) ⟨rfl,fun k hk=>by simp at hk,_,rfl⟩ (fun i σ H' _ h=>by rw [h.1]; exact SqL.of eta) (fun i y σ H' e h=>?_) (fun σ H' h=>?_)⟩
  · obtain ⟨e0,hn,c2,rfl⟩:=h
    rw [e0]
    obtain ⟨t_,k,rfl,ek,hT⟩:=RefL.get hB.tabs e
    obtain ⟨tt,nm2,po,ou,dv,g1,g2,g3,g4,g5,g6⟩:=id hT
    obtain ⟨rl,dx2,na,dl,fs2,xs,ht,f1,f2,f3,f4,f5,f6,ena,edl,erl,hR,h200⟩:=g4
    refine ⟨_,rfl,t_,_,_,_,_,rfl,ht,bl.k_Table,bl.na_Table_name,f2,_,rfl,rfl,_,rfl,?_⟩
    by_cases h:nm2 = nm
    · exact iteTS (by rw [h]) ⟨_,rfl,q t_ k (List.mem_of_getElem? ek) (by rw [tnm_at g2,h]) hT⟩
    · refine iteFS (fun z=>by injection z with z; exact h z) ⟨rfl,fun j hj=>?_,_,rfl⟩
      rw [take_snoc ek] at hj
      rcases List.mem_append.mp hj with hj | hj
      · exact hn j hj
      · rw [List.mem_singleton.mp hj,tnm_at g2]; exact h
  · obtain ⟨e0,hn,c2,rfl⟩:=h
    rw [e0]
    rw [hml,List.take_length] at hn
    exact ⟨(by decide +kernel),_,rfl,nm,rfl,hs.1,hs.2,(by decide +kernel),fun _=>⟨(by show 1 ≤ sizeLine; decide),qE hn⟩⟩
theorem O_40 (F:Fun K "refuse_counts" "refuse_counts" Y40 f fd) (bl:Bl K mg yA yE yN yO yP yQ yR yS yT yU yV yW yX cBook)  : FnOk P w K mg base CX0 1 f fd ["names", "rows"] (J40 K yA yE yN yO yP yQ yR yS yT yU yV yW yX cBook):=by
  refine F.ok Z40 (fun vs H Q E h=>?_) (fun cdv A outer s H vs Q E hr h=>?_)
  · obtain ⟨p,r,xs,ys,rfl,hP,hR,h1,h4,h200,q⟩:=h
    rfl
  obtain ⟨p,r,xs,ys,rfl,hP,hR,h1,h4,h200,q⟩:=h
  refine ⟨_,(pss_cons (ps_if (pt_not (pt_chain op_le op_le pe_int (pe_callB call_len_seq rfl bl.len_ PySem.boot_len (pa_cons (pv 0) pa_nil)) (pe_gl rfl bl.MOST_COLUMNS_)))
     (pss_one ps_never)
     pss_nil)
     (pss_one (ps_if (pt_cmpR op_gt (pe_callB call_len_seq rfl bl.len_ PySem.boot_len (pa_cons (pv 1) pa_nil)) (pe_gl rfl bl.MOST_ROWS_) (nomark _))
     (pss_one ps_never)
     pss_nil))),?_⟩
  refine ⟨_,rfl,p,_,rfl,.inl (hP),_,_,rfl,rfl,_,rfl,iteTS (by omega) ?_⟩
  refine ⟨_,_,rfl,rfl,_,rfl,?_⟩
  rw [decide_eq_true (show ((xs.length:Nat):Int) ≤ 4 by omega)]
  refine iteF ?_
  exact ⟨_,rfl,r,_,rfl,.inl (hR),_,_,rfl,rfl,_,rfl,iteFS (by omega) q⟩
theorem O_38 (F:Fun K "own_row" "own_row" Y38 f fd) (bl:Bl K mg yA yE yN yO yP yQ yR yS yT yU yV yW yX cBook)  : FnOk P w K mg base CX0 1 f fd ["cells", "code"] (J38 K yA yE yN yO yP yQ yR yS yT yU yV yW yX cBook):=by
  refine F.ok Z38 (fun vs H Q E h=>?_) (fun cdv A outer s H vs Q E hr h=>?_)
  · obtain ⟨cl,xs,w_,rfl,hC,hcl,h100,q⟩:=h
    rfl
  obtain ⟨cl,xs,w_,rfl,hC,hcl,h100,q⟩:=h
  refine ⟨_,(pss_one (ps_ret (pe_tup (pa_cons (pe_comp (pi_list (pv 0)) (cmpOk_plain rfl (by decide +kernel) (by decide +kernel) (by decide +kernel) rfl) rfl (fun _ _ _ _=>pif_nil) (fun _ _ _ _=>(pe_callTy (call_list_ofK (K:=K) rfl) rfl bl.list_ PyProof.Rows.boot_list (pa_cons (pv 0) pa_nil)))) (pa_cons (pv 1) pa_nil))))),?_⟩
  refine ⟨_,rfl,cl,rfl,⟨_,SqL.of hC⟩,comp_list (xs:=xs) (fun D i zs H'=>Same H H'∧H' D = some (.lst zs)∧CL (Fr H D) H' zs (w_.1.take i))
    (fun D hD=>⟨same_new hD _,upd_same,RefL.nil⟩) (fun D i zs H' hD _ h=>SqL.of (h.1 _ _ hC)) (fun D i x zs H' hD e h=>?_) (fun D zs H' hD h=>?_)⟩
  · obtain ⟨sm,eD,hz⟩:=h
    obtain ⟨l,ps,rfl,ep,hl⟩:=RefL.get hcl e
    obtain ⟨_,ys,el,hp⟩:=hl.same sm
    have hi:i < xs.length:=(List.getElem?_eq_some_iff.mp e).1
    have hlz:zs.length < sizeLine:=by
      have h1:=hz.1
      rw [List.length_take] at h1
      exact small1000 (by omega)
    refine ⟨_,rfl,l,_,rfl,.inl (SqL.of el),fun l2 hl2=>?_⟩
    have s2:=same_new hl2 (.lst ys)
    have e2:upd H' l2 (.lst ys) l2 = some (.lst ys):=upd_same
    have eD2:=s2 _ _ eD
    generalize upd H' l2 (.lst ys) = H2 at s2 e2 eD2 ⊢
    have n2:H l2 = none:=sm.free hl2
    have nD:l2 ≠ D:=fun z=>by rw [z,eD] at hl2; cases hl2
    refine CYes.mk hi eD2 hlz ⟨(sm.trans s2).upd hD,upd_same,?_⟩
    rw [take_snoc ep]
    exact CL.updN (RefL.snoc (hz.same s2) ⟨⟨n2,nD⟩,ys,e2,hp.mono s2.tups⟩) Fr.out eD2
  · obtain ⟨sm,eD,hz⟩:=h
    rw [hcl.1,List.take_length] at hz
    refine ⟨_,rfl,small2,fun r hr'=>q r _ (sm.trans (same_new hr' _)) (sm.free hr') ⟨D,zs,upd_same,hD,same_new hr' _ _ _ eD,?_⟩⟩
    exact (hz.same (same_new hr' _)).wk fun a h=>h.1
theorem O_26 (F:Fun K "_law_at" "_law_at" Y26 f fd) (bl:Bl K mg yA yE yN yO yP yQ yR yS yT yU yV yW yX cBook)  : FnOk P w K mg base CX0 1 f fd ["script", "k"] (J26 K yA yE yN yO yP yQ yR yS yT yU yV yW yX cBook):=by
  refine F.ok Z26 (fun vs H Q E h=>?_) (fun cdv A outer s H vs Q E hr h=>?_)
  · obtain ⟨a,ns,k,rfl,hS,h0,q⟩:=h
    rfl
  obtain ⟨a,ns,k,rfl,hS,h0,q⟩:=h
  refine ⟨_,(pss_cons (ps_if (pt_cmpR op_lt (pv 1) (pe_callB call_len_seq rfl bl.len_ PySem.boot_len (pa_cons (pv 0) pa_nil)) (nomark _))
     (pss_one (ps_ret (pe_ix ix_list (pv 0) (pv 1) (fun _ _=>rfl))))
     pss_nil)
     (pss_one (ps_ret pe_int))),?_⟩
  refine ⟨_,rfl,_,rfl,a,_,rfl,.inl hS,_,_,rfl,rfl,_,rfl,?_⟩
  refine ite2 (fun c=>?_) (fun c=>?_)
  · have c' : k < (((ns.map V.int).length:Nat):Int):=dec_t c
    rw [List.length_map] at c'
    have hk:k.toNat < ns.length:=by omega
    have hv:atI (ns.map V.int) k = some (.int ns[k.toNat]):=by
      have z:atI (ns.map V.int) ((k.toNat:Nat):Int) = some (.int ns[k.toNat]):=atI_nat (by rw [List.getElem?_map,List.getElem?_eq_getElem hk]; rfl)
      rw [show ((k.toNat:Nat):Int) = k by omega] at z
      exact z
    exact ⟨_,rfl,_,rfl,a,_,_,_,rfl,rfl,hS,hv,q _⟩
  · exact q 0
theorem O_36 (F:Fun K "_law_words" "_law_words" Y36 f fd) (bl:Bl K mg yA yE yN yO yP yQ yR yS yT yU yV yW yX cBook)  : FnOk P w K mg base CX0 1 f fd ["cell", "count"] (J36 K yA yE yN yO yP yQ yR yS yT yU yV yW yX cBook):=by
  refine F.ok Z36 (fun vs H Q E h=>?_) (fun cdv A outer s H vs Q E hr h=>?_)
  · obtain ⟨c,n,rfl,h40,q⟩:=h
    rfl
  obtain ⟨c,n,rfl,h40,q⟩:=h
  refine ⟨_,(pss_cons (ps_set (i:=2) Z36.nd rfl (Or.inr rfl) pe_str)
     (pss_cut (ps_set (i:=3) Z36.nd rfl (Or.inr rfl) (pe_bm PySem.F.plainAttrs_str PySem.F.slot_str_join PySem.F.type_str_join mt_join pe_str (pa_cons (pe_comp (pi_range1 rfl bl.range_ (pa_cons (pe_op op_mod (pv 0) pe_int) pa_nil)) (cmpOk_free (N:=["j", "cell", "letters"]) (fr:=[0,2]) (cl:=[("letters",s.heap.objs.size + 1 + 1),("cell",s.heap.objs.size + 1)]) rfl rfl (by decide +kernel) (by decide +kernel) rfl (by decide +kernel) rfl rfl rfl (List.forall_mem_cons.mpr ⟨rfl,List.forall_mem_cons.mpr ⟨rfl,List.forall_mem_nil _⟩⟩) rfl) rfl (fun _ _ _ _=>pif_nil) (fun _ _ _ _=>(pe_ix ix_str (pv 2) (pe_op op_mod (pe_op op_fdiv (pv 1) (pe_op op_add (pe_op op_mul pe_int (pv 0)) pe_int)) pe_int) (fun _ _=>rfl)))) pa_nil)))
     (pss_cut (ps_set (i:=4) Z36.nd rfl (Or.inr rfl) (pe_bm PySem.F.plainAttrs_str PySem.F.slot_str_join PySem.F.type_str_join mt_join pe_str (pa_cons (pe_comp (pi_range1 rfl bl.range_ (pa_cons (pe_op op_mod (pe_op op_fdiv (pv 0) pe_int) pe_int) pa_nil)) (cmpOk_free (N:=["j", "cell", "letters"]) (fr:=[0,2]) (cl:=[("letters",s.heap.objs.size + 1 + 1),("cell",s.heap.objs.size + 1)]) rfl rfl (by decide +kernel) (by decide +kernel) rfl (by decide +kernel) rfl rfl rfl (List.forall_mem_cons.mpr ⟨rfl,List.forall_mem_cons.mpr ⟨rfl,List.forall_mem_nil _⟩⟩) rfl) rfl (fun _ _ _ _=>pif_nil) (fun _ _ _ _=>(pe_ix ix_str (pv 2) (pe_op op_mod (pe_op op_fdiv (pv 1) (pe_op op_add (pe_op op_mul pe_int (pv 0)) pe_int)) pe_int) (fun _ _=>rfl)))) pa_nil)))
     (pss_one (ps_ret (pe_comp (pi_range1 rfl bl.range_ (pa_cons (pv 1) pa_nil)) (cmpOk_free (N:=["k", "cell", "letters", "head", "tail"]) (fr:=[0,2,3,4]) (cl:=[("tail",s.heap.objs.size + 1 + 1 + 1 + 1),("letters",s.heap.objs.size + 1 + 1),("head",s.heap.objs.size + 1 + 1 + 1),("cell",s.heap.objs.size + 1)]) rfl rfl (by decide +kernel) (by decide +kernel) rfl (by decide +kernel) rfl rfl rfl (List.forall_mem_cons.mpr ⟨rfl,List.forall_mem_cons.mpr ⟨rfl,List.forall_mem_cons.mpr ⟨rfl,List.forall_mem_cons.mpr ⟨rfl,List.forall_mem_nil _⟩⟩⟩⟩) rfl) rfl (fun _ _ _ _=>pif_nil) (fun _ _ _ _=>(pe_op op_add_str (pe_op op_add_str (pv 3) (pe_ix ix_str (pv 2) (pe_op op_mod (pe_op op_add (pe_op op_fdiv (pv 1) pe_int) (pe_op op_mul pe_int (pv 0))) pe_int) (fun _ _=>rfl))) (pv 4))))))))),?_⟩
  have c0:=Int.emod_nonneg c (show (6:Int) ≠ 0 by decide)
  have c1:=Int.emod_lt_of_pos c (show (0:Int) < 6 by decide)
  have d0:=Int.emod_nonneg (c / 7) (show (6:Int) ≠ 0 by decide)
  have d1:=Int.emod_lt_of_pos (c / 7) (show (0:Int) < 6 by decide)
  refine ⟨fun σ' H'=>Same H H'∧σ' = [some (.int c),some (.int (n:Int)),some (.str (Str.ofString "abcdefghijklmnopqrstuvwxyz")),some (.str ⟨(hcs c).toArray⟩),none],?_,?_⟩
  · refine ⟨rfl,_,rfl,_,_,rfl,rfl,(by show (0:Int) < 6; decide),_,rfl,(by show -(2 ^ 62) ≤ c % 6; omega),(by show c % 6 < 2 ^ 62; omega),comp_range (fun D i zs H'=>Same H H'∧H' D = some (.lst zs)∧zs = (((List.range i).map fun j:Nat=>97 + (c / (3 * (0 + (j:Int)) + 1) % 13).toNat).map fun x=>(⟨#[x]⟩:Str)).map V.str) (fun D hD=>⟨same_new hD _,upd_same,rfl⟩) (fun D i zs H' hD hi h=>?_) (fun D zs H' hD h=>?_)⟩
    · obtain ⟨sm,eD,rfl⟩:=h
      have a0:=Int.emod_nonneg (c / (3 * (0 + (i:Int)) + 1)) (show (13:Int) ≠ 0 by decide)
      have a1:=Int.emod_lt_of_pos (c / (3 * (0 + (i:Int)) + 1)) (show (0:Int) < 13 by decide)
      refine ⟨_,rfl,_,rfl,_,rfl,_,_,rfl,rfl,.inl ⟨by decide,by decide⟩,_,_,rfl,rfl,_,_,rfl,rfl,cdiv_small (by omega) (by omega),_,_,rfl,rfl,(by show (0:Int) < 13; decide),_,_,_,rfl,rfl,(by decide),lets_at abc26 a0 (by omega),CYes.mk hi eD (small1000 (by simp; omega)) ⟨sm.upd hD,upd_same,?_⟩⟩
      rw [List.range_succ,List.map_append,List.map_append,List.map_append]
      rfl
    · obtain ⟨sm,eD,rfl⟩:=h
      have el:=hcs_len c
      have ec:((List.range (c % 6).toNat).map fun j:Nat=>97 + (c / (3 * (0 + (j:Int)) + 1) % 13).toNat) = hcs c:=rfl
      rw [ec] at eD
      refine ⟨_,D,_,rfl,rfl,SqL.of eD,(by decide +kernel),chars_ok _ el,sm,?_⟩
      rw [join_chars]
      rfl
  rintro σ1 H1 ⟨s1,rfl⟩
  refine ⟨fun σ' H'=>Same H1 H'∧σ' = [some (.int c),some (.int (n:Int)),some (.str (Str.ofString "abcdefghijklmnopqrstuvwxyz")),some (.str ⟨(hcs c).toArray⟩),some (.str ⟨(tcs c).toArray⟩)],?_,?_⟩
  · refine ⟨rfl,_,rfl,_,_,rfl,rfl,⟨by decide,by decide⟩,_,_,rfl,rfl,(by show (0:Int) < 6; decide),_,rfl,(by show -(2 ^ 62) ≤ c / 7 % 6; omega),(by show c / 7 % 6 < 2 ^ 62; omega),comp_range (fun D i zs H'=>Same H1 H'∧H' D = some (.lst zs)∧zs = (((List.range i).map fun j:Nat=>97 + (c / (5 * (0 + (j:Int)) + 2) % 13).toNat).map fun x=>(⟨#[x]⟩:Str)).map V.str) (fun D hD=>⟨same_new hD _,upd_same,rfl⟩) (fun D i zs H' hD hi h=>?_) (fun D zs H' hD h=>?_)⟩
    · obtain ⟨sm,eD,rfl⟩:=h
      have a0:=Int.emod_nonneg (c / (5 * (0 + (i:Int)) + 2)) (show (13:Int) ≠ 0 by decide)
      have a1:=Int.emod_lt_of_pos (c / (5 * (0 + (i:Int)) + 2)) (show (0:Int) < 13 by decide)
      refine ⟨_,rfl,_,rfl,_,rfl,_,_,rfl,rfl,.inl ⟨by decide,by decide⟩,_,_,rfl,rfl,_,_,rfl,rfl,cdiv_small (by omega) (by omega),_,_,rfl,rfl,(by show (0:Int) < 13; decide),_,_,_,rfl,rfl,(by decide),lets_at abc26 a0 (by omega),CYes.mk hi eD (small1000 (by simp; omega)) ⟨sm.upd hD,upd_same,?_⟩⟩
      rw [List.range_succ,List.map_append,List.map_append,List.map_append]
      rfl
    · obtain ⟨sm,eD,rfl⟩:=h
      have el:=tcs_len c
      have ec:((List.range (c / 7 % 6).toNat).map fun j:Nat=>97 + (c / (5 * (0 + (j:Int)) + 2) % 13).toNat) = tcs c:=rfl
      rw [ec] at eD
      refine ⟨_,D,_,rfl,rfl,SqL.of eD,(by decide +kernel),chars_ok _ el,sm,?_⟩
      rw [join_chars]
      rfl
  rintro σ2 H2 ⟨s2,rfl⟩
  have s12:=s1.trans s2
  have n1:(⟨(hcs c).toArray⟩:Str).length ≤ 5:=by have:=hcs_len c; simpa [Str.length] using this
  have n2:(⟨(tcs c).toArray⟩:Str).length ≤ 5:=by have:=tcs_len c; simpa [Str.length] using this
  have o1:∀ x:Nat,(⟨#[x]⟩:Str).length = 1:=fun _=>rfl
  refine ⟨_,rfl,_,rfl,(by omega),(by omega),comp_range (fun D i zs H'=>Same H2 H'∧H' D = some (.lst zs)∧zs = (lws c i).map V.str) (fun D hD=>⟨same_new hD _,upd_same,rfl⟩) (fun D i zs H' hD hi h=>?_) (fun D zs H' hD h=>?_)⟩
  · obtain ⟨sm,eD,rfl⟩:=h
    have a0:=Int.emod_nonneg (c / 11 + 3 * (0 + (i:Int))) (show (26:Int) ≠ 0 by decide)
    have a1:=Int.emod_lt_of_pos (c / 11 + 3 * (0 + (i:Int))) (show (0:Int) < 26 by decide)
    have ew:(⟨(hcs c).toArray⟩:Str) ++ (⟨#[97 + ((c / 11 + 3 * (0 + (i:Int))) % 26).toNat]⟩:Str) ++ (⟨(tcs c).toArray⟩:Str) = lw c (0 + (i:Int)):=by
      show Str.append (Str.append _ _) _ = _
      unfold Str.append lw lwc
      simp
    refine ⟨_,rfl,_,rfl,_,rfl,_,_,rfl,rfl,⟨by decide,by decide⟩,_,rfl,_,_,rfl,rfl,.inl ⟨by decide,by decide⟩,_,_,rfl,rfl,_,_,rfl,rfl,(by show (0:Int) < 26; decide),_,_,_,rfl,rfl,(by decide),lets_at abc26 a0 a1,_,_,rfl,rfl,big (by rw [o1]; omega),_,rfl,_,_,rfl,rfl,big (by rw [len_ap,o1]; omega),?_⟩
    rw [ew]
    refine CYes.mk hi eD (small1000 (by rw [List.length_map,lws_len]; omega)) ⟨sm.upd hD,upd_same,?_⟩
    rw [lws_succ,List.map_append]
    rfl
  · obtain ⟨sm,eD,rfl⟩:=h
    rw [Int.toNat_natCast] at eD
    exact q D H' (s12.trans sm) (s12.free hD) eD
theorem O_32 (F:Fun K "_law_pool" "_law_pool" Y32 f fd) (bl:Bl K mg yA yE yN yO yP yQ yR yS yT yU yV yW yX cBook)  : FnOk P w K mg base CX0 1 f fd ["domain", "cell"] (J32 K yA yE yN yO yP yQ yR yS yT yU yV yW yX cBook):=by
  refine F.ok Z32 (fun vs H Q E h=>?_) (fun cdv A outer s H vs Q E hr h=>?_)
  · obtain ⟨r,p,c,rfl,⟨wl,_,_,er,ewl⟩,ok,q⟩:=h
    rfl
  obtain ⟨r,p,c,rfl,⟨wl,_,_,er,ewl⟩,ok,q⟩:=h
  refine ⟨_,(pss_cons (ps_set (i:=2) Z32.nd rfl (Or.inr rfl) (pe_op op_add (pe_op op_sub (pe_ix ix_tup (pv 0) pe_int (fun _ _=>rfl)) (pe_ix ix_tup (pv 0) pe_int (fun _ _=>rfl))) pe_int))
     (pss_one (ps_ret (pe_comp (pi_range1 rfl bl.range_ (pa_cons pe_int pa_nil)) (cmpOk_free (N:=["j", "domain", "cell", "width"]) (fr:=[0,1,2]) (cl:=[("width",s.heap.objs.size + 1 + 1 + 1),("domain",s.heap.objs.size + 1),("cell",s.heap.objs.size + 1 + 1)]) rfl rfl (by decide +kernel) (by decide +kernel) rfl (by decide +kernel) rfl rfl rfl (List.forall_mem_cons.mpr ⟨rfl,List.forall_mem_cons.mpr ⟨rfl,List.forall_mem_cons.mpr ⟨rfl,List.forall_mem_nil _⟩⟩⟩) rfl) rfl (fun _ _ _ _=>pif_nil) (fun _ _ _ _=>(pe_op op_add (pe_ix (ix_tupK (K:=K) rfl) (pv 1) pe_int (fun _ _=>rfl)) (pe_op op_mod (pe_op op_add (pe_op op_fdiv (pv 2) (pe_op op_add (pe_op op_mul pe_int (pv 0)) pe_int)) (pe_op op_mul (pv 0) (pv 2))) (pv 3)))))))),?_⟩
  have hle:=ok.le
  refine ⟨_,rfl,r,_,_,_,rfl,rfl,SqT.of er,rfl,_,rfl,r,_,_,_,rfl,rfl,SqT.of er,rfl,_,_,rfl,rfl,_,_,rfl,rfl,?_⟩
  have hw:0 < p.hi - p.lo + 1:=by omega
  refine ⟨_,rfl,(by decide),(by decide),comp_range (fun D i zs H'=>Same H H'∧H' D = some (.lst zs)∧∃ xs:List Int,zs = xs.map V.int∧xs.length = i∧∀ x ∈ xs,p.lo ≤ x∧x ≤ p.hi) (fun D hD=>⟨same_new hD _,upd_same,[],rfl,rfl,(fun x hx=>by cases hx)⟩) (fun D i zs H' hD hi h=>?_) (fun D zs H' hD h=>?_)⟩
  · obtain ⟨sm,eD,xs,rfl,hl,hx⟩:=h
    have hi3:i < 3:=hi
    have a0:=Int.emod_nonneg (c / (3 * (0 + (i:Int)) + 1) + (0 + (i:Int)) * c) (Int.ne_of_gt hw)
    have a1:=Int.emod_lt_of_pos (c / (3 * (0 + (i:Int)) + 1) + (0 + (i:Int)) * c) hw
    refine ⟨_,rfl,r,_,_,_,rfl,rfl,SqT.of (sm _ _ er),rfl,_,rfl,_,rfl,_,_,rfl,rfl,.inl ⟨by decide,by decide⟩,_,_,rfl,rfl,_,_,rfl,rfl,cdiv_small (by omega) (by omega),_,rfl,_,rfl,_,_,rfl,rfl,.inl ⟨by omega,by omega⟩,_,_,rfl,rfl,_,rfl,_,_,rfl,rfl,hw,_,_,rfl,rfl,CYes.mk hi eD (small1000 (by rw [List.length_map]; omega)) ⟨sm.upd hD,upd_same,xs ++ [_],by rw [List.map_append]; rfl,by rw [List.length_append,hl]; rfl,fun x hx'=>?_⟩⟩
    rcases List.mem_append.mp hx' with hx' | hx'
    · exact hx x hx'
    · have e:x = p.lo + (c / (3 * (0 + (i:Int)) + 1) + (0 + (i:Int)) * c) % (p.hi - p.lo + 1):=by simpa using hx'
      generalize (c / (3 * (0 + (i:Int)) + 1) + (0 + (i:Int)) * c) % (p.hi - p.lo + 1) = m at a0 a1 e
      omega
  · obtain ⟨sm,eD,xs,rfl,hl,hx⟩:=h
    exact q D xs H' sm hD eD hl hx
theorem O_34 (F:Fun K "_law_spans" "_law_spans" Y34 f fd) (bl:Bl K mg yA yE yN yO yP yQ yR yS yT yU yV yW yX cBook)  : FnOk P w K mg base CX0 1 f fd ["kind", "one", "two", "domain"] (J34 K yA yE yN yO yP yQ yR yS yT yU yV yW yX cBook):=by
  refine F.ok Z34 (fun vs H Q E h=>?_) (fun cdv A outer s H vs Q E hr h=>?_)
  · obtain ⟨kd,one,two,r,p,rfl,⟨wl,_,_,er,ewl⟩,h1,h2,h3,q⟩:=h
    rfl
  obtain ⟨kd,one,two,r,p,rfl,⟨wl,_,_,er,ewl⟩,h1,h2,h3,q⟩:=h
  refine ⟨_,(pss_cut (ps_set (i:=4) Z34.nd rfl (Or.inl rfl) (pe_lst (pa_cons (pe_tup (pa_cons (pe_ix ix_tup (pv 3) pe_int (fun _ _=>rfl)) (pa_cons (pe_ix ix_tup (pv 3) pe_int (fun _ _=>rfl)) pa_nil))) pa_nil)))
     (pss_cut (ps_if (pt_cmpR op_eq (pv 0) pe_int (nomark _))
     (pss_one (ps_set (i:=4) Z34.nd rfl (Or.inl rfl) (pe_lst (pa_cons (pe_tup (pa_cons (pv 1) (pa_cons (pv 2) pa_nil))) pa_nil))))
     pss_nil)
     (pss_cut (ps_if (pt_cmpR op_eq (pv 0) pe_int (nomark _))
     (pss_one (ps_set (i:=4) Z34.nd rfl (Or.inl rfl) (pe_lst (pa_cons (pe_tup (pa_cons (pv 1) (pa_cons (pv 1) pa_nil))) pa_nil))))
     pss_nil)
     (pss_cut (ps_if (pt_cmpR op_eq (pv 0) pe_int (nomark _))
     (pss_one (ps_set (i:=4) Z34.nd rfl (Or.inl rfl) (pe_lst (pa_cons (pe_tup (pa_cons (pe_ix ix_tup (pv 3) pe_int (fun _ _=>rfl)) (pa_cons (pe_op op_sub (pv 1) pe_int) pa_nil))) (pa_cons (pe_tup (pa_cons (pe_op op_add (pv 2) pe_int) (pa_cons (pe_ix ix_tup (pv 3) pe_int (fun _ _=>rfl)) pa_nil))) pa_nil)))))
     pss_nil)
     (pss_cut (ps_if (pt_cmpR op_eq (pv 0) pe_int (nomark _))
     (pss_one (ps_set (i:=4) Z34.nd rfl (Or.inl rfl) (pe_lst (pa_cons (pe_tup (pa_cons (pv 1) (pa_cons (pv 1) pa_nil))) (pa_cons (pe_tup (pa_cons (pv 2) (pa_cons (pv 2) pa_nil))) pa_nil)))))
     pss_nil)
     (pss_cut (ps_if (PW.pt (pw_and (pt_cmpR op_eq (pv 0) pe_int (nomark _)) (pw_and1 (pt_cmpR op_le (pv 2) (pe_op op_add (pv 1) pe_int) (nomark _)))))
     (pss_one (ps_set (i:=4) Z34.nd rfl (Or.inl rfl) (pe_lst (pa_cons (pe_tup (pa_cons (pv 1) (pa_cons (pv 2) pa_nil))) pa_nil))))
     pss_nil)
     (pss_cut (ps_if (pt_cmpR op_eq (pv 0) pe_int (nomark _))
     (pss_one (ps_set (i:=4) Z34.nd rfl (Or.inl rfl) (pe_lst pa_nil)))
     pss_nil)
     (pss_one (ps_ret (pe_comp (pi_list (pv 4)) (cmpOk_plain rfl (by decide +kernel) (by decide +kernel) (by decide +kernel) rfl) rfl (fun _ _ _ _=>(pif_one (pt_cmpR op_le (pe_ix (ix_tupK (K:=K) rfl) (pv 0) pe_int (fun _ _=>rfl)) (pe_ix (ix_tupK (K:=K) rfl) (pv 0) pe_int (fun _ _=>rfl)) (nomark _)))) (fun _ _ _ _=>(pv 0)))))))))))),?_⟩
  refine ⟨fun σ' H'=>∃ pl,SPI p H H' pl∧σ' = [some (.int kd),some (.int one),some (.int two),some (.ref r),some (.ref pl)],⟨_,rfl,r,_,_,_,rfl,rfl,SqT.of er,rfl,_,rfl,r,_,_,_,rfl,rfl,SqT.of er,rfl,small2,fun t ht=>⟨(by show 1 ≤ sizeLine; decide),fun l hl=>⟨l,SPI.one (Same.refl H) (pl1 ht hl) (Int.le_refl _) (Int.le_refl _),rfl⟩⟩⟩,?_⟩
  rintro σ1 H1 ⟨pl,hs,rfl⟩
  refine ⟨fun σ' H'=>∃ pl,SPI p H H' pl∧σ' = [some (.int kd),some (.int one),some (.int two),some (.ref r),some (.ref pl)],?_,?_⟩
  · refine ⟨_,rfl,rfl,_,rfl,ite2 (fun _=>?_) (fun _=>⟨pl,hs,rfl⟩)⟩
    have s1:=hs.1
    exact ⟨_,rfl,_,rfl,small2,fun t ht=>⟨(by show 1 ≤ sizeLine; decide),fun l hl=>⟨l,SPI.one s1 (pl1 ht hl) (by omega) (by omega),rfl⟩⟩⟩
  clear hs pl
  rintro σ2 H2 ⟨pl,hs,rfl⟩
  refine ⟨fun σ' H'=>∃ pl,SPI p H H' pl∧σ' = [some (.int kd),some (.int one),some (.int two),some (.ref r),some (.ref pl)],?_,?_⟩
  · refine ⟨_,rfl,rfl,_,rfl,ite2 (fun _=>?_) (fun _=>⟨pl,hs,rfl⟩)⟩
    have s1:=hs.1
    exact ⟨_,rfl,_,rfl,small2,fun t ht=>⟨(by show 1 ≤ sizeLine; decide),fun l hl=>⟨l,SPI.one s1 (pl1 ht hl) (by omega) (by omega),rfl⟩⟩⟩
  clear hs pl
  rintro σ3 H3 ⟨pl,hs,rfl⟩
  refine ⟨fun σ' H'=>∃ pl,SPI p H H' pl∧σ' = [some (.int kd),some (.int one),some (.int two),some (.ref r),some (.ref pl)],?_,?_⟩
  · refine ⟨_,rfl,rfl,_,rfl,ite2 (fun _=>?_) (fun _=>⟨pl,hs,rfl⟩)⟩
    have s1:=hs.1
    refine ⟨_,rfl,r,_,_,_,rfl,rfl,SqT.of (s1 _ _ er),rfl,_,rfl,_,_,rfl,rfl,small2,fun t ht=>⟨_,rfl,_,_,rfl,rfl,_,rfl,r,_,_,_,rfl,rfl,SqT.of (((s1.trans (same_new ht _)) _ _ er)),rfl,small2,fun u hu=>⟨(by show 2 ≤ sizeLine; decide),fun l hl=>⟨l,SPI.two s1 (pl2 ht hu hl) (Int.le_refl _) (by omega) (by omega) (Int.le_refl _),rfl⟩⟩⟩⟩
  clear hs pl
  rintro σ4 H4 ⟨pl,hs,rfl⟩
  refine ⟨fun σ' H'=>∃ pl,SPI p H H' pl∧σ' = [some (.int kd),some (.int one),some (.int two),some (.ref r),some (.ref pl)],?_,?_⟩
  · refine ⟨_,rfl,rfl,_,rfl,ite2 (fun _=>?_) (fun _=>⟨pl,hs,rfl⟩)⟩
    have s1:=hs.1
    refine ⟨_,rfl,_,rfl,small2,fun t ht=>⟨_,rfl,_,rfl,small2,fun u hu=>⟨(by show 2 ≤ sizeLine; decide),fun l hl=>⟨l,SPI.two s1 (pl2 ht hu hl) h1 (by omega) (by omega) h3,rfl⟩⟩⟩⟩
  clear hs pl
  rintro σ5 H5 ⟨pl,hs,rfl⟩
  refine ⟨fun σ' H'=>∃ pl,SPI p H H' pl∧σ' = [some (.int kd),some (.int one),some (.int two),some (.ref r),some (.ref pl)],?_,?_⟩
  · refine ⟨_,rfl,rfl,_,rfl,ite2 (fun _=>?_) (fun _=>?_)⟩
    · refine ⟨_,rfl,_,rfl,_,_,rfl,rfl,_,_,rfl,rfl,_,rfl,ite2 (fun _=>?_) (fun _=>⟨pl,hs,rfl⟩)⟩
      have s1:=hs.1
      exact ⟨_,rfl,_,rfl,small2,fun t ht=>⟨(by show 1 ≤ sizeLine; decide),fun l hl=>⟨l,SPI.one s1 (pl1 ht hl) h1 h3,rfl⟩⟩⟩
    · exact ⟨pl,hs,rfl⟩
  clear hs pl
  rintro σ6 H6 ⟨pl,hs,rfl⟩
  refine ⟨fun σ' H'=>∃ pl,SPI p H H' pl∧σ' = [some (.int kd),some (.int one),some (.int two),some (.ref r),some (.ref pl)],?_,?_⟩
  · refine ⟨_,rfl,rfl,_,rfl,ite2 (fun _=>?_) (fun _=>⟨pl,hs,rfl⟩)⟩
    have s1:=hs.1
    exact ⟨(by show 0 ≤ sizeLine; decide),fun l hl=>⟨l,⟨s1.trans (same_new hl _),[],[],upd_same,.nil,(fun x hx=>by cases hx),by simp⟩,rfl⟩⟩
  clear hs pl
  rintro σ7 H7 ⟨pl,hs,rfl⟩
  obtain ⟨s7,ts,ps,epl,hP,hb,hl2⟩:=hs
  have htl:=hP.length
  refine ⟨_,rfl,pl,rfl,⟨_,SqL.of epl⟩,comp_list (xs:=ts) (fun D i zs H'=>Same H7 H'∧H' D = some (.lst zs)∧∃ ps' : Prs,PL H' zs ps'∧(∀ x ∈ ps',p.lo ≤ x.1∧x.1 ≤ x.2∧x.2 ≤ p.hi)∧ps'.length ≤ i) (fun D hD=>⟨same_new hD _,upd_same,[],.nil,(fun x hx=>by cases hx),Nat.zero_le _⟩) (fun D i zs H' hD _ h=>SqL.of (h.1 _ _ epl)) (fun D i y zs H' hD e h=>?_) (fun D zs H' hD h=>?_)⟩
  · obtain ⟨sm,eD,ps',hP',hb',hl'⟩:=h
    obtain ⟨x,t,ex,rfl,et⟩:=hP.get e
    have hi:i < ts.length:=(List.getElem?_eq_some_iff.mp e).1
    have et':=sm _ _ et
    refine ⟨_,rfl,t,_,_,_,rfl,rfl,SqT.of et',rfl,_,rfl,t,_,_,_,rfl,rfl,SqT.of et',rfl,_,_,rfl,rfl,_,rfl,?_⟩
    refine ite2 (fun g=>?_) (fun g=>?_)
    · have g' : x.1 ≤ x.2:=dec_t g
      have st:SameT H' (upd H' D (.lst (zs ++ [.ref t]))):=sameT_lst eD
      refine ⟨_,rfl,CYes.mk hi eD (small1000 (by have:=hP'.length; omega)) ⟨sm.upd hD,upd_same,ps' ++ [x],(hP'.mono st).snoc (st _ _ et'),fun y hy=>?_,by rw [List.length_append,List.length_singleton]; omega⟩⟩
      rcases List.mem_append.mp hy with hy | hy
      · exact hb' y hy
      · rw [show y = x by simpa using hy]
        have:=hb x (List.mem_of_getElem? ex)
        omega
    · exact CNext.mk (zs:=zs) hi ⟨sm,eD,ps',hP',hb',by omega⟩
  · obtain ⟨sm,eD,ps',hP',hb',hl'⟩:=h
    have s:=s7.trans sm
    exact q D ps' H' s ⟨s7.free hD,zs,eD,hP'⟩ hb' (by omega)
theorem O_13 (F:Fun K "__init__" "Way.__init__" Y13 f fd) (bl:Bl K mg yA yE yN yO yP yQ yR yS yT yU yV yW yX cBook)  : FnOk P w K mg base CX0 1 f fd ["self", "called"] (J13 K yA yE yN yO yP yQ yR yS yT yU yV yW yX cBook):=by
  refine F.ok Z13 (fun vs H Q E h=>?_) (fun cdv A outer s H vs Q E hr h=>?_)
  · obtain ⟨x,dx,z,rfl,hx,q⟩:=h
    rfl
  obtain ⟨x,dx,z,rfl,hx,q⟩:=h
  refine ⟨_,(pss_one (ps_fld (pv 0) (pv 1) rfl)),?_⟩
  exact ⟨_,rfl,_,rfl,x,_,dx,_,rfl,hx,bl.k_First,bl.na_First_called,(by show 0 < 1000; decide),q⟩
theorem O_17 (F:Fun K "__init__" "Way.__init__" Y17 f fd) (bl:Bl K mg yA yE yN yO yP yQ yR yS yT yU yV yW yX cBook)  : FnOk P w K mg base CX0 1 f fd ["self", "called"] (J17 K yA yE yN yO yP yQ yR yS yT yU yV yW yX cBook):=by
  refine F.ok Z17 (fun vs H Q E h=>?_) (fun cdv A outer s H vs Q E hr h=>?_)
  · obtain ⟨x,dx,z,rfl,hx,q⟩:=h
    rfl
  obtain ⟨x,dx,z,rfl,hx,q⟩:=h
  refine ⟨_,(pss_one (ps_fld (pv 0) (pv 1) rfl)),?_⟩
  exact ⟨_,rfl,_,rfl,x,_,dx,_,rfl,hx,bl.k_Only,bl.na_Only_called,(by show 0 < 1000; decide),q⟩
theorem O_15 (F:Fun K "__init__" "Way.__init__" Y15 f fd) (bl:Bl K mg yA yE yN yO yP yQ yR yS yT yU yV yW yX cBook)  : FnOk P w K mg base CX0 1 f fd ["self", "called"] (J15 K yA yE yN yO yP yQ yR yS yT yU yV yW yX cBook):=by
  refine F.ok Z15 (fun vs H Q E h=>?_) (fun cdv A outer s H vs Q E hr h=>?_)
  · obtain ⟨x,dx,z,rfl,hx,q⟩:=h
    rfl
  obtain ⟨x,dx,z,rfl,hx,q⟩:=h
  refine ⟨_,(pss_one (ps_fld (pv 0) (pv 1) rfl)),?_⟩
  exact ⟨_,rfl,_,rfl,x,_,dx,_,rfl,hx,bl.k_Like,bl.na_Like_called,(by show 0 < 1000; decide),q⟩
theorem O_16 (F:Fun K "__init__" "Way.__init__" Y16 f fd) (bl:Bl K mg yA yE yN yO yP yQ yR yS yT yU yV yW yX cBook)  : FnOk P w K mg base CX0 1 f fd ["self", "called"] (J16 K yA yE yN yO yP yQ yR yS yT yU yV yW yX cBook):=by
  refine F.ok Z16 (fun vs H Q E h=>?_) (fun cdv A outer s H vs Q E hr h=>?_)
  · obtain ⟨x,dx,z,rfl,hx,q⟩:=h
    rfl
  obtain ⟨x,dx,z,rfl,hx,q⟩:=h
  refine ⟨_,(pss_one (ps_fld (pv 0) (pv 1) rfl)),?_⟩
  exact ⟨_,rfl,_,rfl,x,_,dx,_,rfl,hx,bl.k_Low,bl.na_Low_called,(by show 0 < 1000; decide),q⟩
theorem O_14 (F:Fun K "__init__" "Way.__init__" Y14 f fd) (bl:Bl K mg yA yE yN yO yP yQ yR yS yT yU yV yW yX cBook)  : FnOk P w K mg base CX0 1 f fd ["self", "called"] (J14 K yA yE yN yO yP yQ yR yS yT yU yV yW yX cBook):=by
  refine F.ok Z14 (fun vs H Q E h=>?_) (fun cdv A outer s H vs Q E hr h=>?_)
  · obtain ⟨x,dx,z,rfl,hx,q⟩:=h
    rfl
  obtain ⟨x,dx,z,rfl,hx,q⟩:=h
  refine ⟨_,(pss_one (ps_fld (pv 0) (pv 1) rfl)),?_⟩
  exact ⟨_,rfl,_,rfl,x,_,dx,_,rfl,hx,bl.k_High,bl.na_High_called,(by show 0 < 1000; decide),q⟩
theorem O_18 (F:Fun K "__init__" "Way.__init__" Y18 f fd) (bl:Bl K mg yA yE yN yO yP yQ yR yS yT yU yV yW yX cBook)  : FnOk P w K mg base CX0 1 f fd ["self", "called"] (J18 K yA yE yN yO yP yQ yR yS yT yU yV yW yX cBook):=by
  refine F.ok Z18 (fun vs H Q E h=>?_) (fun cdv A outer s H vs Q E hr h=>?_)
  · obtain ⟨x,dx,z,rfl,hx,q⟩:=h
    rfl
  obtain ⟨x,dx,z,rfl,hx,q⟩:=h
  refine ⟨_,(pss_one (ps_fld (pv 0) (pv 1) rfl)),?_⟩
  exact ⟨_,rfl,_,rfl,x,_,dx,_,rfl,hx,bl.k_Sum,bl.na_Sum_called,(by show 0 < 1000; decide),q⟩
theorem O_1 (F:Fun K "__init__" "Domain.__init__" Y1 f fd) (bl:Bl K mg yA yE yN yO yP yQ yR yS yT yU yV yW yX cBook)  : FnOk P w K mg base CX0 1 f fd ["self", "low", "high"] (J1 K yA yE yN yO yP yQ yR yS yT yU yV yW yX cBook):=by
  refine F.ok Z1 (fun vs H Q E h=>?_) (fun cdv A outer s H vs Q E hr h=>?_)
  · obtain ⟨x,dx,lo,hi,rfl,hx,q⟩:=h
    rfl
  obtain ⟨x,dx,lo,hi,rfl,hx,q⟩:=h
  refine ⟨_,(pss_cons (ps_fld (pv 0) (pv 1) rfl)
     (pss_one (ps_fld (pv 0) (pv 2) rfl))),?_⟩
  refine ⟨_,rfl,_,rfl,x,_,dx,_,rfl,hx,bl.k_Numbers,bl.na_Numbers_low,(by show 0 < 1000; decide),_,rfl,_,rfl,x,_,dx,_,rfl,upd_same,bl.k_Numbers,bl.na_Numbers_high,(by show 1 < 1000; decide),?_⟩
  show Q .non (upd (upd H x (.ins yV dx [("low",.int lo)])) x (.ins yV dx (putF "high" (.int hi) [("low",.int lo)])))
  rw [put2]
  exact q
theorem O_2 (F:Fun K "__init__" "Domain.__init__" Y2 f fd) (bl:Bl K mg yA yE yN yO yP yQ yR yS yT yU yV yW yX cBook)  : FnOk P w K mg base CX0 1 f fd ["self", "low", "high"] (J2 K yA yE yN yO yP yQ yR yS yT yU yV yW yX cBook):=by
  refine F.ok Z2 (fun vs H Q E h=>?_) (fun cdv A outer s H vs Q E hr h=>?_)
  · obtain ⟨x,dx,lo,hi,rfl,hx,q⟩:=h
    rfl
  obtain ⟨x,dx,lo,hi,rfl,hx,q⟩:=h
  refine ⟨_,(pss_cons (ps_fld (pv 0) (pv 1) rfl)
     (pss_one (ps_fld (pv 0) (pv 2) rfl))),?_⟩
  refine ⟨_,rfl,_,rfl,x,_,dx,_,rfl,hx,bl.k_Words,bl.na_Words_low,(by show 0 < 1000; decide),_,rfl,_,rfl,x,_,dx,_,rfl,upd_same,bl.k_Words,bl.na_Words_high,(by show 1 < 1000; decide),?_⟩
  show Q .non (upd (upd H x (.ins yW dx [("low",.int lo)])) x (.ins yW dx (putF "high" (.int hi) [("low",.int lo)])))
  rw [put2]
  exact q
theorem O_24 (F:Fun K "is_word" "is_word" Y24 f fd) (bl:Bl K mg yA yE yN yO yP yQ yR yS yT yU yV yW yX cBook) (c_all_among:Callee P w K mg base 1 "all_among" ["text", "signs"] (J21 K yA yE yN yO yP yQ yR yS yT yU yV yW yX cBook)):FnOk P w K mg base CX0 2 f fd ["text"] (J24 K yA yE yN yO yP yQ yR yS yT yU yV yW yX cBook):=by
  refine F.ok Z24 (fun vs H Q E h=>?_) (fun cdv A outer s H vs Q E hr h=>?_)
  · obtain ⟨z,rfl,hz,q⟩:=h
    rfl
  obtain ⟨z,rfl,hz,q⟩:=h
  refine ⟨_,(pss_one (ps_ret (pe_and (pe_chain op_le op_le pe_int (pe_callB call_len_str rfl bl.len_ PySem.boot_len (pa_cons (pv 0) pa_nil)) (pe_gl rfl bl.MOST_SIGNS_)) (pe_and (pe_cmpR op_ne (pv 0) pe_str (nomark _)) (pe_one (pe_fn c_all_among hr rfl (pa_cons (pv 0) (pa_cons (pe_gl rfl bl.SMALL_LETTERS_) pa_nil)))))))),?_⟩
  refine ⟨_,rfl,_,rfl,big hz,_,_,rfl,rfl,_,rfl,?_⟩
  refine ite2 (fun g1=>?_) (fun g1=>?_)
  · refine ⟨_,_,rfl,rfl,_,rfl,?_⟩
    refine ite2 (fun g2=>?_) (fun g2=>?_)
    · refine ⟨_,rfl,rfl,_,rfl,?_⟩
      refine ite2 (fun g3=>?_) (fun g3=>?_)
      · refine ⟨_,rfl,z,lets,rfl,?_⟩
        have e:isw z = allIn z lets:=by unfold isw; rw [g1,g2,g3]; rfl
        rw [e] at q; exact q
      · have e:isw z = false:=by unfold isw; rw [Bool.eq_false_iff.mpr g3,Bool.false_and,Bool.and_false,Bool.and_false]
        rw [e] at q; exact q
    · have e:isw z = false:=by unfold isw; rw [Bool.eq_false_iff.mpr g2,Bool.false_and,Bool.and_false]
      rw [e] at q; exact q
  · have e:isw z = false:=by unfold isw; rw [Bool.eq_false_iff.mpr g1,Bool.false_and]
    rw [e] at q; exact ⟨_,rfl,iteF q⟩
theorem O_41 (F:Fun K "refuse_domains" "refuse_domains" Y41 f fd) (bl:Bl K mg yA yE yN yO yP yQ yR yS yT yU yV yW yX cBook) (c_alike:Callee P w K mg base 1 "alike" ["one", "other"] (J20 K yA yE yN yO yP yQ yR yS yT yU yV yW yX cBook)):FnOk P w K mg base CX0 2 f fd ["facts", "tables"] (J41 K yA yE yN yO yP yQ yR yS yT yU yV yW yX cBook):=by
  refine F.ok Z41 (fun vs H Q E h=>?_) (fun cdv A outer s H vs Q E hr h=>?_)
  · obtain ⟨fa,ma,fv,mv,zs,ds,ts,fN,L,rfl,efa,ema,hB,q⟩:=h
    rfl
  obtain ⟨fa,ma,fv,mv,zs,ds,ts,fN,L,rfl,efa,ema,hB,q⟩:=h
  refine ⟨_,(pss_cut (ps_set (i:=2) Z41.nd rfl (Or.inl rfl) (pe_callTy (call_dictP rfl) rfl bl.dict_ PyProof.Rows.boot_dict (pa_cons (pe_op op_cat (pv 0) (pe_comp (pi_list (pv 1)) (cmpOk_plain rfl (by decide +kernel) (by decide +kernel) (by decide +kernel) rfl) rfl (fun _ _ _ _=>pif_nil) (fun _ _ _ _=>(pe_tup (pa_cons (pe_fldK (K:=K) rfl (pv 0) rfl) (pa_cons (pe_fldK (K:=K) rfl (pv 0) rfl) pa_nil)))))) pa_nil)))
     (pss_one (ps_for PassesOwn.never rfl (pi_list (pv 1)) (pg_name (i:=3) Z41.nd rfl (Or.inl rfl))
     (pss_one (ps_for PassesOwn.never rfl (pi_zip rfl bl.zip_ (pa_cons (pe_fld (pv 3) rfl) (pa_cons (pe_fld (pv 3) rfl) pa_nil))) (pg_tup rfl (pgs_cons (pg_name (i:=4) Z41.nd rfl (Or.inl rfl)) (pgs_cons (pg_name (i:=5) Z41.nd rfl (Or.inl rfl)) pgs_nil)))
     (pss_one (ps_if (pt_not (pt_val (pe_fn c_alike hr rfl (pa_cons (pv 5) (pa_cons (pe_ix ix_dict (pv 2) (pv 4) (fun _ _=>rfl)) pa_nil)))))
     (pss_one ps_never)
     pss_nil))))))),?_⟩
  obtain ⟨b1,b2,b3⟩:=hB.few
  have hfl:fv.length = fN:=by rw [hB.facts.1,List.length_range]
  have hml:mv.length = L.length:=hB.tabs.1
  have hzd:=hB.ok.len
  refine ⟨fun σ' H'=>Same H H'∧∃ (da:Addr) (kvs:List (Str × V)),H' da = some (.dK (kvT kvs))∧DueA yV yW H' zs ds kvs∧σ' = [some (.ref fa),some (.ref ma),some (.ref da),none,none,none],?_,?_⟩
  · refine ⟨_,rfl,_,rfl,ma,rfl,⟨_,SqL.of ema⟩,comp_list (xs:=mv) (fun D i ys H'=>Same H H'∧H' D = some (.lst ys)∧ys.length = i∧∀ (j k:Nat),j < i→L[j]? = some k→∃ (t:Addr) (po:PD) (d:Addr),ys[j]? = some (.ref t)∧ds[fN + k]? = some po∧H' t = some (.tup [.str (tnm zs fN k),.ref d])∧DomD yV yW H d po.k) (fun D hD=>⟨same_new hD _,upd_same,rfl,fun j k hj=>by omega⟩) (fun D i ys H' hD _ h=>SqL.of (h.1 _ _ ema)) (fun D i y ys H' hD e h=>?_) (fun D ys H' hD h=>?_)⟩
    · obtain ⟨sm,eD,hl,hy⟩:=h
      obtain ⟨t_,k,rfl,ek,tt,nm,po,ou,dv,g1,g2,g3,g4,g5,g6⟩:=RefL.get hB.tabs e
      obtain ⟨rl,dx,na,dl,fs,xs,ht,f1,f2,f3,f4,f5,f6,ena,edl,erl,hR,h200⟩:=g4
      have hi:i < mv.length:=(List.getElem?_eq_some_iff.mp e).1
      refine ⟨_,rfl,t_,_,_,_,_,rfl,sm _ _ ht,bl.k_Table,bl.na_Table_name,f2,_,rfl,t_,_,_,_,_,rfl,sm _ _ ht,bl.k_Table,bl.na_Table_outcome,f4,small2,fun p hp=>?_⟩
      have u:=same_new hp (.tup [.str nm,.ref ou])
      have ep:upd H' p (.tup [.str nm,.ref ou]) p = some (.tup [.str nm,.ref ou]):=upd_same
      generalize upd H' p (.tup [.str nm,.ref ou]) = H2 at u ep ⊢
      have eD2:=u _ _ eD
      refine CYes.mk hi eD2 (small1000 (by omega)) ⟨(sm.trans u).upd hD,upd_same,by rw [List.length_append,hl]; rfl,fun j k' hj ek'=>?_⟩
      by_cases hji:j < i
      · obtain ⟨t,po',d,h1,h2,h3,h4⟩:=hy j k' hji ek'
        have h3':=u _ _ h3
        exact ⟨t,po',d,by rw [List.getElem?_append_left (by omega)]; exact h1,h2,(upd_ne (ne_of h3' eD2 (by intro z; cases z))).trans h3',h4⟩
      · have hj2:j = i:=by omega
        subst hj2
        rw [ek] at ek'
        cases ek'
        refine ⟨p,po,ou,by rw [List.getElem?_append_right (by omega),hl,Nat.sub_self]; rfl,g3,?_,g6⟩
        rw [tnm_at g2]
        exact (upd_ne (ne_of ep eD2 (by intro z; cases z))).trans ep
    · obtain ⟨sm,eD,hl,hy⟩:=h
      rw [hml] at hl
      refine ⟨fa,D,_,_,rfl,rfl,sm _ _ efa,eD,Nat.le_of_lt (small1000 (by omega)),fun p hp=>?_⟩
      have u:=same_new hp (.lst (fv ++ ys))
      have ep:upd H' p (.lst (fv ++ ys)) p = some (.lst (fv ++ ys)):=upd_same
      generalize upd H' p (.lst (fv ++ ys)) = H2 at u ep ⊢
      have s2:=sm.trans u
      obtain ⟨kvs,hkl,hkv⟩:=list_of (P:=fun j (a:Str × V)=>∃ (t:Addr) (d:Addr) (po:PD),(fv ++ ys)[j]? = some (.ref t)∧H2 t = some (.tup [.str a.1,.ref d])∧a.2 = .ref d∧(bnm zs fN L)[j]? = some a.1∧DomD yV yW H2 d po.k∧∀ (i:Nat),zs[i]? = some a.1→ds[i]? = some po) (fN + L.length) fun j hj=>by
        by_cases hjf:j < fN
        · obtain ⟨r,er,nm,po,d,h1,h2,h3,h4⟩:=hB.facts.2 j j (List.getElem?_range hjf)
          refine ⟨(nm,.ref d),r,d,po,by rw [List.getElem?_append_left (by omega)]; exact er,s2 _ _ h3,rfl,?_,h4.same s2,fun i ei=>?_⟩
          · unfold bnm
            rw [List.getElem?_append_left (by rw [List.length_take]; omega),List.getElem?_take,if_pos hjf]
            exact h1
          · rw [nd_ix hB.ok.nd ei h1]; exact h2
        · have hjl:j - fN < L.length:=by omega
          have ek:=List.getElem?_eq_getElem hjl
          obtain ⟨t,po,d,h1,h2,h3,h4⟩:=hy (j - fN) _ (by omega) ek
          have htn:=hB.tn (List.mem_of_getElem? ek)
          refine ⟨(tnm zs fN L[j - fN],.ref d),t,d,po,by rw [List.getElem?_append_right (by omega),hfl]; exact h1,u _ _ h3,rfl,?_,h4.same s2,fun i ei=>?_⟩
          · unfold bnm
            rw [List.getElem?_append_right (by rw [List.length_take]; omega),List.length_take,show j - min fN zs.length = j - fN by omega,List.getElem?_map,ek]
            rfl
          · rw [nd_ix hB.ok.nd ei htn]; exact h2
      have hkeys:kvs.map (·.1) = bnm zs fN L:=by
        refine List.ext_getElem? fun j=>?_
        rw [List.getElem?_map]
        cases e:kvs[j]? with
        | none =>
          have hlj:kvs.length ≤ j:=by rw [List.getElem?_eq_none_iff] at e; exact e
          rw [List.getElem?_eq_none (by unfold bnm; rw [List.length_append,List.length_take,List.length_map]; omega)]
          rfl
        | some a =>
          obtain ⟨t,d,po,_,_,_,e4,_⟩:=hkv j a e
          rw [e4]; rfl
      refine ⟨p,fv ++ ys,kvs,rfl,ep,by rw [List.length_append,hkl]; omega,fun j a ea=>?_,by rw [hkeys]; exact hB.bnd_,fun da hda=>?_⟩
      · obtain ⟨t,d,po,e1,e2,e3,_⟩:=hkv j a ea
        exact ⟨t,e1,by rw [e3]; exact e2⟩
      · have u2:=same_new hda (.dK (kvT kvs))
        refine ⟨s2.trans u2,da,kvs,upd_same,fun j z po ez ed=>?_,rfl⟩
        have hm:=hB.has (List.mem_of_getElem? ez)
        rw [← hkeys] at hm
        obtain ⟨a,ha,rfl⟩:=List.mem_map.mp hm
        obtain ⟨i,ei⟩:=List.getElem?_of_mem ha
        obtain ⟨t,d,po',e1,e2,e3,e4,e5,e6⟩:=hkv i a ei
        have:=e6 j ez
        rw [ed] at this
        cases this
        refine ⟨d,?_,e5.same u2⟩
        rw [← e3]
        exact look_at (by rw [hkeys]; exact hB.bnd_) ei
  rintro σ1 H1 ⟨s1,da,kvs,eda,hdue,rfl⟩
  refine ⟨_,rfl,ma,rfl,⟨_,SqL.of (s1 _ _ ema)⟩,for_list (xs:=mv) (fun i σ H'=>Same H1 H'∧∃ c3 c4 c5:Option V,σ = [some (.ref fa),some (.ref ma),some (.ref da),c3,c4,c5]) ⟨Same.refl _,_,_,_,rfl⟩ (fun i σ H' _ h=>SqL.of (h.1 _ _ (s1 _ _ ema))) (fun i y σ H' e h=>?_) (fun σ H' h=>q H' (s1.trans h.1))⟩
  obtain ⟨sm,c3,c4,c5,rfl⟩:=h
  obtain ⟨t_,k,rfl,ek,tt,nm,po,ou,dv,g1,g2,g3,g4,g5,g6⟩:=RefL.get hB.tabs e
  obtain ⟨rl,dx,na,dl,fs,xs,ht,f1,f2,f3,f4,f5,f6,ena,edl,erl,hR,h200⟩:=g4
  have sA:=s1.trans sm
  have hlt:=hB.ok.lt g1
  have ltz:∀ j ∈ tt.cols,j < zs.length:=fun j hj=>by rw [hzd]; exact hlt j hj
  have gz:=prm_get (os:=tt.cols) (xs:=zs) ltz
  have gk:=prm_get (os:=tt.cols) (xs:=ds.map PD.k) fun j hj=>by rw [List.length_map]; exact hlt j hj
  refine ⟨_,rfl,t_,_,_,_,_,rfl,sA _ _ ht,bl.k_Table,bl.na_Table_names,f5,_,rfl,t_,_,_,_,_,rfl,sA _ _ ht,bl.k_Table,bl.na_Table_domains,f6,na,dl,rfl,⟨_,SqL.of (sA _ _ ena)⟩,⟨_,SqL.of (sA _ _ edl)⟩,for_zip (xs:=(prm tt.cols zs).map V.str) (ys:=dv) (fun i σ H2=>Same H' H2∧∃ c4 c5:Option V,σ = [some (.ref fa),some (.ref ma),some (.ref da),some (.ref t_),c4,c5]) ⟨Same.refl _,_,_,rfl⟩ (fun i σ H2 h=>⟨SqL.of ((sA.trans h.1) _ _ ena),SqL.of ((sA.trans h.1) _ _ edl)⟩) (fun i x y σ H2 T ex ey h hT=>?_) (fun σ H2 h=>⟨sm.trans h.1,let ⟨c4,c5,e⟩:=h.2; ⟨_,c4,c5,e⟩⟩)⟩
  obtain ⟨s2,d4,d5,rfl⟩:=h
  obtain ⟨z,rfl,ez⟩:=get_strs ex
  obtain ⟨a,kk,rfl,ekk,ha⟩:=RefL.get g5 ey
  have hi:i < tt.cols.length:=by rw [← gz.1]; exact (List.getElem?_eq_some_iff.mp ez).1
  have ec:=List.getElem?_eq_getElem hi
  rw [gz.2 i _ ec] at ez
  rw [gk.2 i _ ec,List.getElem?_map] at ekk
  obtain ⟨p,ep⟩:∃ p,ds[tt.cols[i]]? = some p:=⟨_,List.getElem?_eq_getElem (hlt _ (List.mem_of_getElem? ec))⟩
  rw [ep] at ekk
  cases ekk
  obtain ⟨d,hd1,hd2⟩:=hdue _ z p ez ep
  have u:=same_new hT (.tup [.str z,.ref a])
  have eT:upd H2 T (.tup [.str z,.ref a]) T = some (.tup [.str z,.ref a]):=upd_same
  generalize upd H2 T (.tup [.str z,.ref a]) = H3 at u eT ⊢
  have sB:=(sm.trans s2).trans u
  refine ⟨T,_,rfl,SqT.of eT,rfl,_,_,rfl,_,_,rfl,rfl,?_⟩
  exact ⟨_,rfl,_,rfl,_,rfl,da,kvs,z,.ref d,rfl,rfl,sB _ _ eda,hd1,a,d,p.k,rfl,(ha.same s1).same sB,hd2.same sB,_,rfl,iteF ⟨s2.trans u,_,_,rfl⟩⟩
theorem O_44 (F:Fun K "refuse_rings" "refuse_rings" Y44 f fd) (bl:Bl K mg yA yE yN yO yP yQ yR yS yT yU yV yW yX cBook) (c_named_among:Callee P w K mg base 1 "named_among" ["table", "names"] (J37 K yA yE yN yO yP yQ yR yS yT yU yV yW yX cBook)):FnOk P w K mg base CX0 2 f fd ["tables"] (J44 K yA yE yN yO yP yQ yR yS yT yU yV yW yX cBook):=by
  refine F.ok Z44 (fun vs H Q E h=>?_) (fun cdv A outer s H vs Q E hr h=>?_)
  · obtain ⟨ma,mv,zs,ds,ts,fN,L,rfl,ema,ok,hm,hlt,h7,q⟩:=h
    rfl
  obtain ⟨ma,mv,zs,ds,ts,fN,L,rfl,ema,ok,hm,hlt,h7,q⟩:=h
  refine ⟨_,(pss_cons (ps_set (i:=1) Z44.nd rfl (Or.inl rfl) (pv 0))
     (pss_one (ps_while PassesOwn.never (pt_truth (pv 1) (by intro _; rfl))
     (pss_cut (ps_set (i:=2) Z44.nd rfl (Or.inr rfl) (pe_comp (pi_list (pv 1)) (cmpOk_plain rfl (by decide +kernel) (by decide +kernel) (by decide +kernel) rfl) rfl (fun _ _ _ _=>pif_nil) (fun _ _ _ _=>(pe_fldK (K:=K) rfl (pv 0) rfl))))
     (pss_cut (ps_comp (i:=3) Z44.nd rfl (Or.inl rfl) (pi_list (pv 1)) (cmpOk_free (N:=["table", "names"]) (fr:=[2]) (cl:=[("names",s.heap.objs.size + 1)]) rfl rfl (by decide +kernel) (by decide +kernel) rfl (by decide +kernel) rfl rfl rfl (List.forall_mem_cons.mpr ⟨rfl,List.forall_mem_nil _⟩) rfl) rfl (fun _ _ _ _=>(pif_one (pt_truthK (K:=K) rfl (pe_fn c_named_among hr rfl (pa_cons (pv 0) (pa_cons (pv 1) pa_nil)))))) (fun _ _ _ _=>(pv 0)))
     (pss_cons (ps_if (pt_cmpR op_eq (pe_callB call_len_seq rfl bl.len_ PySem.boot_len (pa_cons (pv 3) pa_nil)) (pe_callB call_len_seq rfl bl.len_ PySem.boot_len (pa_cons (pv 1) pa_nil)) (nomark _))
     (pss_one ps_never)
     pss_nil)
     (pss_one (ps_set (i:=1) Z44.nd rfl (Or.inl rfl) (pv 3))))))))),?_⟩
  refine ⟨_,rfl,?_⟩
  refine ⟨fun m σ H'=>Same H H'∧∃ (la:Addr) (lv:List V) (L' : List Nat) (c2 c3:Option V),H' la = some (.lst lv)∧RefL lv L' (TbA yX yV yW H zs ds ts fN)∧(∀ k ∈ L',k < ts.length)∧L'.length = m∧m ≤ 7∧σ = [some (.ref ma),some (.ref la),c2,c3],⟨_,Same.refl _,ma,mv,L,_,_,ema,hm,hlt,rfl,h7,rfl⟩,?_⟩
  rintro m σ H1 ⟨s1,la,lv,L',c2,c3,ela,hv,hlt',hlen,hm7,rfl⟩
  have hvl:lv.length = L'.length:=hv.1
  by_cases hne:L' = []
  · have elv:lv = []:=List.length_eq_zero_iff.mp (by rw [hvl,hne]; rfl)
    subst elv
    exact ⟨_,rfl,false,.inl ⟨_,SqL.of ela,rfl⟩,iteF (q H1 s1)⟩
  have hb:(!lv.isEmpty) = true:=by
    cases lv with
    | nil=>exact absurd (List.length_eq_zero_iff.mp hvl.symm) hne
    | cons=>rfl
  refine ⟨_,rfl,true,.inl ⟨_,SqL.of ela,hb.symm⟩,iteT ⟨fun σ' H'=>∃ m',m' < m∧Same H H'∧∃ (la:Addr) (lv:List V) (L' : List Nat) (c2 c3:Option V),H' la = some (.lst lv)∧RefL lv L' (TbA yX yV yW H zs ds ts fN)∧(∀ k ∈ L',k < ts.length)∧L'.length = m'∧m' ≤ 7∧σ' = [some (.ref ma),some (.ref la),c2,c3],fun _ _ h=>h,?_⟩⟩
  refine ⟨fun σ' H'=>Same H1 H'∧∃ na:Addr,H' na = some (.lst ((L'.map (tnm zs fN)).map V.str))∧σ' = [some (.ref ma),some (.ref la),some (.ref na),c3],?_,?_⟩
  · refine ⟨_,rfl,la,rfl,⟨_,SqL.of ela⟩,comp_list (xs:=lv) (fun D2 i ys H2=>Same H1 H2∧H2 D2 = some (.lst ys)∧ys = ((L'.take i).map (tnm zs fN)).map V.str) (fun D2 hD2=>⟨same_new hD2 _,upd_same,rfl⟩) (fun D2 i ys H2 hD2 _ h=>SqL.of (h.1 _ _ ela)) (fun D2 i y ys H2 hD2 e h=>?_) (fun D2 ys H2 hD2 h=>?_)⟩
    · obtain ⟨s2,eD2,rfl⟩:=h
      obtain ⟨t_,k,rfl,ek,tt,nm,po,ou,dv,g1,g2,g3,g4,g5,g6⟩:=RefL.get hv e
      obtain ⟨rl,dx,na,dl,fs,xs,ht,f1,f2,f3,f4,f5,f6,ena,edl,erl,hR,h200⟩:=g4
      have hi:i < lv.length:=(List.getElem?_eq_some_iff.mp e).1
      refine ⟨_,rfl,t_,_,_,_,_,rfl,(s1.trans s2) _ _ ht,bl.k_Table,bl.na_Table_name,f2,CYes.mk hi eD2 (small1000 (by rw [List.length_map,List.length_map,List.length_take]; omega)) ⟨s2.upd hD2,upd_same,?_⟩⟩
      rw [take_snoc ek,List.map_append,List.map_append]
      show _ ++ [V.str nm] = _ ++ [V.str (tnm zs fN k)]
      rw [tnm_at g2]
    · obtain ⟨s2,eD2,rfl⟩:=h
      rw [hvl,List.take_length] at eD2
      exact ⟨s2,D2,eD2,rfl⟩
  rintro σ2 H2 ⟨s2,na,ena,rfl⟩
  have s12:=s1.trans s2
  refine ⟨fun σ' H'=>Same H2 H'∧∃ (wa:Addr) (wv:List V),H' wa = some (.lst wv)∧RefL wv (L'.filter (wts ts fN L')) (TbA yX yV yW H zs ds ts fN)∧σ' = [some (.ref ma),some (.ref la),some (.ref na),some (.ref wa)],?_,?_⟩
  · refine ⟨_,rfl,la,rfl,⟨_,SqL.of (s2 _ _ ela)⟩,comp_list (xs:=lv) (fun D2 i ys H3=>Same H2 H3∧H3 D2 = some (.lst ys)∧RefL ys ((L'.take i).filter (wts ts fN L')) (TbA yX yV yW H zs ds ts fN)) (fun D2 hD2=>⟨same_new hD2 _,upd_same,RefL.nil⟩) (fun D2 i ys H3 hD2 _ h=>SqL.of ((s2.trans h.1) _ _ ela)) (fun D2 i y ys H3 hD2 e h=>?_) (fun D2 ys H3 hD2 h=>?_)⟩
    · obtain ⟨s3,eD2,hy⟩:=h
      obtain ⟨t_,k,rfl,ek,hT⟩:=RefL.get hv e
      obtain ⟨tt,nm,po,ou,dv,g1,g2,g3,g4,g5,g6⟩:=id hT
      have hi:i < lv.length:=(List.getElem?_eq_some_iff.mp e).1
      have sA:=s12.trans s3
      have hcl:=(ok.tabs k tt g1).ok.few
      have hcl:tt.cols.length ≤ 3:=hcl
      have hpl:(prm tt.cols zs).length = tt.cols.length:=(prm_get (os:=tt.cols) (xs:=zs) fun j hj=>by rw [ok.len]; exact ok.lt g1 j hj).1
      refine ⟨_,rfl,_,rfl,t_,na,ou,nm,tt.way,prm tt.cols zs,L'.map (tnm zs fN),dv,tt.rows,rfl,g4.same sA,s3 _ _ ena,by omega,fun l H4 s4 nl el=>?_⟩
      have hw:=wts_names ok hlt' g1
      have eD4:=s4 _ _ eD2
      have hfl:((L'.take i).filter (wts ts fN L')).length ≤ i:=Nat.le_trans (List.length_filter_le ..) (by rw [List.length_take]; omega)
      have hf:((L'.take (i + 1)).filter (wts ts fN L')) = ((L'.take i).filter (wts ts fN L')) ++ (if wts ts fN L' k then [k] else []):=by
        rw [take_snoc ek,List.filter_append]
        congr 1
        cases h:wts ts fN L' k with
        | true=>rw [List.filter_cons_of_pos h,List.filter_nil]; rfl
        | false=>rw [List.filter_cons_of_neg (by rw [h]; exact Bool.false_ne_true),List.filter_nil]; rfl
      refine ⟨wts ts fN L' k,.inl ⟨_,SqL.of el,?_⟩,?_⟩
      · rw [← hw]
        cases (prm tt.cols zs).filter fun z=>(L'.map (tnm zs fN)).contains z <;> rfl
      cases hc:wts ts fN L' k with
      | true =>
        rw [hc] at hf
        refine iteT ⟨_,rfl,CYes.mk hi eD4 (small1000 (by rw [hy.1]; omega)) ⟨(s3.trans s4).upd hD2,upd_same,?_⟩⟩
        rw [hf]
        exact RefL.snoc hy hT
      | false =>
        rw [hc] at hf
        refine iteF (CNext.mk (zs:=ys) hi ⟨s3.trans s4,eD4,?_⟩)
        rw [hf]
        simpa using hy
    · obtain ⟨s3,eD2,hy⟩:=h
      rw [hvl,List.take_length] at hy
      exact ⟨s3,D2,ys,eD2,hy,rfl⟩
  rintro σ3 H3 ⟨s3,wa,wv,ewa,hw,rfl⟩
  have hless:=wts_less ok hne
  have hwl:wv.length = (L'.filter (wts ts fN L')).length:=hw.1
  refine ⟨_,rfl,wa,_,rfl,.inl (SqL.of ewa),_,rfl,la,_,rfl,.inl (SqL.of (s3 _ _ (s2 _ _ ela))),rfl,_,rfl,iteFS (fun z=>by injection z with z; omega) ?_⟩
  exact ⟨_,rfl,_,by rw [← hlen]; exact hless,s12.trans s3,wa,wv,_,_,_,ewa,hw,(fun k hk=>hlt' k (List.mem_filter.mp hk).1),rfl,by omega,rfl⟩
theorem O_22 (F:Fun K "asks" "asks" Y22 f fd) (bl:Bl K mg yA yE yN yO yP yQ yR yS yT yU yV yW yX cBook) (c_named_among:Callee P w K mg base 1 "named_among" ["table", "names"] (J37 K yA yE yN yO yP yQ yR yS yT yU yV yW yX cBook)) (c_table_of:CalleeX P w K mg base 1 "table_of" ["book", "name"] (J47 K yA yE yN yO yP yQ yR yS yT yU yV yW yX cBook)):FnOk P w K mg base (CX1 P w) 2 f fd ["book", "name"] (J22 K yA yE yN yO yP yQ yR yS yT yU yV yW yX cBook):=by
  refine F.okE Z22 (fun vs H Q E h=>?_) (fun cdv A outer s H vs Q E hr h=>?_)
  · obtain ⟨b,nm,zs,ds,ts,fN,mv,L,rfl,hB,hs,q,qE⟩:=h
    rfl
  obtain ⟨b,nm,zs,ds,ts,fN,mv,L,rfl,hB,hs,q,qE⟩:=h
  refine ⟨_,(pss_one (ps_ret (pe_fn c_named_among hr rfl (pa_cons (pe_fnE c_table_of passE hr rfl (pa_cons (pv 0) (pa_cons (pv 1) pa_nil))) (pa_cons (pe_comp (pi_list (pe_fld (pv 0) rfl)) (cmpOk_plain rfl (by decide +kernel) (by decide +kernel) (by decide +kernel) rfl) rfl (fun _ _ _ _=>pif_nil) (fun _ _ _ _=>(pe_fldK (K:=K) rfl (pv 0) rfl))) pa_nil))))),?_⟩
  obtain ⟨dx,fs,ta,hb,ft,eta⟩:=hB.bk
  have hml:mv.length = L.length:=hB.tabs.1
  have h7:=hB.few
  refine ⟨_,rfl,_,rfl,b,nm,zs,ds,ts,fN,mv,L,rfl,hB,hs,fun a k hk hn hT=>?_,qE⟩
  obtain ⟨tt,nm2,po,ou,dv,g1,g2,g3,g4,g5,g6⟩:=id hT
  have hcl:tt.cols.length ≤ 3:=(hB.ok.tabs k tt g1).ok.few
  have hpl:(prm tt.cols zs).length = tt.cols.length:=(prm_get (os:=tt.cols) (xs:=zs) fun j hj=>by rw [hB.ok.len]; exact hB.ok.lt g1 j hj).1
  refine ⟨_,rfl,b,_,_,_,_,rfl,hb,bl.k_Book,bl.na_Book_tables,ft,ta,rfl,⟨_,SqL.of eta⟩,comp_list (xs:=mv) (fun D2 i ys H2=>Same H H2∧H2 D2 = some (.lst ys)∧ys = ((L.take i).map (tnm zs fN)).map V.str) (fun D2 hD2=>⟨same_new hD2 _,upd_same,rfl⟩) (fun D2 i ys H2 hD2 _ h=>SqL.of (h.1 _ _ eta)) (fun D2 i y ys H2 hD2 e h=>?_) (fun D2 ys H2 hD2 h=>?_)⟩
  · obtain ⟨s2,eD2,rfl⟩:=h
    obtain ⟨t_,k,rfl,ek,tt,nm,po,ou,dv,g1,g2,g3,g4,g5,g6⟩:=RefL.get hB.tabs e
    obtain ⟨rl,dx,na,dl,fs,xs,ht,f1,f2,f3,f4,f5,f6,ena,edl,erl,hR,h200⟩:=g4
    have hi:i < mv.length:=(List.getElem?_eq_some_iff.mp e).1
    refine ⟨_,rfl,t_,_,_,_,_,rfl,s2 _ _ ht,bl.k_Table,bl.na_Table_name,f2,CYes.mk hi eD2 (small1000 (by rw [List.length_map,List.length_map,List.length_take]; omega)) ⟨s2.upd hD2,upd_same,?_⟩⟩
    rw [take_snoc ek,List.map_append,List.map_append]
    show _ ++ [V.str nm] = _ ++ [V.str (tnm zs fN k)]
    rw [tnm_at g2]
  · obtain ⟨s2,eD2,rfl⟩:=h
    rw [hml,List.take_length] at eD2
    exact ⟨a,D2,ou,nm2,tt.way,prm tt.cols zs,L.map (tnm zs fN),dv,tt.rows,rfl,g4.same s2,eD2,by omega,fun l H4 s4 nl el=>q k tt l H4 hk hn g1 (s2.trans s4) (s2.free nl) el⟩
theorem O_28 (F:Fun K "_law_domain" "_law_domain" Y28 f fd) (bl:Bl K mg yA yE yN yO yP yQ yR yS yT yU yV yW yX cBook) (c__law_words:Callee P w K mg base 1 "_law_words" ["cell", "count"] (J36 K yA yE yN yO yP yQ yR yS yT yU yV yW yX cBook)):FnOk P w K mg base CX0 2 f fd ["cell"] (J28 K yA yE yN yO yP yQ yR yS yT yU yV yW yX cBook):=by
  refine F.ok Z28 (fun vs H Q E h=>?_) (fun cdv A outer s H vs Q E hr h=>?_)
  · obtain ⟨c,rfl,q⟩:=h
    rfl
  obtain ⟨c,rfl,q⟩:=h
  refine ⟨_,(pss_cut (ps_set (i:=1) Z28.nd rfl (Or.inl rfl) (pe_op op_sub (pe_op op_mod (pe_op op_fdiv (pv 0) pe_int) (pe_op op_pow pe_int pe_int)) (pe_op op_mul pe_int (pe_op op_pow pe_int pe_int))))
     (pss_cut (ps_set (i:=2) Z28.nd rfl (Or.inl rfl) (pe_op op_mod (pe_op op_fdiv (pv 0) pe_int) (pe_op op_pow pe_int pe_int)))
     (pss_cons (ps_if (pt_cmpR op_eq (pe_op op_mod (pv 0) pe_int) pe_int (nomark _))
     (pss_cons (ps_set (i:=3) Z28.nd rfl (Or.inl rfl) (pe_fn c__law_words hr rfl (pa_cons (pe_op op_fdiv (pv 0) pe_int) (pa_cons (pe_op op_add pe_int (pe_op op_mod (pe_op op_fdiv (pv 0) pe_int) pe_int)) pa_nil))))
     (pss_one (ps_ret (pe_tup (pa_cons pe_int (pa_cons (pe_op op_sub (pe_callB call_len_seq rfl bl.len_ PySem.boot_len (pa_cons (pv 3) pa_nil)) pe_int) (pa_cons (pv 3) pa_nil)))))))
     pss_nil)
     (pss_cut (ps_if (pt_cmpR op_eq (pe_op op_mod (pv 0) pe_int) pe_int (nomark _))
     (pss_one (ps_set (i:=2) Z28.nd rfl (Or.inl rfl) (pe_op op_mod (pe_op op_fdiv (pv 0) pe_int) pe_int)))
     pss_nil)
     (pss_one (ps_ret (pe_tup (pa_cons (pv 1) (pa_cons (pe_op op_add (pv 1) (pv 2)) (pa_cons (pe_lst pa_nil) pa_nil)))))))))),?_⟩
  have k1:(10 ^ 30:Nat) * 10 = 10 ^ 31:=by decide
  have k2:(10 ^ 29:Nat) * 100 = 10 ^ 31:=by decide
  have k3:(1000:Nat) ≤ 10 ^ 31:=by decide
  refine ⟨fun σ' H'=>H' = H∧∃ lo:Int,-(5 * ((10 ^ 29:Nat):Int)) ≤ lo∧lo < ((10 ^ 30:Nat):Int)∧σ' = [some (.int c),some (.int lo),none,none],?_,?_⟩
  · have x0:=Int.emod_nonneg (c / 3) (Int.ne_of_gt (p10 (30:Int).toNat))
    have x1:=Int.emod_lt_of_pos (c / 3) (p10 (30:Int).toNat)
    refine ⟨_,rfl,_,_,rfl,rfl,⟨by decide,by decide⟩,_,_,rfl,rfl,⟨by decide,by decide,by decide⟩,_,_,rfl,rfl,p10 _,_,_,rfl,rfl,⟨by decide,by decide,by decide⟩,_,_,rfl,rfl,.inl ⟨by decide,by decide⟩,_,_,rfl,rfl,rfl,_,?_,?_,rfl⟩
    · rw [p30] at x0 x1 ⊢
      rw [p29]
      generalize ((10 ^ 30:Nat):Int) = A at x0 x1 ⊢
      generalize ((10 ^ 29:Nat):Int) = B at *
      omega
    · rw [p30] at x0 x1 ⊢
      rw [p29]
      have:(0:Int) ≤ ((10 ^ 29:Nat):Int):=Int.natCast_nonneg _
      generalize ((10 ^ 30:Nat):Int) = A at x0 x1 ⊢
      generalize ((10 ^ 29:Nat):Int) = B at *
      omega
  rintro σ1 H1 ⟨rfl,lo,g0,g1,rfl⟩
  refine ⟨fun σ' H'=>H' = H1∧∃ w:Int,0 ≤ w∧w < ((10 ^ 30:Nat):Int)∧σ' = [some (.int c),some (.int lo),some (.int w),none],?_,?_⟩
  · have x0:=Int.emod_nonneg (c / 7) (Int.ne_of_gt (p10 (30:Int).toNat))
    have x1:=Int.emod_lt_of_pos (c / 7) (p10 (30:Int).toNat)
    refine ⟨_,rfl,_,_,rfl,rfl,⟨by decide,by decide⟩,_,_,rfl,rfl,⟨by decide,by decide,by decide⟩,_,_,rfl,rfl,p10 _,rfl,_,x0,?_,rfl⟩
    rw [p30] at x1 ⊢
    exact x1
  rintro σ2 H2 ⟨rfl,w,w0,w1,rfl⟩
  refine ⟨_,rfl,_,_,rfl,rfl,(by show (0:Int) < 3; decide),rfl,_,rfl,?_⟩
  refine ite2 (fun _=>?_) (fun _=>?_)
  · have y0:=Int.emod_nonneg (c / 3) (show (6:Int) ≠ 0 by decide)
    have y1:=Int.emod_lt_of_pos (c / 3) (show (0:Int) < 6 by decide)
    obtain ⟨n,en⟩:∃ n:Nat,1 + c / 3 % 6 = (n:Int):=⟨_,(Int.toNat_of_nonneg (by omega)).symm⟩
    refine ⟨_,rfl,_,_,rfl,rfl,⟨by decide,by decide⟩,_,rfl,_,_,rfl,rfl,⟨by decide,by decide⟩,_,_,rfl,rfl,(by show (0:Int) < 6; decide),_,_,rfl,rfl,c / 18,n,by rw [← en],by omega,fun l H3 s3 nl el=>?_⟩
    have hg:=lws_good (c:=c / 18) (n:=n) (by omega) (by omega)
    have hl:=lws_len (c / 18) n
    generalize lws (c / 18) n = zs at el hg hl
    have hm:(zs.map V.str).length = zs.length:=List.length_map _
    refine ⟨_,rfl,l,_,rfl,.inl (SqL.of el),_,_,rfl,rfl,_,rfl,(by show 3 ≤ sizeLine; decide),fun r hr=>?_⟩
    refine q r ⟨0,((zs.map V.str).length:Int) - 1,zs⟩ _ (s3.trans (same_new hr _)) ⟨l,s3.free hr,nl,upd_same,same_new hr _ _ _ el⟩ ⟨by show (0:Int) ≤ ((zs.map V.str).length:Int) - 1; omega,fun _=>⟨hg,rfl,by show ((zs.map V.str).length:Int) - 1 = hiW zs; unfold hiW; rw [hm]⟩,fun x x0 x1=>?_⟩
    have x0:0 ≤ x:=x0
    have x1:x ≤ ((zs.map V.str).length:Int) - 1:=x1
    exact bnd40 x0 (by omega)
  refine ⟨fun σ' H'=>H' = H2∧∃ w:Int,0 ≤ w∧w < ((10 ^ 30:Nat):Int)∧σ' = [some (.int c),some (.int lo),some (.int w),none],?_,?_⟩
  · refine ⟨_,rfl,_,_,rfl,rfl,(by show (0:Int) < 3; decide),rfl,_,rfl,?_⟩
    refine ite2 (fun _=>?_) (fun _=>⟨rfl,w,w0,w1,rfl⟩)
    have x0:=Int.emod_nonneg (c / 7) (show (9:Int) ≠ 0 by decide)
    have x1:=Int.emod_lt_of_pos (c / 7) (show (0:Int) < 9 by decide)
    refine ⟨_,rfl,_,_,rfl,rfl,⟨by decide,by decide⟩,_,_,rfl,rfl,(by show (0:Int) < 9; decide),rfl,_,x0,?_,rfl⟩
    have:(9:Int) ≤ ((10 ^ 30:Nat):Int):=by decide
    exact Int.lt_of_lt_of_le x1 this
  clear w0 w1 w
  rintro σ3 H3 ⟨rfl,w,w0,w1,rfl⟩
  refine ⟨_,rfl,_,rfl,_,rfl,_,_,rfl,rfl,(by show 0 ≤ sizeLine; decide),fun l hl=>?_⟩
  have u1:=same_new hl (.lst [])
  have e1:upd H3 l (.lst []) l = some (.lst []):=upd_same
  generalize upd H3 l (.lst []) = H4 at u1 e1 ⊢
  refine ⟨(by show 3 ≤ sizeLine; decide),fun r hr=>?_⟩
  refine q r ⟨lo,lo + w,[]⟩ _ (u1.trans (same_new hr _)) ⟨l,u1.free hr,hl,upd_same,same_new hr _ _ _ e1⟩ ⟨by show lo ≤ lo + w; omega,fun h=>absurd rfl h,fun x x0 x1=>?_⟩
  have x0:lo ≤ x:=x0
  have x1:x ≤ lo + w:=x1
  refine bnd31 ?_ ?_
  · generalize (10 ^ 30:Nat) = A at *
    generalize (10 ^ 29:Nat) = B at *
    generalize (10 ^ 31:Nat) = C at *
    omega
  · generalize (10 ^ 30:Nat) = A at *
    generalize (10 ^ 29:Nat) = B at *
    generalize (10 ^ 31:Nat) = C at *
    omega
theorem O_33 (F:Fun K "_law_row" "_law_row" Y33 f fd) (bl:Bl K mg yA yE yN yO yP yQ yR yS yT yU yV yW yX cBook) (c__law_spans:Callee P w K mg base 1 "_law_spans" ["kind", "one", "two", "domain"] (J34 K yA yE yN yO yP yQ yR yS yT yU yV yW yX cBook)):FnOk P w K mg base CX0 2 f fd ["columns", "domains", "pools", "own", "cell"] (J33 K yA yE yN yO yP yQ yR yS yT yU yV yW yX cBook):=by
  refine F.ok Z33 (fun vs H Q E h=>?_) (fun cdv A outer s H vs Q E hr h=>?_)
  · obtain ⟨cl,dl,pl,ow,c,cols,dv,pvs,ds,rfl,hcl,hdl,hds,hpl,hps,hlt,how,h10,q⟩:=h
    rfl
  obtain ⟨cl,dl,pl,ow,c,cols,dv,pvs,ds,rfl,hcl,hdl,hds,hpl,hps,hlt,how,h10,q⟩:=h
  refine ⟨_,(pss_cut (ps_set (i:=5) Z33.nd rfl (Or.inl rfl) (pe_op op_mod (pv 4) (pe_op op_pow pe_int pe_int)))
     (pss_cut (ps_set (i:=6) Z33.nd rfl (Or.inl rfl) (pe_lst pa_nil))
     (pss_cut (ps_for PassesOwn.never rfl (pi_list (pv 0)) (pg_name (i:=7) Z33.nd rfl (Or.inl rfl))
     (pss_cut (ps_set (i:=8) Z33.nd rfl (Or.inl rfl) (pe_ix ix_list (pe_ix ix_list (pv 2) (pv 7) (fun _ _=>rfl)) (pe_op op_mod (pv 5) pe_int) (fun _ _=>rfl)))
     (pss_cut (ps_set (i:=9) Z33.nd rfl (Or.inl rfl) (pe_ix ix_list (pe_ix ix_list (pv 2) (pv 7) (fun _ _=>rfl)) (pe_op op_mod (pe_op op_fdiv (pv 5) pe_int) pe_int) (fun _ _=>rfl)))
     (pss_cons (ps_expr (pe_bm PySem.F.plainAttrs_list PySem.F.slot_list_append PySem.F.type_list_append mt_append (pv 6) (pa_cons (pe_fn c__law_spans hr rfl (pa_cons (pe_op op_mod (pe_op op_fdiv (pv 5) pe_int) pe_int) (pa_cons (pe_callB (call_min2 rfl) rfl bl.min_ PyProof.Rows.boot_min (pa_cons (pv 8) (pa_cons (pv 9) pa_nil))) (pa_cons (pe_callB (call_max2 rfl) rfl bl.max_ PyProof.Rows.boot_max (pa_cons (pv 8) (pa_cons (pv 9) pa_nil))) (pa_cons (pe_ix ix_list (pv 1) (pv 7) (fun _ _=>rfl)) pa_nil))))) pa_nil)))
     (pss_one (ps_set (i:=5) Z33.nd rfl (Or.inl rfl) (pe_op op_fdiv (pv 5) pe_int)))))))
     (pss_one (ps_ret (pe_tup (pa_cons (pv 6) (pa_cons (pe_ix ix_list (pe_ix ix_list (pv 2) (pv 3) (fun _ _=>rfl)) (pe_op op_mod (pv 5) pe_int) (fun _ _=>rfl)) pa_nil)))))))),?_⟩
  refine ⟨fun σ' H'=>H' = H∧∃ n:Int,σ' = [some (.ref cl),some (.ref dl),some (.ref pl),some (.int (ow:Int)),some (.int c),some (.int n),none,none,none,none],⟨_,rfl,_,_,rfl,rfl,⟨by decide,by decide,by decide⟩,_,_,rfl,rfl,p10 _,rfl,_,rfl⟩,?_⟩
  rintro σ1 H1 ⟨rfl,n,rfl⟩
  refine ⟨fun σ' H'=>Same H1 H'∧∃ pa:Addr,H1 pa = none∧H' pa = some (.lst [])∧σ' = [some (.ref cl),some (.ref dl),some (.ref pl),some (.int (ow:Int)),some (.int c),some (.int n),some (.ref pa),none,none,none],⟨(by show 0 ≤ sizeLine; decide),fun l hl=>⟨same_new hl _,l,hl,upd_same,rfl⟩⟩,?_⟩
  rintro σ2 H2 ⟨s2,pa,npa,epa,rfl⟩
  refine ⟨fun σ' H'=>Same H1 H'∧∃ (zs:List V) (pss:List Prs) (n:Int) (c7 c8 c9:Option V),H' pa = some (.lst zs)∧CL (Fr H1 pa) H' zs pss∧pss.length = cols.length∧(∀ (j k:Nat) (ps:Prs) (p:PD),pss[j]? = some ps→cols[j]? = some k→ds[k]? = some p→∀ x ∈ ps,p.lo ≤ x.1∧x.1 ≤ x.2∧x.2 ≤ p.hi)∧(∀ ps ∈ pss,ps.length ≤ 2)∧σ' = [some (.ref cl),some (.ref dl),some (.ref pl),some (.int (ow:Int)),some (.int c),some (.int n),some (.ref pa),c7,c8,c9],?_,?_⟩
  · refine ⟨_,rfl,cl,rfl,⟨_,SqL.of (s2 _ _ hcl)⟩,for_list (xs:=vN cols) (fun i σ H'=>Same H1 H'∧∃ (zs:List V) (pss:List Prs) (n:Int) (c7 c8 c9:Option V),H' pa = some (.lst zs)∧CL (Fr H1 pa) H' zs pss∧pss.length = i∧(∀ (j k:Nat) (ps:Prs) (p:PD),pss[j]? = some ps→cols[j]? = some k→ds[k]? = some p→∀ x ∈ ps,p.lo ≤ x.1∧x.1 ≤ x.2∧x.2 ≤ p.hi)∧(∀ ps ∈ pss,ps.length ≤ 2)∧σ = [some (.ref cl),some (.ref dl),some (.ref pl),some (.int (ow:Int)),some (.int c),some (.int n),some (.ref pa),c7,c8,c9]) ⟨s2,[],[],n,_,_,_,epa,RefL.nil,rfl,(fun j k ps p e=>by simp at e),(fun ps h=>by cases h),rfl⟩ (fun i σ H' _ h=>SqL.of (h.1 _ _ hcl)) (fun i y σ H' ey hh=>?_) (fun σ H' hh=>?_)⟩
    · obtain ⟨sm,zs,pss,n,c7,c8,c9,ez,hz,hl,hin,hfew,rfl⟩:=hh
      obtain ⟨k,rfl,ek⟩:=vN_of ey
      have hk:=hlt k (List.mem_of_getElem? ek)
      have hi:i < cols.length:=(List.getElem?_eq_some_iff.mp ek).1
      have ep:=List.getElem?_eq_getElem hk
      obtain ⟨pa_,e1,hpo⟩:=hps.2 k _ ep
      obtain ⟨da,e2,hpd⟩:=hds.2 k _ ep
      generalize ds[k] = p at ep hpo hpd
      have hpo:=hpo.same sm
      have hpd:=hpd.same sm
      refine ⟨fun σ' H''=>H'' = H'∧∃ one:Int,p.lo ≤ one∧one ≤ p.hi∧σ' = [some (.ref cl),some (.ref dl),some (.ref pl),some (.int (ow:Int)),some (.int c),some (.int n),some (.ref pa),some (.int (k:Int)),some (.int one),c9],?_,?_⟩
      · obtain ⟨xs,x,q1,q2,q3,q4⟩:=hpo.pick (K:=K) n
        exact ⟨_,rfl,_,rfl,pl,_,_,_,rfl,rfl,SqL.of (sm _ _ hpl),atI_nat e1,_,rfl,_,_,rfl,rfl,(by show (0:Int) < 3; decide),pa_,_,_,_,rfl,rfl,q1,q2,rfl,x,q3,q4,rfl⟩
      rintro σ3 H3 ⟨rfl,one,a1,a2,rfl⟩
      refine ⟨fun σ' H''=>H'' = H3∧∃ two:Int,p.lo ≤ two∧two ≤ p.hi∧σ' = [some (.ref cl),some (.ref dl),some (.ref pl),some (.int (ow:Int)),some (.int c),some (.int n),some (.ref pa),some (.int (k:Int)),some (.int one),some (.int two)],?_,?_⟩
      · obtain ⟨xs,x,q1,q2,q3,q4⟩:=hpo.pick (K:=K) (n / 3)
        exact ⟨_,rfl,_,rfl,pl,_,_,_,rfl,rfl,SqL.of (sm _ _ hpl),atI_nat e1,_,rfl,_,_,rfl,rfl,⟨by decide,by decide⟩,_,_,rfl,rfl,(by show (0:Int) < 3; decide),pa_,_,_,_,rfl,rfl,q1,q2,rfl,x,q3,q4,rfl⟩
      rintro σ4 H4 ⟨rfl,two,b1,b2,rfl⟩
      refine ⟨_,rfl,.inl ⟨rfl,_,SqL.of ez⟩,_,rfl,_,_,rfl,rfl,⟨by decide,by decide⟩,_,_,rfl,rfl,(by show (0:Int) < 6; decide),_,rfl,_,rfl,_,_,rfl,_,rfl,_,rfl,_,_,rfl,_,rfl,_,rfl,dl,_,_,_,rfl,rfl,SqL.of (sm _ _ hdl),atI_nat e2,_,_,_,da,p,rfl,hpd,?_,?_,?_,fun l ps H5 s5 hsp hb hl2=>?_⟩
      · split <;> omega
      · split <;> split <;> omega
      · split <;> omega
      have ez5:=s5 _ _ ez
      have n4:H4 l = none:=hsp.1
      have nl:l ≠ pa:=fun z=>by rw [z,ez] at n4; cases n4
      have hz2:CL (Fr H1 pa) H5 (zs ++ [.ref l]) (pss ++ [ps]):=RefL.snoc (hz.same s5) ⟨⟨sm.free n4,nl⟩,hsp.2⟩
      refine ⟨pa,_,_,rfl,rfl,ez5,small1000 (by rw [hz.1]; omega),_,rfl,_,_,rfl,rfl,⟨by decide,by decide⟩,(sm.trans s5).upd npa,zs ++ [.ref l],pss ++ [ps],_,_,_,_,upd_same,hz2.updN Fr.out ez5,by rw [List.length_append,hl]; rfl,fun j k' ps' p' f1 f2 f3=>?_,fun ps' h'=>?_,rfl⟩
      · by_cases hj:j < pss.length
        · rw [List.getElem?_append_left hj] at f1
          exact hin j k' ps' p' f1 f2 f3
        · have hj2:j = pss.length:=by have:=(List.getElem?_eq_some_iff.mp f1).1; simp at this; omega
          subst hj2
          simp at f1
          subst f1
          rw [hl,ek] at f2
          cases f2
          rw [ep] at f3
          cases f3
          exact hb
      · rcases List.mem_append.mp h' with h' | h'
        · exact hfew ps' h'
        · rw [show ps' = ps by simpa using h']; exact hl2
    · obtain ⟨sm,zs,pss,n,c7,c8,c9,ez,hz,hl,hin,hfew,rfl⟩:=hh
      exact ⟨sm,zs,pss,n,_,_,_,ez,hz,by rw [hl,vN_len],hin,hfew,rfl⟩
  rintro σ5 H5 ⟨s5,zs,pss,n,c7,c8,c9,ez,hz,hl,hin,hfew,rfl⟩
  obtain ⟨po,e1,hpo⟩:=hps.2 ow _ (List.getElem?_eq_getElem how)
  obtain ⟨xs,x,q1,q2,q3,q4⟩:=(hpo.same s5).pick (K:=K) n
  refine ⟨_,rfl,_,rfl,_,rfl,pl,_,_,_,rfl,rfl,SqL.of (s5 _ _ hpl),atI_nat e1,_,rfl,_,_,rfl,rfl,(by show (0:Int) < 3; decide),po,_,_,_,rfl,rfl,q1,q2,small2,fun r hr=>?_⟩
  have u:=same_new hr (.tup [.ref pa,.int x])
  exact q r (pss,x) _ (s5.trans u) ⟨pa,zs,upd_same,npa,u _ _ ez,(hz.same u).wk fun a h=>h.1⟩ ⟨hl,hin,hfew,fun p ep=>by rw [List.getElem?_eq_getElem how] at ep; cases ep; exact ⟨q3,q4⟩⟩
theorem O_5 (F:Fun K "__init__" "First.__init__" Y5 f fd) (bl:Bl K mg yA yE yN yO yP yQ yR yS yT yU yV yW yX cBook) (b_Way___init___First:BCallee CX0 P w K mg base 1 "Way" "__init__" ["self", "called"] (J13 K yA yE yN yO yP yQ yR yS yT yU yV yW yX cBook)):FnOk P w K mg base CX0 2 f fd ["self"] (J5 K yA yE yN yO yP yQ yR yS yT yU yV yW yX cBook):=by
  refine F.ok Z5 (fun vs H Q E h=>?_) (fun cdv A outer s H vs Q E hr h=>?_)
  · obtain ⟨x,dx,rfl,hx,q⟩:=h
    rfl
  obtain ⟨x,dx,rfl,hx,q⟩:=h
  refine ⟨_,(pss_one (ps_expr (pe_base b_Way___init___First pass0 hr rfl (pa_cons (pv 0) (pa_cons pe_str pa_nil))))),?_⟩
  exact ⟨_,rfl,x,dx,_,rfl,hx,q⟩
theorem O_10 (F:Fun K "__init__" "Only.__init__" Y10 f fd) (bl:Bl K mg yA yE yN yO yP yQ yR yS yT yU yV yW yX cBook) (b_Way___init___Only:BCallee CX0 P w K mg base 1 "Way" "__init__" ["self", "called"] (J17 K yA yE yN yO yP yQ yR yS yT yU yV yW yX cBook)):FnOk P w K mg base CX0 2 f fd ["self"] (J10 K yA yE yN yO yP yQ yR yS yT yU yV yW yX cBook):=by
  refine F.ok Z10 (fun vs H Q E h=>?_) (fun cdv A outer s H vs Q E hr h=>?_)
  · obtain ⟨x,dx,rfl,hx,q⟩:=h
    rfl
  obtain ⟨x,dx,rfl,hx,q⟩:=h
  refine ⟨_,(pss_one (ps_expr (pe_base b_Way___init___Only pass0 hr rfl (pa_cons (pv 0) (pa_cons pe_str pa_nil))))),?_⟩
  exact ⟨_,rfl,x,dx,_,rfl,hx,q⟩
theorem O_7 (F:Fun K "__init__" "Like.__init__" Y7 f fd) (bl:Bl K mg yA yE yN yO yP yQ yR yS yT yU yV yW yX cBook) (b_Way___init___Like:BCallee CX0 P w K mg base 1 "Way" "__init__" ["self", "called"] (J15 K yA yE yN yO yP yQ yR yS yT yU yV yW yX cBook)):FnOk P w K mg base CX0 2 f fd ["self"] (J7 K yA yE yN yO yP yQ yR yS yT yU yV yW yX cBook):=by
  refine F.ok Z7 (fun vs H Q E h=>?_) (fun cdv A outer s H vs Q E hr h=>?_)
  · obtain ⟨x,dx,rfl,hx,q⟩:=h
    rfl
  obtain ⟨x,dx,rfl,hx,q⟩:=h
  refine ⟨_,(pss_one (ps_expr (pe_base b_Way___init___Like pass0 hr rfl (pa_cons (pv 0) (pa_cons pe_str pa_nil))))),?_⟩
  exact ⟨_,rfl,x,dx,_,rfl,hx,q⟩
theorem O_8 (F:Fun K "__init__" "Low.__init__" Y8 f fd) (bl:Bl K mg yA yE yN yO yP yQ yR yS yT yU yV yW yX cBook) (b_Way___init___Low:BCallee CX0 P w K mg base 1 "Way" "__init__" ["self", "called"] (J16 K yA yE yN yO yP yQ yR yS yT yU yV yW yX cBook)):FnOk P w K mg base CX0 2 f fd ["self"] (J8 K yA yE yN yO yP yQ yR yS yT yU yV yW yX cBook):=by
  refine F.ok Z8 (fun vs H Q E h=>?_) (fun cdv A outer s H vs Q E hr h=>?_)
  · obtain ⟨x,dx,rfl,hx,q⟩:=h
    rfl
  obtain ⟨x,dx,rfl,hx,q⟩:=h
  refine ⟨_,(pss_one (ps_expr (pe_base b_Way___init___Low pass0 hr rfl (pa_cons (pv 0) (pa_cons pe_str pa_nil))))),?_⟩
  exact ⟨_,rfl,x,dx,_,rfl,hx,q⟩
theorem O_6 (F:Fun K "__init__" "High.__init__" Y6 f fd) (bl:Bl K mg yA yE yN yO yP yQ yR yS yT yU yV yW yX cBook) (b_Way___init___High:BCallee CX0 P w K mg base 1 "Way" "__init__" ["self", "called"] (J14 K yA yE yN yO yP yQ yR yS yT yU yV yW yX cBook)):FnOk P w K mg base CX0 2 f fd ["self"] (J6 K yA yE yN yO yP yQ yR yS yT yU yV yW yX cBook):=by
  refine F.ok Z6 (fun vs H Q E h=>?_) (fun cdv A outer s H vs Q E hr h=>?_)
  · obtain ⟨x,dx,rfl,hx,q⟩:=h
    rfl
  obtain ⟨x,dx,rfl,hx,q⟩:=h
  refine ⟨_,(pss_one (ps_expr (pe_base b_Way___init___High pass0 hr rfl (pa_cons (pv 0) (pa_cons pe_str pa_nil))))),?_⟩
  exact ⟨_,rfl,x,dx,_,rfl,hx,q⟩
theorem O_11 (F:Fun K "__init__" "Sum.__init__" Y11 f fd) (bl:Bl K mg yA yE yN yO yP yQ yR yS yT yU yV yW yX cBook) (b_Way___init___Sum:BCallee CX0 P w K mg base 1 "Way" "__init__" ["self", "called"] (J18 K yA yE yN yO yP yQ yR yS yT yU yV yW yX cBook)):FnOk P w K mg base CX0 2 f fd ["self"] (J11 K yA yE yN yO yP yQ yR yS yT yU yV yW yX cBook):=by
  refine F.ok Z11 (fun vs H Q E h=>?_) (fun cdv A outer s H vs Q E hr h=>?_)
  · obtain ⟨x,dx,rfl,hx,q⟩:=h
    rfl
  obtain ⟨x,dx,rfl,hx,q⟩:=h
  refine ⟨_,(pss_one (ps_expr (pe_base b_Way___init___Sum pass0 hr rfl (pa_cons (pv 0) (pa_cons pe_str pa_nil))))),?_⟩
  exact ⟨_,rfl,x,dx,_,rfl,hx,q⟩
theorem O_3 (F:Fun K "has_code" "Domain.has_code" Y3 f fd) (bl:Bl K mg yA yE yN yO yP yQ yR yS yT yU yV yW yX cBook) (c_is_whole:Callee P w K mg base 1 "is_whole" ["value"] (J23 K yA yE yN yO yP yQ yR yS yT yU yV yW yX cBook)):FnOk P w K mg base CX0 2 f fd ["self", "value"] (J3 K yA yE yN yO yP yQ yR yS yT yU yV yW yX cBook):=by
  refine F.ok Z3 (fun vs H Q E h=>?_) (fun cdv A outer s H vs Q E hr h=>?_)
  · obtain ⟨a,b,i,rfl,⟨dx,fs,ha,hl,hh,_⟩,h1,h2,q⟩:=h
    rfl
  obtain ⟨a,b,i,rfl,⟨dx,fs,ha,hl,hh,_⟩,h1,h2,q⟩:=h
  refine ⟨_,(pss_one (ps_ret (pe_and (pe_fn c_is_whole hr rfl (pa_cons (pv 1) pa_nil)) (pe_one (pe_chain op_le op_le (pe_fld (pv 0) rfl) (pv 1) (pe_fld (pv 0) rfl)))))),?_⟩
  refine ⟨_,rfl,i,rfl,_,rfl,iteT ?_⟩
  refine ⟨_,rfl,a,_,_,_,_,rfl,ha,bl.k_Numbers,bl.na_Numbers_low,hl,_,rfl,_,_,rfl,rfl,_,rfl,iteTS h1 ?_⟩
  refine ⟨_,rfl,a,_,_,_,_,rfl,ha,bl.k_Numbers,bl.na_Numbers_high,hh,_,_,rfl,rfl,?_⟩
  show Q (.bl (decide (i ≤ b.2))) H
  rw [decide_eq_true h2]
  exact q
theorem O_4 (F:Fun K "has_code" "Domain.has_code" Y4 f fd) (bl:Bl K mg yA yE yN yO yP yQ yR yS yT yU yV yW yX cBook) (c_is_whole:Callee P w K mg base 1 "is_whole" ["value"] (J23 K yA yE yN yO yP yQ yR yS yT yU yV yW yX cBook)):FnOk P w K mg base CX0 2 f fd ["self", "value"] (J4 K yA yE yN yO yP yQ yR yS yT yU yV yW yX cBook):=by
  refine F.ok Z4 (fun vs H Q E h=>?_) (fun cdv A outer s H vs Q E hr h=>?_)
  · obtain ⟨a,b,i,rfl,⟨dx,fs,ha,hl,hh,_⟩,h1,h2,q⟩:=h
    rfl
  obtain ⟨a,b,i,rfl,⟨dx,fs,ha,hl,hh,_⟩,h1,h2,q⟩:=h
  refine ⟨_,(pss_one (ps_ret (pe_and (pe_fn c_is_whole hr rfl (pa_cons (pv 1) pa_nil)) (pe_one (pe_chain op_le op_le (pe_fld (pv 0) rfl) (pv 1) (pe_fld (pv 0) rfl)))))),?_⟩
  refine ⟨_,rfl,i,rfl,_,rfl,iteT ?_⟩
  refine ⟨_,rfl,a,_,_,_,_,rfl,ha,bl.k_Words,bl.na_Words_low,hl,_,rfl,_,_,rfl,rfl,_,rfl,iteTS h1 ?_⟩
  refine ⟨_,rfl,a,_,_,_,_,rfl,ha,bl.k_Words,bl.na_Words_high,hh,_,_,rfl,rfl,?_⟩
  show Q (.bl (decide (i ≤ b.2))) H
  rw [decide_eq_true h2]
  exact q
theorem O_9 (F:Fun K "__init__" "Numbers.__init__" Y9 f fd) (bl:Bl K mg yA yE yN yO yP yQ yR yS yT yU yV yW yX cBook) (b_Domain___init___Numbers:BCallee CX0 P w K mg base 1 "Domain" "__init__" ["self", "low", "high"] (J1 K yA yE yN yO yP yQ yR yS yT yU yV yW yX cBook)):FnOk P w K mg base CX0 2 f fd ["self", "low", "high"] (J9 K yA yE yN yO yP yQ yR yS yT yU yV yW yX cBook):=by
  refine F.ok Z9 (fun vs H Q E h=>?_) (fun cdv A outer s H vs Q E hr h=>?_)
  · obtain ⟨x,dx,lo,hi,rfl,hx,hle,q⟩:=h
    rfl
  obtain ⟨x,dx,lo,hi,rfl,hx,hle,q⟩:=h
  refine ⟨_,(pss_cons (ps_if (pt_cmpR op_gt (pv 1) (pv 2) (nomark _))
     (pss_one ps_never)
     pss_nil)
     (pss_one (ps_expr (pe_base b_Domain___init___Numbers pass0 hr rfl (pa_cons (pv 0) (pa_cons (pv 1) (pa_cons (pv 2) pa_nil))))))),?_⟩
  exact ⟨_,rfl,_,rfl,_,_,rfl,rfl,_,rfl,iteFS (by omega) ⟨_,rfl,_,rfl,_,rfl,x,dx,lo,hi,rfl,hx,q⟩⟩
theorem O_42 (F:Fun K "refuse_names" "refuse_names" Y42 f fd) (bl:Bl K mg yA yE yN yO yP yQ yR yS yT yU yV yW yX cBook) (c_is_word:Callee P w K mg base 2 "is_word" ["text"] (J24 K yA yE yN yO yP yQ yR yS yT yU yV yW yX cBook)):FnOk P w K mg base CX0 3 f fd ["facts", "tables"] (J42 K yA yE yN yO yP yQ yR yS yT yU yV yW yX cBook):=by
  refine F.ok Z42 (fun vs H Q E h=>?_) (fun cdv A outer s H vs Q E hr h=>?_)
  · obtain ⟨fa,ma,fv,mv,zs,ds,ts,fN,L,rfl,efa,ema,hB,q⟩:=h
    rfl
  obtain ⟨fa,ma,fv,mv,zs,ds,ts,fN,L,rfl,efa,ema,hB,q⟩:=h
  refine ⟨_,(pss_cut (ps_for PassesOwn.never rfl (pi_list (pv 0)) (pg_tup rfl (pgs_cons (pg_name (i:=2) Z42.nd rfl (Or.inl rfl)) (pgs_cons (pg_name (i:=3) Z42.nd rfl (Or.inl rfl)) pgs_nil)))
     (pss_one (ps_if (pt_not (pt_val (pe_fn c_is_word hr rfl (pa_cons (pv 2) pa_nil))))
     (pss_one ps_never)
     pss_nil)))
     (pss_cut (ps_set (i:=4) Z42.nd rfl (Or.inl rfl) (pe_op op_cat (pe_compG (pi_list (pv 0)) (cmpOkG_plain (N:=["name", "domain"]) (k:=2) rfl rfl (by decide +kernel) (by decide +kernel) (by decide +kernel)) rfl (fun _ _ _ _=>(gTupK (K:=K) (n:=2) rfl rfl (pgs_cons (pg_name (i:=0) (show (["name", "domain"]:List Str).Nodup by decide +kernel) rfl (Or.inl rfl) (Or.inr rfl)) (pgs_cons (pg_name (i:=1) (show (["name", "domain"]:List Str).Nodup by decide +kernel) rfl (Or.inl rfl) (Or.inr rfl)) pgs_nil)))) (fun _ _ _ _=>pif_nil) (fun _ _ _ _=>(pv 0))) (pe_comp (pi_list (pv 1)) (cmpOk_plain rfl (by decide +kernel) (by decide +kernel) (by decide +kernel) rfl) rfl (fun _ _ _ _=>pif_nil) (fun _ _ _ _=>(pe_fldK (K:=K) rfl (pv 0) rfl)))))
     (pss_cons (ps_if (pt_cmpR op_lt (pe_callB call_len_setO rfl bl.len_ PySem.boot_len (pa_cons (pe_callTy (call_set_strs rfl) rfl bl.set_ PyProof.Rows.boot_set (pa_cons (pv 4) pa_nil)) pa_nil)) (pe_callB call_len_seq rfl bl.len_ PySem.boot_len (pa_cons (pv 4) pa_nil)) (nomark _))
     (pss_one ps_never)
     pss_nil)
     (pss_one (ps_for PassesOwn.never rfl (pi_list (pv 1)) (pg_name (i:=5) Z42.nd rfl (Or.inl rfl))
     (pss_one (ps_for PassesOwn.never rfl (pi_list (pe_fld (pv 5) rfl)) (pg_name (i:=2) Z42.nd rfl (Or.inl rfl))
     (pss_one (ps_if (pt_cmpR op_notIn_seq (pv 2) (pv 4) (by with_unfolding_all rfl))
     (pss_one ps_never)
     pss_nil))))))))),?_⟩
  obtain ⟨b1,b2,b3⟩:=hB.few
  have hfl:fv.length = fN:=by rw [hB.facts.1,List.length_range]
  have hml:mv.length = L.length:=hB.tabs.1
  refine ⟨fun σ' H'=>H' = H∧∃ c2 c3:Option V,σ' = [some (.ref fa),some (.ref ma),c2,c3,none,none],?_,?_⟩
  · refine ⟨_,rfl,fa,rfl,⟨_,SqL.of efa⟩,for_list (xs:=fv) (fun i σ H'=>H' = H∧∃ c2 c3:Option V,σ = [some (.ref fa),some (.ref ma),c2,c3,none,none]) ⟨rfl,_,_,rfl⟩ (fun i σ H' _ h=>by rw [h.1]; exact SqL.of efa) (fun i y σ H' e h=>?_) (fun σ H' h=>h)⟩
    obtain ⟨e0,c2,c3,rfl⟩:=h
    rw [e0]
    obtain ⟨r,k,rfl,ek,nm,po,d,h1,h2,h3,h4⟩:=RefL.get hB.facts e
    have hw:=hB.ok.words nm (List.mem_of_getElem? h1)
    refine ⟨r,_,rfl,SqT.of h3,rfl,_,_,rfl,_,_,rfl,rfl,?_⟩
    refine ⟨_,rfl,nm,rfl,Nat.le_trans (isw_len hw) (by decide),_,rfl,?_⟩
    rw [hw]
    exact iteF ⟨rfl,_,_,rfl⟩
  rintro σ1 H1 ⟨e1,c2,c3,rfl⟩
  rw [e1]
  clear e1
  refine ⟨fun σ' H'=>Same H H'∧∃ na:Addr,H' na = some (.lst ((bnm zs fN L).map V.str))∧σ' = [some (.ref fa),some (.ref ma),c2,c3,some (.ref na),none],?_,?_⟩
  · refine ⟨_,rfl,fa,rfl,⟨_,SqL.of efa⟩,compG_list (xs:=fv) (fun D i ys H'=>Same H H'∧H' D = some (.lst ys)∧ys = (zs.take i).map V.str) (fun D hD=>⟨same_new hD _,upd_same,rfl⟩) (fun D i ys H' hD _ h=>SqL.of (h.1 _ _ efa)) (fun D i y ys H' hD e h ts_ hts=>?_) (fun D ys H' hD h=>?_)⟩
    · obtain ⟨sm,eD,rfl⟩:=h
      obtain ⟨r,k,rfl,ek,nm,po,d,h1,h2,h3,h4⟩:=RefL.get hB.facts e
      obtain ⟨rfl,hi⟩:=rng_get ek
      obtain ⟨t0,t1,rfl⟩:∃ t0 t1,ts_ = [t0,t1]:=by
        match ts_,hts with
        | [t0,t1],_=>exact ⟨t0,t1,rfl⟩
      refine ⟨r,_,rfl,SqT.of (sm _ _ h3),rfl,_,_,rfl,_,_,rfl,rfl,⟨[some (.str nm),some (.ref d)],rfl,rfl⟩,?_⟩
      refine ⟨_,rfl,CYes.mk (by omega) eD (small1000 (by rw [List.length_map,List.length_take]; omega)) ⟨sm.upd hD,upd_same,?_⟩⟩
      rw [take_snoc h1,List.map_append]
      rfl
    · obtain ⟨sm,eD,rfl⟩:=h
      rw [hfl] at eD
      refine ⟨_,rfl,ma,rfl,⟨_,SqL.of (sm _ _ ema)⟩,comp_list (xs:=mv) (fun D2 i ys H2=>Same H' H2∧H2 D2 = some (.lst ys)∧ys = ((L.take i).map (tnm zs fN)).map V.str) (fun D2 hD2=>⟨same_new hD2 _,upd_same,rfl⟩) (fun D2 i ys H2 hD2 _ h=>SqL.of (h.1 _ _ (sm _ _ ema))) (fun D2 i y ys H2 hD2 e h=>?_) (fun D2 ys H2 hD2 h=>?_)⟩
      · obtain ⟨s2,eD2,rfl⟩:=h
        obtain ⟨t_,k,rfl,ek,tt,nm,po,ou,dv,g1,g2,g3,g4,g5,g6⟩:=RefL.get hB.tabs e
        obtain ⟨rl,dx,na,dl,fs,xs,ht,f1,f2,f3,f4,f5,f6,ena,edl,erl,hR,h200⟩:=g4
        have hi:i < mv.length:=(List.getElem?_eq_some_iff.mp e).1
        have sA:=sm.trans s2
        refine ⟨_,rfl,t_,_,_,_,_,rfl,sA _ _ ht,bl.k_Table,bl.na_Table_name,f2,CYes.mk hi eD2 (small1000 (by rw [List.length_map,List.length_map,List.length_take]; omega)) ⟨s2.upd hD2,upd_same,?_⟩⟩
        rw [take_snoc ek,List.map_append,List.map_append]
        show _ ++ [V.str nm] = _ ++ [V.str (tnm zs fN k)]
        rw [tnm_at g2]
      · obtain ⟨s2,eD2,rfl⟩:=h
        rw [hml,List.take_length] at eD2
        refine ⟨D,D2,_,_,rfl,rfl,s2 _ _ eD,eD2,Nat.le_of_lt (small1000 (by rw [List.length_map,List.length_map,List.length_map,List.length_take]; omega)),fun p hp=>⟨(sm.trans s2).trans (same_new hp _),p,?_,rfl⟩⟩
        rw [upd_same]
        unfold bnm
        rw [List.map_append]
  rintro σ2 H2 ⟨s2,na,ena,rfl⟩
  have hbl:(bnm zs fN L).length ≤ 14:=by unfold bnm; rw [List.length_append,List.length_take,List.length_map]; omega
  have hnl:((bnm zs fN L).map V.str).length = (bnm zs fN L).length:=List.length_map _
  refine ⟨_,rfl,na,bnm zs fN L,rfl,SqL.of ena,by omega,fun l hl2=>⟨l,bnm zs fN L,rfl,upd_same,by omega,_,rfl,na,_,rfl,.inl (SqL.of (same_new hl2 _ _ _ ena)),_,_,rfl,rfl,_,rfl,?_⟩⟩
  have cf:=cntK_full (bnm zs fN L) (bnm zs fN L).length (Nat.le_refl _)
  rw [List.take_length] at cf
  refine iteFS (by rw [hnl,cf.mpr hB.bnd_]; omega) ?_
  have s3:=s2.trans (same_new hl2 (SetO P w l (bnm zs fN L)))
  have ena3:=same_new hl2 (SetO P w l (bnm zs fN L)) _ _ ena
  refine ⟨_,rfl,ma,rfl,⟨_,SqL.of (s3 _ _ ema)⟩,for_list (xs:=mv) (fun i σ H'=>Same H H'∧H' na = some (.lst ((bnm zs fN L).map V.str))∧∃ c2 c5:Option V,σ = [some (.ref fa),some (.ref ma),c2,c3,some (.ref na),c5]) ⟨s3,ena3,_,_,rfl⟩ (fun i σ H' _ h=>SqL.of (h.1 _ _ ema)) (fun i y σ H' e h=>?_) (fun σ H' h=>q H' h.1)⟩
  obtain ⟨s4,ena4,d2,d5,rfl⟩:=h
  obtain ⟨t_,k,rfl,ek,tt,nm,po,ou,dv,g1,g2,g3,g4,g5,g6⟩:=RefL.get hB.tabs e
  obtain ⟨rl,dx,na2,dl,fs,xs,ht,f1,f2,f3,f4,f5,f6,ena2,edl,erl,hR,h200⟩:=g4
  refine ⟨_,rfl,t_,_,_,_,_,rfl,s4 _ _ ht,bl.k_Table,bl.na_Table_names,f5,na2,rfl,⟨_,SqL.of (s4 _ _ ena2)⟩,for_list (xs:=(prm tt.cols zs).map V.str) (fun i σ H2=>H2 = H'∧∃ c2:Option V,σ = [some (.ref fa),some (.ref ma),c2,c3,some (.ref na),some (.ref t_)]) ⟨rfl,_,rfl⟩ (fun i σ H2 _ h=>by rw [h.1]; exact SqL.of (s4 _ _ ena2)) (fun i y σ H2 e h=>?_) (fun σ H2 h=>by rw [h.1]; exact ⟨s4,ena4,let ⟨c,e⟩:=h.2; ⟨c,_,e⟩⟩)⟩
  obtain ⟨e0,d2',rfl⟩:=h
  rw [e0]
  obtain ⟨z,rfl,ez⟩:=get_strs e
  have hz:=hB.has (mem_prm (List.mem_of_getElem? ez))
  refine ⟨_,rfl,_,rfl,na,_,rfl,.inl (SqL.of ena4),rfl,flat_strs _,_,rfl,?_⟩
  rw [show (if true = true then !inV (V.str z) ((bnm zs fN L).map V.str) else inV (V.str z) ((bnm zs fN L).map V.str)) = false by rw [if_pos rfl,inV_strs]; simpa using hz]
  exact iteF ⟨rfl,_,rfl⟩
theorem O_43 (F:Fun K "refuse_names" "refuse_names" Y43 f fd) (bl:Bl K mg yA yE yN yO yP yQ yR yS yT yU yV yW yX cBook) (c_is_word:Callee P w K mg base 2 "is_word" ["text"] (J24 K yA yE yN yO yP yQ yR yS yT yU yV yW yX cBook)):FnOk P w K mg base CX0 3 f fd ["names"] (J43 K yA yE yN yO yP yQ yR yS yT yU yV yW yX cBook):=by
  refine F.ok Z43 (fun vs H Q E h=>?_) (fun cdv A outer s H vs Q E hr h=>?_)
  · obtain ⟨p,zs,rfl,hS,hw,hn,hl,q⟩:=h
    rfl
  obtain ⟨p,zs,rfl,hS,hw,hn,hl,q⟩:=h
  refine ⟨_,(pss_cut (ps_for PassesOwn.never rfl (pi_list (pv 0)) (pg_name (i:=1) Z43.nd rfl (Or.inl rfl))
     (pss_one (ps_if (pt_not (pt_val (pe_fn c_is_word hr rfl (pa_cons (pv 1) pa_nil))))
     (pss_one ps_never)
     pss_nil)))
     (pss_one (ps_if (pt_cmpR op_lt (pe_callB call_len_setO rfl bl.len_ PySem.boot_len (pa_cons (pe_callTy (call_set_strs rfl) rfl bl.set_ PyProof.Rows.boot_set (pa_cons (pv 0) pa_nil)) pa_nil)) (pe_callB call_len_seq rfl bl.len_ PySem.boot_len (pa_cons (pv 0) pa_nil)) (nomark _))
     (pss_one ps_never)
     pss_nil))),?_⟩
  have hlen:(zs.map V.str).length = zs.length:=List.length_map _
  refine ⟨fun σ' H'=>H' = H∧∃ c1:Option V,σ' = [some (.ref p),c1],?_,?_⟩
  · refine ⟨_,rfl,p,rfl,⟨_,hS⟩,for_list (xs:=zs.map V.str) (fun i σ H'=>H' = H∧∃ c1:Option V,σ = [some (.ref p),c1]) ⟨rfl,_,rfl⟩ (fun i σ H' _ h=>by rw [h.1]; exact hS) (fun i y σ H' e h=>?_) (fun σ H' h=>h)⟩
    obtain ⟨e0,c1,rfl⟩:=h
    rw [e0]
    obtain ⟨z,rfl,ez⟩:=get_strs e
    have hz1:=hw z (List.mem_of_getElem? ez)
    have hz:z.length ≤ 1000:=by
      have hw2:=hz1
      unfold isw at hw2
      simp only [Bool.and_eq_true,decide_eq_true_eq] at hw2
      omega
    refine ⟨_,rfl,z,rfl,hz,_,rfl,?_⟩
    rw [hz1]
    exact iteF ⟨rfl,_,rfl⟩
  rintro σ2 H2 ⟨e2,c1,rfl⟩
  rw [e2]
  refine ⟨_,rfl,p,zs,rfl,hS,by omega,fun l hl2=>⟨l,zs,rfl,upd_same,by omega,_,rfl,p,_,rfl,.inl ((same_new hl2 _).seq hS),_,_,rfl,rfl,_,rfl,?_⟩⟩
  have cf:=cntK_full zs zs.length (Nat.le_refl _)
  rw [List.take_length] at cf
  exact iteFS (by rw [hlen,cf.mpr hn]; omega) (q _ (same_new hl2 _))
theorem O_45 (F:Fun K "refuse_row" "refuse_row" Y45 f fd) (bl:Bl K mg yA yE yN yO yP yQ yR yS yT yU yV yW yX cBook) (m_Domain_has_code_Numbers:MCallee CX0 P w K mg base 2 yV "has_code" ["self", "value"] (J3 K yA yE yN yO yP yQ yR yS yT yU yV yW yX cBook)) (m_Domain_has_code_Words:MCallee CX0 P w K mg base 2 yW "has_code" ["self", "value"] (J4 K yA yE yN yO yP yQ yR yS yT yU yV yW yX cBook)):FnOk P w K mg base CX0 3 f fd ["domains", "outcome", "cells", "code"] (J45 K yA yE yN yO yP yQ yR yS yT yU yV yW yX cBook):=by
  refine F.ok Z45 (fun vs H Q E h=>?_) (fun cdv A outer s H vs Q E hr h=>?_)
  · obtain ⟨dl,ou,cl,dv,xs,bs,o,w_,rfl,hD,hdv,hO,hC,hcl,ok,q⟩:=h
    rfl
  obtain ⟨dl,ou,cl,dv,xs,bs,o,w_,rfl,hD,hdv,hO,hC,hcl,ok,q⟩:=h
  refine ⟨_,(pss_cons (ps_if (pt_cmpR op_ne (pe_callB call_len_seq rfl bl.len_ PySem.boot_len (pa_cons (pv 2) pa_nil)) (pe_callB call_len_seq rfl bl.len_ PySem.boot_len (pa_cons (pv 0) pa_nil)) (nomark _))
     (pss_one ps_never)
     pss_nil)
     (pss_cut (ps_for PassesOwn.never rfl (pi_zip rfl bl.zip_ (pa_cons (pv 0) (pa_cons (pv 2) pa_nil))) (pg_tup rfl (pgs_cons (pg_name (i:=4) Z45.nd rfl (Or.inl rfl)) (pgs_cons (pg_name (i:=5) Z45.nd rfl (Or.inl rfl)) pgs_nil)))
     (pss_one (ps_for PassesOwn.never rfl (pi_list (pv 5)) (pg_tup rfl (pgs_cons (pg_name (i:=6) Z45.nd rfl (Or.inl rfl)) (pgs_cons (pg_name (i:=7) Z45.nd rfl (Or.inl rfl)) pgs_nil)))
     (pss_one (ps_if (PW.pt (pw_or (pt_cmpR op_lt (pv 6) (pe_fld (pv 4) rfl) (nomark _)) (pw_or1 (pt_cmpR op_gt (pv 7) (pe_fld (pv 4) rfl) (nomark _)))))
     (pss_one ps_never)
     pss_nil)))))
     (pss_one (ps_if (pt_not (pt_val (pe_mtP (polc m_Domain_has_code_Numbers bl.k_Numbers (polc m_Domain_has_code_Words bl.k_Words poln)) pass0 hr (pv 1) (pa_cons (pv 3) pa_nil))))
     (pss_one ps_never)
     pss_nil)))),?_⟩
  have hdf:∀ (C:Addr),(C = yV∨C = yW)→Cls K C∧NoAttr K C (Str.ofString "low")∧NoAttr K C (Str.ofString "high"):=fun C h=>by
    rcases h with rfl | rfl
    · exact ⟨bl.k_Numbers,bl.na_Numbers_low,bl.na_Numbers_high⟩
    · exact ⟨bl.k_Words,bl.na_Words_low,bl.na_Words_high⟩
  have hlen:xs.length = dv.length:=by rw [hcl.1,ok.len,hdv.1]
  refine ⟨_,rfl,cl,_,rfl,.inl (SqL.of hC),_,rfl,dl,_,rfl,.inl (hD),rfl,_,rfl,iteNS (by rw [hlen]) ?_⟩
  refine ⟨fun σ' H'=>Same H H'∧∃ c4 c5 c6 c7:Option V,σ' = [some (.ref dl),some (.ref ou),some (.ref cl),some (.int w_.2),c4,c5,c6,c7],?_,?_⟩
  · refine ⟨_,rfl,_,rfl,dl,cl,rfl,⟨_,hD⟩,⟨_,SqL.of hC⟩,for_zip (xs:=dv) (ys:=xs) (fun i σ H'=>Same H H'∧∃ c4 c5 c6 c7:Option V,σ = [some (.ref dl),some (.ref ou),some (.ref cl),some (.int w_.2),c4,c5,c6,c7]) ⟨Same.refl _,_,_,_,_,rfl⟩ (fun i σ H' h=>⟨h.1.seq hD,SqL.of (h.1 _ _ hC)⟩) (fun i x y σ H' T ex ey h hT=>?_) (fun σ H' h=>h)⟩
    obtain ⟨sm,c4,c5,c6,c7,rfl⟩:=h
    have s2:=sm.trans (same_new hT (.tup [x,y]))
    have eT:upd H' T (.tup [x,y]) T = some (.tup [x,y]):=upd_same
    generalize upd H' T (.tup [x,y]) = H2 at s2 eT ⊢
    obtain ⟨a,b,rfl,eb,hb⟩:=hdv.get ex
    obtain ⟨l,ps,rfl,ep,hl⟩:=RefL.get hcl ey
    obtain ⟨C,hC',dx,fs,ha,f1,f2,_⟩:=hb.same s2
    obtain ⟨k1,k2,k3⟩:=hdf C hC'
    obtain ⟨_,ys,el,hp⟩:=hl.same s2
    refine ⟨T,_,rfl,SqT.of eT,rfl,_,_,rfl,_,_,rfl,rfl,?_⟩
    refine ⟨_,rfl,l,rfl,⟨_,SqL.of el⟩,for_list (xs:=ys) (fun j σ H'=>H' = H2∧∃ c6 c7:Option V,σ = [some (.ref dl),some (.ref ou),some (.ref cl),some (.int w_.2),some (.ref a),some (.ref l),c6,c7]) ⟨rfl,_,_,rfl⟩ (fun j σ H' _ h=>by rw [h.1]; exact SqL.of el) (fun j y σ H' e h=>?_) (fun σ H' h=>?_)⟩
    · obtain ⟨e0,c6,c7,rfl⟩:=h
      rw [e0]
      obtain ⟨p,r,e1,rfl,hr'⟩:=hp.get e
      obtain ⟨i1,i2⟩:=ok.inn i ps b ep eb p (List.mem_of_getElem? e1)
      refine ⟨r,_,rfl,SqT.of hr',rfl,_,_,rfl,_,_,rfl,rfl,?_⟩
      refine ⟨_,rfl,_,rfl,a,_,_,_,_,rfl,ha,k1,k2,f1,_,_,rfl,rfl,_,rfl,iteFS (by omega) ?_⟩
      exact ⟨_,rfl,_,rfl,a,_,_,_,_,rfl,ha,k1,k3,f2,_,_,rfl,rfl,_,rfl,iteFS (by omega) ⟨rfl,_,_,rfl⟩⟩
    · obtain ⟨e0,c6,c7,rfl⟩:=h
      rw [e0]
      exact ⟨s2,_,_,_,_,rfl⟩
  rintro σ3 H3 ⟨s3,c4,c5,c6,c7,rfl⟩
  obtain ⟨C,hC',hd⟩:=hO.same s3
  obtain ⟨dx,fs,ha,f1,f2,f3⟩:=id hd
  rcases hC' with rfl | rfl
  · exact ⟨_,rfl,ou,_,dx,fs,rfl,.head _,ha,f3,_,rfl,ou,o,w_.2,rfl,hd,ok.lo,ok.hi,_,rfl,iteF (q _ s3)⟩
  · exact ⟨_,rfl,ou,_,dx,fs,rfl,.tail _ (.head _),ha,f3,_,rfl,ou,o,w_.2,rfl,hd,ok.lo,ok.hi,_,rfl,iteF (q _ s3)⟩
theorem O_27 (F:Fun K "_law_book" "_law_book" Y27 f fd) (bl:Bl K mg yA yE yN yO yP yQ yR yS yT yU yV yW yX cBook) (c__law_domain:Callee P w K mg base 2 "_law_domain" ["cell"] (J28 K yA yE yN yO yP yQ yR yS yT yU yV yW yX cBook)) (c__law_pool:Callee P w K mg base 2 "_law_pool" ["domain", "cell"] (J32 K yA yE yN yO yP yQ yR yS yT yU yV yW yX cBook)) (c__law_at:Callee P w K mg base 2 "_law_at" ["script", "k"] (J26 K yA yE yN yO yP yQ yR yS yT yU yV yW yX cBook)) (c__law_words:Callee P w K mg base 2 "_law_words" ["cell", "count"] (J36 K yA yE yN yO yP yQ yR yS yT yU yV yW yX cBook)) (c__law_row:Callee P w K mg base 2 "_law_row" ["columns", "domains", "pools", "own", "cell"] (J33 K yA yE yN yO yP yQ yR yS yT yU yV yW yX cBook)):FnOk P w K mg base CX0 3 f fd ["script"] (J27 K yA yE yN yO yP yQ yR yS yT yU yV yW yX cBook):=by
  refine F.ok Z27 (fun vs H Q E h=>?_) (fun cdv A outer s H vs Q E hr h=>?_)
  · obtain ⟨a,ns,rfl,hS,q⟩:=h
    rfl
  obtain ⟨a,ns,rfl,hS,q⟩:=h
  refine ⟨_,(pss_cut (ps_set (i:=1) Z27.nd rfl (Or.inl rfl) (pe_op op_add pe_int (pe_op op_mod (pe_fn c__law_at hr rfl (pa_cons (pv 0) (pa_cons pe_int pa_nil))) pe_int)))
     (pss_cut (ps_set (i:=2) Z27.nd rfl (Or.inl rfl) (pe_op op_add (pe_op op_add (pv 1) pe_int) (pe_op op_mod (pe_op op_fdiv (pe_fn c__law_at hr rfl (pa_cons (pv 0) (pa_cons pe_int pa_nil))) pe_int) pe_int)))
     (pss_cut (ps_set (i:=3) Z27.nd rfl (Or.inr rfl) (pe_comp (pi_range1 rfl bl.range_ (pa_cons (pv 2) pa_nil)) (cmpOk_free (N:=["k", "script"]) (fr:=[0]) (cl:=[("script",s.heap.objs.size + 1)]) rfl rfl (by decide +kernel) (by decide +kernel) rfl (by decide +kernel) rfl rfl rfl (List.forall_mem_cons.mpr ⟨rfl,List.forall_mem_nil _⟩) rfl) rfl (fun _ _ _ _=>pif_nil) (fun _ _ _ _=>(pe_fn c__law_domain hr rfl (pa_cons (pe_fn c__law_at hr rfl (pa_cons (pv 1) (pa_cons (pe_op op_add pe_int (pv 0)) pa_nil))) pa_nil)))))
     (pss_cut (ps_comp (i:=4) Z27.nd rfl (Or.inl rfl) (pi_range1 rfl bl.range_ (pa_cons (pv 2) pa_nil)) (cmpOk_free (N:=["k", "script", "domains"]) (fr:=[0,3]) (cl:=[("script",s.heap.objs.size + 1),("domains",s.heap.objs.size + 1 + 1)]) rfl rfl (by decide +kernel) (by decide +kernel) rfl (by decide +kernel) rfl rfl rfl (List.forall_mem_cons.mpr ⟨rfl,List.forall_mem_cons.mpr ⟨rfl,List.forall_mem_nil _⟩⟩) rfl) rfl (fun _ _ _ _=>pif_nil) (fun _ _ _ _=>(pe_fn c__law_pool hr rfl (pa_cons (pe_ix (ix_listK (K:=K) rfl) (pv 2) (pv 0) (fun _ _=>rfl)) (pa_cons (pe_fn c__law_at hr rfl (pa_cons (pv 1) (pa_cons (pe_op op_add pe_int (pv 0)) pa_nil))) pa_nil)))))
     (pss_cut (ps_set (i:=5) Z27.nd rfl (Or.inl rfl) (pe_lst pa_nil))
     (pss_cut (ps_for PassesOwn.never rfl (pi_range2 rfl bl.range_ (pa_cons (pv 1) (pa_cons (pv 2) pa_nil))) (pg_name (i:=6) Z27.nd rfl (Or.inr rfl))
     (pss_cut (ps_set (i:=7) Z27.nd rfl (Or.inr rfl) (pe_fn c__law_at hr rfl (pa_cons (pv 0) (pa_cons (pe_op op_sub (pe_op op_add pe_int (pv 6)) (pv 1)) pa_nil))))
     (pss_cut (ps_comp (i:=8) Z27.nd rfl (Or.inl rfl) (pi_range1 rfl bl.range_ (pa_cons (pe_callB (call_min2 rfl) rfl bl.min_ PyProof.Rows.boot_min (pa_cons (pe_op op_add pe_int (pe_op op_mod (pv 7) pe_int)) (pa_cons (pv 6) pa_nil))) pa_nil)) (cmpOk_free (N:=["j", "own", "cell"]) (fr:=[6,7]) (cl:=[("own",s.heap.objs.size + 1 + 1 + 1),("cell",s.heap.objs.size + 1 + 1 + 1 + 1)]) rfl rfl (by decide +kernel) (by decide +kernel) rfl (by decide +kernel) rfl rfl rfl (List.forall_mem_cons.mpr ⟨rfl,List.forall_mem_cons.mpr ⟨rfl,List.forall_mem_nil _⟩⟩) rfl) rfl (fun _ _ _ _=>pif_nil) (fun _ _ _ _=>(pe_op op_mod (pe_op op_add (pe_op op_fdiv (pv 2) pe_int) (pv 0)) (pv 1))))
     (pss_cut (ps_set (i:=9) Z27.nd rfl (Or.inl rfl) (pe_ix ix_list (pe_lst (pa_cons pe_str (pa_cons pe_str (pa_cons pe_str (pa_cons pe_str (pa_cons pe_str (pa_cons pe_str pa_nil))))))) (pe_op op_mod (pe_op op_fdiv (pv 7) pe_int) pe_int) (fun _ _=>rfl)))
     (pss_cut (ps_if (PW.pt (pw_and (pt_cmpR op_eq (pv 9) pe_str (nomark _)) (pw_and1 (pt_cmpR op_gt (pe_callB call_len_seq rfl bl.len_ PySem.boot_len (pa_cons (pe_ix ix_tup (pe_ix ix_list (pv 3) (pv 6) (fun _ _=>rfl)) pe_int (fun _ _=>rfl)) pa_nil)) pe_int (nomark _)))))
     (pss_one (ps_set (i:=9) Z27.nd rfl (Or.inl rfl) pe_str))
     pss_nil)
     (pss_one (ps_expr (pe_bm PySem.F.plainAttrs_list PySem.F.slot_list_append PySem.F.type_list_append mt_append (pv 5) (pa_cons (pe_tup (pa_cons (pv 8) (pa_cons (pv 9) (pa_cons (pe_lst pa_nil) pa_nil)))) pa_nil)))))))))
     (pss_cut (ps_for PassesOwn.never rfl (pi_range2 rfl bl.range_ (pa_cons pe_int (pa_cons (pe_callB (call_min2 rfl) rfl bl.min_ PyProof.Rows.boot_min (pa_cons (pe_callB call_len_seq rfl bl.len_ PySem.boot_len (pa_cons (pv 0) pa_nil)) (pa_cons pe_int pa_nil))) pa_nil))) (pg_name (i:=10) Z27.nd rfl (Or.inl rfl))
     (pss_cut (ps_set (i:=6) Z27.nd rfl (Or.inr rfl) (pe_op op_add (pv 1) (pe_op op_mod (pv 10) (pe_callB call_len_seq rfl bl.len_ PySem.boot_len (pa_cons (pv 5) pa_nil)))))
     (pss_cut (ps_set (i:=11) Z27.nd rfl (Or.inl rfl) (pe_ix ix_list (pv 5) (pe_op op_sub (pv 6) (pv 1)) (fun _ _=>rfl)))
     (pss_one (ps_expr (pe_bm PySem.F.plainAttrs_list PySem.F.slot_list_append PySem.F.type_list_append mt_append (pe_ix ix_tup (pv 11) pe_int (fun _ _=>rfl)) (pa_cons (pe_fn c__law_row hr rfl (pa_cons (pe_ix ix_tup (pv 11) pe_int (fun _ _=>rfl)) (pa_cons (pv 3) (pa_cons (pv 4) (pa_cons (pv 6) (pa_cons (pe_ix ix_list (pv 0) (pv 10) (fun _ _=>rfl)) pa_nil)))))) pa_nil)))))))
     (pss_one (ps_ret (pe_tup (pa_cons (pe_fn c__law_words hr rfl (pa_cons (pe_fn c__law_at hr rfl (pa_cons (pv 0) (pa_cons pe_int pa_nil))) (pa_cons (pv 2) pa_nil))) (pa_cons (pv 3) (pa_cons (pv 5) pa_nil))))))))))))),?_⟩
  refine ⟨fun σ' H'=>H' = H∧∃ fN:Nat,1 ≤ fN∧fN ≤ 3∧σ' = [some (.ref a),some (.int (fN:Int)),none,none,none,none,none,none,none,none,none,none],⟨_,rfl,a,ns,0,rfl,hS,Int.le_refl _,fun r=>⟨_,_,rfl,rfl,(by show (0:Int) < 3; decide),_,_,rfl,rfl,rfl,(1 + r % 3).toNat,?_,?_,?_⟩⟩,?_⟩
  · have:=Int.emod_nonneg r (show (3:Int) ≠ 0 by decide); omega
  · have:=Int.emod_lt_of_pos r (show (0:Int) < 3 by decide); omega
  · rw [Int.toNat_of_nonneg (by have:=Int.emod_nonneg r (show (3:Int) ≠ 0 by decide); omega)]; rfl
  rintro σ1 H1 ⟨rfl,fN,hf1,hf3,rfl⟩
  refine ⟨fun σ' H'=>H' = H1∧∃ tN:Nat,fN < tN∧tN ≤ fN + 4∧σ' = [some (.ref a),some (.int (fN:Int)),some (.int (tN:Int)),none,none,none,none,none,none,none,none,none],⟨_,rfl,_,_,rfl,rfl,_,rfl,a,ns,0,rfl,hS,Int.le_refl _,fun r=>⟨_,_,rfl,rfl,⟨by decide,by decide⟩,_,_,rfl,rfl,(by show (0:Int) < 4; decide),_,_,rfl,rfl,rfl,((fN:Int) + 1 + r / 3 % 4).toNat,?_,?_,?_⟩⟩,?_⟩
  · have:=Int.emod_nonneg (r / 3) (show (4:Int) ≠ 0 by decide); omega
  · have:=Int.emod_lt_of_pos (r / 3) (show (0:Int) < 4 by decide); omega
  · rw [Int.toNat_of_nonneg (by have:=Int.emod_nonneg (r / 3) (show (4:Int) ≠ 0 by decide); omega)]; rfl
  rintro σ2 H2 ⟨rfl,tN,ht1,ht4,rfl⟩
  refine ⟨fun σ' H'=>Same H2 H'∧∃ (dl:Addr) (dv:List V) (ds:List PD),H' dl = some (.lst dv)∧RefL dv ds (PDA NT H')∧ds.length = tN∧(∀ p ∈ ds,PDok p)∧σ' = [some (.ref a),some (.int (fN:Int)),some (.int (tN:Int)),some (.ref dl),none,none,none,none,none,none,none,none],?_,?_⟩
  · refine ⟨_,rfl,_,rfl,(by omega),(by omega),comp_range (fun D i zs H'=>Same H2 H'∧H' D = some (.lst zs)∧∃ ds:List PD,RefL zs ds (PDA (· ≠ D) H')∧ds.length = i∧∀ p ∈ ds,PDok p) (fun D hD=>⟨same_new hD _,upd_same,[],RefL.nil,rfl,(fun p hp=>by cases hp)⟩) (fun D i zs H' hD hi hh=>?_) (fun D zs H' hD hh=>?_)⟩
    · obtain ⟨sm,eD,ds,hz,hl,hok⟩:=hh
      refine ⟨_,rfl,_,rfl,_,_,rfl,rfl,a,ns,_,rfl,sm.seq hS,(by show 0 ≤ 2 + (0 + (i:Int)); omega),fun r=>⟨r,rfl,fun l p H3 s3 hp ok=>?_⟩⟩
      have eD3:=s3 _ _ eD
      have hp2:PDA (· ≠ D) H3 l p:=hp.wk fun x hx z=>by rw [z,eD] at hx; cases hx
      have hz2:RefL (zs ++ [.ref l]) (ds ++ [p]) (PDA (· ≠ D) H3):=RefL.snoc (RefL.mono hz fun _ _ p=>p.same s3) hp2
      refine CYes.mk hi eD3 (small1000 (by have:=hz.1; omega)) ⟨(sm.trans s3).upd hD,upd_same,ds ++ [p],RefL.mono hz2 fun _ _ p=>p.updN (fun z=>z rfl) eD3,by rw [List.length_append,hl]; rfl,fun p' hp'=>?_⟩
      rcases List.mem_append.mp hp' with hp' | hp'
      · exact hok p' hp'
      · rw [show p' = p by simpa using hp']; exact ok
    · obtain ⟨sm,eD,ds,hz,hl,hok⟩:=hh
      rw [Int.toNat_natCast] at hl
      exact ⟨sm,D,zs,ds,eD,RefL.mono hz (fun _ _ p=>p.wk fun _ _=>trivial),hl,hok,rfl⟩
  rintro σ3 H3 ⟨s3,dl,dv,ds,edl,hds,hdn,hdok,rfl⟩
  refine ⟨fun σ' H'=>Same H3 H'∧∃ (po:Addr) (pvs:List V),H' po = some (.lst pvs)∧RefL pvs ds (PoA NT H')∧σ' = [some (.ref a),some (.int (fN:Int)),some (.int (tN:Int)),some (.ref dl),some (.ref po),none,none,none,none,none,none,none],?_,?_⟩
  · refine ⟨_,rfl,_,rfl,(by omega),(by omega),comp_range (fun D i zs H'=>Same H3 H'∧H' D = some (.lst zs)∧RefL zs (ds.take i) (PoA (· ≠ D) H')) (fun D hD=>⟨same_new hD _,upd_same,RefL.nil⟩) (fun D i zs H' hD hi hh=>?_) (fun D zs H' hD hh=>?_)⟩
    · obtain ⟨sm,eD,hz⟩:=hh
      rw [Int.toNat_natCast] at hi
      have ep:=List.getElem?_eq_getElem (l:=ds) (i:=i) (by omega)
      obtain ⟨da,e2,hpd⟩:=hds.2 i _ ep
      generalize ds[i] = p at ep hpd
      have ix:atI dv (0 + (i:Int)) = some (.ref da):=by rw [Int.zero_add]; exact atI_nat e2
      refine ⟨_,rfl,_,rfl,dl,_,_,_,rfl,rfl,SqL.of (sm _ _ edl),ix,_,rfl,_,rfl,_,_,rfl,rfl,a,ns,_,rfl,(s3.trans sm).seq hS,(by show 0 ≤ 9 + (0 + (i:Int)); omega),fun r=>⟨da,p,r,rfl,hpd.same sm,hdok p (List.mem_of_getElem? ep),fun l xs H4 s4 nl el hl hx=>?_⟩⟩
      have eD4:=s4 _ _ eD
      have nD:l ≠ D:=fun z=>by rw [z,eD] at nl; cases nl
      have hz2:RefL (zs ++ [.ref l]) (ds.take i ++ [p]) (PoA (· ≠ D) H4):=RefL.snoc (RefL.mono hz fun _ _ p=>p.same s4) ⟨nD,xs,el,hl,hx⟩
      refine CYes.mk (by rw [Int.toNat_natCast]; exact hi) eD4 (small1000 (by have:=hz.1; rw [List.length_take] at this; omega)) ⟨(sm.trans s4).upd hD,upd_same,?_⟩
      rw [take_snoc ep]
      exact RefL.mono hz2 fun _ _ p=>p.updN fun z=>z rfl
    · obtain ⟨sm,eD,hz⟩:=hh
      rw [Int.toNat_natCast,← hdn,List.take_length] at hz
      exact ⟨sm,D,zs,eD,RefL.mono hz (fun _ _ p=>p.any),rfl⟩
  rintro σ4 H4 ⟨s4,po,pvs,epo,hpo,rfl⟩
  have s14:=s3.trans s4
  refine ⟨fun σ' H'=>Same H4 H'∧∃ tb:Addr,H4 tb = none∧H' tb = some (.lst [])∧σ' = [some (.ref a),some (.int (fN:Int)),some (.int (tN:Int)),some (.ref dl),some (.ref po),some (.ref tb),none,none,none,none,none,none],⟨(by show 0 ≤ sizeLine; decide),fun l hl=>⟨same_new hl _,l,hl,upd_same,rfl⟩⟩,?_⟩
  rintro σ5 H5 ⟨s5,tb,ntb,etb,rfl⟩
  have s25:=s14.trans s5
  refine ⟨fun σ' H'=>Same H4 H'∧∃ (tv:List V) (ts:List ((List Nat × Str) × Addr)) (c6 c7 c8 c9:Option V),H' tb = some (.lst tv)∧RefL tv ts (TT (hideL H' (tb :: rls ts)))∧ts.length = tN - fN∧(rls ts).Nodup∧(∀ x ∈ rls ts,H4 x = none∧x ≠ tb∧H' x = some (.lst []))∧(∀ (j:Nat) (t:(List Nat × Str) × Addr),ts[j]? = some t→TOk2 fN ds j t.1)∧σ' = [some (.ref a),some (.int (fN:Int)),some (.int (tN:Int)),some (.ref dl),some (.ref po),some (.ref tb),c6,c7,c8,c9,none,none],?_,?_⟩
  · refine ⟨_,rfl,_,rfl,_,_,rfl,⟨by omega,by omega,by omega,by omega⟩,for_range (fun i σ H'=>Same H4 H'∧∃ (tv:List V) (ts:List ((List Nat × Str) × Addr)) (c6 c7 c8 c9:Option V),H' tb = some (.lst tv)∧RefL tv ts (TT (hideL H' (tb :: rls ts)))∧ts.length = i∧(rls ts).Nodup∧(∀ x ∈ rls ts,H4 x = none∧x ≠ tb∧H' x = some (.lst []))∧(∀ (j:Nat) (t:(List Nat × Str) × Addr),ts[j]? = some t→TOk2 fN ds j t.1)∧σ = [some (.ref a),some (.int (fN:Int)),some (.int (tN:Int)),some (.ref dl),some (.ref po),some (.ref tb),c6,c7,c8,c9,none,none]) ⟨s5,[],[],_,_,_,_,etb,RefL.nil,rfl,List.nodup_nil,(fun x hx=>by cases hx),(fun j t e=>by simp at e),rfl⟩ (fun i σ H' hi hh=>?_) (fun σ H' hh=>?_)⟩
    · obtain ⟨sm,tv,ts,c6,c7,c8,c9,etv,htv,htl,hnd,hrl,htok,rfl⟩:=hh
      have hi2:i < tN - fN:=by omega
      obtain ⟨ow,how⟩:∃ ow:Nat,(fN:Int) + (i:Int) = (ow:Int):=⟨fN + i,by omega⟩
      have how2:ow = fN + i:=by omega
      rw [how]
      refine ⟨fun σ' H''=>H'' = H'∧∃ c:Int,σ' = [some (.ref a),some (.int (fN:Int)),some (.int (tN:Int)),some (.ref dl),some (.ref po),some (.ref tb),some (.int (ow:Int)),some (.int c),c8,c9,none,none],⟨_,rfl,_,rfl,_,_,rfl,rfl,_,rfl,_,_,rfl,rfl,a,ns,_,rfl,(s14.trans sm).seq hS,(by show 0 ≤ 16 + (ow:Int) - (fN:Int); omega),fun r=>⟨rfl,r,rfl⟩⟩,?_⟩
      rintro σa Ha ⟨rfl,c,rfl⟩
      obtain ⟨m,em,m1,m3,mo⟩:=nat_min (c:=c) (ow:=ow) (by omega)
      refine ⟨fun σ' H''=>Same Ha H''∧∃ cl:Addr,Ha cl = none∧H'' cl = some (.lst (vN (clm c ow m)))∧σ' = [some (.ref a),some (.int (fN:Int)),some (.int (tN:Int)),some (.ref dl),some (.ref po),some (.ref tb),some (.int (ow:Int)),some (.int c),some (.ref cl),c9,none,none],?_,?_⟩
      · refine ⟨_,rfl,_,_,rfl,rfl,(by show (0:Int) < 3; decide),_,_,rfl,rfl,_,rfl,_,_,rfl,_,rfl,(by rw [em]; omega),(by rw [em]; omega),comp_range (fun D i zs H''=>Same Ha H''∧H'' D = some (.lst zs)∧zs = vN (clm c ow i)) (fun D hD=>⟨same_new hD _,upd_same,rfl⟩) (fun D i zs H'' hD hi hh=>?_) (fun D zs H'' hD hh=>?_)⟩
        · obtain ⟨sm2,eD,rfl⟩:=hh
          rw [em,Int.toNat_natCast] at hi
          have v0:=Int.emod_nonneg (c / 3 + (0 + (i:Int))) (show (ow:Int) ≠ 0 by omega)
          refine ⟨_,rfl,_,_,rfl,rfl,⟨by decide,by decide⟩,_,rfl,_,_,rfl,rfl,_,rfl,_,_,rfl,rfl,(by show (0:Int) < (ow:Int); omega),CYes.mk (by rw [em,Int.toNat_natCast]; exact hi) eD (small1000 (by rw [vN_len,clm_len]; omega)) ⟨sm2.upd hD,upd_same,?_⟩⟩
          rw [clm_succ,Int.toNat_of_nonneg v0]
        · obtain ⟨sm2,eD,rfl⟩:=hh
          rw [em,Int.toNat_natCast] at eD
          exact ⟨sm2,D,hD,eD,rfl⟩
      rintro σb Hb ⟨sb,cl,ncl,ecl,rfl⟩
      refine ⟨fun σ' H''=>Same Hb H''∧∃ wy:Str,wy ∈ six∧σ' = [some (.ref a),some (.int (fN:Int)),some (.int (tN:Int)),some (.ref dl),some (.ref po),some (.ref tb),some (.int (ow:Int)),some (.int c),some (.ref cl),some (.str wy),none,none],?_,?_⟩
      · refine ⟨(by show 6 ≤ sizeLine; decide),fun p6 hp6=>?_⟩
        have w0:=Int.emod_nonneg (c / 50) (show (6:Int) ≠ 0 by decide)
        have w1:=Int.emod_lt_of_pos (c / 50) (show (0:Int) < 6 by decide)
        obtain ⟨k,ek⟩:∃ k:Nat,c / 50 % 6 = (k:Int):=⟨_,(Int.toNat_of_nonneg w0).symm⟩
        have hk:k < six.length:=by show k < 6; omega
        have e6:=List.getElem?_eq_getElem hk
        have ex:atI [V.str (Str.ofString "first"),.str (Str.ofString "only"),.str (Str.ofString "like"),.str (Str.ofString "low"),.str (Str.ofString "high"),.str (Str.ofString "sum")] (c / 50 % 6) = some (.str six[k]):=by
          rw [ek]
          exact atI_nat (xs:=six.map V.str) (by rw [List.getElem?_map,e6]; rfl)
        exact ⟨_,rfl,_,_,rfl,rfl,⟨by decide,by decide⟩,_,_,rfl,rfl,(by show (0:Int) < 6; decide),p6,_,_,_,rfl,rfl,SqL.of upd_same,ex,same_new hp6 _,_,List.mem_of_getElem? e6,rfl⟩
      rintro σc Hc ⟨sc,wy0,hw6,rfl⟩
      have sac:=sb.trans sc
      have ep:=List.getElem?_eq_getElem (l:=ds) (i:=ow) (by omega)
      obtain ⟨da,e2,hpd⟩:=hds.2 ow _ ep
      generalize ds[ow] = p at ep hpd
      have s3c:=(s4.trans sm).trans sac
      obtain ⟨wl,_,_,f1,f2⟩:=hpd.same s3c
      refine ⟨fun σ' H''=>H'' = Hc∧∃ wy:Str,wy ∈ six∧(wy = Str.ofString "sum" → p.ws = [])∧σ' = [some (.ref a),some (.int (fN:Int)),some (.int (tN:Int)),some (.ref dl),some (.ref po),some (.ref tb),some (.int (ow:Int)),some (.int c),some (.ref cl),some (.str wy),none,none],?_,?_⟩
      · refine ⟨_,rfl,rfl,_,rfl,?_⟩
        refine ite2 (fun g=>?_) (fun g=>?_)
        · refine ⟨_,rfl,_,rfl,dl,_,_,_,rfl,rfl,SqL.of (s3c _ _ edl),atI_nat e2,da,_,_,_,rfl,rfl,SqT.of f1,rfl,wl,_,rfl,.inl (SqL.of f2),_,_,rfl,rfl,_,rfl,?_⟩
          refine ite2 (fun g2=>?_) (fun g2=>?_)
          · exact ⟨rfl,Str.ofString "high",by unfold six; simp,(fun z=>absurd z (by decide +kernel)),rfl⟩
          · refine ⟨rfl,wy0,hw6,fun _=>?_,rfl⟩
            have:¬ ((0:Int) < (((p.ws.map V.str).length:Nat):Int)):=fun h=>g2 (decide_eq_true h)
            rw [List.length_map] at this
            exact List.length_eq_zero_iff.mp (by omega)
        · refine ⟨rfl,wy0,hw6,fun z=>absurd ?_ g,rfl⟩
          rw [z]
          exact decide_eq_true rfl
      rintro σd Hd ⟨rfl,wy,hwy,hsum,rfl⟩
      have etd:=sac _ _ etv
      refine ⟨_,rfl,.inl ⟨rfl,_,SqL.of etd⟩,_,rfl,_,rfl,(by show 0 ≤ sizeLine; decide),fun x hx=>?_⟩
      have u1:=same_new hx (.lst [])
      have ex:upd Hd x (.lst []) x = some (.lst []):=upd_same
      generalize upd Hd x (.lst []) = He at u1 ex ⊢
      refine ⟨(by show 3 ≤ sizeLine; decide),fun r hr=>?_⟩
      have u2:=same_new hr (.tup [.ref cl,.str wy,.ref x])
      have er:upd He r (.tup [.ref cl,.str wy,.ref x]) r = some (.tup [.ref cl,.str wy,.ref x]):=upd_same
      generalize upd He r (.tup [.ref cl,.str wy,.ref x]) = Hf at u2 er ⊢
      have saf:=(sac.trans u1).trans u2
      have etf:=saf _ _ etv
      refine ⟨tb,_,_,rfl,rfl,etf,small1000 (by have:=htv.1; omega),?_⟩
      have nxa:Ha x = none:=sac.free hx
      have nx4:H4 x = none:=sm.free nxa
      have nxt:x ≠ tb:=fun z=>by rw [z,etv] at nxa; cases nxa
      have clx:cl ≠ x:=fun z=>by rw [← z,sc _ _ ecl] at hx; cases hx
      have old:∀ b ∈ tb :: rls ts,∃ zs,Ha b = some (.lst zs):=fun b hb=>by
        rcases List.mem_cons.mp hb with rfl | hb
        · exact ⟨_,etv⟩
        · exact ⟨_,(hrl b hb).2.2⟩
      have nclF:cl ∉ tb :: rls ts:=fun hm=>by obtain ⟨zs,e⟩:=old cl hm; rw [e] at ncl; cases ncl
      have nxF:x ∉ tb :: rls ts:=fun hm=>by obtain ⟨zs,e⟩:=old x hm; rw [e] at nxa; cases nxa
      have nrF:r ∉ tb :: rls ts:=fun hm=>by obtain ⟨zs,e⟩:=old r hm; have:=saf _ _ e; rw [er] at this; cases this
      have nrx:r ≠ x:=fun z=>by have:=u2 _ _ ex; rw [← z,er] at this; cases this
      have eF:rls (ts ++ [((clm c ow m,wy),x)]) = rls ts ++ [x]:=rls_snoc ..
      have inF:∀ b,b ∉ tb :: rls ts→b ≠ x→b ∉ tb :: (rls ts ++ [x]):=fun b h1 h2 hm=>by
        rcases List.mem_cons.mp hm with z | hm
        · exact h1 (by rw [z]; exact List.mem_cons_self)
        · rcases List.mem_append.mp hm with hm | hm
          · exact h1 (List.mem_cons_of_mem _ hm)
          · exact h2 (by simpa using hm)
      have gr:Same (hideL Ha (tb :: rls ts)) (hideL (upd Hf tb (.lst (tv ++ [.ref r]))) (tb :: (rls ts ++ [x]))):=grow_hide fun b o hb e=>by
        refine ⟨(upd_ne fun z=>hb (by rw [z]; exact List.mem_cons_self)).trans (saf _ _ e),inF b hb fun z=>?_⟩
        rw [z,nxa] at e; cases e
      have hT:TT (hideL (upd Hf tb (.lst (tv ++ [.ref r]))) (tb :: (rls ts ++ [x]))) r ((clm c ow m,wy),x):=by
        refine ⟨cl,hideL_of ((upd_ne fun z=>nrF (by rw [z]; exact List.mem_cons_self)).trans er) (inF r nrF nrx),hideL_of ((upd_ne fun z=>nclF (by rw [z]; exact List.mem_cons_self)).trans (u2 _ _ (u1 _ _ (sc _ _ ecl)))) (inF cl nclF clx)⟩
      refine ⟨(sm.trans saf).upd ntb,tv ++ [.ref r],ts ++ [((clm c ow m,wy),x)],_,_,_,_,upd_same,?_,by rw [List.length_append,htl]; rfl,?_,fun y hy=>?_,fun j t e=>?_,rfl⟩
      · rw [eF]
        exact RefL.snoc (RefL.mono htv fun _ _ p=>p.same gr) hT
      · rw [eF]
        refine List.nodup_append.mpr ⟨hnd,by simp,fun y hy z hz=>?_⟩
        rw [show z = x by simpa using hz]
        exact fun e=>nxF (by rw [← e]; exact List.mem_cons_of_mem _ hy)
      · rw [eF] at hy
        rcases List.mem_append.mp hy with hy | hy
        · obtain ⟨y1,y2,y3⟩:=hrl y hy
          exact ⟨y1,y2,(upd_ne y2).trans (saf _ _ y3)⟩
        · rw [show y = x by simpa using hy]
          exact ⟨nx4,nxt,(upd_ne nxt).trans (u2 _ _ ex)⟩
      · by_cases hj:j < ts.length
        · rw [List.getElem?_append_left hj] at e
          exact htok j t e
        · have hj2:j = ts.length:=by have:=(List.getElem?_eq_some_iff.mp e).1; simp at this; omega
          subst hj2
          simp at e
          subst e
          have eo:fN + ts.length = ow:=by omega
          refine ⟨by show 1 ≤ (clm c ow m).length; rw [clm_len]; exact m1,by show (clm c ow m).length ≤ 3; rw [clm_len]; exact m3,fun k hk=>?_,clm_nd (by omega) mo,hwy,fun z p' ep'=>?_⟩
          · rw [eo]; exact clm_lt (by omega) k hk
          · rw [eo,ep] at ep'
            cases ep'
            exact hsum z
    · obtain ⟨sm,tv,ts,c6,c7,c8,c9,r⟩:=hh
      rw [show ((tN:Int) - (fN:Int)).toNat = tN - fN by omega] at r
      exact ⟨sm,tv,ts,c6,c7,c8,c9,r⟩
  rintro σ6 H6 ⟨s6,tv,ts,c6,c7,c8,c9,etv,htv,htl,hnd,hrl,htok,rfl⟩
  have hF4:∀ x ∈ rls ts,H4 x = none:=fun x hx=>(hrl x hx).1
  have hB4:Same H4 (hideL H6 (rls ts)):=hideL_keep s6 hF4
  have ntF:tb ∉ rls ts:=fun hm=>(hrl tb hm).2.1 rfl
  have etB:hideL H6 (rls ts) tb = some (.lst tv):=hideL_of etv ntF
  have htB:RefL tv ts (TT (hideL H6 (rls ts))):=RefL.mono htv fun _ _ p=>p.same (grow_hide fun b o hb e=>⟨e,fun hm=>hb (List.mem_cons_of_mem _ hm)⟩)
  generalize hB:hideL H6 (rls ts) = B at hB4 etB htB
  have hn1:1 ≤ ts.length:=by omega
  have htv1:tv.length = ts.length:=htv.1
  refine ⟨fun σ' H'=>Same H4 H'∧Same B (hideL H' (rls ts))∧∃ (rss:List (List Rw)) (c6 c7 c8 c9 c10 c11:Option V),RwI H' (rls ts) fN ds ts rss 120∧σ' = [some (.ref a),some (.int (fN:Int)),some (.int (tN:Int)),some (.ref dl),some (.ref po),some (.ref tb),c6,c7,c8,c9,c10,c11],?_,?_⟩
  · obtain ⟨mx,emx,hmx1,hmx2⟩:∃ mx:Int,(if (122:Int) < (((ns.map V.int).length:Nat):Int) then (122:Int) else (((ns.map V.int).length:Nat):Int)) = mx∧mx ≤ 122∧mx ≤ (ns.length:Int):=by
      refine ⟨_,rfl,?_,?_⟩ <;> rw [List.length_map] <;> split <;> omega
    have hmx0:0 ≤ mx:=by rw [← emx]; split <;> omega
    refine ⟨_,rfl,a,_,rfl,.inl ((s14.trans s6).seq hS),_,_,rfl,_,_,rfl,?_⟩
    rw [emx]
    refine ⟨⟨by decide,by decide,by omega,by omega⟩,for_range (fun i σ H'=>Same H4 H'∧Same B (hideL H' (rls ts))∧∃ (rss:List (List Rw)) (c6 c7 c8 c9 c10 c11:Option V),RwI H' (rls ts) fN ds ts rss i∧σ = [some (.ref a),some (.int (fN:Int)),some (.int (tN:Int)),some (.ref dl),some (.ref po),some (.ref tb),c6,c7,c8,c9,c10,c11]) ⟨s6,by rw [hB]; exact Same.refl B,List.replicate ts.length [],_,_,_,_,_,_,⟨by rw [List.length_replicate],fun j t rs e1 e2=>?_⟩,rfl⟩ (fun i σ H' hi hh=>?_) (fun σ H' hh=>?_)⟩
    · rw [List.getElem?_replicate] at e2
      split at e2
      · cases e2
        exact ⟨⟨[],(hrl t.2 (rls_mem e1)).2.2,RefL.nil⟩,(fun w hw=>by cases hw),Nat.zero_le _⟩
      · cases e2
    · obtain ⟨sm,sB,rss,c6,c7,c8,c9,c10,c11,hrw,rfl⟩:=hh
      have hi2:i < (mx - 2).toNat:=hi
      have etb':=hideL_le _ _ _ _ (sB _ _ etB)
      have npos:(0:Int) < ((tv.length:Nat):Int):=by omega
      obtain ⟨jj,ejj⟩:∃ jj:Nat,(2 + (i:Int)) % ((tv.length:Nat):Int) = (jj:Int):=⟨_,(Int.toNat_of_nonneg (Int.emod_nonneg _ (Int.ne_of_gt npos))).symm⟩
      have hjj:jj < ts.length:=by have:=Int.emod_lt_of_pos (2 + (i:Int)) npos; omega
      have et:=List.getElem?_eq_getElem hjj
      obtain ⟨r,er,hT⟩:=htB.2 jj _ et
      obtain ⟨rs,ers⟩:∃ rs,rss[jj]? = some rs:=⟨_,List.getElem?_eq_getElem (by rw [hrw.1]; exact hjj)⟩
      generalize ts[jj] = t at et hT
      have hT':=(hT.same sB).same (hideL_le _ _)
      obtain ⟨cl,g1,g2⟩:=hT'
      obtain ⟨⟨zs,ez,hzr⟩,hfit,hlen⟩:=hrw.2 jj t rs et ers
      have tok:=htok jj t et
      refine ⟨fun σ' H''=>H'' = H'∧σ' = [some (.ref a),some (.int (fN:Int)),some (.int (tN:Int)),some (.ref dl),some (.ref po),some (.ref tb),some (.int ((fN + jj:Nat):Int)),c7,c8,c9,some (.int (2 + (i:Int))),c11],⟨_,rfl,_,rfl,_,rfl,tb,_,rfl,.inl (SqL.of etb'),_,_,rfl,rfl,npos,_,_,rfl,rfl,rfl,?_⟩,?_⟩
      · rw [show ((fN + jj:Nat):Int) = (fN:Int) + (2 + (i:Int)) % ((tv.length:Nat):Int) by rw [ejj]; omega]
        rfl
      rintro σa Ha ⟨rfl,rfl⟩
      have ix:atI tv (((fN + jj:Nat):Int) - (fN:Int)) = some (.ref r):=by
        rw [show ((fN + jj:Nat):Int) - (fN:Int) = (jj:Int) by omega]
        exact atI_nat er
      refine ⟨fun σ' H''=>H'' = Ha∧σ' = [some (.ref a),some (.int (fN:Int)),some (.int (tN:Int)),some (.ref dl),some (.ref po),some (.ref tb),some (.int ((fN + jj:Nat):Int)),c7,c8,c9,some (.int (2 + (i:Int))),some (.ref r)],⟨_,rfl,_,rfl,_,rfl,_,_,rfl,rfl,tb,_,_,_,rfl,rfl,SqL.of etb',ix,rfl,rfl⟩,?_⟩
      rintro σb Hb ⟨rfl,rfl⟩
      have s4b:=hB4.trans (sB.trans (hideL_le _ _))
      have hk:2 + i < ns.length:=by omega
      have es:=List.getElem?_eq_getElem hk
      have ixs:atI (ns.map V.int) (2 + (i:Int)) = some (.int ns[2 + i]):=by
        rw [show 2 + (i:Int) = ((2 + i:Nat):Int) by omega]
        exact atI_nat (by rw [List.getElem?_map,es]; rfl)
      refine ⟨_,rfl,r,_,_,_,rfl,rfl,SqT.of g1,rfl,.inl ⟨rfl,_,SqL.of ez⟩,_,rfl,r,_,_,_,rfl,rfl,SqT.of g1,rfl,_,rfl,_,rfl,_,rfl,_,rfl,_,rfl,a,_,_,_,rfl,rfl,(s14.trans sm).seq hS,ixs,cl,dl,po,fN + jj,_,t.1.1,dv,pvs,ds,rfl,g2,s4b _ _ (s4 _ _ edl),RefL.mono hds (fun _ _ p=>p.same (s4.trans s4b)),s4b _ _ epo,RefL.mono hpo (fun _ _ p=>p.same s4b),(fun k hk=>by have:=tok.lt k hk; omega),by omega,by have:=tok.few; omega,fun r2 w H2' s2 hrow hf2=>?_⟩
      have hFl:∀ D ∈ rls ts,∃ zs,Hb D = some (.lst zs):=fun D hD=>by
        obtain ⟨j,ej⟩:=List.getElem?_of_mem hD
        have hjl:j < ts.length:=by have:=(List.getElem?_eq_some_iff.mp ej).1; unfold rls at this; rwa [List.length_map] at this
        have et':=List.getElem?_eq_getElem hjl
        have er':=List.getElem?_eq_getElem (l:=rss) (i:=j) (by rw [hrw.1]; exact hjl)
        obtain ⟨⟨zs',f1,_⟩,_⟩:=hrw.2 j _ _ et' er'
        have:=rls_get et'
        rw [ej] at this
        cases this
        exact ⟨zs',f1⟩
      have hrow2:=hrow.hideL hFl s2
      have hzl:zs.length = rs.length:=hzr.1
      refine ⟨t.2,_,_,rfl,rfl,s2 _ _ ez,small1000 (by omega),(sm.trans s2).upd (hF4 _ (rls_mem et)),?_,rss.set jj (rs ++ [w]),_,_,_,_,_,_,hrw.grow hnd s2 et ers ez hzr hrow2 hf2,rfl⟩
      rw [hideL_upd (rls_mem et)]
      exact sB.trans (hideL_mono s2)
    · obtain ⟨sm,sB,rss,c6,c7,c8,c9,c10,c11,hrw,rfl⟩:=hh
      exact ⟨sm,sB,rss,_,_,_,_,_,_,⟨hrw.1,fun j t rs e1 e2=>let ⟨b1,b2,b3⟩:=hrw.2 j t rs e1 e2; ⟨b1,b2,by omega⟩⟩,rfl⟩
  rintro σ7 H7 ⟨s7,sB,rss,c6',c7',c8',c9',c10,c11,hrw,rfl⟩
  have sB7:=sB.trans (hideL_le H7 (rls ts))
  have s47:=hB4.trans sB7
  refine ⟨_,rfl,a,ns,1,rfl,(s14.trans s7).seq hS,by decide,fun c=>⟨_,rfl,c,tN,rfl,by omega,fun nl H8 s8 _ enl=>⟨_,rfl,_,rfl,(by show 3 ≤ sizeLine; decide),fun r hr=>?_⟩⟩⟩
  have u:=same_new hr (.tup [.ref nl,.ref dl,.ref tb])
  have sE:=s8.trans u
  have s4E:=s47.trans sE
  refine q r (lws c tN) ds (List.zipWith mkT ts rss) fN _ ((s14.trans s47).trans sE) ⟨nl,dl,tb,dv,tv,upd_same,u _ _ enl,s4E _ _ (s4 _ _ edl),RefL.mono hds (fun _ _ p=>p.same (s4.trans s4E)),sE _ _ (sB7 _ _ etB),?_⟩ ⟨(fun z hz=>lws_isw hz),lws_nodup (by omega),by rw [lws_len,hdn],by omega,?_,?_,hdok,fun j t e=>?_⟩ hf1 lws_even lws_sm
  · refine ⟨by rw [List.length_zipWith,hrw.1,htv1]; omega,fun j t e=>?_⟩
    rw [List.getElem?_zipWith] at e
    cases e1:ts[j]? with
    | none=>rw [e1] at e; cases e
    | some t0 =>
      cases e2:rss[j]? with
      | none=>rw [e1,e2] at e; cases e
      | some rs =>
        rw [e1,e2] at e
        have e:some (mkT t0 rs) = some t:=e
        cases e
        obtain ⟨r',er,hT⟩:=htB.2 j _ e1
        obtain ⟨⟨zs,ez,hzr⟩,_⟩:=hrw.2 j _ _ e1 e2
        obtain ⟨cl,g1,g2⟩:=hT.same sB7
        exact ⟨r',er,cl,t0.2,zs,sE _ _ g1,sE _ _ g2,sE _ _ ez,(hzr.same (hideL_le _ _)).same sE⟩
  · rw [List.length_zipWith,hrw.1]; omega
  · rw [List.length_zipWith,hrw.1]; omega
  · rw [List.getElem?_zipWith] at e
    cases e1:ts[j]? with
    | none=>rw [e1] at e; cases e
    | some t0 =>
      cases e2:rss[j]? with
      | none=>rw [e1,e2] at e; cases e
      | some rs =>
        rw [e1,e2] at e
        have e:some (mkT t0 rs) = some t:=e
        cases e
        obtain ⟨_,h2,h3⟩:=hrw.2 j _ _ e1 e2
        exact ⟨htok j t0 e1,h2,by show rs.length ≤ 200; omega⟩
theorem O_31 (F:Fun K "_law_no_table" "_law_no_table" Y31 f fd) (bl:Bl K mg yA yE yN yO yP yQ yR yS yT yU yV yW yX cBook) (c_table_of:CalleeX P w K mg base 2 "table_of" ["book", "name"] (J47 K yA yE yN yO yP yQ yR yS yT yU yV yW yX cBook)) (c_asks:CalleeX P w K mg base 2 "asks" ["book", "name"] (J22 K yA yE yN yO yP yQ yR yS yT yU yV yW yX cBook)):FnOk P w K mg base CX0 3 f fd ["book", "name"] (J31 K yA yE yN yO yP yQ yR yS yT yU yV yW yX cBook):=by
  refine F.ok Z31 (fun vs H Q E h=>?_) (fun cdv A outer s H vs Q E hr h=>?_)
  · obtain ⟨b,nm,zs,ds,ts,fN,mv,L,rfl,hB,hs,hn,q⟩:=h
    rfl
  obtain ⟨b,nm,zs,ds,ts,fN,mv,L,rfl,hB,hs,hn,q⟩:=h
  refine ⟨_,(pss_cut (ps_set (i:=2) Z31.nd rfl (Or.inl rfl) (pe_lst pa_nil))
     (pss_cut (ps_try (G:=fun C=>ExcLook K C) (i:=3) (psx_expr (pex_fn c_table_of hr rfl rfl (pa_cons (pv 0) (pa_cons (pv 1) pa_nil)))) rfl rfl rfl rfl bl.NoTable_ Z31.nd rfl rfl (fun C e oe hG hc=>(pss_one (ps_expr (pe_bmK (K:=K) rfl PySem.F.plainAttrs_list PySem.F.slot_list_append PySem.F.type_list_append mt_append (pv 2) (pa_cons (pe_callB (call_isiX hc hG) rfl bl.isinstance_ PyProof.Rows.boot_isinstance (pa_cons (pv 3) (pa_cons (pe_glob (v:=.ref yA) rfl bl.TableError_ rfl) pa_nil))) pa_nil))))))
     (pss_cut (ps_try (G:=fun C=>ExcLook K C) (i:=3) (psx_expr (pex_fn c_asks hr rfl rfl (pa_cons (pv 0) (pa_cons (pv 1) pa_nil)))) rfl rfl rfl rfl bl.TableError_ Z31.nd rfl rfl (fun C e oe hG hc=>(pss_one (ps_expr (pe_bmK (K:=K) rfl PySem.F.plainAttrs_list PySem.F.slot_list_append PySem.F.type_list_append mt_append (pv 2) (pa_cons (pe_callB (call_isiX hc hG) rfl bl.isinstance_ PyProof.Rows.boot_isinstance (pa_cons (pv 3) (pa_cons (pe_glob (v:=.ref yE) rfl bl.NoTable_ rfl) pa_nil))) pa_nil))))))
     (pss_one (ps_ret (pe_cmpR (op_eqL hr) (pv 2) (pe_lst (pa_cons pe_bl (pa_cons pe_bl pa_nil))) (nomark _))))))),?_⟩
  refine ⟨fun σ' H'=>Same H H'∧∃ l:Addr,H l = none∧H' l = some (.lst [])∧σ' = [some (.ref b),some (.str nm),some (.ref l),none],?_,?_⟩
  · refine ⟨Nat.zero_le _,fun l hl=>⟨same_new hl _,l,hl,upd_same,rfl⟩⟩
  rintro σ1 H1 ⟨s1,l,nl,el,rfl⟩
  refine ⟨fun σ' H'=>Same H H'∧H' l = some (.lst [.bl true])∧σ' = [some (.ref b),some (.str nm),some (.ref l),none],?_,?_⟩
  · refine ⟨_,rfl,_,rfl,b,nm,zs,ds,ts,fN,mv,L,rfl,hB.same s1,hs,fun a k hk h _=>absurd h (hn k hk),fun _=>⟨_,rfl,bl.e2_NoTable,bl.l_NoTable,fun e=>?_⟩⟩
    exact ⟨_,rfl,.inl ⟨rfl,_,SqL.of el⟩,_,rfl,_,true,rfl,.inl ⟨_,rfl,bl.v_NoTable⟩,l,_,_,rfl,rfl,el,(by show 0 < sizeLine; decide),s1.upd nl,upd_same,rfl⟩
  rintro σ2 H2 ⟨s2,el2,rfl⟩
  refine ⟨fun σ' H'=>Same H H'∧H' l = some (.lst [.bl true,.bl true])∧σ' = [some (.ref b),some (.str nm),some (.ref l),none],?_,?_⟩
  · refine ⟨_,rfl,_,rfl,b,nm,zs,ds,ts,fN,mv,L,rfl,hB.same s2,hs,fun k t a H' hk h _=>absurd h (hn k hk),fun _=>⟨_,rfl,bl.e_NoTable,bl.l_NoTable,fun e=>?_⟩⟩
    exact ⟨_,rfl,.inl ⟨rfl,_,SqL.of el2⟩,_,rfl,_,true,rfl,.inl ⟨_,rfl,bl.g_NoTable⟩,l,_,_,rfl,rfl,el2,(by show 1 < sizeLine; decide),s2.upd nl,upd_same,rfl⟩
  rintro σ3 H3 ⟨s3,el3,rfl⟩
  exact ⟨_,rfl,(by show 2 ≤ sizeLine; decide),fun p hp=>rEqL_bls (xs:=[true,true]) (ys:=[true,true]) (r:=true) (SqL.of (same_new hp _ _ _ el3)) (SqL.of upd_same) (by simp) (q _ (s3.trans (same_new hp _)))⟩
theorem O_19 (F:Fun K "__init__" "Words.__init__" Y19 f fd) (bl:Bl K mg yA yE yN yO yP yQ yR yS yT yU yV yW yX cBook) (b_Domain___init___Words:BCallee CX0 P w K mg base 2 "Domain" "__init__" ["self", "low", "high"] (J2 K yA yE yN yO yP yQ yR yS yT yU yV yW yX cBook)) (c_is_word:Callee P w K mg base 2 "is_word" ["text"] (J24 K yA yE yN yO yP yQ yR yS yT yU yV yW yX cBook)):FnOk P w K mg base CX0 3 f fd ["self", "words"] (J19 K yA yE yN yO yP yQ yR yS yT yU yV yW yX cBook):=by
  refine F.ok Z19 (fun vs H Q E h=>?_) (fun cdv A outer s H vs Q E hr h=>?_)
  · obtain ⟨x,dx,p,zs,rfl,hx,hP,hg,q⟩:=h
    rfl
  obtain ⟨x,dx,p,zs,rfl,hx,hP,hg,q⟩:=h
  refine ⟨_,(pss_cons (ps_if (pt_not (pt_chain op_le op_le pe_int (pe_callB call_len_seq rfl bl.len_ PySem.boot_len (pa_cons (pv 1) pa_nil)) (pe_gl rfl bl.MOST_WORDS_)))
     (pss_one ps_never)
     pss_nil)
     (pss_cut (ps_for PassesOwn.never rfl (pi_list (pv 1)) (pg_name (i:=2) Z19.nd rfl (Or.inl rfl))
     (pss_one (ps_if (pt_not (pt_val (pe_fn c_is_word hr rfl (pa_cons (pv 2) pa_nil))))
     (pss_one ps_never)
     pss_nil)))
     (pss_cons (ps_if (pt_cmpR op_lt (pe_callB call_len_setO rfl bl.len_ PySem.boot_len (pa_cons (pe_callTy (call_set_strs rfl) rfl bl.set_ PyProof.Rows.boot_set (pa_cons (pv 1) pa_nil)) pa_nil)) (pe_callB call_len_seq rfl bl.len_ PySem.boot_len (pa_cons (pv 1) pa_nil)) (nomark _))
     (pss_one ps_never)
     pss_nil)
     (pss_cons (ps_expr (pe_base b_Domain___init___Words pass0 hr rfl (pa_cons (pv 0) (pa_cons pe_int (pa_cons (pe_op op_sub (pe_callB call_len_seq rfl bl.len_ PySem.boot_len (pa_cons (pv 1) pa_nil)) pe_int) pa_nil)))))
     (pss_one (ps_fld (pv 0) (pe_callTy call_list_of rfl bl.list_ PyProof.Rows.boot_list (pa_cons (pv 1) pa_nil)) rfl)))))),?_⟩
  have hS:SqL K H p (zs.map V.str):=SqL.of hP
  have hpx:p ≠ x:=ne_of hP hx (by intro z; cases z)
  have hlen:(zs.map V.str).length = zs.length:=List.length_map _
  have h1:=hg.some_
  have h40:=hg.few
  refine ⟨_,rfl,p,_,rfl,.inl hS,_,_,rfl,rfl,_,rfl,iteTS (by rw [hlen]; omega) ?_⟩
  refine ⟨_,_,rfl,rfl,_,rfl,?_⟩
  rw [decide_eq_true (show (((zs.map V.str).length:Nat):Int) ≤ 40 by rw [hlen]; omega)]
  refine iteF ?_
  refine ⟨fun σ' H'=>H' = H∧∃ c2:Option V,σ' = [some (.ref x),some (.ref p),c2],?_,?_⟩
  · refine ⟨_,rfl,p,rfl,⟨_,hS⟩,for_list (xs:=zs.map V.str) (fun i σ H'=>H' = H∧∃ c2:Option V,σ = [some (.ref x),some (.ref p),c2]) ⟨rfl,_,rfl⟩ (fun i σ H' _ h=>by rw [h.1]; exact hS) (fun i y σ H' e h=>?_) (fun σ H' h=>h)⟩
    obtain ⟨e0,c2,rfl⟩:=h
    rw [e0]
    obtain ⟨z,rfl,ez⟩:=get_strs e
    have hw:=hg.words z (List.mem_of_getElem? ez)
    have hz:z.length ≤ 1000:=by
      have hw2:=hw
      unfold isw at hw2
      simp only [Bool.and_eq_true,decide_eq_true_eq] at hw2
      omega
    refine ⟨_,rfl,z,rfl,hz,_,rfl,?_⟩
    rw [hw]
    exact iteF ⟨rfl,_,rfl⟩
  rintro σ2 H2 ⟨e2,c2,rfl⟩
  rw [e2]
  refine ⟨_,rfl,p,zs,rfl,hS,by omega,fun l hl=>⟨l,zs,rfl,upd_same,by omega,_,rfl,p,_,rfl,.inl ((same_new hl _).seq hS),_,_,rfl,rfl,_,rfl,?_⟩⟩
  have s1:=same_new hl (SetO P w l zs)
  have cf:=cntK_full zs zs.length (Nat.le_refl _)
  rw [List.take_length] at cf
  refine iteFS (by rw [hlen,cf.mpr hg.once]; omega) ?_
  have hx1:=s1 _ _ hx
  have hP1:=s1 _ _ hP
  refine ⟨_,rfl,_,rfl,p,_,rfl,.inl (SqL.of hP1),_,_,rfl,rfl,x,dx,0,_,rfl,hx1,?_⟩
  have e1:mkd yW (upd H l (SetO P w l zs)) x dx 0 ((((zs.map V.str).length:Nat):Int) - 1) x = some (.ins yW dx [("low",.int 0),("high",.int ((((zs.map V.str).length:Nat):Int) - 1))]):=upd_same
  have e2:mkd yW (upd H l (SetO P w l zs)) x dx 0 ((((zs.map V.str).length:Nat):Int) - 1) p = some (.lst (zs.map V.str)):=by unfold mkd; rw [upd_ne hpx,upd_ne hpx]; exact hP1
  have e3:∀ b o,b ≠ x→H b = some o→mkd yW (upd H l (SetO P w l zs)) x dx 0 ((((zs.map V.str).length:Nat):Int) - 1) b = some o:=fun b o hb h=>by unfold mkd; rw [upd_ne hb,upd_ne hb]; exact s1 b o h
  have eh:(((zs.map V.str).length:Nat):Int) - 1 = hiW zs:=by rw [hlen]; rfl
  refine ⟨_,rfl,p,_,rfl,.inl (SqL.of e2),fun l2 hl2=>⟨_,rfl,x,_,dx,_,rfl,ret_r1 e1 hl2,bl.k_Words,bl.na_Words_words,(by show 2 < 1000; decide),?_⟩⟩
  show Q .non (upd (upd (mkd yW (upd H l (SetO P w l zs)) x dx 0 ((((zs.map V.str).length:Nat):Int) - 1)) l2 (.lst (zs.map V.str))) x (.ins yW dx (putF (Str.ofString "words") (.ref l2) [(Str.ofString "low",.int 0),(Str.ofString "high",.int ((((zs.map V.str).length:Nat):Int) - 1))])))
  rw [put3]
  have hl3:mkd yW (upd H l (SetO P w l zs)) x dx 0 ((((zs.map V.str).length:Nat):Int) - 1) l2 = none:=hl2
  clear hl2
  generalize mkd yW (upd H l (SetO P w l zs)) x dx 0 ((((zs.map V.str).length:Nat):Int) - 1) = H2 at e1 e2 e3 hl3 ⊢
  rw [eh]
  have nl:l2 ≠ x:=(ne_of_none e1 hl3).symm
  exact q _ l2 (fun b o hb h=>(upd_ne hb).trans (ret_r1 (e3 b o hb h) hl3)) upd_same ((upd_ne nl).trans upd_same) (by cases q_:H l2 with | none=>rfl | some o=>rw [e3 l2 o nl q_] at hl3; cases hl3)
theorem O_48 (F:Fun K "way_by" "way_by" Y48 f fd) (bl:Bl K mg yA yE yN yO yP yQ yR yS yT yU yV yW yX cBook) (k_First:MkCallee CX0 P w K mg base 2 "First" yO ["self"] (J5 K yA yE yN yO yP yQ yR yS yT yU yV yW yX cBook)) (k_Only:MkCallee CX0 P w K mg base 2 "Only" yP ["self"] (J10 K yA yE yN yO yP yQ yR yS yT yU yV yW yX cBook)) (k_Like:MkCallee CX0 P w K mg base 2 "Like" yQ ["self"] (J7 K yA yE yN yO yP yQ yR yS yT yU yV yW yX cBook)) (k_Low:MkCallee CX0 P w K mg base 2 "Low" yR ["self"] (J8 K yA yE yN yO yP yQ yR yS yT yU yV yW yX cBook)) (k_High:MkCallee CX0 P w K mg base 2 "High" yS ["self"] (J6 K yA yE yN yO yP yQ yR yS yT yU yV yW yX cBook)) (k_Sum:MkCallee CX0 P w K mg base 2 "Sum" yT ["self"] (J11 K yA yE yN yO yP yQ yR yS yT yU yV yW yX cBook)):FnOk P w K mg base CX0 4 f fd ["name"] (J48 K yA yE yN yO yP yQ yR yS yT yU yV yW yX cBook):=by
  refine F.ok Z48 (fun vs H Q E h=>?_) (fun cdv A outer s H vs Q E hr h=>?_)
  · obtain ⟨z,rfl,hz,q⟩:=h
    rfl
  obtain ⟨z,rfl,hz,q⟩:=h
  refine ⟨_,(pss_cons (ps_for PassesOwn.never rfl (pi_list (pe_lst (pa_cons (pe_mk0 k_First pass0 hr rfl) (pa_cons (pe_mk0 k_Only pass0 hr rfl) (pa_cons (pe_mk0 k_Like pass0 hr rfl) (pa_cons (pe_mk0 k_Low pass0 hr rfl) (pa_cons (pe_mk0 k_High pass0 hr rfl) (pa_cons (pe_mk0 k_Sum pass0 hr rfl) pa_nil)))))))) (pg_name (i:=1) Z48.nd rfl (Or.inl rfl))
     (pss_one (ps_if (pt_cmpR op_eq (pe_fld (pv 1) rfl) (pv 0) (nomark _))
     (pss_one (ps_ret (pv 1)))
     pss_nil)))
     (pss_one ps_never)),?_⟩
  refine fun w0 d0 hw hdw hnw=>⟨w0,d0,rfl,upd_same,rfl,?_⟩
  have t0:Same H (upd (upd (upd H d0 (.own w0)) w0 (.ins yO d0 [])) w0 (.ins yO d0 [("called",.str (Str.ofString "first"))])):=((same_new hdw _).upd hw).upd hw
  have y0:WyN yO (upd (upd (upd H d0 (.own w0)) w0 (.ins yO d0 [])) w0 (.ins yO d0 [("called",.str (Str.ofString "first"))])) w0 (Str.ofString "first"):=⟨d0,upd_same⟩
  generalize upd (upd (upd H d0 (.own w0)) w0 (.ins yO d0 [])) w0 (.ins yO d0 [("called",.str (Str.ofString "first"))]) = H0 at t0 y0 ⊢
  clear hw hdw hnw
  refine fun w1 d1 hw hdw hnw=>⟨w1,d1,rfl,upd_same,rfl,?_⟩
  have t1:Same H0 (upd (upd (upd H0 d1 (.own w1)) w1 (.ins yP d1 [])) w1 (.ins yP d1 [("called",.str (Str.ofString "only"))])):=((same_new hdw _).upd hw).upd hw
  have y1:WyN yP (upd (upd (upd H0 d1 (.own w1)) w1 (.ins yP d1 [])) w1 (.ins yP d1 [("called",.str (Str.ofString "only"))])) w1 (Str.ofString "only"):=⟨d1,upd_same⟩
  generalize upd (upd (upd H0 d1 (.own w1)) w1 (.ins yP d1 [])) w1 (.ins yP d1 [("called",.str (Str.ofString "only"))]) = H1 at t1 y1 ⊢
  clear hw hdw hnw
  have y0:=y0.same t1
  refine fun w2 d2 hw hdw hnw=>⟨w2,d2,rfl,upd_same,rfl,?_⟩
  have t2:Same H1 (upd (upd (upd H1 d2 (.own w2)) w2 (.ins yQ d2 [])) w2 (.ins yQ d2 [("called",.str (Str.ofString "like"))])):=((same_new hdw _).upd hw).upd hw
  have y2:WyN yQ (upd (upd (upd H1 d2 (.own w2)) w2 (.ins yQ d2 [])) w2 (.ins yQ d2 [("called",.str (Str.ofString "like"))])) w2 (Str.ofString "like"):=⟨d2,upd_same⟩
  generalize upd (upd (upd H1 d2 (.own w2)) w2 (.ins yQ d2 [])) w2 (.ins yQ d2 [("called",.str (Str.ofString "like"))]) = H2 at t2 y2 ⊢
  clear hw hdw hnw
  have y0:=y0.same t2
  have y1:=y1.same t2
  refine fun w3 d3 hw hdw hnw=>⟨w3,d3,rfl,upd_same,rfl,?_⟩
  have t3:Same H2 (upd (upd (upd H2 d3 (.own w3)) w3 (.ins yR d3 [])) w3 (.ins yR d3 [("called",.str (Str.ofString "low"))])):=((same_new hdw _).upd hw).upd hw
  have y3:WyN yR (upd (upd (upd H2 d3 (.own w3)) w3 (.ins yR d3 [])) w3 (.ins yR d3 [("called",.str (Str.ofString "low"))])) w3 (Str.ofString "low"):=⟨d3,upd_same⟩
  generalize upd (upd (upd H2 d3 (.own w3)) w3 (.ins yR d3 [])) w3 (.ins yR d3 [("called",.str (Str.ofString "low"))]) = H3 at t3 y3 ⊢
  clear hw hdw hnw
  have y0:=y0.same t3
  have y1:=y1.same t3
  have y2:=y2.same t3
  refine fun w4 d4 hw hdw hnw=>⟨w4,d4,rfl,upd_same,rfl,?_⟩
  have t4:Same H3 (upd (upd (upd H3 d4 (.own w4)) w4 (.ins yS d4 [])) w4 (.ins yS d4 [("called",.str (Str.ofString "high"))])):=((same_new hdw _).upd hw).upd hw
  have y4:WyN yS (upd (upd (upd H3 d4 (.own w4)) w4 (.ins yS d4 [])) w4 (.ins yS d4 [("called",.str (Str.ofString "high"))])) w4 (Str.ofString "high"):=⟨d4,upd_same⟩
  generalize upd (upd (upd H3 d4 (.own w4)) w4 (.ins yS d4 [])) w4 (.ins yS d4 [("called",.str (Str.ofString "high"))]) = H4 at t4 y4 ⊢
  clear hw hdw hnw
  have y0:=y0.same t4
  have y1:=y1.same t4
  have y2:=y2.same t4
  have y3:=y3.same t4
  refine fun w5 d5 hw hdw hnw=>⟨w5,d5,rfl,upd_same,rfl,?_⟩
  have t5:Same H4 (upd (upd (upd H4 d5 (.own w5)) w5 (.ins yT d5 [])) w5 (.ins yT d5 [("called",.str (Str.ofString "sum"))])):=((same_new hdw _).upd hw).upd hw
  have y5:WyN yT (upd (upd (upd H4 d5 (.own w5)) w5 (.ins yT d5 [])) w5 (.ins yT d5 [("called",.str (Str.ofString "sum"))])) w5 (Str.ofString "sum"):=⟨d5,upd_same⟩
  generalize upd (upd (upd H4 d5 (.own w5)) w5 (.ins yT d5 [])) w5 (.ins yT d5 [("called",.str (Str.ofString "sum"))]) = H5 at t5 y5 ⊢
  clear hw hdw hnw
  have y0:=y0.same t5
  have y1:=y1.same t5
  have y2:=y2.same t5
  have y3:=y3.same t5
  have y4:=y4.same t5
  have s5:Same H H5:=((((t0.trans t1).trans t2).trans t3).trans t4).trans t5
  refine ⟨(by show 6 ≤ sizeLine; decide),fun l hl=>?_⟩
  have sl:Same H5 (upd H5 l (.lst [V.ref w0,.ref w1,.ref w2,.ref w3,.ref w4,.ref w5])):=same_new hl _
  have el:upd H5 l (.lst [V.ref w0,.ref w1,.ref w2,.ref w3,.ref w4,.ref w5]) l = some (.lst [V.ref w0,.ref w1,.ref w2,.ref w3,.ref w4,.ref w5]):=upd_same
  generalize upd H5 l (.lst [V.ref w0,.ref w1,.ref w2,.ref w3,.ref w4,.ref w5]) = H6 at sl el ⊢
  have y0:=y0.same sl
  have y1:=y1.same sl
  have y2:=y2.same sl
  have y3:=y3.same sl
  have y4:=y4.same sl
  have y5:=y5.same sl
  have sA:=s5.trans sl
  have key:∀ (i:Nat) (x:V),[V.ref w0,.ref w1,.ref w2,.ref w3,.ref w4,.ref w5][i]? = some x→∃ (a C:Addr) (y:Str),x = .ref a∧(cl6 yO yP yQ yR yS yT)[i]? = some C∧six[i]? = some y∧WyN C H6 a y∧Cls K C∧NoAttr K C (Str.ofString "called"):=fun i x e=>by
    match i,e with
    | 0,e=>cases e; exact ⟨w0,yO,_,rfl,rfl,rfl,y0,bl.k_First,bl.na_First_called⟩
    | 1,e=>cases e; exact ⟨w1,yP,_,rfl,rfl,rfl,y1,bl.k_Only,bl.na_Only_called⟩
    | 2,e=>cases e; exact ⟨w2,yQ,_,rfl,rfl,rfl,y2,bl.k_Like,bl.na_Like_called⟩
    | 3,e=>cases e; exact ⟨w3,yR,_,rfl,rfl,rfl,y3,bl.k_Low,bl.na_Low_called⟩
    | 4,e=>cases e; exact ⟨w4,yS,_,rfl,rfl,rfl,y4,bl.k_High,bl.na_High_called⟩
    | 5,e=>cases e; exact ⟨w5,yT,_,rfl,rfl,rfl,y5,bl.k_Sum,bl.na_Sum_called⟩
    | n + 6,e=>simp at e
  refine ⟨l,rfl,⟨_,SqL.of el⟩,for_list (xs:=[V.ref w0,.ref w1,.ref w2,.ref w3,.ref w4,.ref w5]) (fun i σ H'=>(∃ c1:Option V,σ = [some (.str z),c1])∧H' = H6∧∀ j:Nat,j < i→six[j]? ≠ some z) ⟨⟨_,rfl⟩,rfl,(fun j h=>absurd h (Nat.not_lt_zero j))⟩ (fun i σ H' _ h=>by rw [h.2.1]; exact SqL.of el) (fun i x σ H' e h=>?_) (fun σ H' h=>?_)⟩
  · obtain ⟨⟨c1,rfl⟩,e0,hno⟩:=h
    rw [e0]
    obtain ⟨a,C,y,rfl,eC,ey,⟨dx,ha⟩,hc,hn⟩:=key i x e
    refine ⟨_,rfl,a,_,_,_,_,rfl,ha,hc,hn,rfl,_,rfl,rfl,_,rfl,?_⟩
    refine ite2 (fun g=>?_) (fun g=>?_)
    · have g' : V.str y = V.str z:=dec_t g
      injection g' with g'
      subst g'
      exact ⟨_,rfl,q i ey a C H6 sA eC ⟨dx,ha⟩⟩
    · refine ⟨⟨_,rfl⟩,rfl,fun j hj=>?_⟩
      by_cases hji:j < i
      · exact hno j hji
      · have:j = i:=by omega
        subst this
        rw [ey]
        intro q2
        exact (dec_f g) (by injection q2 with q2; rw [q2])
  · obtain ⟨⟨c1,rfl⟩,e0,hno⟩:=h
    rw [e0]
    obtain ⟨j,hj,ej⟩:=List.getElem_of_mem hz
    exact absurd (by rw [List.getElem?_eq_getElem hj,ej]) (hno j hj)
theorem O_0 (F:Fun K "__init__" "Book.__init__" Y0 f fd) (bl:Bl K mg yA yE yN yO yP yQ yR yS yT yU yV yW yX cBook) (c_refuse_counts_books:Callee P w K mg base 3 "refuse_counts_books" ["facts", "tables"] (J39 K yA yE yN yO yP yQ yR yS yT yU yV yW yX cBook)) (c_refuse_names_books:Callee P w K mg base 3 "refuse_names_books" ["facts", "tables"] (J42 K yA yE yN yO yP yQ yR yS yT yU yV yW yX cBook)) (c_refuse_domains:Callee P w K mg base 3 "refuse_domains" ["facts", "tables"] (J41 K yA yE yN yO yP yQ yR yS yT yU yV yW yX cBook)) (c_refuse_rings:Callee P w K mg base 3 "refuse_rings" ["tables"] (J44 K yA yE yN yO yP yQ yR yS yT yU yV yW yX cBook)):FnOk P w K mg base CX0 4 f fd ["self", "facts", "tables"] (J0 K yA yE yN yO yP yQ yR yS yT yU yV yW yX cBook):=by
  refine F.ok Z0 (fun vs H Q E h=>?_) (fun cdv A outer s H vs Q E hr h=>?_)
  · obtain ⟨x,dx,fa,ma,fv,mv,zs,ds,ts,fN,L,rfl,hx,efa,ema,hB,q⟩:=h
    rfl
  obtain ⟨x,dx,fa,ma,fv,mv,zs,ds,ts,fN,L,rfl,hx,efa,ema,hB,q⟩:=h
  refine ⟨_,(pss_cons (ps_expr (pe_fn c_refuse_counts_books hr rfl (pa_cons (pv 1) (pa_cons (pv 2) pa_nil))))
     (pss_cons (ps_expr (pe_fn c_refuse_names_books hr rfl (pa_cons (pv 1) (pa_cons (pv 2) pa_nil))))
     (pss_cons (ps_expr (pe_fn c_refuse_domains hr rfl (pa_cons (pv 1) (pa_cons (pv 2) pa_nil))))
     (pss_cons (ps_expr (pe_fn c_refuse_rings hr rfl (pa_cons (pv 2) pa_nil)))
     (pss_cons (ps_fld (pv 0) (pe_compG (pi_list (pv 1)) (cmpOkG_plain (N:=["name", "domain"]) (k:=2) rfl rfl (by decide +kernel) (by decide +kernel) (by decide +kernel)) rfl (fun _ _ _ _=>(gTupK (K:=K) (n:=2) rfl rfl (pgs_cons (pg_name (i:=0) (show (["name", "domain"]:List Str).Nodup by decide +kernel) rfl (Or.inl rfl) (Or.inr rfl)) (pgs_cons (pg_name (i:=1) (show (["name", "domain"]:List Str).Nodup by decide +kernel) rfl (Or.inl rfl) (Or.inr rfl)) pgs_nil)))) (fun _ _ _ _=>pif_nil) (fun _ _ _ _=>(pe_tup (pa_cons (pv 0) (pa_cons (pv 1) pa_nil))))) rfl)
     (pss_one (ps_fld (pv 0) (pe_callTy call_list_of rfl bl.list_ PyProof.Rows.boot_list (pa_cons (pv 2) pa_nil)) rfl))))))),?_⟩
  obtain ⟨b1,b2,b3⟩:=hB.few
  have hfl:fv.length = fN:=by rw [hB.facts.1,List.length_range]
  have hml:mv.length = L.length:=hB.tabs.1
  refine ⟨_,rfl,_,rfl,fa,ma,fv,mv,rfl,efa,ema,by omega,by omega,?_⟩
  refine ⟨_,rfl,_,rfl,fa,ma,fv,mv,zs,ds,ts,fN,L,rfl,efa,ema,hB,fun H1 s1=>?_⟩
  refine ⟨_,rfl,_,rfl,fa,ma,fv,mv,zs,ds,ts,fN,L,rfl,s1 _ _ efa,s1 _ _ ema,hB.same s1,fun H2 s2=>?_⟩
  have s12:=s1.trans s2
  refine ⟨_,rfl,ma,mv,zs,ds,ts,fN,L,rfl,s12 _ _ ema,hB.ok,(hB.same s12).tabs,hB.lt,by omega,fun H3 s3=>?_⟩
  have s13:=s12.trans s3
  have efa3:=s13 _ _ efa
  have hB3:=hB.same s13
  refine ⟨_,rfl,fa,rfl,⟨_,SqL.of efa3⟩,compG_list (xs:=fv) (fun D i ys H'=>Same H3 H'∧H' D = some (.lst ys)∧ys.length = i) (fun D hD=>⟨same_new hD _,upd_same,rfl⟩) (fun D i ys H' hD _ h=>SqL.of (h.1 _ _ efa3)) (fun D i y ys H' hD e h ts' hts=>?_) (fun D ys H' hD h=>?_)⟩
  · obtain ⟨sm,eD,hy⟩:=h
    obtain ⟨r,k,rfl,ek,nm,po,d,z1,z2,g1,g2⟩:=RefL.get hB3.facts e
    have hi:i < fv.length:=(List.getElem?_eq_some_iff.mp e).1
    obtain ⟨t0,t1,rfl⟩:∃ t0 t1,ts' = [t0,t1]:=by
      match ts',hts with
      | [t0,t1],_=>exact ⟨t0,t1,rfl⟩
    refine ⟨r,_,rfl,SqT.of (sm _ _ g1),rfl,_,_,rfl,_,_,rfl,rfl,⟨[some (.str nm),some (.ref d)],rfl,rfl⟩,?_⟩
    refine ⟨_,rfl,_,rfl,(by show 2 ≤ sizeLine; decide),fun tp htp=>?_⟩
    have u:=same_new htp (.tup [.str nm,.ref d])
    exact CYes.mk hi (u _ _ eD) (small1000 (by omega)) ⟨(sm.trans u).upd hD,upd_same,by rw [List.length_append,hy]; rfl⟩
  · obtain ⟨sm,eD,hy⟩:=h
    have hx3:H3 x = some (.ins cBook dx []):=s13 _ _ hx
    refine ⟨_,rfl,x,_,dx,_,rfl,sm _ _ hx3,bl.k_Book,bl.na_Book_facts,(by show 0 < 1000; decide),?_⟩
    have nDx:D ≠ x:=fun z=>by rw [z,hx3] at hD; cases hD
    have nmx:ma ≠ x:=fun z=>by rw [z,hx] at ema; cases ema
    have g1:upd H' x (.ins cBook dx (putF (Str.ofString "facts") (V.ref D) [])) = upd H' x (.ins cBook dx [(Str.ofString "facts",V.ref D)]):=rfl
    rw [g1]
    have e2:upd H' x (.ins cBook dx [(Str.ofString "facts",V.ref D)]) ma = some (.lst mv):=(upd_ne nmx).trans (sm _ _ (s13 _ _ ema))
    have x2:upd H' x (.ins cBook dx [(Str.ofString "facts",V.ref D)]) x = some (.ins cBook dx [(Str.ofString "facts",V.ref D)]):=upd_same
    have k2:∀ b o,b ≠ x→H b = some o→upd H' x (.ins cBook dx [(Str.ofString "facts",V.ref D)]) b = some o:=fun b o hb e=>(upd_ne hb).trans (sm _ _ (s13 _ _ e))
    generalize upd H' x (.ins cBook dx [(Str.ofString "facts",V.ref D)]) = H4 at e2 x2 k2 ⊢
    refine ⟨_,rfl,ma,mv,rfl,.inl (SqL.of e2),fun c hc=>?_⟩
    have u:=same_new hc (.lst mv)
    have ec:upd H4 c (.lst mv) c = some (.lst mv):=upd_same
    generalize upd H4 c (.lst mv) = H5 at u ec ⊢
    refine ⟨_,rfl,x,_,dx,_,rfl,u _ _ x2,bl.k_Book,bl.na_Book_tables,(by show 1 < 1000; decide),?_⟩
    have ncx:c ≠ x:=fun z=>by rw [z,x2] at hc; cases hc
    exact q _ _ c (fun b o hb e=>(upd_ne hb).trans (u _ _ (k2 b o hb e))) upd_same rfl ((upd_ne ncx).trans ec)
theorem O_46 (F:Fun K "refuse_way" "refuse_way" Y46 f fd) (bl:Bl K mg yA yE yN yO yP yQ yR yS yT yU yV yW yX cBook) (c_way_by:Callee P w K mg base 4 "way_by" ["name"] (J48 K yA yE yN yO yP yQ yR yS yT yU yV yW yX cBook)):FnOk P w K mg base CX0 5 f fd ["way", "outcome"] (J46 K yA yE yN yO yP yQ yR yS yT yU yV yW yX cBook):=by
  refine F.ok Z46 (fun vs H Q E h=>?_) (fun cdv A outer s H vs Q E hr h=>?_)
  · obtain ⟨z,ou,rfl,hz,hne,q⟩:=h
    rfl
  obtain ⟨z,ou,rfl,hz,hne,q⟩:=h
  refine ⟨_,(pss_one (ps_if (PW.pt (pw_and (pt_cmpR op_eq (pe_fld (pe_fn c_way_by hr rfl (pa_cons (pv 0) pa_nil)) rfl) pe_str (nomark _)) (pw_and1 (pt_val (pe_callB call_isiG rfl bl.isinstance_ PyProof.Rows.boot_isinstance (pa_cons (pv 1) (pa_cons (pe_glob (v:=.ref yW) rfl bl.Words_ rfl) pa_nil)))))))
     (pss_one ps_never)
     pss_nil)),?_⟩
  refine ⟨_,rfl,z,rfl,hz,fun i ei x C H' s' eC hw=>?_⟩
  have hF:Cls K C∧NoAttr K C (Str.ofString "called"):=by
    match i,eC with
    | 0,eC=>cases eC; exact ⟨bl.k_First,bl.na_First_called⟩
    | 1,eC=>cases eC; exact ⟨bl.k_Only,bl.na_Only_called⟩
    | 2,eC=>cases eC; exact ⟨bl.k_Like,bl.na_Like_called⟩
    | 3,eC=>cases eC; exact ⟨bl.k_Low,bl.na_Low_called⟩
    | 4,eC=>cases eC; exact ⟨bl.k_High,bl.na_High_called⟩
    | 5,eC=>cases eC; exact ⟨bl.k_Sum,bl.na_Sum_called⟩
    | n + 6,eC=>simp [cl6] at eC
  obtain ⟨dx,hx⟩:=hw
  refine ⟨x,_,_,_,_,rfl,hx,hF.1,hF.2,rfl,rfl,_,rfl,?_⟩
  by_cases hs:z = Str.ofString "sum"
  · obtain ⟨dy,fs,ho⟩:=hne hs
    exact iteTS (by rw [hs]) ⟨_,rfl,_,_,_,_,false,rfl,.ref _,bl.t_Numbers.ty (s' _ _ ho),bl.f_nw,_,rfl,iteF (q _ s')⟩
  · exact iteFS (fun e=>by injection e with e; exact hs e) (iteF (q _ s'))
theorem O_30 (F:Fun K "_law_made" "_law_made" Y30 f fd) (bl:Bl K mg yA yE yN yO yP yQ yR yS yT yU yV yW yX cBook) (k_Numbers:MkCallee CX0 P w K mg base 3 "Numbers" yV ["self", "low", "high"] (J9 K yA yE yN yO yP yQ yR yS yT yU yV yW yX cBook)) (k_Words:MkCallee CX0 P w K mg base 3 "Words" yW ["self", "words"] (J19 K yA yE yN yO yP yQ yR yS yT yU yV yW yX cBook)):FnOk P w K mg base CX0 5 f fd ["domain"] (J30 K yA yE yN yO yP yQ yR yS yT yU yV yW yX cBook):=by
  refine F.ok Z30 (fun vs H Q E h=>?_) (fun cdv A outer s H vs Q E hr h=>?_)
  · obtain ⟨r,p,rfl,⟨wl,_,_,er,ewl⟩,ok,q⟩:=h
    rfl
  obtain ⟨r,p,rfl,⟨wl,_,_,er,ewl⟩,ok,q⟩:=h
  refine ⟨_,(pss_cons (ps_if (pt_cmpR op_gt (pe_callB call_len_seq rfl bl.len_ PySem.boot_len (pa_cons (pe_ix ix_tup (pv 0) pe_int (fun _ _=>rfl)) pa_nil)) pe_int (nomark _))
     (pss_one (ps_ret (pe_mk k_Words pass0 hr rfl (pa_cons (pe_callTy call_list_of rfl bl.list_ PyProof.Rows.boot_list (pa_cons (pe_ix ix_tup (pv 0) pe_int (fun _ _=>rfl)) pa_nil)) pa_nil))))
     pss_nil)
     (pss_one (ps_ret (pe_mk k_Numbers pass0 hr rfl (pa_cons (pe_ix ix_tup (pv 0) pe_int (fun _ _=>rfl)) (pa_cons (pe_ix ix_tup (pv 0) pe_int (fun _ _=>rfl)) pa_nil)))))),?_⟩
  have hlm:(p.ws.map V.str).length = p.ws.length:=List.length_map _
  refine ⟨_,rfl,r,_,_,_,rfl,rfl,SqT.of er,rfl,wl,_,rfl,.inl (SqL.of ewl),_,_,rfl,rfl,_,rfl,?_⟩
  refine ite2 (fun g=>?_) (fun g=>?_)
  · have hne:p.ws ≠ []:=fun z=>by
      have:=of_decide_eq_true g
      rw [z] at this
      exact absurd this (by decide)
    obtain ⟨hg,h0,h1⟩:=ok.wd hne
    refine ⟨_,rfl,r,_,_,_,rfl,rfl,SqT.of er,rfl,wl,_,rfl,.inl (SqL.of ewl),fun c hc=>?_⟩
    have u1:=same_new hc (.lst (p.ws.map V.str))
    have ec:upd H c (.lst (p.ws.map V.str)) c = some (.lst (p.ws.map V.str)):=upd_same
    generalize upd H c (.lst (p.ws.map V.str)) = H1 at u1 ec ⊢
    intro x dx hx hdx hne2
    have s3:Same H1 (upd (upd H1 dx (.own x)) x (.ins yW dx [])):=(same_new hdx _).upd hx
    refine ⟨x,dx,c,p.ws,rfl,upd_same,s3 _ _ ec,hg,fun H4 l4 k1 k2 k3 k4=>⟨rfl,q x H4 (fun b o e=>k1 b o (ne_of_none (u1 _ _ e) hx) (s3 _ _ (u1 _ _ e))) ?_⟩⟩
    rw [PD.k_some hne]
    exact ⟨⟨dx,l4,u1.free (s3.free k4),k2,k3⟩,h0,h1,hg⟩
  · have he:p.ws = []:=by
      have:¬ ((0:Int) < (((p.ws.map V.str).length:Nat):Int)):=fun h=>g (decide_eq_true h)
      rw [hlm] at this
      exact List.length_eq_zero_iff.mp (by omega)
    refine ⟨_,rfl,r,_,_,_,rfl,rfl,SqT.of er,rfl,_,rfl,r,_,_,_,rfl,rfl,SqT.of er,rfl,fun x dx hx hdx hne=>⟨x,dx,p.lo,p.hi,rfl,upd_same,ok.le,rfl,q x _ ?_ ?_⟩⟩
    · unfold mkd
      exact (((same_new hdx _).upd hx).upd hx).upd hx
    · rw [PD.k_none he]
      exact ⟨dx,upd_same⟩
theorem O_29 (F:Fun K "_law_facts" "_law_facts" Y29 f fd) (bl:Bl K mg yA yE yN yO yP yQ yR yS yT yU yV yW yX cBook) (c__law_made:Callee P w K mg base 5 "_law_made" ["domain"] (J30 K yA yE yN yO yP yQ yR yS yT yU yV yW yX cBook)):FnOk P w K mg base CX0 6 f fd ["plan"] (J29 K yA yE yN yO yP yQ yR yS yT yU yV yW yX cBook):=by
  refine F.ok Z29 (fun vs H Q E h=>?_) (fun cdv A outer s H vs Q E hr h=>?_)
  · obtain ⟨r,zs,ds,ts,fN,rfl,hPl,ok,q⟩:=h
    rfl
  obtain ⟨r,zs,ds,ts,fN,rfl,hPl,ok,q⟩:=h
  refine ⟨_,(pss_cut (ps_asg (pv 0) (pg_tup rfl (pgs_cons (pg_name (i:=1) Z29.nd rfl (Or.inr rfl)) (pgs_cons (pg_name (i:=2) Z29.nd rfl (Or.inr rfl)) (pgs_cons (pg_name (i:=3) Z29.nd rfl (Or.inl rfl)) pgs_nil)))))
     (pss_one (ps_ret (pe_comp (pi_range1 rfl bl.range_ (pa_cons (pe_op op_sub (pe_callB call_len_seq rfl bl.len_ PySem.boot_len (pa_cons (pv 1) pa_nil)) (pe_callB call_len_seq rfl bl.len_ PySem.boot_len (pa_cons (pv 3) pa_nil))) pa_nil)) (cmpOk_free (N:=["k", "names", "domains"]) (fr:=[1,2]) (cl:=[("names",s.heap.objs.size + 1),("domains",s.heap.objs.size + 1 + 1)]) rfl rfl (by decide +kernel) (by decide +kernel) rfl (by decide +kernel) rfl rfl rfl (List.forall_mem_cons.mpr ⟨rfl,List.forall_mem_cons.mpr ⟨rfl,List.forall_mem_nil _⟩⟩) rfl) rfl (fun _ _ _ _=>pif_nil) (fun _ _ _ _=>(pe_tup (pa_cons (pe_ix (ix_listK (K:=K) rfl) (pv 1) (pv 0) (fun _ _=>rfl)) (pa_cons (pe_fn c__law_made hr rfl (pa_cons (pe_ix (ix_listK (K:=K) rfl) (pv 2) (pv 0) (fun _ _=>rfl)) pa_nil)) pa_nil)))))))),?_⟩
  obtain ⟨nl,dl,tl_,dv,tv,er,enl,edl,hdv,etl,htv⟩:=id hPl
  have hzl:(zs.map V.str).length = zs.length:=List.length_map _
  have hl1:=ok.len
  have hl2:=ok.tab
  have h7:=ok.n7
  have htl:tv.length = ts.length:=htv.1
  refine ⟨fun σ' H'=>H' = H∧σ' = [some (.ref r),some (.ref nl),some (.ref dl),some (.ref tl_)],⟨_,rfl,r,_,rfl,SqT.of er,rfl,_,_,rfl,_,_,rfl,_,_,rfl,rfl,rfl,rfl⟩,?_⟩
  rintro σ1 H1 ⟨rfl,rfl⟩
  have eN:(((zs.map V.str).length:Nat):Int) - ((tv.length:Nat):Int) = (fN:Int):=by omega
  refine ⟨_,rfl,nl,_,rfl,.inl (SqL.of enl),_,rfl,tl_,_,rfl,.inl (SqL.of etl),_,_,rfl,rfl,_,rfl,(by rw [eN]; omega),(by rw [eN]; omega),comp_range (fun D i ys H'=>Same H1 H'∧H' D = some (.lst ys)∧RefL ys (List.range i) (FcN (Fr H1 D) yV yW H' zs ds)) (fun D hD=>⟨same_new hD _,upd_same,RefL.nil⟩) (fun D i ys H' hD hi h=>?_) (fun D ys H' hD h=>?_)⟩
  · obtain ⟨sm,eD,hz⟩:=h
    rw [eN,Int.toNat_natCast] at hi
    have ez:=List.getElem?_eq_getElem (l:=zs) (i:=i) (by omega)
    have ed:=List.getElem?_eq_getElem (l:=ds) (i:=i) (by omega)
    obtain ⟨da,e2,hpd⟩:=hdv.2 i _ ed
    have okd:=ok.doms _ (List.mem_of_getElem? ed)
    generalize ds[i] = p at ed hpd okd
    generalize zs[i] = nm at ez
    have ix1:atI (zs.map V.str) (0 + (i:Int)) = some (.str nm):=by rw [Int.zero_add]; exact atI_nat (put_strs ez)
    have ix2:atI dv (0 + (i:Int)) = some (.ref da):=by rw [Int.zero_add]; exact atI_nat e2
    refine ⟨_,rfl,_,rfl,nl,_,_,_,rfl,rfl,SqL.of (sm _ _ enl),ix1,_,rfl,_,rfl,dl,_,_,_,rfl,rfl,SqL.of (sm _ _ edl),ix2,da,p,rfl,hpd.same sm,okd,fun x H6 s6 hx=>⟨small2,fun tt_ htt=>?_⟩⟩
    have u7:=same_new htt (.tup [.str nm,.ref x])
    have eT:upd H6 tt_ (.tup [.str nm,.ref x]) tt_ = some (.tup [.str nm,.ref x]):=upd_same
    generalize upd H6 tt_ (.tup [.str nm,.ref x]) = H7 at u7 eT ⊢
    have sA:=s6.trans u7
    have eD7:=sA _ _ eD
    have hz2:RefL (ys ++ [.ref tt_]) (List.range i ++ [i]) (FcN (Fr H1 D) yV yW H7 zs ds):=RefL.snoc (RefL.mono hz fun _ _ p=>p.same sA) ⟨nm,p,x,ez,ed,eT,(hx.wk fun a h=>⟨sm.free h,fun z=>by rw [z,eD] at h; cases h⟩).same u7⟩
    refine CYes.mk (by rw [eN,Int.toNat_natCast]; exact hi) eD7 (small1000 (by rw [hz.1,List.length_range]; omega)) ⟨(sm.trans sA).upd hD,upd_same,?_⟩
    rw [List.range_succ]
    exact RefL.mono hz2 fun _ _ p=>p.upd Fr.out eD7
  · obtain ⟨sm,eD,hz⟩:=h
    rw [eN,Int.toNat_natCast] at hz
    exact q D ys H' sm eD (RefL.mono hz fun _ _ p=>p.fc)
theorem O_12 (F:Fun K "__init__" "Table.__init__" Y12 f fd) (bl:Bl K mg yA yE yN yO yP yQ yR yS yT yU yV yW yX cBook) (c_refuse_names_tables:Callee P w K mg base 5 "refuse_names_tables" ["names"] (J43 K yA yE yN yO yP yQ yR yS yT yU yV yW yX cBook)) (c_refuse_counts_tables:Callee P w K mg base 5 "refuse_counts_tables" ["names", "rows"] (J40 K yA yE yN yO yP yQ yR yS yT yU yV yW yX cBook)) (c_refuse_way:Callee P w K mg base 5 "refuse_way" ["way", "outcome"] (J46 K yA yE yN yO yP yQ yR yS yT yU yV yW yX cBook)) (c_refuse_row:Callee P w K mg base 5 "refuse_row" ["domains", "outcome", "cells", "code"] (J45 K yA yE yN yO yP yQ yR yS yT yU yV yW yX cBook)) (c_own_row:Callee P w K mg base 5 "own_row" ["cells", "code"] (J38 K yA yE yN yO yP yQ yR yS yT yU yV yW yX cBook)):FnOk P w K mg base CX0 6 f fd ["self", "name", "names", "domains", "outcome", "way", "rows"] (J12 K yA yE yN yO yP yQ yR yS yT yU yV yW yX cBook):=by
  refine F.ok Z12 (fun vs H Q E h=>?_) (fun cdv A outer s H vs Q E hr h=>?_)
  · obtain ⟨x,dx,na,dl,ou,rl,nm,wy,zs,dv,rx,bs,o,rws,rfl,hx,hna,hw,hnd,h1,h4,hwy,hws,hdl,hdv,hou,hrl,hR,h200,hb4,hok,q⟩:=h
    rfl
  obtain ⟨x,dx,na,dl,ou,rl,nm,wy,zs,dv,rx,bs,o,rws,rfl,hx,hna,hw,hnd,h1,h4,hwy,hws,hdl,hdv,hou,hrl,hR,h200,hb4,hok,q⟩:=h
  refine ⟨_,(pss_cons (ps_expr (pe_fn c_refuse_names_tables hr rfl (pa_cons (pe_op op_cat (pe_lst (pa_cons (pv 1) pa_nil)) (pv 2)) pa_nil)))
     (pss_cons (ps_expr (pe_fn c_refuse_counts_tables hr rfl (pa_cons (pv 2) (pa_cons (pv 6) pa_nil))))
     (pss_cons (ps_expr (pe_fn c_refuse_way hr rfl (pa_cons (pv 5) (pa_cons (pv 4) pa_nil))))
     (pss_cut (ps_for PassesOwn.never rfl (pi_list (pv 6)) (pg_tup rfl (pgs_cons (pg_name (i:=7) Z12.nd rfl (Or.inl rfl)) (pgs_cons (pg_name (i:=8) Z12.nd rfl (Or.inl rfl)) pgs_nil)))
     (pss_one (ps_expr (pe_fn c_refuse_row hr rfl (pa_cons (pv 3) (pa_cons (pv 4) (pa_cons (pv 7) (pa_cons (pv 8) pa_nil))))))))
     (pss_cons (ps_fld (pv 0) (pv 1) rfl)
     (pss_cons (ps_fld (pv 0) (pe_callTy call_list_of rfl bl.list_ PyProof.Rows.boot_list (pa_cons (pv 2) pa_nil)) rfl)
     (pss_cons (ps_fld (pv 0) (pe_callTy call_list_of rfl bl.list_ PyProof.Rows.boot_list (pa_cons (pv 3) pa_nil)) rfl)
     (pss_cons (ps_fld (pv 0) (pv 4) rfl)
     (pss_cons (ps_fld (pv 0) (pv 5) rfl)
     (pss_one (ps_fld (pv 0) (pe_compG (pi_list (pv 6)) (cmpOkG_plain (N:=["cells", "code"]) (k:=2) rfl rfl (by decide +kernel) (by decide +kernel) (by decide +kernel)) rfl (fun _ _ _ _=>(gTupK (K:=K) (n:=2) rfl rfl (pgs_cons (pg_name (i:=0) (show (["cells", "code"]:List Str).Nodup by decide +kernel) rfl (Or.inl rfl) (Or.inr rfl)) (pgs_cons (pg_name (i:=1) (show (["cells", "code"]:List Str).Nodup by decide +kernel) rfl (Or.inl rfl) (Or.inr rfl)) pgs_nil)))) (fun _ _ _ _=>pif_nil) (fun _ _ _ _=>(pe_fn c_own_row hr rfl (pa_cons (pv 0) (pa_cons (pv 1) pa_nil))))) rfl))))))))))),?_⟩
  have hzl:(zs.map V.str).length = zs.length:=List.length_map _
  refine ⟨_,rfl,(by show 1 ≤ sizeLine; decide),fun l1 hl1=>?_⟩
  have s1:=same_new hl1 (.lst [.str nm])
  have e1:upd H l1 (.lst [.str nm]) l1 = some (.lst [.str nm]):=upd_same
  generalize upd H l1 (.lst [.str nm]) = H1 at s1 e1 ⊢
  refine ⟨_,rfl,l1,na,_,_,rfl,rfl,e1,s1 _ _ hna,(by rw [hzl]; show 1 + zs.length ≤ sizeLine; exact big (by omega)),fun l2 hl2=>?_⟩
  have s2:=s1.trans (same_new hl2 (.lst ([V.str nm] ++ zs.map V.str)))
  have e2:upd H1 l2 (.lst ([V.str nm] ++ zs.map V.str)) l2 = some (.lst ((nm :: zs).map V.str)):=upd_same
  generalize upd H1 l2 (.lst ([V.str nm] ++ zs.map V.str)) = H2 at s2 e2 ⊢
  refine ⟨l2,nm :: zs,rfl,SqL.of e2,hw,hnd,by rw [List.length_cons]; omega,fun H3 t3=>?_⟩
  have s3:=s2.trans t3
  refine ⟨_,rfl,_,rfl,na,rl,_,_,rfl,SqL.of (s3 _ _ hna),SqL.of (s3 _ _ hrl),by rw [hzl]; exact h1,by rw [hzl]; exact h4,h200,?_⟩
  refine ⟨_,rfl,_,rfl,wy,ou,rfl,hwy,(fun z=>let ⟨dx',fs',e'⟩:=hws z; ⟨dx',fs',s3 _ _ e'⟩),fun H4 t4=>?_⟩
  have s4:=s3.trans t4
  refine ⟨fun σ' H'=>Same H H'∧∃ c7 c8:Option V,σ' = [some (.ref x),some (.str nm),some (.ref na),some (.ref dl),some (.ref ou),some (.str wy),some (.ref rl),c7,c8],?_,?_⟩
  · refine ⟨_,rfl,rl,rfl,⟨_,SqL.of (s4 _ _ hrl)⟩,for_list (xs:=rx) (fun i σ H'=>Same H H'∧∃ c7 c8:Option V,σ = [some (.ref x),some (.str nm),some (.ref na),some (.ref dl),some (.ref ou),some (.str wy),some (.ref rl),c7,c8]) ⟨s4,_,_,rfl⟩ (fun i σ H' _ h=>SqL.of (h.1 _ _ hrl)) (fun i y σ H' e h=>?_) (fun σ H' h=>h)⟩
    obtain ⟨sm,c7,c8,rfl⟩:=h
    obtain ⟨r,w_,rfl,ew,ce,cv,g1,_,g2,g3⟩:=RefL.get (hR.same sm) e
    refine ⟨r,_,rfl,SqT.of g1,rfl,_,_,rfl,_,_,rfl,rfl,?_⟩
    exact ⟨_,rfl,_,rfl,_,rfl,_,rfl,dl,ou,ce,dv,cv,bs,o,w_,rfl,SqL.of (sm _ _ hdl),RefL.mono hdv fun _ _ p=>p.same sm,hou.same sm,g2,g3,hok w_ (List.mem_of_getElem? ew),fun H2 t2=>⟨sm.trans t2,_,_,rfl⟩⟩
  rintro σ5 H5 ⟨s5,c7,c8,rfl⟩
  have x5:=s5 _ _ hx
  have nax:na ≠ x:=ne_of hna hx (by intro z; cases z)
  have dlx:dl ≠ x:=ne_of hdl hx (by intro z; cases z)
  have rlx:rl ≠ x:=ne_of hrl hx (by intro z; cases z)
  have k5:∀ b o,b ≠ x→H b = some o→H5 b = some o:=fun b o _ e=>s5 b o e
  have R5:=RL.hide x5 (hR.same s5)
  refine ⟨_,rfl,_,rfl,x,_,dx,_,rfl,x5,bl.k_Table,bl.na_Table_name,(by show 0 < 1000; decide),?_⟩
  have k6:∀ b o,b ≠ x→H5 b = some o→upd H5 x (.ins yX dx [(Str.ofString "name",.str nm)]) b = some o:=fun b o hb e=>(upd_ne hb).trans e
  have x6:upd H5 x (.ins yX dx [(Str.ofString "name",.str nm)]) x = some (.ins yX dx [(Str.ofString "name",.str nm)]):=upd_same
  have g6:upd H5 x (.ins yX dx (putF (Str.ofString "name") (.str nm) [])) = upd H5 x (.ins yX dx [(Str.ofString "name",.str nm)]):=rfl
  rw [g6]
  clear g6
  generalize upd H5 x (.ins yX dx [(Str.ofString "name",.str nm)]) = H6 at k6 x6 ⊢
  refine ⟨_,rfl,na,_,rfl,.inl (SqL.of (k6 _ _ nax (s5 _ _ hna))),fun m1 hm1=>⟨_,rfl,x,_,dx,_,rfl,ret_r1 x6 hm1,bl.k_Table,bl.na_Table_names,(by show 1 < 1000; decide),?_⟩⟩
  have g7:upd (upd H6 m1 (.lst (zs.map V.str))) x (.ins yX dx (putF (Str.ofString "names") (V.ref m1) [(Str.ofString "name",V.str nm)])) = upd (upd H6 m1 (.lst (zs.map V.str))) x (.ins yX dx [(Str.ofString "name",V.str nm),(Str.ofString "names",V.ref m1)]):=by rw [pf1]
  rw [g7]
  clear g7
  have k7:∀ b o,b ≠ x→H5 b = some o→upd (upd H6 m1 (.lst (zs.map V.str))) x (.ins yX dx [(Str.ofString "name",V.str nm),(Str.ofString "names",V.ref m1)]) b = some o:=fun b o hb e=>(upd_ne hb).trans (ret_r1 (k6 b o hb e) hm1)
  have x7:upd (upd H6 m1 (.lst (zs.map V.str))) x (.ins yX dx [(Str.ofString "name",V.str nm),(Str.ofString "names",V.ref m1)]) x = some (.ins yX dx [(Str.ofString "name",V.str nm),(Str.ofString "names",V.ref m1)]):=upd_same
  have m1x:m1 ≠ x:=fun z=>by rw [z,x6] at hm1; cases hm1
  have j7:upd (upd H6 m1 (.lst (zs.map V.str))) x (.ins yX dx [(Str.ofString "name",V.str nm),(Str.ofString "names",V.ref m1)]) m1 = some (.lst (zs.map V.str)):=(upd_ne m1x).trans upd_same
  generalize upd (upd H6 m1 (.lst (zs.map V.str))) x (.ins yX dx [(Str.ofString "name",V.str nm),(Str.ofString "names",V.ref m1)]) = H7 at k7 x7 j7 ⊢
  refine ⟨_,rfl,dl,_,rfl,.inl (SqL.of (k7 _ _ dlx (s5 _ _ hdl))),fun m2 hm2=>⟨_,rfl,x,_,dx,_,rfl,ret_r1 x7 hm2,bl.k_Table,bl.na_Table_domains,(by show 2 < 1000; decide),?_⟩⟩
  have g8:upd (upd H7 m2 (.lst dv)) x (.ins yX dx (putF (Str.ofString "domains") (V.ref m2) [(Str.ofString "name",V.str nm),(Str.ofString "names",V.ref m1)])) = upd (upd H7 m2 (.lst dv)) x (.ins yX dx [(Str.ofString "name",V.str nm),(Str.ofString "names",V.ref m1),(Str.ofString "domains",V.ref m2)]):=by rw [pf2]
  rw [g8]
  clear g8
  have k8:∀ b o,b ≠ x→H5 b = some o→upd (upd H7 m2 (.lst dv)) x (.ins yX dx [(Str.ofString "name",V.str nm),(Str.ofString "names",V.ref m1),(Str.ofString "domains",V.ref m2)]) b = some o:=fun b o hb e=>(upd_ne hb).trans (ret_r1 (k7 b o hb e) hm2)
  have x8:upd (upd H7 m2 (.lst dv)) x (.ins yX dx [(Str.ofString "name",V.str nm),(Str.ofString "names",V.ref m1),(Str.ofString "domains",V.ref m2)]) x = some (.ins yX dx [(Str.ofString "name",V.str nm),(Str.ofString "names",V.ref m1),(Str.ofString "domains",V.ref m2)]):=upd_same
  have m2x:m2 ≠ x:=fun z=>by rw [z,x7] at hm2; cases hm2
  have j8:upd (upd H7 m2 (.lst dv)) x (.ins yX dx [(Str.ofString "name",V.str nm),(Str.ofString "names",V.ref m1),(Str.ofString "domains",V.ref m2)]) m1 = some (.lst (zs.map V.str)):=(upd_ne m1x).trans (ret_r1 j7 hm2)
  have i8:upd (upd H7 m2 (.lst dv)) x (.ins yX dx [(Str.ofString "name",V.str nm),(Str.ofString "names",V.ref m1),(Str.ofString "domains",V.ref m2)]) m2 = some (.lst dv):=(upd_ne m2x).trans upd_same
  generalize upd (upd H7 m2 (.lst dv)) x (.ins yX dx [(Str.ofString "name",V.str nm),(Str.ofString "names",V.ref m1),(Str.ofString "domains",V.ref m2)]) = H8 at k8 x8 j8 i8 ⊢
  refine ⟨_,rfl,_,rfl,x,_,dx,_,rfl,x8,bl.k_Table,bl.na_Table_outcome,(by show 3 < 1000; decide),?_⟩
  have g9:upd H8 x (.ins yX dx (putF (Str.ofString "outcome") (V.ref ou) [(Str.ofString "name",V.str nm),(Str.ofString "names",V.ref m1),(Str.ofString "domains",V.ref m2)])) = upd H8 x (.ins yX dx [(Str.ofString "name",V.str nm),(Str.ofString "names",V.ref m1),(Str.ofString "domains",V.ref m2),(Str.ofString "outcome",V.ref ou)]):=by rw [pf3]
  rw [g9]
  clear g9
  have k9:∀ b o,b ≠ x→H5 b = some o→upd H8 x (.ins yX dx [(Str.ofString "name",V.str nm),(Str.ofString "names",V.ref m1),(Str.ofString "domains",V.ref m2),(Str.ofString "outcome",V.ref ou)]) b = some o:=fun b o hb e=>(upd_ne hb).trans (k8 b o hb e)
  have x9:upd H8 x (.ins yX dx [(Str.ofString "name",V.str nm),(Str.ofString "names",V.ref m1),(Str.ofString "domains",V.ref m2),(Str.ofString "outcome",V.ref ou)]) x = some (.ins yX dx [(Str.ofString "name",V.str nm),(Str.ofString "names",V.ref m1),(Str.ofString "domains",V.ref m2),(Str.ofString "outcome",V.ref ou)]):=upd_same
  have j9:upd H8 x (.ins yX dx [(Str.ofString "name",V.str nm),(Str.ofString "names",V.ref m1),(Str.ofString "domains",V.ref m2),(Str.ofString "outcome",V.ref ou)]) m1 = some (.lst (zs.map V.str)):=(upd_ne m1x).trans j8
  have i9:upd H8 x (.ins yX dx [(Str.ofString "name",V.str nm),(Str.ofString "names",V.ref m1),(Str.ofString "domains",V.ref m2),(Str.ofString "outcome",V.ref ou)]) m2 = some (.lst dv):=(upd_ne m2x).trans i8
  generalize upd H8 x (.ins yX dx [(Str.ofString "name",V.str nm),(Str.ofString "names",V.ref m1),(Str.ofString "domains",V.ref m2),(Str.ofString "outcome",V.ref ou)]) = H9 at k9 x9 j9 i9 ⊢
  refine ⟨_,rfl,_,rfl,x,_,dx,_,rfl,x9,bl.k_Table,bl.na_Table_way,(by show 4 < 1000; decide),?_⟩
  have g10:upd H9 x (.ins yX dx (putF (Str.ofString "way") (V.str wy) [(Str.ofString "name",V.str nm),(Str.ofString "names",V.ref m1),(Str.ofString "domains",V.ref m2),(Str.ofString "outcome",V.ref ou)])) = upd H9 x (.ins yX dx [(Str.ofString "name",V.str nm),(Str.ofString "names",V.ref m1),(Str.ofString "domains",V.ref m2),(Str.ofString "outcome",V.ref ou),(Str.ofString "way",V.str wy)]):=by rw [pf4]
  rw [g10]
  clear g10
  have k10:∀ b o,b ≠ x→H5 b = some o→upd H9 x (.ins yX dx [(Str.ofString "name",V.str nm),(Str.ofString "names",V.ref m1),(Str.ofString "domains",V.ref m2),(Str.ofString "outcome",V.ref ou),(Str.ofString "way",V.str wy)]) b = some o:=fun b o hb e=>(upd_ne hb).trans (k9 b o hb e)
  have x10:upd H9 x (.ins yX dx [(Str.ofString "name",V.str nm),(Str.ofString "names",V.ref m1),(Str.ofString "domains",V.ref m2),(Str.ofString "outcome",V.ref ou),(Str.ofString "way",V.str wy)]) x = some (.ins yX dx [(Str.ofString "name",V.str nm),(Str.ofString "names",V.ref m1),(Str.ofString "domains",V.ref m2),(Str.ofString "outcome",V.ref ou),(Str.ofString "way",V.str wy)]):=upd_same
  have j10:upd H9 x (.ins yX dx [(Str.ofString "name",V.str nm),(Str.ofString "names",V.ref m1),(Str.ofString "domains",V.ref m2),(Str.ofString "outcome",V.ref ou),(Str.ofString "way",V.str wy)]) m1 = some (.lst (zs.map V.str)):=(upd_ne m1x).trans j9
  have i10:upd H9 x (.ins yX dx [(Str.ofString "name",V.str nm),(Str.ofString "names",V.ref m1),(Str.ofString "domains",V.ref m2),(Str.ofString "outcome",V.ref ou),(Str.ofString "way",V.str wy)]) m2 = some (.lst dv):=(upd_ne m2x).trans i9
  generalize upd H9 x (.ins yX dx [(Str.ofString "name",V.str nm),(Str.ofString "names",V.ref m1),(Str.ofString "domains",V.ref m2),(Str.ofString "outcome",V.ref ou),(Str.ofString "way",V.str wy)]) = H10 at k10 x10 j10 i10 ⊢
  have R10:RL NT H10 rx rws:=RL.same R5 (hide_same k10)
  have hrl10:=k10 _ _ rlx (s5 _ _ hrl)
  refine ⟨_,rfl,rl,rfl,⟨_,SqL.of hrl10⟩,compG_list (xs:=rx) (fun D i zs H'=>Same H10 H'∧H' D = some (.lst zs)∧RL (Fr H10 D) H' zs (rws.take i))
    (fun D hD=>⟨same_new hD _,upd_same,RefL.nil⟩) (fun D i zs H' hD _ h=>SqL.of (h.1 _ _ hrl10)) (fun D i y zs H' hD e h ts hts=>?_) (fun D zs H' hD h=>?_)⟩
  · obtain ⟨sm,eD,hz⟩:=h
    obtain ⟨r,w_,rfl,ew,ce,cv,g1,_,g2,g3⟩:=RefL.get (R10.same sm) e
    have hi:i < rx.length:=(List.getElem?_eq_some_iff.mp e).1
    obtain ⟨t0,t1,rfl⟩:∃ t0 t1,ts = [t0,t1]:=by
      match ts,hts with
      | [t0,t1],_=>exact ⟨t0,t1,rfl⟩
    refine ⟨r,_,rfl,SqT.of g1,rfl,_,_,rfl,_,_,rfl,rfl,⟨[some (.ref ce),some (.int w_.2)],rfl,rfl⟩,?_⟩
    refine ⟨_,rfl,_,rfl,ce,cv,w_,rfl,g2,g3,by rw [(hok w_ (List.mem_of_getElem? ew)).len]; omega,fun r2 H2 t2 hr2 hrow=>?_⟩
    have eD2:=t2 _ _ eD
    have hlz:zs.length ≤ 200:=by
      have:=hz.1
      rw [List.length_take] at this
      omega
    refine CYes.mk hi eD2 (small1000 (by omega)) ⟨(sm.trans t2).upd hD,upd_same,?_⟩
    rw [take_snoc ew]
    exact RL.updN (RefL.snoc (hz.same t2) (hrow.wk fun a h=>⟨sm.free h,fun z=>by rw [z,eD] at h; cases h⟩)) Fr.out eD2
  · obtain ⟨sm,eD,hz⟩:=h
    rw [hR.1,List.take_length] at hz
    refine ⟨_,rfl,x,_,dx,_,rfl,sm _ _ x10,bl.k_Table,bl.na_Table_rows,(by show 5 < 1000; decide),?_⟩
    have g11:upd H' x (.ins yX dx (putF (Str.ofString "rows") (V.ref D) [(Str.ofString "name",V.str nm),(Str.ofString "names",V.ref m1),(Str.ofString "domains",V.ref m2),(Str.ofString "outcome",V.ref ou),(Str.ofString "way",V.str wy)])) = upd H' x (.ins yX dx [(Str.ofString "name",V.str nm),(Str.ofString "names",V.ref m1),(Str.ofString "domains",V.ref m2),(Str.ofString "outcome",V.ref ou),(Str.ofString "way",V.str wy),(Str.ofString "rows",V.ref D)]):=by rw [pf5]
    rw [g11]
    have nDx:D ≠ x:=fun z=>by rw [z,x10] at hD; cases hD
    refine q _ _ D zs (fun b o hb e=>(upd_ne hb).trans (sm _ _ (k10 b o hb (s5 _ _ e)))) upd_same rfl rfl rfl rfl ⟨m1,m2,s5.free (free_back k6 x6 hm1),s5.free (free_back k7 x7 hm2),rfl,rfl,(upd_ne m1x).trans (sm _ _ j10),(upd_ne m2x).trans (sm _ _ i10)⟩ (s5.free (free_back k10 x10 hD)) ((upd_ne nDx).trans eD) ?_
    exact RL.same (RL.hideN (sm _ _ x10) (RefL.mono hz fun _ _ p=>p.wk fun a h=>s5.free (free_back k10 x10 h.1))) (hide_same fun b o hb e=>(upd_ne hb).trans e)
theorem O_35 (F:Fun K "_law_table" "_law_table" Y35 f fd) (bl:Bl K mg yA yE yN yO yP yQ yR yS yT yU yV yW yX cBook) (k_Table:MkCallee CX0 P w K mg base 6 "Table" yX ["self", "name", "names", "domains", "outcome", "way", "rows"] (J12 K yA yE yN yO yP yQ yR yS yT yU yV yW yX cBook)) (c__law_made:Callee P w K mg base 7 "_law_made" ["domain"] (J30 K yA yE yN yO yP yQ yR yS yT yU yV yW yX cBook)):FnOk P w K mg base CX0 8 f fd ["plan", "k"] (J35 K yA yE yN yO yP yQ yR yS yT yU yV yW yX cBook):=by
  refine F.ok Z35 (fun vs H Q E h=>?_) (fun cdv A outer s H vs Q E hr h=>?_)
  · obtain ⟨r,k,zs,ds,ts,fN,t,nm,po,rfl,hPl,ok,et,enm,epo,q⟩:=h
    rfl
  obtain ⟨r,k,zs,ds,ts,fN,t,nm,po,rfl,hPl,ok,et,enm,epo,q⟩:=h
  refine ⟨_,(pss_cut (ps_asg (pv 0) (pg_tup rfl (pgs_cons (pg_name (i:=2) Z35.nd rfl (Or.inr rfl)) (pgs_cons (pg_name (i:=3) Z35.nd rfl (Or.inr rfl)) (pgs_cons (pg_name (i:=4) Z35.nd rfl (Or.inl rfl)) pgs_nil)))))
     (pss_cut (ps_set (i:=5) Z35.nd rfl (Or.inl rfl) (pe_op op_add (pe_op op_sub (pe_callB call_len_seq rfl bl.len_ PySem.boot_len (pa_cons (pv 2) pa_nil)) (pe_callB call_len_seq rfl bl.len_ PySem.boot_len (pa_cons (pv 4) pa_nil))) (pv 1)))
     (pss_cut (ps_set (i:=6) Z35.nd rfl (Or.inl rfl) (pe_ix ix_tup (pe_ix ix_list (pv 4) (pv 1) (fun _ _=>rfl)) pe_int (fun _ _=>rfl)))
     (pss_cut (ps_compG (i:=7) Z35.nd rfl (Or.inl rfl) (pi_list (pe_ix ix_tup (pe_ix ix_list (pv 4) (pv 1) (fun _ _=>rfl)) pe_int (fun _ _=>rfl))) (cmpOkG_plain (N:=["row"]) (k:=1) rfl rfl (by decide +kernel) (by decide +kernel) (by decide +kernel)) rfl (fun _ C1 _ _=>(pg_name (i:=0) (show (["row"]:List Str).Nodup by decide +kernel) rfl (Or.inl rfl) (Or.inr rfl))) (fun _ C1 _ _=>pif_nil) (fun _ C1 _ _=>(pe_tup (pa_cons (pe_compG (pi_listK (K:=K) rfl (pe_ix (ix_tupK (K:=K) rfl) (pv 0) pe_int (fun _ _=>rfl))) (cmpOkG_plain (N:=["spans"]) (k:=1) rfl rfl (by decide +kernel) (by decide +kernel) (by decide +kernel)) rfl (fun _ C2 _ _=>(pg_name (i:=0) (show (["spans"]:List Str).Nodup by decide +kernel) rfl (Or.inl rfl) (Or.inr rfl))) (fun _ C2 _ _=>pif_nil) (fun _ C2 _ _=>(pe_callTy (call_list_ofK (K:=K) rfl) rfl bl.list_ PyProof.Rows.boot_list (pa_cons (pv 0) pa_nil)))) (pa_cons (pe_ix (ix_tupK (K:=K) rfl) (pv 0) pe_int (fun _ _=>rfl)) pa_nil)))))
     (pss_cut (ps_comp (i:=8) Z35.nd rfl (Or.inl rfl) (pi_list (pv 6)) (cmpOk_free (N:=["j", "names"]) (fr:=[2]) (cl:=[("names",s.heap.objs.size + 1)]) rfl rfl (by decide +kernel) (by decide +kernel) rfl (by decide +kernel) rfl rfl rfl (List.forall_mem_cons.mpr ⟨rfl,List.forall_mem_nil _⟩) rfl) rfl (fun _ _ _ _=>pif_nil) (fun _ _ _ _=>(pe_ix (ix_listK (K:=K) rfl) (pv 1) (pv 0) (fun _ _=>rfl))))
     (pss_cut (ps_comp (i:=9) Z35.nd rfl (Or.inl rfl) (pi_list (pv 6)) (cmpOk_free (N:=["j", "domains"]) (fr:=[3]) (cl:=[("domains",s.heap.objs.size + 1 + 1)]) rfl rfl (by decide +kernel) (by decide +kernel) rfl (by decide +kernel) rfl rfl rfl (List.forall_mem_cons.mpr ⟨rfl,List.forall_mem_nil _⟩) rfl) rfl (fun _ _ _ _=>pif_nil) (fun _ _ _ _=>(pe_fn c__law_made hr rfl (pa_cons (pe_ix (ix_listK (K:=K) rfl) (pv 1) (pv 0) (fun _ _=>rfl)) pa_nil))))
     (pss_one (ps_ret (pe_mk k_Table pass0 hr rfl (pa_cons (pe_ix ix_list (pv 2) (pv 5) (fun _ _=>rfl)) (pa_cons (pv 8) (pa_cons (pv 9) (pa_cons (pe_fn c__law_made hr rfl (pa_cons (pe_ix ix_list (pv 3) (pv 5) (fun _ _=>rfl)) pa_nil)) (pa_cons (pe_ix ix_tup (pe_ix ix_list (pv 4) (pv 1) (fun _ _=>rfl)) pe_int (fun _ _=>rfl)) (pa_cons (pv 7) pa_nil))))))))))))))),?_⟩
  obtain ⟨nl,dl,tl_,dv,tv,er,enl,edl,hdv,etl,htv⟩:=id hPl
  obtain ⟨ta,eta,cl,rl,rx,g1,g2,g3,g4⟩:=htv.2 k t et
  have hzl:(zs.map V.str).length = zs.length:=List.length_map _
  have hl1:=ok.len
  have hl2:=ok.tab
  have htl:tv.length = ts.length:=htv.1
  have h7:=ok.n7
  have tok:=ok.tabs k t et
  have hlt:=ok.lt et
  have hown:=ok.own et
  have hc3:t.cols.length ≤ 3:=tok.ok.few
  have hc1:1 ≤ t.cols.length:=tok.ok.some_
  have hr200:=tok.few
  have hvl:(vN t.cols).length = t.cols.length:=vN_len _
  refine ⟨fun σ' H'=>H' = H∧σ' = [some (.ref r),some (.int (k:Int)),some (.ref nl),some (.ref dl),some (.ref tl_),none,none,none,none,none],⟨_,rfl,r,_,rfl,SqT.of er,rfl,_,_,rfl,_,_,rfl,_,_,rfl,rfl,rfl,rfl⟩,?_⟩
  rintro σ1 H1 ⟨rfl,rfl⟩
  refine ⟨fun σ' H'=>H' = H1∧σ' = [some (.ref r),some (.int (k:Int)),some (.ref nl),some (.ref dl),some (.ref tl_),some (.int ((fN + k:Nat):Int)),none,none,none,none],⟨_,rfl,nl,_,rfl,.inl (SqL.of enl),_,rfl,tl_,_,rfl,.inl (SqL.of etl),_,_,rfl,rfl,_,rfl,_,_,rfl,rfl,rfl,?_⟩,?_⟩
  · rw [show ((fN + k:Nat):Int) = (((zs.map V.str).length:Nat):Int) - ((tv.length:Nat):Int) + (k:Int) by omega]
    rfl
  rintro σ2 H2 ⟨rfl,rfl⟩
  refine ⟨fun σ' H'=>H' = H2∧σ' = [some (.ref r),some (.int (k:Int)),some (.ref nl),some (.ref dl),some (.ref tl_),some (.int ((fN + k:Nat):Int)),some (.ref cl),none,none,none],⟨_,rfl,_,rfl,tl_,_,_,_,rfl,rfl,SqL.of etl,atI_nat eta,ta,_,_,_,rfl,rfl,SqT.of g1,rfl,rfl,rfl⟩,?_⟩
  rintro σ3 H3 ⟨rfl,rfl⟩
  refine ⟨fun σ' H'=>Same H3 H'∧∃ (ro:Addr) (zx:List V),H' ro = some (.lst zx)∧RL NT H' zx t.rows∧σ' = [some (.ref r),some (.int (k:Int)),some (.ref nl),some (.ref dl),some (.ref tl_),some (.int ((fN + k:Nat):Int)),some (.ref cl),some (.ref ro),none,none],?_,?_⟩
  · refine ⟨_,rfl,_,rfl,tl_,_,_,_,rfl,rfl,SqL.of etl,atI_nat eta,ta,_,_,_,rfl,rfl,SqT.of g1,rfl,rl,rfl,⟨_,SqL.of g3⟩,compG_list (xs:=rx) (fun D i ys H'=>Same H3 H'∧H' D = some (.lst ys)∧RL NT (hide H' D) ys (t.rows.take i)) (fun D hD=>⟨same_new hD _,upd_same,RefL.nil⟩) (fun D i ys H' hD _ h=>SqL.of (h.1 _ _ g3)) (fun D i y ys H' hD e h ts_ hts=>?_) (fun D ys H' hD h=>?_)⟩
    · obtain ⟨sm,eD,hz⟩:=h
      obtain ⟨r0,w,rfl,ew,ce,cs,f1,_,f2,f3⟩:=RefL.get g4 e
      have hi:i < rx.length:=(List.getElem?_eq_some_iff.mp e).1
      have hrl:rx.length = t.rows.length:=g4.1
      obtain ⟨u0,rfl⟩:∃ u0,ts_ = [u0]:=by
        match ts_,hts with
        | [u0],_=>exact ⟨u0,rfl⟩
      have fit:=tok.rows w (List.mem_of_getElem? ew)
      have hcsl:cs.length = w.1.length:=f3.1
      have hwl:=fit.len
      refine ⟨⟨[some (.ref r0)],rfl,rfl⟩,?_⟩
      refine ⟨_,rfl,r0,_,_,_,rfl,rfl,SqT.of (sm _ _ f1),rfl,ce,rfl,⟨_,SqL.of (sm _ _ f2)⟩,compG_list (xs:=cs) (fun D2 j ws H4=>Same H' H4∧H4 D2 = some (.lst ws)∧CL (Fr H' D2) H4 ws (w.1.take j)) (fun D2 hD2=>⟨same_new hD2 _,upd_same,RefL.nil⟩) (fun D2 j ws H4 hD2 _ h=>SqL.of (h.1 _ _ (sm _ _ f2))) (fun D2 j y2 ws H4 hD2 e2 h ts2 hts2=>?_) (fun D2 ws H4 hD2 h=>?_)⟩
      · obtain ⟨s4,eD2,hw⟩:=h
        obtain ⟨l,ps,rfl,eps,_,yl,el,hpl⟩:=RefL.get f3 e2
        have hj:j < cs.length:=(List.getElem?_eq_some_iff.mp e2).1
        obtain ⟨v0,rfl⟩:∃ v0,ts2 = [v0]:=by
          match ts2,hts2 with
          | [v0],_=>exact ⟨v0,rfl⟩
        have sA:=sm.trans s4
        refine ⟨⟨[some (.ref l)],rfl,rfl⟩,_,rfl,l,_,rfl,.inl (SqL.of (sA _ _ el)),fun p hp=>?_⟩
        have u1:=same_new hp (.lst yl)
        have ep:upd H4 p (.lst yl) p = some (.lst yl):=upd_same
        have nD2:p ≠ D2:=fun z=>by rw [z,eD2] at hp; cases hp
        have hp' : H' p = none:=s4.free hp
        generalize upd H4 p (.lst yl) = H5 at u1 ep ⊢
        have eD5:=u1 _ _ eD2
        have hw2:CL (Fr H' D2) H5 (ws ++ [.ref p]) (w.1.take j ++ [ps]):=RefL.snoc (hw.same u1) ⟨⟨hp',nD2⟩,yl,ep,hpl.mono (sA.trans u1).tups⟩
        refine CYes.mk hj eD5 (small1000 (by have:=hw.1; rw [List.length_take] at this; omega)) ⟨(s4.trans u1).upd hD2,upd_same,?_⟩
        rw [take_snoc eps]
        exact hw2.updN Fr.out eD5
      · obtain ⟨s4,eD2,hw⟩:=h
        rw [hcsl,List.take_length] at hw
        have nD2:D2 ≠ D:=fun z=>by rw [z,eD] at hD2; cases hD2
        refine ⟨_,rfl,r0,_,_,_,rfl,rfl,SqT.of ((sm.trans s4) _ _ f1),rfl,small2,fun tt_ htt=>?_⟩
        have u5:=same_new htt (.tup [.ref D2,.int w.2])
        have eT:upd H4 tt_ (.tup [.ref D2,.int w.2]) tt_ = some (.tup [.ref D2,.int w.2]):=upd_same
        generalize upd H4 tt_ (.tup [.ref D2,.int w.2]) = H5 at u5 eT ⊢
        have uA:=s4.trans u5
        have eD5:=uA _ _ eD
        have hrow:RowA NT (hide H5 D) tt_ w:=⟨D2,ws,hide_tups eD5 _ _ eT,trivial,hide_of (u5 _ _ eD2) nD2,RefL.mono (hw.same u5) fun l ps ⟨⟨n1,_⟩,yl,el,hpl⟩=>⟨trivial,yl,hide_of el (fun z=>by rw [z,eD] at n1; cases n1),hpl.mono (hide_tups eD5)⟩⟩
        refine CYes.mk hi eD5 (small1000 (by have:=hz.1; rw [List.length_take] at this; omega)) ⟨(sm.trans uA).upd hD,upd_same,?_⟩
        rw [hide_upd,take_snoc ew]
        exact RefL.snoc (RefL.mono hz fun _ _ p=>p.same (hide_mono uA)) hrow
    · obtain ⟨sm,eD,hz⟩:=h
      rw [g4.1,List.take_length] at hz
      exact ⟨sm,D,ys,eD,RefL.mono hz (fun _ _ p=>p.same (hide_le H' D)),rfl⟩
  rintro σ4 H4 ⟨s4,ro,zx,ero,hro,rfl⟩
  refine ⟨fun σ' H'=>Same H4 H'∧∃ ha:Addr,H' ha = some (.lst ((prm t.cols zs).map V.str))∧σ' = [some (.ref r),some (.int (k:Int)),some (.ref nl),some (.ref dl),some (.ref tl_),some (.int ((fN + k:Nat):Int)),some (.ref cl),some (.ref ro),some (.ref ha),none],?_,?_⟩
  · refine ⟨_,rfl,cl,rfl,⟨_,SqL.of (s4 _ _ g2)⟩,comp_list (xs:=vN t.cols) (fun D i ys H'=>Same H4 H'∧H' D = some (.lst ys)∧ys = (prm (t.cols.take i) zs).map V.str) (fun D hD=>⟨same_new hD _,upd_same,rfl⟩) (fun D i ys H' hD _ h=>SqL.of (h.1 _ _ (s4 _ _ g2))) (fun D i y ys H' hD e h=>?_) (fun D ys H' hD h=>?_)⟩
    · obtain ⟨sm,eD,rfl⟩:=h
      obtain ⟨j,rfl,ej⟩:=vN_of e
      have hj:=hlt j (List.mem_of_getElem? ej)
      have ez:=List.getElem?_eq_getElem (l:=zs) (i:=j) (by omega)
      have hi:i < (vN t.cols).length:=(List.getElem?_eq_some_iff.mp e).1
      refine ⟨_,rfl,_,rfl,nl,_,_,_,rfl,rfl,SqL.of ((s4.trans sm) _ _ enl),atI_nat (put_strs ez),CYes.mk hi eD (small1000 ?_) ⟨sm.upd hD,upd_same,?_⟩⟩
      · rw [List.length_map,(prm_get (os:=t.cols.take i) (xs:=zs) fun j hj=>by rw [hl1]; exact hlt j (List.mem_of_mem_take hj)).1,List.length_take]; omega
      · rw [take_snoc ej,prm_snoc ez,List.map_append]; rfl
    · obtain ⟨sm,eD,rfl⟩:=h
      rw [hvl,List.take_length] at eD
      exact ⟨sm,D,eD,rfl⟩
  rintro σ5 H5 ⟨s5,ha,eha,rfl⟩
  have s35:=s4.trans s5
  refine ⟨fun σ' H'=>Same H5 H'∧∃ (ka:Addr) (kv:List V),H' ka = some (.lst kv)∧RefL kv (prm t.cols (ds.map PD.k)) (DomN (fun a=>H5 a = none) yV yW H')∧σ' = [some (.ref r),some (.int (k:Int)),some (.ref nl),some (.ref dl),some (.ref tl_),some (.int ((fN + k:Nat):Int)),some (.ref cl),some (.ref ro),some (.ref ha),some (.ref ka)],?_,?_⟩
  · refine ⟨_,rfl,cl,rfl,⟨_,SqL.of (s35 _ _ g2)⟩,comp_list (xs:=vN t.cols) (fun D i ys H'=>Same H5 H'∧H' D = some (.lst ys)∧RefL ys (prm (t.cols.take i) (ds.map PD.k)) (DomN (Fr H5 D) yV yW H')) (fun D hD=>⟨same_new hD _,upd_same,RefL.nil⟩) (fun D i ys H' hD _ h=>SqL.of (h.1 _ _ (s35 _ _ g2))) (fun D i y ys H' hD e h=>?_) (fun D ys H' hD h=>?_)⟩
    · obtain ⟨sm,eD,hz⟩:=h
      obtain ⟨j,rfl,ej⟩:=vN_of e
      have hj:=hlt j (List.mem_of_getElem? ej)
      have ed:=List.getElem?_eq_getElem (l:=ds) (i:=j) hj
      obtain ⟨da,e2,hpd⟩:=hdv.2 j _ ed
      have okd:=ok.doms _ (List.mem_of_getElem? ed)
      generalize ds[j] = p at ed hpd okd
      have hi:i < (vN t.cols).length:=(List.getElem?_eq_some_iff.mp e).1
      have sA:=s35.trans sm
      have ez:(ds.map PD.k)[j]? = some p.k:=by rw [List.getElem?_map,ed]; rfl
      refine ⟨_,rfl,_,rfl,dl,_,_,_,rfl,rfl,SqL.of (sA _ _ edl),atI_nat e2,da,p,rfl,hpd.same sA,okd,fun x H6 s6 hx=>?_⟩
      have eD6:=s6 _ _ eD
      have hz2:RefL (ys ++ [.ref x]) (prm (t.cols.take i) (ds.map PD.k) ++ [p.k]) (DomN (Fr H5 D) yV yW H6):=RefL.snoc (RefL.mono hz fun _ _ p=>p.same s6) (hx.wk fun a h=>⟨sm.free h,fun z=>by rw [z,eD] at h; cases h⟩)
      refine CYes.mk hi eD6 (small1000 ?_) ⟨(sm.trans s6).upd hD,upd_same,?_⟩
      · rw [hz.1,(prm_get (os:=t.cols.take i) (xs:=ds.map PD.k) fun j hj=>by rw [List.length_map]; exact hlt j (List.mem_of_mem_take hj)).1,List.length_take]; omega
      · rw [take_snoc ej,prm_snoc2 ez]
        exact RefL.mono hz2 fun _ _ p=>p.upd Fr.out eD6
    · obtain ⟨sm,eD,hz⟩:=h
      rw [hvl,List.take_length] at hz
      exact ⟨sm,D,ys,eD,RefL.mono hz (fun _ _ p=>p.wk fun a h=>h.1),rfl⟩
  rintro σ6 H6 ⟨s6,ka,kv,eka,hkv,rfl⟩
  have s36:=s35.trans s6
  obtain ⟨da,e2,hpd⟩:=hdv.2 (fN + k) po epo
  have okp:=ok.doms po (List.mem_of_getElem? epo)
  refine ⟨_,rfl,_,rfl,nl,_,_,_,rfl,rfl,SqL.of (s36 _ _ enl),atI_nat (put_strs enm),_,rfl,_,rfl,_,rfl,_,rfl,dl,_,_,_,rfl,rfl,SqL.of (s36 _ _ edl),atI_nat e2,da,po,rfl,hpd.same s36,okp,fun ou H7 s7 hou=>?_⟩
  have s37:=s36.trans s7
  have houN:=hou
  have hou:=hou.dom
  refine ⟨_,rfl,_,rfl,tl_,_,_,_,rfl,rfl,SqL.of (s37 _ _ etl),atI_nat eta,ta,_,_,_,rfl,rfl,SqT.of (s37 _ _ g1),rfl,_,rfl,fun x dx hx hdx hne=>?_⟩
  have s8:Same H7 (upd (upd H7 dx (.own x)) x (.ins yX dx [])):=(same_new hdx _).upd hx
  have s68:=s7.trans s8
  have ltz:∀ j ∈ t.cols,j < zs.length:=fun j hj=>by rw [hl1]; exact hlt j hj
  have gz:=prm_get (os:=t.cols) (xs:=zs) ltz
  have nzs:nm ∉ prm t.cols zs:=fun hm=>by
    obtain ⟨j,ej⟩:=List.getElem?_of_mem hm
    have hj:j < t.cols.length:=by rw [← gz.1]; exact (List.getElem?_eq_some_iff.mp ej).1
    have ec:=List.getElem?_eq_getElem hj
    rw [gz.2 j _ ec] at ej
    have:=nd_ix ok.nd ej enm
    have h9:=tok.ok.lt _ (List.mem_of_getElem? ec)
    omega
  refine ⟨x,dx,ha,ka,ou,ro,nm,t.way,prm t.cols zs,kv,zx,prm t.cols (ds.map fun p=>(p.lo,p.hi)),(po.lo,po.hi),t.rows,rfl,upd_same,s68 _ _ (s6 _ _ eha),?_,List.nodup_cons.mpr ⟨nzs,prm_nodup tok.ok.nd ok.nd ltz⟩,by rw [gz.1]; exact hc1,by rw [gz.1]; omega,tok.ok.way,fun z=>?_,s68 _ _ eka,?_,?_,s68 _ _ ((s5.trans s6) _ _ ero),hro.same ((s5.trans s6).trans s68),by rw [hro.1]; exact hr200,?_,ok.rows et epo,fun H' fs rl' xs' k1 k2 k3 k3a k3b k3c ⟨na',dl',fn,fd,k3d,k3e,k3f,k3g⟩ fr k4 k5=>?_⟩
  · intro z hz
    rcases List.mem_cons.mp hz with rfl | hz
    · exact ok.words _ (List.mem_of_getElem? enm)
    · exact ok.words z (mem_prm hz)
  · have he:=tok.ok.sum z po epo
    rw [PD.k_none he] at hou
    obtain ⟨dx2,e⟩:=hou
    exact ⟨dx2,_,s8 _ _ e⟩
  · have e:prm t.cols (ds.map fun p=>(p.lo,p.hi)) = (prm t.cols (ds.map PD.k)).map (·.2):=by
      rw [← prm_map,List.map_map]
      rfl
    rw [e]
    refine ⟨by rw [List.length_map]; exact hkv.1,fun j b eb=>?_⟩
    rw [List.getElem?_map] at eb
    cases ec:(prm t.cols (ds.map PD.k))[j]? with
    | none=>rw [ec] at eb; cases eb
    | some kk =>
      rw [ec] at eb
      cases eb
      obtain ⟨r1,e1,p1⟩:=hkv.2 j kk ec
      exact ⟨r1,e1,(p1.dom.same s68).dom⟩
  · exact (hou.same s8).dom
  · rw [(prm_get (os:=t.cols) (xs:=ds.map fun p=>(p.lo,p.hi)) fun j hj=>by rw [List.length_map]; exact hlt j hj).1]; omega
  · have s9:Same H7 H':=fun b u e=>k1 b u (ne_of_none e hx) (s8 _ _ e)
    have sF:∀ {a:Addr},upd (upd H7 dx (.own x)) x (.ins yX dx []) a = none→H3 a = none:=fun h=>(s37.trans s8).free h
    exact ⟨rfl,q x H' (s37.trans s9) ⟨t,nm,po,ou,kv,rl',dx,na',dl',fs,xs',et,enm,epo,k2,k3,k3c,k3a,k3b,k3d,k3e,sF fn,sF fd,sF fr,k3f,k3g,k4,RefL.mono k5 (fun _ _ p=>p.wk fun a h=>sF h),by rw [k5.1]; exact hr200,RefL.mono hkv (fun _ _ p=>(p.same (s7.trans s9)).wk fun a h=>s35.free h),(houN.same s9).wk fun a h=>s36.free h⟩⟩
theorem O_25 (F:Fun K "law" "law" Y25 f fd) (bl:Bl K mg yA yE yN yO yP yQ yR yS yT yU yV yW yX cBook) (c__law_book:Callee P w K mg base 8 "_law_book" ["script"] (J27 K yA yE yN yO yP yQ yR yS yT yU yV yW yX cBook)) (k_Book:MkCallee CX0 P w K mg base 7 "Book" cBook ["self", "facts", "tables"] (J0 K yA yE yN yO yP yQ yR yS yT yU yV yW yX cBook)) (c__law_table:Callee P w K mg base 8 "_law_table" ["plan", "k"] (J35 K yA yE yN yO yP yQ yR yS yT yU yV yW yX cBook)) (c__law_facts:Callee P w K mg base 8 "_law_facts" ["plan"] (J29 K yA yE yN yO yP yQ yR yS yT yU yV yW yX cBook)) (c_table_of:CalleeX P w K mg base 8 "table_of" ["book", "name"] (J47 K yA yE yN yO yP yQ yR yS yT yU yV yW yX cBook)) (c_asks:CalleeX P w K mg base 8 "asks" ["book", "name"] (J22 K yA yE yN yO yP yQ yR yS yT yU yV yW yX cBook)) (c__law_no_table:Callee P w K mg base 8 "_law_no_table" ["book", "name"] (J31 K yA yE yN yO yP yQ yR yS yT yU yV yW yX cBook)) (c__law_at:Callee P w K mg base 8 "_law_at" ["script", "k"] (J26 K yA yE yN yO yP yQ yR yS yT yU yV yW yX cBook)):FnOk P w K mg base CX0 9 f fd ["script"] (J25 K):=by
  refine F.ok Z25 (fun vs H Q E h=>?_) (fun cdv A outer s H vs Q E hr h=>?_)
  · obtain ⟨a,ns,rfl,hS,h63,q⟩:=h
    rfl
  obtain ⟨a,ns,rfl,hS,h63,q⟩:=h
  refine ⟨_,(pss_cut (ps_set (i:=1) Z25.nd rfl (Or.inr rfl) (pe_fn c__law_book hr rfl (pa_cons (pv 0) pa_nil)))
     (pss_cut (ps_asg (pv 1) (pg_tup rfl (pgs_cons (pg_name (i:=2) Z25.nd rfl (Or.inr rfl)) (pgs_cons (pg_name (i:=3) Z25.nd rfl (Or.inl rfl)) (pgs_cons (pg_name (i:=4) Z25.nd rfl (Or.inl rfl)) pgs_nil)))))
     (pss_cut (ps_set (i:=5) Z25.nd rfl (Or.inr rfl) (pe_op op_sub (pe_callB call_len_seq rfl bl.len_ PySem.boot_len (pa_cons (pv 2) pa_nil)) (pe_callB call_len_seq rfl bl.len_ PySem.boot_len (pa_cons (pv 4) pa_nil))))
     (pss_cut (ps_comp (i:=6) Z25.nd rfl (Or.inl rfl) (pi_range1 rfl bl.range_ (pa_cons (pe_callB call_len_seq rfl bl.len_ PySem.boot_len (pa_cons (pv 4) pa_nil)) pa_nil)) (cmpOk_free (N:=["k", "plan"]) (fr:=[1]) (cl:=[("plan",s.heap.objs.size + 1)]) rfl rfl (by decide +kernel) (by decide +kernel) rfl (by decide +kernel) rfl rfl rfl (List.forall_mem_cons.mpr ⟨rfl,List.forall_mem_nil _⟩) rfl) rfl (fun _ _ _ _=>pif_nil) (fun _ _ _ _=>(pe_fn c__law_table hr rfl (pa_cons (pv 1) (pa_cons (pv 0) pa_nil)))))
     (pss_cut (ps_if (pt_cmpR op_eq (pe_op op_mod (pe_op op_fdiv (pe_fn c__law_at hr rfl (pa_cons (pv 0) (pa_cons pe_int pa_nil))) pe_int) pe_int) pe_int (nomark _))
     (pss_one (ps_expr (pe_bm0 PySem.F.plainAttrs_list PySem.F.slot_list_reverse PySem.F.type_list_reverse mt_reverse (pv 6))))
     pss_nil)
     (pss_cut (ps_set (i:=7) Z25.nd rfl (Or.inl rfl) (pe_mk k_Book pass0 hr rfl (pa_cons (pe_fn c__law_facts hr rfl (pa_cons (pv 1) pa_nil)) (pa_cons (pv 6) pa_nil))))
     (pss_cons (ps_for PassesOwn.never rfl (pi_range1 rfl bl.range_ (pa_cons (pe_callB call_len_seq rfl bl.len_ PySem.boot_len (pa_cons (pv 4) pa_nil)) pa_nil)) (pg_name (i:=8) Z25.nd rfl (Or.inl rfl))
     (pss_cut (ps_set (i:=9) Z25.nd rfl (Or.inl rfl) (pe_fnE c_table_of pass1 hr rfl (pa_cons (pv 7) (pa_cons (pe_ix ix_list (pv 2) (pe_op op_add (pv 5) (pv 8)) (fun _ _=>rfl)) pa_nil))))
     (pss_cut (ps_comp (i:=10) Z25.nd rfl (Or.inl rfl) (pi_list (pe_ix ix_tup (pe_ix ix_list (pv 4) (pv 8) (fun _ _=>rfl)) pe_int (fun _ _=>rfl))) (cmpOk_free (N:=["j", "names"]) (fr:=[2]) (cl:=[("names",s.heap.objs.size + 1 + 1)]) rfl rfl (by decide +kernel) (by decide +kernel) rfl (by decide +kernel) rfl rfl rfl (List.forall_mem_cons.mpr ⟨rfl,List.forall_mem_nil _⟩) rfl) rfl (fun _ _ _ _=>pif_nil) (fun _ _ _ _=>(pe_ix (ix_listK (K:=K) rfl) (pv 1) (pv 0) (fun _ _=>rfl))))
     (pss_cut (ps_if (PW.pt (pw_or (pt_cmpR op_ne (pe_fld (pv 9) rfl) (pe_ix ix_list (pv 2) (pe_op op_add (pv 5) (pv 8)) (fun _ _=>rfl)) (nomark _)) (pw_or (pt_cmpR (op_neL hr) (pe_fld (pv 9) rfl) (pv 10) (nomark _)) (pw_or1 (pt_cmpR op_ne (pe_fld (pv 9) rfl) (pe_ix ix_tup (pe_ix ix_list (pv 4) (pv 8) (fun _ _=>rfl)) pe_int (fun _ _=>rfl)) (nomark _))))))
     (pss_one (ps_ret pe_bl))
     pss_nil)
     (pss_cut (ps_if (pt_cmpR (op_neDL hr) (pe_fld (pv 9) rfl) (pe_ix ix_tup (pe_ix ix_list (pv 4) (pv 8) (fun _ _=>rfl)) pe_int (fun _ _=>rfl)) (nomark _))
     (pss_one (ps_ret pe_bl))
     pss_nil)
     (pss_cut (ps_set (i:=11) Z25.nd rfl (Or.inl rfl) (pe_fnE c_asks pass1 hr rfl (pa_cons (pv 7) (pa_cons (pe_ix ix_list (pv 2) (pe_op op_add (pv 5) (pv 8)) (fun _ _=>rfl)) pa_nil))))
     (pss_cut (ps_comp (i:=12) Z25.nd rfl (Or.inl rfl) (pi_list (pe_ix ix_tup (pe_ix ix_list (pv 4) (pv 8) (fun _ _=>rfl)) pe_int (fun _ _=>rfl))) (cmpOk_free (N:=["j", "names", "first"]) (fr:=[2,5]) (cl:=[("names",s.heap.objs.size + 1 + 1),("first",s.heap.objs.size + 1 + 1 + 1)]) rfl rfl (by decide +kernel) (by decide +kernel) rfl (by decide +kernel) rfl rfl rfl (List.forall_mem_cons.mpr ⟨rfl,List.forall_mem_cons.mpr ⟨rfl,List.forall_mem_nil _⟩⟩) rfl) rfl (fun _ _ _ _=>(pif_one (pt_cmpR op_ge (pv 0) (pv 2) (nomark _)))) (fun _ _ _ _=>(pe_ix (ix_listK (K:=K) rfl) (pv 1) (pv 0) (fun _ _=>rfl))))
     (pss_cut (ps_if (PW.pt (pw_or (pt_not (pt_val (pe_callB call_isiG rfl bl.isinstance_ PyProof.Rows.boot_isinstance (pa_cons (pv 11) (pa_cons (pe_bltn (v:=.ty "list") rfl bl.list_ PyProof.Rows.boot_list rfl) pa_nil))))) (pw_or1 (pt_cmpR (op_neL hr) (pv 11) (pv 12) (nomark _)))))
     (pss_one (ps_ret pe_bl))
     pss_nil)
     (pss_cut (ps_expr (pe_bm PySem.F.plainAttrs_list PySem.F.slot_list_append PySem.F.type_list_append mt_append (pv 11) (pa_cons pe_str pa_nil)))
     (pss_one (ps_if (pt_cmpR (op_neL hr) (pe_fnE c_asks pass1 hr rfl (pa_cons (pv 7) (pa_cons (pe_ix ix_list (pv 2) (pe_op op_add (pv 5) (pv 8)) (fun _ _=>rfl)) pa_nil))) (pv 12) (nomark _))
     (pss_one (ps_ret pe_bl))
     pss_nil)))))))))))
     (pss_one (ps_ret (pe_and (pe_fn c__law_no_table hr rfl (pa_cons (pv 7) (pa_cons (pe_ix ix_list (pv 2) pe_int (fun _ _=>rfl)) pa_nil))) (pe_one (pe_fn c__law_no_table hr rfl (pa_cons (pv 7) (pa_cons (pe_op op_add_str (pe_ix ix_list (pv 2) pe_int (fun _ _=>rfl)) pe_str) pa_nil)))))))))))))),?_⟩
  refine ⟨fun σ' H'=>Same H H'∧∃ (r:Addr) (zs:List Str) (ds:List PD) (ts:List PT) (fN:Nat),PlA H' r zs ds ts∧PlOk zs ds ts fN∧1 ≤ fN∧(∀ z ∈ zs,∀ y ∈ zs,z.length = y.length)∧(∀ z ∈ zs,SmB z)∧σ' = [some (.ref a),some (.ref r),none,none,none,none,none,none,none,none,none,none,none],⟨_,rfl,a,ns,rfl,hS,fun r zs ds ts fN H' s h1 h2 h3 h4 h5=>⟨s,r,zs,ds,ts,fN,h1,h2,h3,h4,h5,rfl⟩⟩,?_⟩
  rintro σ1 H1 ⟨s1,r,zs,ds,ts,fN,hPl,ok,hf1,hlz,hsm,rfl⟩
  obtain ⟨nl,dl,tl_,dv,tv,er,enl,edl,hdv,etl,htv⟩:=id hPl
  have htl:tv.length = ts.length:=htv.1
  have hzl:(zs.map V.str).length = zs.length:=List.length_map _
  have h7:=ok.n7
  have hl1:=ok.len
  have hl2:=ok.tab
  have hS1:=s1.seq hS
  refine ⟨fun σ' H'=>H' = H1∧σ' = [some (.ref a),some (.ref r),some (.ref nl),some (.ref dl),some (.ref tl_),none,none,none,none,none,none,none,none],⟨_,rfl,r,_,rfl,SqT.of er,rfl,_,_,rfl,_,_,rfl,_,_,rfl,rfl,rfl,rfl⟩,?_⟩
  rintro σ2 H2 ⟨rfl,rfl⟩
  refine ⟨fun σ' H'=>H' = H2∧σ' = [some (.ref a),some (.ref r),some (.ref nl),some (.ref dl),some (.ref tl_),some (.int (fN:Int)),none,none,none,none,none,none,none],⟨_,rfl,nl,_,rfl,.inl (SqL.of enl),_,rfl,tl_,_,rfl,.inl (SqL.of etl),_,_,rfl,rfl,rfl,?_⟩,?_⟩
  · rw [show (fN:Int) = (((zs.map V.str).length:Nat):Int) - ((tv.length:Nat):Int) by omega]
    rfl
  rintro σ3 H3 ⟨rfl,rfl⟩
  refine ⟨fun σ' H'=>Same H3 H'∧∃ (ma:Addr) (mv:List V),H3 ma = none∧H' ma = some (.lst mv)∧RefL mv (List.range ts.length) (TbN (Fr H3 ma) yX yV yW H' zs ds ts fN)∧σ' = [some (.ref a),some (.ref r),some (.ref nl),some (.ref dl),some (.ref tl_),some (.int (fN:Int)),some (.ref ma),none,none,none,none,none,none],?_,?_⟩
  · refine ⟨_,rfl,tl_,_,rfl,.inl (SqL.of etl),_,rfl,(by omega),(by omega),comp_range (fun D i ys H'=>Same H3 H'∧H' D = some (.lst ys)∧RefL ys (List.range i) (TbN (Fr H3 D) yX yV yW H' zs ds ts fN)) (fun D hD=>⟨same_new hD _,upd_same,RefL.nil⟩) (fun D i ys H' hD hi h=>?_) (fun D ys H' hD h=>?_)⟩
    · obtain ⟨sm,eD,hy⟩:=h
      rw [Int.toNat_natCast] at hi
      have et:=List.getElem?_eq_getElem (l:=ts) (i:=i) (by omega)
      generalize ts[i] = t at et
      have enm:=List.getElem?_eq_getElem (l:=zs) (i:=fN + i) (by omega)
      have epo:=List.getElem?_eq_getElem (l:=ds) (i:=fN + i) (by omega)
      refine ⟨_,rfl,_,rfl,r,i,zs,ds,ts,fN,t,_,_,(by rw [show (0:Int) + (i:Int) = (i:Int) by omega]),hPl.same sm,ok,et,enm,epo,fun x H4 s4 hx=>?_⟩
      have eD4:=s4 _ _ eD
      refine CYes.mk (by omega) eD4 (small1000 (by rw [hy.1,List.length_range]; omega)) ⟨(sm.trans s4).upd hD,upd_same,?_⟩
      rw [List.range_succ]
      exact RefL.mono (RefL.snoc (RefL.mono hy fun _ _ p=>p.same s4) (hx.wk fun b h=>⟨sm.free h,fun z=>by rw [z,eD] at h; cases h⟩)) fun _ _ p=>p.upd Fr.out eD4
    · obtain ⟨sm,eD,hy⟩:=h
      rw [Int.toNat_natCast,htl] at hy
      exact ⟨sm,D,ys,hD,eD,hy,rfl⟩
  rintro σ4 H4 ⟨s4,ma,mv,nma,ema,hmv,rfl⟩
  refine ⟨fun σ' H'=>Same H3 H'∧∃ (mv:List V) (L:List Nat),H' ma = some (.lst mv)∧(L = List.range ts.length∨L = (List.range ts.length).reverse)∧RefL mv L (TbA yX yV yW H' zs ds ts fN)∧σ' = [some (.ref a),some (.ref r),some (.ref nl),some (.ref dl),some (.ref tl_),some (.int (fN:Int)),some (.ref ma),none,none,none,none,none,none],?_,?_⟩
  · refine ⟨_,rfl,a,ns,0,rfl,s4.seq hS1,Int.le_refl _,fun c=>⟨_,_,rfl,rfl,⟨by decide,by decide⟩,_,_,rfl,rfl,(by show (0:Int) < 2; decide),rfl,_,rfl,ite2 (fun g=>?_) (fun g=>?_)⟩⟩
    · exact ⟨_,rfl,.inl ⟨rfl,_,SqL.of ema⟩,ma,_,rfl,rfl,ema,s4.upd nma,_,_,upd_same,.inr rfl,RefL.mono hmv.rev (fun _ _ p=>(p.upd Fr.out ema).tb),rfl⟩
    · exact ⟨s4,_,_,ema,.inl rfl,RefL.mono hmv (fun _ _ p=>p.tb),rfl⟩
  rintro σ5 H5 ⟨s5,mw,Lk,ema5,hLk,hmw,rfl⟩
  have hlen:Lk.length = ts.length:=by
    rcases hLk with rfl | rfl
    · exact List.length_range
    · rw [List.length_reverse]; exact List.length_range
  have hmem:∀ k,k ∈ Lk↔k < ts.length:=by
    rcases hLk with rfl | rfl
    · exact fun k=>List.mem_range
    · exact fun k=>by rw [List.mem_reverse]; exact List.mem_range
  have hnd:Lk.Nodup:=by
    rcases hLk with rfl | rfl
    · exact List.nodup_range
    · exact List.pairwise_reverse.mpr (List.Pairwise.imp (fun h z=>h z.symm) List.nodup_range)
  refine ⟨fun σ' H'=>Same H5 H'∧∃ bo:Addr,BkT yX yV yW cBook H' bo zs ds ts fN mw Lk∧σ' = [some (.ref a),some (.ref r),some (.ref nl),some (.ref dl),some (.ref tl_),some (.int (fN:Int)),some (.ref ma),some (.ref bo),none,none,none,none,none],?_,?_⟩
  · refine ⟨_,rfl,r,zs,ds,ts,fN,rfl,hPl.same s5,ok,fun fa fv H6 s6 efa hfv=>⟨_,rfl,fun x dx hx hdx hne=>?_⟩⟩
    have s8:Same H6 (upd (upd H6 dx (.own x)) x (.ins cBook dx [])):=(same_new hdx _).upd hx
    have s68:=s6.trans s8
    refine ⟨x,dx,fa,ma,fv,mw,zs,ds,ts,fN,Lk,rfl,upd_same,s8 _ _ efa,s68 _ _ ema5,⟨ok,RefL.mono hfv (fun _ _ p=>p.same s8),RefL.mono hmw (fun _ _ p=>p.same s68),(fun k hk=>(hmem k).mp hk),hnd,hlen,(fun k hk=>(hmem k).mpr hk)⟩,fun H7 fs ta k1 k2 k3 k4=>⟨rfl,?_⟩⟩
    have s9:Same H6 H7:=fun b u e=>k1 b u (ne_of_none e hx) (s8 _ _ e)
    exact ⟨s6.trans s9,x,⟨⟨dx,fs,ta,k2,k3,k4⟩,ok,RefL.mono hmw (fun _ _ p=>p.same (s6.trans s9)),(fun k hk=>(hmem k).mp hk),by omega⟩,rfl⟩
  rintro σ6 H6 ⟨s56,bo,hB,rfl⟩
  have s6:=s5.trans s56
  have enl6:=s6 _ _ enl
  have etl6:=s6 _ _ etl
  have htv6:RefL tv ts (PTA H6):=RefL.mono htv fun _ _ p=>p.same s6
  refine ⟨_,rfl,tl_,_,rfl,.inl (SqL.of etl6),_,rfl,(by omega),(by omega),for_range (fun i σ H'=>Same H6 H'∧∃ c8 c9 c10 c11 c12:Option V,σ = [some (.ref a),some (.ref r),some (.ref nl),some (.ref dl),some (.ref tl_),some (.int (fN:Int)),some (.ref ma),some (.ref bo),c8,c9,c10,c11,c12]) ⟨Same.refl _,_,_,_,_,_,rfl⟩ (fun i σ H' hi hh=>?_) (fun σ H' hh=>?_)⟩
  · obtain ⟨sm,c8,c9,c10,c11,c12,rfl⟩:=hh
    rw [Int.toNat_natCast] at hi
    rw [show (0:Int) + (i:Int) = (i:Int) by omega]
    have et:=List.getElem?_eq_getElem (l:=ts) (i:=i) (by omega)
    generalize ts[i] = t at et
    have enm:=List.getElem?_eq_getElem (l:=zs) (i:=fN + i) (by omega)
    generalize zs[fN + i] = nm at enm
    obtain ⟨ta,eta,cl,rl,rx,g1,g2,g3,g4⟩:=htv6.2 i t et
    have tok:=ok.tabs i t et
    have hlt:=ok.lt et
    have hc3:t.cols.length ≤ 3:=tok.ok.few
    have hvl:(vN t.cols).length = t.cols.length:=vN_len _
    have hsn:=hsm nm (List.mem_of_getElem? enm)
    have him:i ∈ Lk:=(hmem i).mpr (by omega)
    have htn:tnm zs fN i = nm:=tnm_at enm
    have hno:¬ ∀ k ∈ Lk,tnm zs fN k ≠ nm:=fun h=>h i him htn
    have hone:∀ k ∈ Lk,tnm zs fN k = nm→k = i:=fun k hk h=>by
      have hk2:=(hmem k).mp hk
      have e2:=List.getElem?_eq_getElem (l:=zs) (i:=fN + k) (by omega)
      rw [tnm_at e2] at h
      rw [h] at e2
      have:=nd_ix ok.nd e2 enm
      omega
    have ei:(fN:Int) + (i:Int) = ((fN + i:Nat):Int):=by omega
    refine ⟨fun σ' H''=>H'' = H'∧∃ fo:Addr,TbA yX yV yW H' zs ds ts fN fo i∧σ' = [some (.ref a),some (.ref r),some (.ref nl),some (.ref dl),some (.ref tl_),some (.int (fN:Int)),some (.ref ma),some (.ref bo),some (.int (i:Int)),some (.ref fo),c10,c11,c12],?_,?_⟩
    · refine ⟨_,rfl,_,rfl,_,rfl,_,rfl,_,_,rfl,rfl,nl,_,_,_,rfl,rfl,SqL.of (sm _ _ enl6),(by rw [ei]; exact atI_nat (put_strs enm)),bo,nm,zs,ds,ts,fN,mw,Lk,rfl,hB.same sm,hsn,fun fo k hk h hT=>⟨rfl,fo,by rw [← hone k hk h]; exact hT,rfl⟩,fun h=>absurd h hno⟩
    rintro σ7 H7 ⟨e7,fo,hT,rfl⟩
    subst e7
    obtain ⟨tt,nm2,po,ou,kv,f1,f2,f3,f4,f5,f6⟩:=hT
    rw [et] at f1
    cases f1
    rw [enm] at f2
    cases f2
    obtain ⟨rl2,dx,na,dl2,fs,xs,ht,l1,l2,l3,l4,l5,l6,ena,edl2,erl,hR,h200⟩:=f4
    refine ⟨fun σ' H''=>Same H7 H''∧∃ ha:Addr,H'' ha = some (.lst ((prm t.cols zs).map V.str))∧σ' = [some (.ref a),some (.ref r),some (.ref nl),some (.ref dl),some (.ref tl_),some (.int (fN:Int)),some (.ref ma),some (.ref bo),some (.int (i:Int)),some (.ref fo),some (.ref ha),c11,c12],?_,?_⟩
    · refine ⟨_,rfl,_,rfl,tl_,_,_,_,rfl,rfl,SqL.of (sm _ _ etl6),atI_nat eta,ta,_,_,_,rfl,rfl,SqT.of (sm _ _ g1),rfl,cl,rfl,⟨_,SqL.of (sm _ _ g2)⟩,comp_list (xs:=vN t.cols) (fun D i ys H'=>Same H7 H'∧H' D = some (.lst ys)∧ys = (prm (t.cols.take i) zs).map V.str) (fun D hD=>⟨same_new hD _,upd_same,rfl⟩) (fun D i ys H' hD _ h=>SqL.of ((sm.trans h.1) _ _ g2)) (fun D i y ys H' hD e h=>?_) (fun D ys H' hD h=>?_)⟩
      · obtain ⟨sn,eD,rfl⟩:=h
        obtain ⟨j,rfl,ej⟩:=vN_of e
        have hj:=hlt j (List.mem_of_getElem? ej)
        have ez:=List.getElem?_eq_getElem (l:=zs) (i:=j) (by omega)
        have hi:i < (vN t.cols).length:=(List.getElem?_eq_some_iff.mp e).1
        refine ⟨_,rfl,_,rfl,nl,_,_,_,rfl,rfl,SqL.of ((sm.trans sn) _ _ enl6),atI_nat (put_strs ez),CYes.mk hi eD (small1000 ?_) ⟨sn.upd hD,upd_same,?_⟩⟩
        · rw [List.length_map,(prm_get (os:=t.cols.take i) (xs:=zs) fun j hj=>by rw [hl1]; exact hlt j (List.mem_of_mem_take hj)).1,List.length_take]; omega
        · rw [take_snoc ej,prm_snoc ez,List.map_append]; rfl
      · obtain ⟨sn,eD,rfl⟩:=h
        rw [hvl,List.take_length] at eD
        exact ⟨sn,D,eD,rfl⟩
    rintro σ8 H8 ⟨s8,ha,eha,rfl⟩
    have s68:=sm.trans s8
    refine ⟨fun σ' H''=>H'' = H8∧σ' = [some (.ref a),some (.ref r),some (.ref nl),some (.ref dl),some (.ref tl_),some (.int (fN:Int)),some (.ref ma),some (.ref bo),some (.int (i:Int)),some (.ref fo),some (.ref ha),c11,c12],?_,?_⟩
    · refine ⟨_,rfl,fo,_,_,_,_,rfl,s8 _ _ ht,bl.k_Table,bl.na_Table_name,l2,_,rfl,_,rfl,_,rfl,_,_,rfl,rfl,nl,_,_,_,rfl,rfl,SqL.of (s68 _ _ enl6),(by rw [ei]; exact atI_nat (put_strs enm)),rfl,_,rfl,iteNS rfl ?_⟩
      refine ⟨_,rfl,fo,_,_,_,_,rfl,s8 _ _ ht,bl.k_Table,bl.na_Table_names,l5,_,rfl,neL_same (SqL.of (s8 _ _ ena)) (SqL.of eha) (flat_map_str _) ⟨_,rfl,iteF ?_⟩⟩
      exact ⟨_,rfl,fo,_,_,_,_,rfl,s8 _ _ ht,bl.k_Table,bl.na_Table_way,l3,_,rfl,_,rfl,tl_,_,_,_,rfl,rfl,SqL.of (s68 _ _ etl6),atI_nat eta,ta,_,_,_,rfl,rfl,SqT.of (s68 _ _ g1),rfl,rfl,_,rfl,iteNS rfl ⟨rfl,rfl⟩⟩
    rintro σ9 H9 ⟨e9,rfl⟩
    subst e9
    refine ⟨fun σ' H''=>H'' = H9∧σ' = [some (.ref a),some (.ref r),some (.ref nl),some (.ref dl),some (.ref tl_),some (.int (fN:Int)),some (.ref ma),some (.ref bo),some (.int (i:Int)),some (.ref fo),some (.ref ha),c11,c12],?_,?_⟩
    · refine ⟨_,rfl,fo,_,_,_,_,rfl,s8 _ _ ht,bl.k_Table,bl.na_Table_rows,l1,_,rfl,_,rfl,tl_,_,_,_,rfl,rfl,SqL.of (s68 _ _ etl6),atI_nat eta,ta,_,_,_,rfl,rfl,SqT.of (s68 _ _ g1),rfl,neDL_same (SqL.of (s8 _ _ erl)) (SqL.of (s68 _ _ g3)) (by rw [hR.1,g4.1]) (deq_rows (hR.same s8) (g4.same s68)) ⟨_,rfl,iteF ⟨rfl,rfl⟩⟩⟩
    rintro σ10 H10 ⟨e10,rfl⟩
    subst e10
    have hBt:=hB.same s68
    have hall:∀ k,k < ts.length→k ∈ Lk:=fun k hk=>(hmem k).mpr hk
    refine ⟨fun σ' H''=>Same H10 H''∧∃ as:Addr,H10 as = none∧H'' as = some (.lst (((prm t.cols zs).filter fun z=>(Lk.map (tnm zs fN)).contains z).map V.str))∧σ' = [some (.ref a),some (.ref r),some (.ref nl),some (.ref dl),some (.ref tl_),some (.int (fN:Int)),some (.ref ma),some (.ref bo),some (.int (i:Int)),some (.ref fo),some (.ref ha),some (.ref as),c12],?_,?_⟩
    · refine ⟨_,rfl,_,rfl,_,rfl,_,rfl,_,_,rfl,rfl,nl,_,_,_,rfl,rfl,SqL.of (s68 _ _ enl6),(by rw [ei]; exact atI_nat (put_strs enm)),bo,nm,zs,ds,ts,fN,mw,Lk,rfl,hBt,hsn,fun k t2 l H' hk h e2 sx nl_ el=>⟨sx,l,nl_,?_,rfl⟩,fun h=>absurd h hno⟩
      rw [hone k hk h,et] at e2
      cases e2
      exact el
    rintro σ11 H11 ⟨s11,as,nas,eas,rfl⟩
    have s6b:=s68.trans s11
    refine ⟨fun σ' H''=>Same H11 H''∧∃ du:Addr,H11 du = none∧H'' du = some (.lst (((prm t.cols zs).filter fun z=>(Lk.map (tnm zs fN)).contains z).map V.str))∧σ' = [some (.ref a),some (.ref r),some (.ref nl),some (.ref dl),some (.ref tl_),some (.int (fN:Int)),some (.ref ma),some (.ref bo),some (.int (i:Int)),some (.ref fo),some (.ref ha),some (.ref as),some (.ref du)],?_,?_⟩
    · refine ⟨_,rfl,_,rfl,tl_,_,_,_,rfl,rfl,SqL.of (s6b _ _ etl6),atI_nat eta,ta,_,_,_,rfl,rfl,SqT.of (s6b _ _ g1),rfl,cl,rfl,⟨_,SqL.of (s6b _ _ g2)⟩,comp_list (xs:=vN t.cols) (fun D i ys H'=>Same H11 H'∧H' D = some (.lst ys)∧ys = ((prm (t.cols.take i) zs).filter fun z=>(Lk.map (tnm zs fN)).contains z).map V.str) (fun D hD=>⟨same_new hD _,upd_same,rfl⟩) (fun D i ys H' hD _ h=>SqL.of ((s6b.trans h.1) _ _ g2)) (fun D i y ys H' hD e h=>?_) (fun D ys H' hD h=>?_)⟩
      · obtain ⟨sn,eD,rfl⟩:=h
        obtain ⟨j,rfl,ej⟩:=vN_of e
        have hj:=hlt j (List.mem_of_getElem? ej)
        have ez:=List.getElem?_eq_getElem (l:=zs) (i:=j) (by omega)
        have hi:i < (vN t.cols).length:=(List.getElem?_eq_some_iff.mp e).1
        have hc:=hB.mem hall ez
        have hpl:=(prm_get (os:=t.cols.take i) (xs:=zs) fun j hj=>by rw [hl1]; exact hlt j (List.mem_of_mem_take hj)).1
        have hfl:((prm (t.cols.take i) zs).filter fun z=>(Lk.map (tnm zs fN)).contains z).length ≤ 3:=Nat.le_trans (List.length_filter_le ..) (by rw [hpl,List.length_take]; omega)
        refine ⟨_,rfl,_,rfl,_,_,rfl,rfl,_,rfl,ite2 (fun g=>?_) (fun g=>?_)⟩
        · have g:fN ≤ j:=by have:=of_decide_eq_true g; omega
          refine ⟨_,rfl,_,rfl,nl,_,_,_,rfl,rfl,SqL.of ((s6b.trans sn) _ _ enl6),atI_nat (put_strs ez),CYes.mk hi eD (small1000 (by rw [List.length_map]; omega)) ⟨sn.upd hD,upd_same,?_⟩⟩
          rw [take_snoc ej,prm_snoc ez,List.filter_append,List.filter_cons_of_pos (by rw [hc]; exact decide_eq_true g),List.filter_nil,List.map_append]; rfl
        · have g:¬ fN ≤ j:=fun h=>g (decide_eq_true (by omega))
          refine CNext.mk (zs:=_) hi ⟨sn,eD,?_⟩
          rw [take_snoc ej,prm_snoc ez,List.filter_append,List.filter_cons_of_neg (by rw [hc]; exact fun h=>g (of_decide_eq_true h)),List.filter_nil,List.append_nil]
      · obtain ⟨sn,eD,rfl⟩:=h
        rw [hvl,List.take_length] at eD
        exact ⟨sn,D,hD,eD,rfl⟩
    rintro σ12 H12 ⟨s12,du,ndu,edu,rfl⟩
    have eas12:=s12 _ _ eas
    have s6c:=s6b.trans s12
    refine ⟨fun σ' H''=>H'' = H12∧σ' = [some (.ref a),some (.ref r),some (.ref nl),some (.ref dl),some (.ref tl_),some (.int (fN:Int)),some (.ref ma),some (.ref bo),some (.int (i:Int)),some (.ref fo),some (.ref ha),some (.ref as),some (.ref du)],?_,?_⟩
    · refine ⟨_,rfl,_,_,_,_,true,rfl,.ty _,.inl (.lst eas12),(by first | rfl | with_unfolding_all rfl | decide +kernel),_,rfl,iteF ?_⟩
      exact ⟨_,rfl,_,rfl,neL_same (SqL.of eas12) (SqL.of edu) (flat_map_str _) ⟨_,rfl,iteF ⟨rfl,rfl⟩⟩⟩
    rintro σ13 H13 ⟨e13,rfl⟩
    subst e13
    refine ⟨fun σ' H''=>Same H6 H''∧H'' du = some (.lst (((prm t.cols zs).filter fun z=>(Lk.map (tnm zs fN)).contains z).map V.str))∧σ' = [some (.ref a),some (.ref r),some (.ref nl),some (.ref dl),some (.ref tl_),some (.int (fN:Int)),some (.ref ma),some (.ref bo),some (.int (i:Int)),some (.ref fo),some (.ref ha),some (.ref as),some (.ref du)],?_,?_⟩
    · have nad:du ≠ as:=fun z=>by rw [z,eas] at ndu; cases ndu
      exact ⟨_,rfl,.inl ⟨rfl,_,SqL.of eas12⟩,as,_,_,rfl,rfl,eas12,small1000 (by have:=(prm_get (os:=t.cols) (xs:=zs) fun j hj=>by rw [hl1]; exact hlt j hj).1; have h9:=List.length_filter_le (fun z=>(Lk.map (tnm zs fN)).contains z) (prm t.cols zs); rw [List.length_map]; omega),s6c.upd (s68.free nas),(upd_ne nad).trans edu,rfl⟩
    rintro σ14 H14 ⟨s14,edu14,rfl⟩
    refine ⟨_,rfl,_,rfl,_,rfl,_,rfl,_,_,rfl,rfl,nl,_,_,_,rfl,rfl,SqL.of (s14 _ _ enl6),(by rw [ei]; exact atI_nat (put_strs enm)),bo,nm,zs,ds,ts,fN,mw,Lk,rfl,hB.same s14,hsn,fun k t2 l H' hk h e2 sx nl_ el=>?_,fun h=>absurd h hno⟩
    rw [hone k hk h,et] at e2
    cases e2
    exact ⟨_,rfl,neL_same (SqL.of el) (SqL.of (sx _ _ edu14)) (flat_map_str _) ⟨_,rfl,iteF ⟨s14.trans sx,_,_,_,_,_,rfl⟩⟩⟩
  · obtain ⟨sm,c8,c9,c10,c11,c12,rfl⟩:=hh
    have e0:=List.getElem?_eq_getElem (l:=zs) (i:=0) (by omega)
    generalize zs[0] = z0 at e0
    have h0:=hsm z0 (List.mem_of_getElem? e0)
    have l0:=ok.nm12 (List.mem_of_getElem? e0)
    have tn:∀ k ∈ Lk,zs[fN + k]? = some (tnm zs fN k):=fun k hk=>by
      have hk2:=(hmem k).mp hk
      have e2:=List.getElem?_eq_getElem (l:=zs) (i:=fN + k) (by omega)
      rw [e2,tnm_at e2]
    have hz:(Str.ofString "z").length = 1:=by decide +kernel
    have n0:∀ k ∈ Lk,tnm zs fN k ≠ z0:=fun k hk h=>by
      have e2:=tn k hk
      rw [h] at e2
      have:=nd_ix ok.nd e2 e0
      omega
    have n1:∀ k ∈ Lk,tnm zs fN k ≠ z0 ++ Str.ofString "z" := fun k hk h=>by
      have e2:=hlz _ (List.mem_of_getElem? (tn k hk)) _ (List.mem_of_getElem? e0)
      rw [h,len_ap,hz] at e2
      omega
    have hz2:SmB (Str.ofString "z"):=⟨by rw [hz]; decide,by decide +kernel⟩
    refine ⟨_,rfl,_,rfl,nl,_,_,_,rfl,rfl,SqL.of (sm _ _ enl6),atI_nat (put_strs e0),bo,z0,zs,ds,ts,fN,mw,Lk,rfl,hB.same sm,h0,n0,fun H8 s8=>⟨true,rfl,iteT ?_⟩⟩
    exact ⟨_,rfl,_,rfl,nl,_,_,_,rfl,rfl,SqL.of ((sm.trans s8) _ _ enl6),atI_nat (put_strs e0),_,_,rfl,rfl,big (by rw [hz]; omega),bo,_,zs,ds,ts,fN,mw,Lk,rfl,hB.same (sm.trans s8),smB_app h0 hz2 (by rw [hz]; omega),n1,fun H9 _=>q H9⟩
end
theorem all_mk {l:PySem.W.OpenLaw} {w:World} {K:PySem.W.Frag} {h:Heap} {mg:Str→Option Value} {fa f0 f1 f2 f3 f4 f5 f6 f7 f8 f9 f10 f11 f12 f13 f14 f15 f16 f17 f18 f19 f20 f21 f22 f23 f24 f25 f26 f27 f28 f29 f30 f31 f32 f33 f34 f35 f36 f37 f38 f39 f40 f41 f42 f43 f44 f45 f46 f47 f48:Addr} (X:K.In h) (G:h.Ns mainGlobals mg) (hfa:mg "law" = some (.ref fa))
    {od0 an0 od1 an1 od2 an2 od3 an3 od4 an4 od5 an5 od6 an6 od7 an7 od8 an8 od9 an9 od10 an10 od11 an11 od12 an12 od13 an13 od14 an14 od15 an15 od16 an16 od17 an17 od18 an18 od19 an19 od20 an20 od21 an21 od22 an22 od23 an23 od24 an24 od25 an25 od26 an26 od27 an27 od28 an28 od29 an29 od30 an30 od31 an31 od32 an32 od33 an33 od34 an34 od35 an35 od36 an36 od37 an37 od38 an38 od39 an39 od40 an40 od41 an41 od42 an42 od43 an43 od44 an44 od45 an45 od46 an46 od47 an47 od48 an48:Option Addr} {sl0 sl1 sl2 sl3 sl4 sl5 sl6 sl7 sl8 sl9 sl10 sl11 sl12 sl13 sl14 sl15 sl16 sl17 sl18 sl19 sl20 sl21 sl22 sl23 sl24 sl25 sl26 sl27 sl28 sl29 sl30 sl31 sl32 sl33 sl34 sl35 sl36 sl37 sl38 sl39 sl40 sl41 sl42 sl43 sl44 sl45 sl46 sl47 sl48:Array (Option Value)} {oc0 kV0 dc0 pm0 cd0 ct0 oc1 kV1 dc1 pm1 cd1 ct1 oc2 kV2 dc2 pm2 cd2 ct2 oc3 kV3 dc3 pm3 cd3 ct3 oc4 kV4 dc4 pm4 cd4 ct4 oc5 kV5 dc5 pm5 cd5 ct5 oc6 kV6 dc6 pm6 cd6 ct6 oc7 kV7 dc7 pm7 cd7 ct7 oc8 kV8 dc8 pm8 cd8 ct8 oc9 kV9 dc9 pm9 cd9 ct9 oc10 kV10 dc10 pm10 cd10 ct10 oc11 kV11 dc11 pm11 cd11 ct11 oc12 kV12 dc12 pm12 cd12 ct12 oc13 kV13 dc13 pm13 cd13 ct13 oc14 kV14 dc14 pm14 cd14 ct14 oc15 kV15 dc15 pm15 cd15 ct15 oc16 kV16 dc16 pm16 cd16 ct16 oc17 kV17 dc17 pm17 cd17 ct17 oc18 kV18 dc18 pm18 cd18 ct18 oc19 kV19 dc19 pm19 cd19 ct19 oc20 kV20 dc20 pm20 cd20 ct20 oc21 kV21 dc21 pm21 cd21 ct21 oc22 kV22 dc22 pm22 cd22 ct22 oc23 kV23 dc23 pm23 cd23 ct23 oc24 kV24 dc24 pm24 cd24 ct24 oc25 kV25 dc25 pm25 cd25 ct25 oc26 kV26 dc26 pm26 cd26 ct26 oc27 kV27 dc27 pm27 cd27 ct27 oc28 kV28 dc28 pm28 cd28 ct28 oc29 kV29 dc29 pm29 cd29 ct29 oc30 kV30 dc30 pm30 cd30 ct30 oc31 kV31 dc31 pm31 cd31 ct31 oc32 kV32 dc32 pm32 cd32 ct32 oc33 kV33 dc33 pm33 cd33 ct33 oc34 kV34 dc34 pm34 cd34 ct34 oc35 kV35 dc35 pm35 cd35 ct35 oc36 kV36 dc36 pm36 cd36 ct36 oc37 kV37 dc37 pm37 cd37 ct37 oc38 kV38 dc38 pm38 cd38 ct38 oc39 kV39 dc39 pm39 cd39 ct39 oc40 kV40 dc40 pm40 cd40 ct40 oc41 kV41 dc41 pm41 cd41 ct41 oc42 kV42 dc42 pm42 cd42 ct42 oc43 kV43 dc43 pm43 cd43 ct43 oc44 kV44 dc44 pm44 cd44 ct44 oc45 kV45 dc45 pm45 cd45 ct45 oc46 kV46 dc46 pm46 cd46 ct46 oc47 kV47 dc47 pm47 cd47 ct47 oc48 kV48 dc48 pm48 cd48 ct48:Value}
    {yA yE yN yO yP yQ yR yS yT yU yV yW yX cBook:Addr}
    (n_TableError:PySem.W.nsIn K mainGlobals "TableError" = some (some (.ref yA)))
    (n_NoTable:PySem.W.nsIn K mainGlobals "NoTable" = some (some (.ref yE)))
    (n_Way:PySem.W.nsIn K mainGlobals "Way" = some (some (.ref yN)))
    (n_First:PySem.W.nsIn K mainGlobals "First" = some (some (.ref yO)))
    (n_Only:PySem.W.nsIn K mainGlobals "Only" = some (some (.ref yP)))
    (n_Like:PySem.W.nsIn K mainGlobals "Like" = some (some (.ref yQ)))
    (n_Low:PySem.W.nsIn K mainGlobals "Low" = some (some (.ref yR)))
    (n_High:PySem.W.nsIn K mainGlobals "High" = some (some (.ref yS)))
    (n_Sum:PySem.W.nsIn K mainGlobals "Sum" = some (some (.ref yT)))
    (n_Domain:PySem.W.nsIn K mainGlobals "Domain" = some (some (.ref yU)))
    (n_Numbers:PySem.W.nsIn K mainGlobals "Numbers" = some (some (.ref yV)))
    (n_Words:PySem.W.nsIn K mainGlobals "Words" = some (some (.ref yW)))
    (n_Table:PySem.W.nsIn K mainGlobals "Table" = some (some (.ref yX)))
    (n_Book:PySem.W.nsIn K mainGlobals "Book" = some (some (.ref cBook)))
    (a0:PySem.W.nsIn K mainGlobals "all_among" = some (some (.ref f0))) (l0:K.lookup f0 = some ⟨oc0,od0,.func (PySem.W.fnOf "all_among" "all_among" (defArgs Y21) (defBody Y21) (defScope Y21) .none kV0 dc0 pm0 an0 cd0 ct0),sl0⟩) (c0:PySem.W.codeIn K cd0 "all_among" = true) (k0:PySem.W.keepIn K (.ref f0) = true)
    (a1:PySem.W.nsIn K mainGlobals "is_word" = some (some (.ref f1))) (l1:K.lookup f1 = some ⟨oc1,od1,.func (PySem.W.fnOf "is_word" "is_word" (defArgs Y24) (defBody Y24) (defScope Y24) .none kV1 dc1 pm1 an1 cd1 ct1),sl1⟩) (c1:PySem.W.codeIn K cd1 "is_word" = true) (k1:PySem.W.keepIn K (.ref f1) = true)
    (a2:PySem.W.nsIn K mainGlobals "is_whole" = some (some (.ref f2))) (l2:K.lookup f2 = some ⟨oc2,od2,.func (PySem.W.fnOf "is_whole" "is_whole" (defArgs Y23) (defBody Y23) (defScope Y23) .none kV2 dc2 pm2 an2 cd2 ct2),sl2⟩) (c2:PySem.W.codeIn K cd2 "is_whole" = true) (k2:PySem.W.keepIn K (.ref f2) = true)
    (a3:PySem.W.nsIn K mainGlobals "alike" = some (some (.ref f3))) (l3:K.lookup f3 = some ⟨oc3,od3,.func (PySem.W.fnOf "alike" "alike" (defArgs Y20) (defBody Y20) (defScope Y20) .none kV3 dc3 pm3 an3 cd3 ct3),sl3⟩) (c3:PySem.W.codeIn K cd3 "alike" = true) (k3:PySem.W.keepIn K (.ref f3) = true)
    (a4:PySem.W.nsIn K mainGlobals "refuse_counts_books" = some (some (.ref f4))) (l4:K.lookup f4 = some ⟨oc4,od4,.func (PySem.W.fnOf "refuse_counts" "refuse_counts" (defArgs Y39) (defBody Y39) (defScope Y39) .none kV4 dc4 pm4 an4 cd4 ct4),sl4⟩) (c4:PySem.W.codeIn K cd4 "refuse_counts" = true) (k4:PySem.W.keepIn K (.ref f4) = true)
    (a5:PySem.W.nsIn K mainGlobals "refuse_names_books" = some (some (.ref f5))) (l5:K.lookup f5 = some ⟨oc5,od5,.func (PySem.W.fnOf "refuse_names" "refuse_names" (defArgs Y42) (defBody Y42) (defScope Y42) .none kV5 dc5 pm5 an5 cd5 ct5),sl5⟩) (c5:PySem.W.codeIn K cd5 "refuse_names" = true) (k5:PySem.W.keepIn K (.ref f5) = true)
    (a6:PySem.W.nsIn K mainGlobals "refuse_domains" = some (some (.ref f6))) (l6:K.lookup f6 = some ⟨oc6,od6,.func (PySem.W.fnOf "refuse_domains" "refuse_domains" (defArgs Y41) (defBody Y41) (defScope Y41) .none kV6 dc6 pm6 an6 cd6 ct6),sl6⟩) (c6:PySem.W.codeIn K cd6 "refuse_domains" = true) (k6:PySem.W.keepIn K (.ref f6) = true)
    (a7:PySem.W.nsIn K mainGlobals "refuse_rings" = some (some (.ref f7))) (l7:K.lookup f7 = some ⟨oc7,od7,.func (PySem.W.fnOf "refuse_rings" "refuse_rings" (defArgs Y44) (defBody Y44) (defScope Y44) .none kV7 dc7 pm7 an7 cd7 ct7),sl7⟩) (c7:PySem.W.codeIn K cd7 "refuse_rings" = true) (k7:PySem.W.keepIn K (.ref f7) = true)
    (a8:PySem.W.nsIn K mainGlobals "named_among" = some (some (.ref f8))) (l8:K.lookup f8 = some ⟨oc8,od8,.func (PySem.W.fnOf "named_among" "named_among" (defArgs Y37) (defBody Y37) (defScope Y37) .none kV8 dc8 pm8 an8 cd8 ct8),sl8⟩) (c8:PySem.W.codeIn K cd8 "named_among" = true) (k8:PySem.W.keepIn K (.ref f8) = true)
    (a9:PySem.W.nsIn K mainGlobals "table_of" = some (some (.ref f9))) (l9:K.lookup f9 = some ⟨oc9,od9,.func (PySem.W.fnOf "table_of" "table_of" (defArgs Y47) (defBody Y47) (defScope Y47) .none kV9 dc9 pm9 an9 cd9 ct9),sl9⟩) (c9:PySem.W.codeIn K cd9 "table_of" = true) (k9:PySem.W.keepIn K (.ref f9) = true)
    (a10:PySem.W.nsIn K mainGlobals "asks" = some (some (.ref f10))) (l10:K.lookup f10 = some ⟨oc10,od10,.func (PySem.W.fnOf "asks" "asks" (defArgs Y22) (defBody Y22) (defScope Y22) .none kV10 dc10 pm10 an10 cd10 ct10),sl10⟩) (c10:PySem.W.codeIn K cd10 "asks" = true) (k10:PySem.W.keepIn K (.ref f10) = true)
    (a11:PySem.W.nsIn K mainGlobals "way_by" = some (some (.ref f11))) (l11:K.lookup f11 = some ⟨oc11,od11,.func (PySem.W.fnOf "way_by" "way_by" (defArgs Y48) (defBody Y48) (defScope Y48) .none kV11 dc11 pm11 an11 cd11 ct11),sl11⟩) (c11:PySem.W.codeIn K cd11 "way_by" = true) (k11:PySem.W.keepIn K (.ref f11) = true)
    (a12:PySem.W.nsIn K mainGlobals "refuse_names_tables" = some (some (.ref f12))) (l12:K.lookup f12 = some ⟨oc12,od12,.func (PySem.W.fnOf "refuse_names" "refuse_names" (defArgs Y43) (defBody Y43) (defScope Y43) .none kV12 dc12 pm12 an12 cd12 ct12),sl12⟩) (c12:PySem.W.codeIn K cd12 "refuse_names" = true) (k12:PySem.W.keepIn K (.ref f12) = true)
    (a13:PySem.W.nsIn K mainGlobals "refuse_counts_tables" = some (some (.ref f13))) (l13:K.lookup f13 = some ⟨oc13,od13,.func (PySem.W.fnOf "refuse_counts" "refuse_counts" (defArgs Y40) (defBody Y40) (defScope Y40) .none kV13 dc13 pm13 an13 cd13 ct13),sl13⟩) (c13:PySem.W.codeIn K cd13 "refuse_counts" = true) (k13:PySem.W.keepIn K (.ref f13) = true)
    (a14:PySem.W.nsIn K mainGlobals "refuse_way" = some (some (.ref f14))) (l14:K.lookup f14 = some ⟨oc14,od14,.func (PySem.W.fnOf "refuse_way" "refuse_way" (defArgs Y46) (defBody Y46) (defScope Y46) .none kV14 dc14 pm14 an14 cd14 ct14),sl14⟩) (c14:PySem.W.codeIn K cd14 "refuse_way" = true) (k14:PySem.W.keepIn K (.ref f14) = true)
    (a15:PySem.W.nsIn K mainGlobals "refuse_row" = some (some (.ref f15))) (l15:K.lookup f15 = some ⟨oc15,od15,.func (PySem.W.fnOf "refuse_row" "refuse_row" (defArgs Y45) (defBody Y45) (defScope Y45) .none kV15 dc15 pm15 an15 cd15 ct15),sl15⟩) (c15:PySem.W.codeIn K cd15 "refuse_row" = true) (k15:PySem.W.keepIn K (.ref f15) = true)
    (a16:PySem.W.nsIn K mainGlobals "own_row" = some (some (.ref f16))) (l16:K.lookup f16 = some ⟨oc16,od16,.func (PySem.W.fnOf "own_row" "own_row" (defArgs Y38) (defBody Y38) (defScope Y38) .none kV16 dc16 pm16 an16 cd16 ct16),sl16⟩) (c16:PySem.W.codeIn K cd16 "own_row" = true) (k16:PySem.W.keepIn K (.ref f16) = true)
    (a17:PySem.W.nsIn K mainGlobals "_law_at" = some (some (.ref f17))) (l17:K.lookup f17 = some ⟨oc17,od17,.func (PySem.W.fnOf "_law_at" "_law_at" (defArgs Y26) (defBody Y26) (defScope Y26) .none kV17 dc17 pm17 an17 cd17 ct17),sl17⟩) (c17:PySem.W.codeIn K cd17 "_law_at" = true) (k17:PySem.W.keepIn K (.ref f17) = true)
    (a18:PySem.W.nsIn K mainGlobals "_law_words" = some (some (.ref f18))) (l18:K.lookup f18 = some ⟨oc18,od18,.func (PySem.W.fnOf "_law_words" "_law_words" (defArgs Y36) (defBody Y36) (defScope Y36) .none kV18 dc18 pm18 an18 cd18 ct18),sl18⟩) (c18:PySem.W.codeIn K cd18 "_law_words" = true) (k18:PySem.W.keepIn K (.ref f18) = true)
    (a19:PySem.W.nsIn K mainGlobals "_law_domain" = some (some (.ref f19))) (l19:K.lookup f19 = some ⟨oc19,od19,.func (PySem.W.fnOf "_law_domain" "_law_domain" (defArgs Y28) (defBody Y28) (defScope Y28) .none kV19 dc19 pm19 an19 cd19 ct19),sl19⟩) (c19:PySem.W.codeIn K cd19 "_law_domain" = true) (k19:PySem.W.keepIn K (.ref f19) = true)
    (a20:PySem.W.nsIn K mainGlobals "_law_pool" = some (some (.ref f20))) (l20:K.lookup f20 = some ⟨oc20,od20,.func (PySem.W.fnOf "_law_pool" "_law_pool" (defArgs Y32) (defBody Y32) (defScope Y32) .none kV20 dc20 pm20 an20 cd20 ct20),sl20⟩) (c20:PySem.W.codeIn K cd20 "_law_pool" = true) (k20:PySem.W.keepIn K (.ref f20) = true)
    (a21:PySem.W.nsIn K mainGlobals "_law_spans" = some (some (.ref f21))) (l21:K.lookup f21 = some ⟨oc21,od21,.func (PySem.W.fnOf "_law_spans" "_law_spans" (defArgs Y34) (defBody Y34) (defScope Y34) .none kV21 dc21 pm21 an21 cd21 ct21),sl21⟩) (c21:PySem.W.codeIn K cd21 "_law_spans" = true) (k21:PySem.W.keepIn K (.ref f21) = true)
    (a22:PySem.W.nsIn K mainGlobals "_law_row" = some (some (.ref f22))) (l22:K.lookup f22 = some ⟨oc22,od22,.func (PySem.W.fnOf "_law_row" "_law_row" (defArgs Y33) (defBody Y33) (defScope Y33) .none kV22 dc22 pm22 an22 cd22 ct22),sl22⟩) (c22:PySem.W.codeIn K cd22 "_law_row" = true) (k22:PySem.W.keepIn K (.ref f22) = true)
    (a23:PySem.W.nsIn K mainGlobals "_law_book" = some (some (.ref f23))) (l23:K.lookup f23 = some ⟨oc23,od23,.func (PySem.W.fnOf "_law_book" "_law_book" (defArgs Y27) (defBody Y27) (defScope Y27) .none kV23 dc23 pm23 an23 cd23 ct23),sl23⟩) (c23:PySem.W.codeIn K cd23 "_law_book" = true) (k23:PySem.W.keepIn K (.ref f23) = true)
    (a24:PySem.W.nsIn K mainGlobals "_law_made" = some (some (.ref f24))) (l24:K.lookup f24 = some ⟨oc24,od24,.func (PySem.W.fnOf "_law_made" "_law_made" (defArgs Y30) (defBody Y30) (defScope Y30) .none kV24 dc24 pm24 an24 cd24 ct24),sl24⟩) (c24:PySem.W.codeIn K cd24 "_law_made" = true) (k24:PySem.W.keepIn K (.ref f24) = true)
    (a25:PySem.W.nsIn K mainGlobals "_law_table" = some (some (.ref f25))) (l25:K.lookup f25 = some ⟨oc25,od25,.func (PySem.W.fnOf "_law_table" "_law_table" (defArgs Y35) (defBody Y35) (defScope Y35) .none kV25 dc25 pm25 an25 cd25 ct25),sl25⟩) (c25:PySem.W.codeIn K cd25 "_law_table" = true) (k25:PySem.W.keepIn K (.ref f25) = true)
    (a26:PySem.W.nsIn K mainGlobals "_law_facts" = some (some (.ref f26))) (l26:K.lookup f26 = some ⟨oc26,od26,.func (PySem.W.fnOf "_law_facts" "_law_facts" (defArgs Y29) (defBody Y29) (defScope Y29) .none kV26 dc26 pm26 an26 cd26 ct26),sl26⟩) (c26:PySem.W.codeIn K cd26 "_law_facts" = true) (k26:PySem.W.keepIn K (.ref f26) = true)
    (a27:PySem.W.nsIn K mainGlobals "_law_no_table" = some (some (.ref f27))) (l27:K.lookup f27 = some ⟨oc27,od27,.func (PySem.W.fnOf "_law_no_table" "_law_no_table" (defArgs Y31) (defBody Y31) (defScope Y31) .none kV27 dc27 pm27 an27 cd27 ct27),sl27⟩) (c27:PySem.W.codeIn K cd27 "_law_no_table" = true) (k27:PySem.W.keepIn K (.ref f27) = true)
    (i28:PySem.W.findIn K (.ref cBook) "__init__" = some (some (.ref f28))) (if28:PySem.W.isFn K (.ref f28) = true) (im28:PySem.W.makesIn K cBook = true) (ik28:PySem.W.keepIn K (.ref cBook) = true) (l28:K.lookup f28 = some ⟨oc28,od28,.func (PySem.W.fnOf "__init__" "Book.__init__" (defArgs Y0) (defBody Y0) (defScope Y0) .none kV28 dc28 pm28 an28 cd28 ct28),sl28⟩) (c28:PySem.W.codeIn K cd28 "Book.__init__" = true) (k28:PySem.W.keepIn K (.ref f28) = true)
    (i29:PySem.W.findIn K (.ref yX) "__init__" = some (some (.ref f29))) (if29:PySem.W.isFn K (.ref f29) = true) (im29:PySem.W.makesIn K yX = true) (ik29:PySem.W.keepIn K (.ref yX) = true) (l29:K.lookup f29 = some ⟨oc29,od29,.func (PySem.W.fnOf "__init__" "Table.__init__" (defArgs Y12) (defBody Y12) (defScope Y12) .none kV29 dc29 pm29 an29 cd29 ct29),sl29⟩) (c29:PySem.W.codeIn K cd29 "Table.__init__" = true) (k29:PySem.W.keepIn K (.ref f29) = true)
    (i30:PySem.W.findIn K (.ref yO) "__init__" = some (some (.ref f30))) (if30:PySem.W.isFn K (.ref f30) = true) (im30:PySem.W.makesIn K yO = true) (ik30:PySem.W.keepIn K (.ref yO) = true) (l30:K.lookup f30 = some ⟨oc30,od30,.func (PySem.W.fnOf "__init__" "First.__init__" (defArgs Y5) (defBody Y5) (defScope Y5) .none kV30 dc30 pm30 an30 cd30 ct30),sl30⟩) (c30:PySem.W.codeIn K cd30 "First.__init__" = true) (k30:PySem.W.keepIn K (.ref f30) = true)
    (b_s31:PySem.W.specialIn K (.ref yN) "__getattribute__" = some (some (.builtin "type.__getattribute__"))) (b_r31:PySem.W.readsIn K yN (.type "type") = true) (b_a31:PySem.W.findCls K (.ref yN) (.type "type") "__init__" = some (.val (.ref f31))) (l31:K.lookup f31 = some ⟨oc31,od31,.func (PySem.W.fnOf "__init__" "Way.__init__" (defArgs Y13) (defBody Y13) (defScope Y13) .none kV31 dc31 pm31 an31 cd31 ct31),sl31⟩) (c31:PySem.W.codeIn K cd31 "Way.__init__" = true) (k31:PySem.W.keepIn K (.ref f31) = true)
    (i32:PySem.W.findIn K (.ref yP) "__init__" = some (some (.ref f32))) (if32:PySem.W.isFn K (.ref f32) = true) (im32:PySem.W.makesIn K yP = true) (ik32:PySem.W.keepIn K (.ref yP) = true) (l32:K.lookup f32 = some ⟨oc32,od32,.func (PySem.W.fnOf "__init__" "Only.__init__" (defArgs Y10) (defBody Y10) (defScope Y10) .none kV32 dc32 pm32 an32 cd32 ct32),sl32⟩) (c32:PySem.W.codeIn K cd32 "Only.__init__" = true) (k32:PySem.W.keepIn K (.ref f32) = true)
    (b_s33:PySem.W.specialIn K (.ref yN) "__getattribute__" = some (some (.builtin "type.__getattribute__"))) (b_r33:PySem.W.readsIn K yN (.type "type") = true) (b_a33:PySem.W.findCls K (.ref yN) (.type "type") "__init__" = some (.val (.ref f33))) (l33:K.lookup f33 = some ⟨oc33,od33,.func (PySem.W.fnOf "__init__" "Way.__init__" (defArgs Y17) (defBody Y17) (defScope Y17) .none kV33 dc33 pm33 an33 cd33 ct33),sl33⟩) (c33:PySem.W.codeIn K cd33 "Way.__init__" = true) (k33:PySem.W.keepIn K (.ref f33) = true)
    (i34:PySem.W.findIn K (.ref yQ) "__init__" = some (some (.ref f34))) (if34:PySem.W.isFn K (.ref f34) = true) (im34:PySem.W.makesIn K yQ = true) (ik34:PySem.W.keepIn K (.ref yQ) = true) (l34:K.lookup f34 = some ⟨oc34,od34,.func (PySem.W.fnOf "__init__" "Like.__init__" (defArgs Y7) (defBody Y7) (defScope Y7) .none kV34 dc34 pm34 an34 cd34 ct34),sl34⟩) (c34:PySem.W.codeIn K cd34 "Like.__init__" = true) (k34:PySem.W.keepIn K (.ref f34) = true)
    (b_s35:PySem.W.specialIn K (.ref yN) "__getattribute__" = some (some (.builtin "type.__getattribute__"))) (b_r35:PySem.W.readsIn K yN (.type "type") = true) (b_a35:PySem.W.findCls K (.ref yN) (.type "type") "__init__" = some (.val (.ref f35))) (l35:K.lookup f35 = some ⟨oc35,od35,.func (PySem.W.fnOf "__init__" "Way.__init__" (defArgs Y15) (defBody Y15) (defScope Y15) .none kV35 dc35 pm35 an35 cd35 ct35),sl35⟩) (c35:PySem.W.codeIn K cd35 "Way.__init__" = true) (k35:PySem.W.keepIn K (.ref f35) = true)
    (i36:PySem.W.findIn K (.ref yR) "__init__" = some (some (.ref f36))) (if36:PySem.W.isFn K (.ref f36) = true) (im36:PySem.W.makesIn K yR = true) (ik36:PySem.W.keepIn K (.ref yR) = true) (l36:K.lookup f36 = some ⟨oc36,od36,.func (PySem.W.fnOf "__init__" "Low.__init__" (defArgs Y8) (defBody Y8) (defScope Y8) .none kV36 dc36 pm36 an36 cd36 ct36),sl36⟩) (c36:PySem.W.codeIn K cd36 "Low.__init__" = true) (k36:PySem.W.keepIn K (.ref f36) = true)
    (b_s37:PySem.W.specialIn K (.ref yN) "__getattribute__" = some (some (.builtin "type.__getattribute__"))) (b_r37:PySem.W.readsIn K yN (.type "type") = true) (b_a37:PySem.W.findCls K (.ref yN) (.type "type") "__init__" = some (.val (.ref f37))) (l37:K.lookup f37 = some ⟨oc37,od37,.func (PySem.W.fnOf "__init__" "Way.__init__" (defArgs Y16) (defBody Y16) (defScope Y16) .none kV37 dc37 pm37 an37 cd37 ct37),sl37⟩) (c37:PySem.W.codeIn K cd37 "Way.__init__" = true) (k37:PySem.W.keepIn K (.ref f37) = true)
    (i38:PySem.W.findIn K (.ref yS) "__init__" = some (some (.ref f38))) (if38:PySem.W.isFn K (.ref f38) = true) (im38:PySem.W.makesIn K yS = true) (ik38:PySem.W.keepIn K (.ref yS) = true) (l38:K.lookup f38 = some ⟨oc38,od38,.func (PySem.W.fnOf "__init__" "High.__init__" (defArgs Y6) (defBody Y6) (defScope Y6) .none kV38 dc38 pm38 an38 cd38 ct38),sl38⟩) (c38:PySem.W.codeIn K cd38 "High.__init__" = true) (k38:PySem.W.keepIn K (.ref f38) = true)
    (b_s39:PySem.W.specialIn K (.ref yN) "__getattribute__" = some (some (.builtin "type.__getattribute__"))) (b_r39:PySem.W.readsIn K yN (.type "type") = true) (b_a39:PySem.W.findCls K (.ref yN) (.type "type") "__init__" = some (.val (.ref f39))) (l39:K.lookup f39 = some ⟨oc39,od39,.func (PySem.W.fnOf "__init__" "Way.__init__" (defArgs Y14) (defBody Y14) (defScope Y14) .none kV39 dc39 pm39 an39 cd39 ct39),sl39⟩) (c39:PySem.W.codeIn K cd39 "Way.__init__" = true) (k39:PySem.W.keepIn K (.ref f39) = true)
    (i40:PySem.W.findIn K (.ref yT) "__init__" = some (some (.ref f40))) (if40:PySem.W.isFn K (.ref f40) = true) (im40:PySem.W.makesIn K yT = true) (ik40:PySem.W.keepIn K (.ref yT) = true) (l40:K.lookup f40 = some ⟨oc40,od40,.func (PySem.W.fnOf "__init__" "Sum.__init__" (defArgs Y11) (defBody Y11) (defScope Y11) .none kV40 dc40 pm40 an40 cd40 ct40),sl40⟩) (c40:PySem.W.codeIn K cd40 "Sum.__init__" = true) (k40:PySem.W.keepIn K (.ref f40) = true)
    (b_s41:PySem.W.specialIn K (.ref yN) "__getattribute__" = some (some (.builtin "type.__getattribute__"))) (b_r41:PySem.W.readsIn K yN (.type "type") = true) (b_a41:PySem.W.findCls K (.ref yN) (.type "type") "__init__" = some (.val (.ref f41))) (l41:K.lookup f41 = some ⟨oc41,od41,.func (PySem.W.fnOf "__init__" "Way.__init__" (defArgs Y18) (defBody Y18) (defScope Y18) .none kV41 dc41 pm41 an41 cd41 ct41),sl41⟩) (c41:PySem.W.codeIn K cd41 "Way.__init__" = true) (k41:PySem.W.keepIn K (.ref f41) = true)
    (m42:PySem.W.findIn K (.ref yV) "has_code" = some (some (.ref f42))) (mf42:PySem.W.isFn K (.ref f42) = true) (l42:K.lookup f42 = some ⟨oc42,od42,.func (PySem.W.fnOf "has_code" "Domain.has_code" (defArgs Y3) (defBody Y3) (defScope Y3) .none kV42 dc42 pm42 an42 cd42 ct42),sl42⟩) (c42:PySem.W.codeIn K cd42 "Domain.has_code" = true) (k42:PySem.W.keepIn K (.ref f42) = true)
    (m43:PySem.W.findIn K (.ref yW) "has_code" = some (some (.ref f43))) (mf43:PySem.W.isFn K (.ref f43) = true) (l43:K.lookup f43 = some ⟨oc43,od43,.func (PySem.W.fnOf "has_code" "Domain.has_code" (defArgs Y4) (defBody Y4) (defScope Y4) .none kV43 dc43 pm43 an43 cd43 ct43),sl43⟩) (c43:PySem.W.codeIn K cd43 "Domain.has_code" = true) (k43:PySem.W.keepIn K (.ref f43) = true)
    (i44:PySem.W.findIn K (.ref yV) "__init__" = some (some (.ref f44))) (if44:PySem.W.isFn K (.ref f44) = true) (im44:PySem.W.makesIn K yV = true) (ik44:PySem.W.keepIn K (.ref yV) = true) (l44:K.lookup f44 = some ⟨oc44,od44,.func (PySem.W.fnOf "__init__" "Numbers.__init__" (defArgs Y9) (defBody Y9) (defScope Y9) .none kV44 dc44 pm44 an44 cd44 ct44),sl44⟩) (c44:PySem.W.codeIn K cd44 "Numbers.__init__" = true) (k44:PySem.W.keepIn K (.ref f44) = true)
    (b_s45:PySem.W.specialIn K (.ref yU) "__getattribute__" = some (some (.builtin "type.__getattribute__"))) (b_r45:PySem.W.readsIn K yU (.type "type") = true) (b_a45:PySem.W.findCls K (.ref yU) (.type "type") "__init__" = some (.val (.ref f45))) (l45:K.lookup f45 = some ⟨oc45,od45,.func (PySem.W.fnOf "__init__" "Domain.__init__" (defArgs Y1) (defBody Y1) (defScope Y1) .none kV45 dc45 pm45 an45 cd45 ct45),sl45⟩) (c45:PySem.W.codeIn K cd45 "Domain.__init__" = true) (k45:PySem.W.keepIn K (.ref f45) = true)
    (i46:PySem.W.findIn K (.ref yW) "__init__" = some (some (.ref f46))) (if46:PySem.W.isFn K (.ref f46) = true) (im46:PySem.W.makesIn K yW = true) (ik46:PySem.W.keepIn K (.ref yW) = true) (l46:K.lookup f46 = some ⟨oc46,od46,.func (PySem.W.fnOf "__init__" "Words.__init__" (defArgs Y19) (defBody Y19) (defScope Y19) .none kV46 dc46 pm46 an46 cd46 ct46),sl46⟩) (c46:PySem.W.codeIn K cd46 "Words.__init__" = true) (k46:PySem.W.keepIn K (.ref f46) = true)
    (b_s47:PySem.W.specialIn K (.ref yU) "__getattribute__" = some (some (.builtin "type.__getattribute__"))) (b_r47:PySem.W.readsIn K yU (.type "type") = true) (b_a47:PySem.W.findCls K (.ref yU) (.type "type") "__init__" = some (.val (.ref f47))) (l47:K.lookup f47 = some ⟨oc47,od47,.func (PySem.W.fnOf "__init__" "Domain.__init__" (defArgs Y2) (defBody Y2) (defScope Y2) .none kV47 dc47 pm47 an47 cd47 ct47),sl47⟩) (c47:PySem.W.codeIn K cd47 "Domain.__init__" = true) (k47:PySem.W.keepIn K (.ref f47) = true)
    (a48:PySem.W.nsIn K mainGlobals "law" = some (some (.ref f48))) (l48:K.lookup f48 = some ⟨oc48,od48,.func (PySem.W.fnOf "law" "law" (defArgs Y25) (defBody Y25) (defScope Y25) .none kV48 dc48 pm48 an48 cd48 ct48),sl48⟩) (c48:PySem.W.codeIn K cd48 "law" = true) (k48:PySem.W.keepIn K (.ref f48) = true)
    (z0:PySem.W.nsIn K mainGlobals "len" = some none)
    (z1:PySem.W.nsIn K mainGlobals "isinstance" = some none)
    (z2:PySem.W.nsIn K mainGlobals "int" = some none)
    (z3:PySem.W.nsIn K mainGlobals "bool" = some none)
    (z4:PySem.W.nsIn K mainGlobals "set" = some none)
    (z5:PySem.W.nsIn K mainGlobals "dict" = some none)
    (z6:PySem.W.nsIn K mainGlobals "zip" = some none)
    (z7:PySem.W.nsIn K mainGlobals "list" = some none)
    (z8:PySem.W.nsIn K mainGlobals "range" = some none)
    (z9:PySem.W.nsIn K mainGlobals "min" = some none)
    (z10:PySem.W.nsIn K mainGlobals "max" = some none)
    {w0:Value} (y0:PySem.W.nsIn K mainGlobals "MOST_SIGNS" = some (some w0)) (x0:RelV (V.int 12) w0)
    {w1:Value} (y1:PySem.W.nsIn K mainGlobals "SMALL_LETTERS" = some (some w1)) (x1:RelV (V.str "abcdefghijklmnopqrstuvwxyz") w1)
    {w2:Value} (y2:PySem.W.nsIn K mainGlobals "MOST_FACTS" = some (some w2)) (x2:RelV (V.int 20) w2)
    {w3:Value} (y3:PySem.W.nsIn K mainGlobals "MOST_TABLES" = some (some w3)) (x3:RelV (V.int 30) w3)
    {w4:Value} (y4:PySem.W.nsIn K mainGlobals "MOST_ROWS" = some (some w4)) (x4:RelV (V.int 200) w4)
    {w5:Value} (y5:PySem.W.nsIn K mainGlobals "MOST_COLUMNS" = some (some w5)) (x5:RelV (V.int 4) w5)
    {w6:Value} (y6:PySem.W.nsIn K mainGlobals "MOST_WORDS" = some (some w6)) (x6:RelV (V.int 40) w6)
    (x_NoTable:PySem.W.excIn K yE [.type "ValueError",.type "Exception",.type "BaseException",.type "object"] "ValueError.__new__" = true)
    (l0_NoTable:PySem.W.findIn K (.ref yE) "__getattribute__" = some (some (.builtin "BaseException.__getattribute__")))
    (l1_NoTable:PySem.W.findIn K (.ref yE) "__getattr__" = some none)
    (l2_NoTable:PySem.W.findIn K (.ref yE) "__class__" = some (some (.builtin "object.__class__")))
    (l3_NoTable:PySem.W.specialIn K (.builtin "object.__class__") "__get__" = some (some (.builtin "getset_descriptor.__get__")))
    (l4_NoTable:PySem.W.takesIn K (.builtin "object.__class__") = some true)
    (l5_NoTable:PySem.W.mroIn K yE (.type "object") = some true)
    (l6_NoTable:PySem.W.mroIn K yE (.type "BaseException") = some true)
    (l7_NoTable:PySem.W.kitCls K (.ref yE) (.ref yE) = some true)
    (pg_First:PySem.W.plainGet K yO Str.empty = true) (hd_First:PySem.W.hasDictIn K yO = true) (po_First:PySem.W.plainOver K yO = true) (sa_First:PySem.W.findIn K (.ref yO) "__setattr__" = some (some (.builtin "object.__setattr__")))
    (pg_Only:PySem.W.plainGet K yP Str.empty = true) (hd_Only:PySem.W.hasDictIn K yP = true) (po_Only:PySem.W.plainOver K yP = true) (sa_Only:PySem.W.findIn K (.ref yP) "__setattr__" = some (some (.builtin "object.__setattr__")))
    (pg_Like:PySem.W.plainGet K yQ Str.empty = true) (hd_Like:PySem.W.hasDictIn K yQ = true) (po_Like:PySem.W.plainOver K yQ = true) (sa_Like:PySem.W.findIn K (.ref yQ) "__setattr__" = some (some (.builtin "object.__setattr__")))
    (pg_Low:PySem.W.plainGet K yR Str.empty = true) (hd_Low:PySem.W.hasDictIn K yR = true) (po_Low:PySem.W.plainOver K yR = true) (sa_Low:PySem.W.findIn K (.ref yR) "__setattr__" = some (some (.builtin "object.__setattr__")))
    (pg_High:PySem.W.plainGet K yS Str.empty = true) (hd_High:PySem.W.hasDictIn K yS = true) (po_High:PySem.W.plainOver K yS = true) (sa_High:PySem.W.findIn K (.ref yS) "__setattr__" = some (some (.builtin "object.__setattr__")))
    (pg_Sum:PySem.W.plainGet K yT Str.empty = true) (hd_Sum:PySem.W.hasDictIn K yT = true) (po_Sum:PySem.W.plainOver K yT = true) (sa_Sum:PySem.W.findIn K (.ref yT) "__setattr__" = some (some (.builtin "object.__setattr__")))
    (pg_Numbers:PySem.W.plainGet K yV Str.empty = true) (hd_Numbers:PySem.W.hasDictIn K yV = true) (po_Numbers:PySem.W.plainOver K yV = true) (sa_Numbers:PySem.W.findIn K (.ref yV) "__setattr__" = some (some (.builtin "object.__setattr__")))
    (pg_Words:PySem.W.plainGet K yW Str.empty = true) (hd_Words:PySem.W.hasDictIn K yW = true) (po_Words:PySem.W.plainOver K yW = true) (sa_Words:PySem.W.findIn K (.ref yW) "__setattr__" = some (some (.builtin "object.__setattr__")))
    (pg_Table:PySem.W.plainGet K yX Str.empty = true) (hd_Table:PySem.W.hasDictIn K yX = true) (po_Table:PySem.W.plainOver K yX = true) (sa_Table:PySem.W.findIn K (.ref yX) "__setattr__" = some (some (.builtin "object.__setattr__")))
    (pg_Book:PySem.W.plainGet K cBook Str.empty = true) (hd_Book:PySem.W.hasDictIn K cBook = true) (po_Book:PySem.W.plainOver K cBook = true) (sa_Book:PySem.W.findIn K (.ref cBook) "__setattr__" = some (some (.builtin "object.__setattr__")))
    (ta_First:PySem.W.findIn K (.ref yO) "__class__" = some (some (.builtin "object.__class__"))) (tn_First:PySem.W.specialIn K (.builtin "object.__class__") "__get__" = some (some (.builtin "getset_descriptor.__get__"))) (tt_First:PySem.W.takesIn K (.builtin "object.__class__") = some true) (tm_First:PySem.W.mroIn K yO (.type "object") = some true)
    (ta_Only:PySem.W.findIn K (.ref yP) "__class__" = some (some (.builtin "object.__class__"))) (tn_Only:PySem.W.specialIn K (.builtin "object.__class__") "__get__" = some (some (.builtin "getset_descriptor.__get__"))) (tt_Only:PySem.W.takesIn K (.builtin "object.__class__") = some true) (tm_Only:PySem.W.mroIn K yP (.type "object") = some true)
    (ta_Like:PySem.W.findIn K (.ref yQ) "__class__" = some (some (.builtin "object.__class__"))) (tn_Like:PySem.W.specialIn K (.builtin "object.__class__") "__get__" = some (some (.builtin "getset_descriptor.__get__"))) (tt_Like:PySem.W.takesIn K (.builtin "object.__class__") = some true) (tm_Like:PySem.W.mroIn K yQ (.type "object") = some true)
    (ta_Low:PySem.W.findIn K (.ref yR) "__class__" = some (some (.builtin "object.__class__"))) (tn_Low:PySem.W.specialIn K (.builtin "object.__class__") "__get__" = some (some (.builtin "getset_descriptor.__get__"))) (tt_Low:PySem.W.takesIn K (.builtin "object.__class__") = some true) (tm_Low:PySem.W.mroIn K yR (.type "object") = some true)
    (ta_High:PySem.W.findIn K (.ref yS) "__class__" = some (some (.builtin "object.__class__"))) (tn_High:PySem.W.specialIn K (.builtin "object.__class__") "__get__" = some (some (.builtin "getset_descriptor.__get__"))) (tt_High:PySem.W.takesIn K (.builtin "object.__class__") = some true) (tm_High:PySem.W.mroIn K yS (.type "object") = some true)
    (ta_Sum:PySem.W.findIn K (.ref yT) "__class__" = some (some (.builtin "object.__class__"))) (tn_Sum:PySem.W.specialIn K (.builtin "object.__class__") "__get__" = some (some (.builtin "getset_descriptor.__get__"))) (tt_Sum:PySem.W.takesIn K (.builtin "object.__class__") = some true) (tm_Sum:PySem.W.mroIn K yT (.type "object") = some true)
    (ta_Numbers:PySem.W.findIn K (.ref yV) "__class__" = some (some (.builtin "object.__class__"))) (tn_Numbers:PySem.W.specialIn K (.builtin "object.__class__") "__get__" = some (some (.builtin "getset_descriptor.__get__"))) (tt_Numbers:PySem.W.takesIn K (.builtin "object.__class__") = some true) (tm_Numbers:PySem.W.mroIn K yV (.type "object") = some true)
    (ta_Words:PySem.W.findIn K (.ref yW) "__class__" = some (some (.builtin "object.__class__"))) (tn_Words:PySem.W.specialIn K (.builtin "object.__class__") "__get__" = some (some (.builtin "getset_descriptor.__get__"))) (tt_Words:PySem.W.takesIn K (.builtin "object.__class__") = some true) (tm_Words:PySem.W.mroIn K yW (.type "object") = some true)
    (ta_Table:PySem.W.findIn K (.ref yX) "__class__" = some (some (.builtin "object.__class__"))) (tn_Table:PySem.W.specialIn K (.builtin "object.__class__") "__get__" = some (some (.builtin "getset_descriptor.__get__"))) (tt_Table:PySem.W.takesIn K (.builtin "object.__class__") = some true) (tm_Table:PySem.W.mroIn K yX (.type "object") = some true)
    (ta_Book:PySem.W.findIn K (.ref cBook) "__class__" = some (some (.builtin "object.__class__"))) (tn_Book:PySem.W.specialIn K (.builtin "object.__class__") "__get__" = some (some (.builtin "getset_descriptor.__get__"))) (tt_Book:PySem.W.takesIn K (.builtin "object.__class__") = some true) (tm_Book:PySem.W.mroIn K cBook (.type "object") = some true)
    (na_First_called:PySem.W.findIn K (.ref yO) "called" = some none)
    (na_Only_called:PySem.W.findIn K (.ref yP) "called" = some none)
    (na_Like_called:PySem.W.findIn K (.ref yQ) "called" = some none)
    (na_Low_called:PySem.W.findIn K (.ref yR) "called" = some none)
    (na_High_called:PySem.W.findIn K (.ref yS) "called" = some none)
    (na_Sum_called:PySem.W.findIn K (.ref yT) "called" = some none)
    (na_Numbers_low:PySem.W.findIn K (.ref yV) "low" = some none)
    (na_Numbers_high:PySem.W.findIn K (.ref yV) "high" = some none)
    (na_Numbers_words:PySem.W.findIn K (.ref yV) "words" = some none)
    (na_Words_low:PySem.W.findIn K (.ref yW) "low" = some none)
    (na_Words_high:PySem.W.findIn K (.ref yW) "high" = some none)
    (na_Words_words:PySem.W.findIn K (.ref yW) "words" = some none)
    (na_Table_name:PySem.W.findIn K (.ref yX) "name" = some none)
    (na_Table_names:PySem.W.findIn K (.ref yX) "names" = some none)
    (na_Table_domains:PySem.W.findIn K (.ref yX) "domains" = some none)
    (na_Table_outcome:PySem.W.findIn K (.ref yX) "outcome" = some none)
    (na_Table_way:PySem.W.findIn K (.ref yX) "way" = some none)
    (na_Table_rows:PySem.W.findIn K (.ref yX) "rows" = some none)
    (na_Book_facts:PySem.W.findIn K (.ref cBook) "facts" = some none)
    (na_Book_tables:PySem.W.findIn K (.ref cBook) "tables" = some none)
    (f_nn:PySem.W.kitOne K (.ref yV) (.ref yV) = some true)
    (f_wn:PySem.W.kitOne K (.ref yW) (.ref yV) = some false)
    (f_ww:PySem.W.kitOne K (.ref yW) (.ref yW) = some true)
    (f_tt:PySem.W.kitOne K (.ref yX) (.ref yX) = some true)
    (f_nw:PySem.W.kitOne K (.ref yV) (.ref yW) = some false)
    (e_NoTable:PySem.W.exmOne K (.ref yE) (.ref yA) = some true)
    (e2_NoTable:PySem.W.exmOne K (.ref yE) (.ref yE) = some true)
    (v_NoTable:PySem.W.kitOne K (.ref yE) (.ref yA) = some true)
    (g_NoTable:PySem.W.kitOne K (.ref yE) (.ref yE) = some true)
    : ∃ fd:FuncData,(∀ (s:Shared) (v:Value),BindsTo s fd ⟨[v],[]⟩ [("script",v)])∧∀ base:Heap,K.In base→base.Ns mainGlobals mg→FnOk l.prog w K mg base CX0 9 fa fd ["script"] (J25 K):=by
  have e:=hfa.symm.trans (PySem.W.mg_of X G a48)
  cases e
  have F0:=fun_mk (st:=Y21) l0 c0 k0
  have b0:=F0.binds (ps:=["text", "signs"]) fun _ _ _ _ _ _ us hl=>match us,hl with | [_,_],_=>rfl
  have F1:=fun_mk (st:=Y24) l1 c1 k1
  have b1:=F1.binds (ps:=["text"]) fun _ _ _ _ _ _ us hl=>match us,hl with | [_],_=>rfl
  have F2:=fun_mk (st:=Y23) l2 c2 k2
  have b2:=F2.binds (ps:=["value"]) fun _ _ _ _ _ _ us hl=>match us,hl with | [_],_=>rfl
  have F3:=fun_mk (st:=Y20) l3 c3 k3
  have b3:=F3.binds (ps:=["one", "other"]) fun _ _ _ _ _ _ us hl=>match us,hl with | [_,_],_=>rfl
  have F4:=fun_mk (st:=Y39) l4 c4 k4
  have b4:=F4.binds (ps:=["facts", "tables"]) fun _ _ _ _ _ _ us hl=>match us,hl with | [_,_],_=>rfl
  have F5:=fun_mk (st:=Y42) l5 c5 k5
  have b5:=F5.binds (ps:=["facts", "tables"]) fun _ _ _ _ _ _ us hl=>match us,hl with | [_,_],_=>rfl
  have F6:=fun_mk (st:=Y41) l6 c6 k6
  have b6:=F6.binds (ps:=["facts", "tables"]) fun _ _ _ _ _ _ us hl=>match us,hl with | [_,_],_=>rfl
  have F7:=fun_mk (st:=Y44) l7 c7 k7
  have b7:=F7.binds (ps:=["tables"]) fun _ _ _ _ _ _ us hl=>match us,hl with | [_],_=>rfl
  have F8:=fun_mk (st:=Y37) l8 c8 k8
  have b8:=F8.binds (ps:=["table", "names"]) fun _ _ _ _ _ _ us hl=>match us,hl with | [_,_],_=>rfl
  have F9:=fun_mk (st:=Y47) l9 c9 k9
  have b9:=F9.binds (ps:=["book", "name"]) fun _ _ _ _ _ _ us hl=>match us,hl with | [_,_],_=>rfl
  have F10:=fun_mk (st:=Y22) l10 c10 k10
  have b10:=F10.binds (ps:=["book", "name"]) fun _ _ _ _ _ _ us hl=>match us,hl with | [_,_],_=>rfl
  have F11:=fun_mk (st:=Y48) l11 c11 k11
  have b11:=F11.binds (ps:=["name"]) fun _ _ _ _ _ _ us hl=>match us,hl with | [_],_=>rfl
  have F12:=fun_mk (st:=Y43) l12 c12 k12
  have b12:=F12.binds (ps:=["names"]) fun _ _ _ _ _ _ us hl=>match us,hl with | [_],_=>rfl
  have F13:=fun_mk (st:=Y40) l13 c13 k13
  have b13:=F13.binds (ps:=["names", "rows"]) fun _ _ _ _ _ _ us hl=>match us,hl with | [_,_],_=>rfl
  have F14:=fun_mk (st:=Y46) l14 c14 k14
  have b14:=F14.binds (ps:=["way", "outcome"]) fun _ _ _ _ _ _ us hl=>match us,hl with | [_,_],_=>rfl
  have F15:=fun_mk (st:=Y45) l15 c15 k15
  have b15:=F15.binds (ps:=["domains", "outcome", "cells", "code"]) fun _ _ _ _ _ _ us hl=>match us,hl with | [_,_,_,_],_=>rfl
  have F16:=fun_mk (st:=Y38) l16 c16 k16
  have b16:=F16.binds (ps:=["cells", "code"]) fun _ _ _ _ _ _ us hl=>match us,hl with | [_,_],_=>rfl
  have F17:=fun_mk (st:=Y26) l17 c17 k17
  have b17:=F17.binds (ps:=["script", "k"]) fun _ _ _ _ _ _ us hl=>match us,hl with | [_,_],_=>rfl
  have F18:=fun_mk (st:=Y36) l18 c18 k18
  have b18:=F18.binds (ps:=["cell", "count"]) fun _ _ _ _ _ _ us hl=>match us,hl with | [_,_],_=>rfl
  have F19:=fun_mk (st:=Y28) l19 c19 k19
  have b19:=F19.binds (ps:=["cell"]) fun _ _ _ _ _ _ us hl=>match us,hl with | [_],_=>rfl
  have F20:=fun_mk (st:=Y32) l20 c20 k20
  have b20:=F20.binds (ps:=["domain", "cell"]) fun _ _ _ _ _ _ us hl=>match us,hl with | [_,_],_=>rfl
  have F21:=fun_mk (st:=Y34) l21 c21 k21
  have b21:=F21.binds (ps:=["kind", "one", "two", "domain"]) fun _ _ _ _ _ _ us hl=>match us,hl with | [_,_,_,_],_=>rfl
  have F22:=fun_mk (st:=Y33) l22 c22 k22
  have b22:=F22.binds (ps:=["columns", "domains", "pools", "own", "cell"]) fun _ _ _ _ _ _ us hl=>match us,hl with | [_,_,_,_,_],_=>rfl
  have F23:=fun_mk (st:=Y27) l23 c23 k23
  have b23:=F23.binds (ps:=["script"]) fun _ _ _ _ _ _ us hl=>match us,hl with | [_],_=>rfl
  have F24:=fun_mk (st:=Y30) l24 c24 k24
  have b24:=F24.binds (ps:=["domain"]) fun _ _ _ _ _ _ us hl=>match us,hl with | [_],_=>rfl
  have F25:=fun_mk (st:=Y35) l25 c25 k25
  have b25:=F25.binds (ps:=["plan", "k"]) fun _ _ _ _ _ _ us hl=>match us,hl with | [_,_],_=>rfl
  have F26:=fun_mk (st:=Y29) l26 c26 k26
  have b26:=F26.binds (ps:=["plan"]) fun _ _ _ _ _ _ us hl=>match us,hl with | [_],_=>rfl
  have F27:=fun_mk (st:=Y31) l27 c27 k27
  have b27:=F27.binds (ps:=["book", "name"]) fun _ _ _ _ _ _ us hl=>match us,hl with | [_,_],_=>rfl
  have F28:=fun_mk (st:=Y0) l28 c28 k28
  have b28:=F28.binds (ps:=["self", "facts", "tables"]) fun _ _ _ _ _ _ us hl=>match us,hl with | [_,_,_],_=>rfl
  have F29:=fun_mk (st:=Y12) l29 c29 k29
  have b29:=F29.binds (ps:=["self", "name", "names", "domains", "outcome", "way", "rows"]) fun _ _ _ _ _ _ us hl=>match us,hl with | [_,_,_,_,_,_,_],_=>rfl
  have F30:=fun_mk (st:=Y5) l30 c30 k30
  have b30:=F30.binds (ps:=["self"]) fun _ _ _ _ _ _ us hl=>match us,hl with | [_],_=>rfl
  have F31:=fun_mk (st:=Y13) l31 c31 k31
  have b31:=F31.binds (ps:=["self", "called"]) fun _ _ _ _ _ _ us hl=>match us,hl with | [_,_],_=>rfl
  have F32:=fun_mk (st:=Y10) l32 c32 k32
  have b32:=F32.binds (ps:=["self"]) fun _ _ _ _ _ _ us hl=>match us,hl with | [_],_=>rfl
  have F33:=fun_mk (st:=Y17) l33 c33 k33
  have b33:=F33.binds (ps:=["self", "called"]) fun _ _ _ _ _ _ us hl=>match us,hl with | [_,_],_=>rfl
  have F34:=fun_mk (st:=Y7) l34 c34 k34
  have b34:=F34.binds (ps:=["self"]) fun _ _ _ _ _ _ us hl=>match us,hl with | [_],_=>rfl
  have F35:=fun_mk (st:=Y15) l35 c35 k35
  have b35:=F35.binds (ps:=["self", "called"]) fun _ _ _ _ _ _ us hl=>match us,hl with | [_,_],_=>rfl
  have F36:=fun_mk (st:=Y8) l36 c36 k36
  have b36:=F36.binds (ps:=["self"]) fun _ _ _ _ _ _ us hl=>match us,hl with | [_],_=>rfl
  have F37:=fun_mk (st:=Y16) l37 c37 k37
  have b37:=F37.binds (ps:=["self", "called"]) fun _ _ _ _ _ _ us hl=>match us,hl with | [_,_],_=>rfl
  have F38:=fun_mk (st:=Y6) l38 c38 k38
  have b38:=F38.binds (ps:=["self"]) fun _ _ _ _ _ _ us hl=>match us,hl with | [_],_=>rfl
  have F39:=fun_mk (st:=Y14) l39 c39 k39
  have b39:=F39.binds (ps:=["self", "called"]) fun _ _ _ _ _ _ us hl=>match us,hl with | [_,_],_=>rfl
  have F40:=fun_mk (st:=Y11) l40 c40 k40
  have b40:=F40.binds (ps:=["self"]) fun _ _ _ _ _ _ us hl=>match us,hl with | [_],_=>rfl
  have F41:=fun_mk (st:=Y18) l41 c41 k41
  have b41:=F41.binds (ps:=["self", "called"]) fun _ _ _ _ _ _ us hl=>match us,hl with | [_,_],_=>rfl
  have F42:=fun_mk (st:=Y3) l42 c42 k42
  have b42:=F42.binds (ps:=["self", "value"]) fun _ _ _ _ _ _ us hl=>match us,hl with | [_,_],_=>rfl
  have F43:=fun_mk (st:=Y4) l43 c43 k43
  have b43:=F43.binds (ps:=["self", "value"]) fun _ _ _ _ _ _ us hl=>match us,hl with | [_,_],_=>rfl
  have F44:=fun_mk (st:=Y9) l44 c44 k44
  have b44:=F44.binds (ps:=["self", "low", "high"]) fun _ _ _ _ _ _ us hl=>match us,hl with | [_,_,_],_=>rfl
  have F45:=fun_mk (st:=Y1) l45 c45 k45
  have b45:=F45.binds (ps:=["self", "low", "high"]) fun _ _ _ _ _ _ us hl=>match us,hl with | [_,_,_],_=>rfl
  have F46:=fun_mk (st:=Y19) l46 c46 k46
  have b46:=F46.binds (ps:=["self", "words"]) fun _ _ _ _ _ _ us hl=>match us,hl with | [_,_],_=>rfl
  have F47:=fun_mk (st:=Y2) l47 c47 k47
  have b47:=F47.binds (ps:=["self", "low", "high"]) fun _ _ _ _ _ _ us hl=>match us,hl with | [_,_,_],_=>rfl
  have F48:=fun_mk (st:=Y25) l48 c48 k48
  have b48:=F48.binds (ps:=["script"]) fun _ _ _ _ _ _ us hl=>match us,hl with | [_],_=>rfl
  have bl:Bl K mg yA yE yN yO yP yQ yR yS yT yU yV yW yX cBook:=⟨PySem.W.mg_of X G n_TableError,n_TableError,PySem.W.mg_of X G n_NoTable,n_NoTable,PySem.W.mg_of X G n_Way,n_Way,PySem.W.mg_of X G n_First,n_First,PySem.W.mg_of X G n_Only,n_Only,PySem.W.mg_of X G n_Like,n_Like,PySem.W.mg_of X G n_Low,n_Low,PySem.W.mg_of X G n_High,n_High,PySem.W.mg_of X G n_Sum,n_Sum,PySem.W.mg_of X G n_Domain,n_Domain,PySem.W.mg_of X G n_Numbers,n_Numbers,PySem.W.mg_of X G n_Words,n_Words,PySem.W.mg_of X G n_Table,n_Table,PySem.W.mg_of X G n_Book,n_Book,ExcCls.value x_NoTable,⟨l0_NoTable,l1_NoTable,l2_NoTable,l3_NoTable,l4_NoTable,l5_NoTable,l6_NoTable,l7_NoTable⟩,⟨pg_First,hd_First,po_First,sa_First⟩,⟨pg_Only,hd_Only,po_Only,sa_Only⟩,⟨pg_Like,hd_Like,po_Like,sa_Like⟩,⟨pg_Low,hd_Low,po_Low,sa_Low⟩,⟨pg_High,hd_High,po_High,sa_High⟩,⟨pg_Sum,hd_Sum,po_Sum,sa_Sum⟩,⟨pg_Numbers,hd_Numbers,po_Numbers,sa_Numbers⟩,⟨pg_Words,hd_Words,po_Words,sa_Words⟩,⟨pg_Table,hd_Table,po_Table,sa_Table⟩,⟨pg_Book,hd_Book,po_Book,sa_Book⟩,⟨⟨pg_First,hd_First,po_First,sa_First⟩,ta_First,tn_First,tt_First,tm_First⟩,⟨⟨pg_Only,hd_Only,po_Only,sa_Only⟩,ta_Only,tn_Only,tt_Only,tm_Only⟩,⟨⟨pg_Like,hd_Like,po_Like,sa_Like⟩,ta_Like,tn_Like,tt_Like,tm_Like⟩,⟨⟨pg_Low,hd_Low,po_Low,sa_Low⟩,ta_Low,tn_Low,tt_Low,tm_Low⟩,⟨⟨pg_High,hd_High,po_High,sa_High⟩,ta_High,tn_High,tt_High,tm_High⟩,⟨⟨pg_Sum,hd_Sum,po_Sum,sa_Sum⟩,ta_Sum,tn_Sum,tt_Sum,tm_Sum⟩,⟨⟨pg_Numbers,hd_Numbers,po_Numbers,sa_Numbers⟩,ta_Numbers,tn_Numbers,tt_Numbers,tm_Numbers⟩,⟨⟨pg_Words,hd_Words,po_Words,sa_Words⟩,ta_Words,tn_Words,tt_Words,tm_Words⟩,⟨⟨pg_Table,hd_Table,po_Table,sa_Table⟩,ta_Table,tn_Table,tt_Table,tm_Table⟩,⟨⟨pg_Book,hd_Book,po_Book,sa_Book⟩,ta_Book,tn_Book,tt_Book,tm_Book⟩,na_First_called,na_Only_called,na_Like_called,na_Low_called,na_High_called,na_Sum_called,na_Numbers_low,na_Numbers_high,na_Numbers_words,na_Words_low,na_Words_high,na_Words_words,na_Table_name,na_Table_names,na_Table_domains,na_Table_outcome,na_Table_way,na_Table_rows,na_Book_facts,na_Book_tables,f_nn,f_wn,f_ww,f_tt,f_nw,e_NoTable,e2_NoTable,v_NoTable,g_NoTable,PySem.W.mg_none_of X G z0,PySem.W.mg_none_of X G z1,PySem.W.mg_none_of X G z2,PySem.W.mg_none_of X G z3,PySem.W.mg_none_of X G z4,PySem.W.mg_none_of X G z5,PySem.W.mg_none_of X G z6,PySem.W.mg_none_of X G z7,PySem.W.mg_none_of X G z8,PySem.W.mg_none_of X G z9,PySem.W.mg_none_of X G z10,⟨_,PySem.W.mg_of X G y0,x0⟩,⟨_,PySem.W.mg_of X G y1,x1⟩,⟨_,PySem.W.mg_of X G y2,x2⟩,⟨_,PySem.W.mg_of X G y3,x3⟩,⟨_,PySem.W.mg_of X G y4,x4⟩,⟨_,PySem.W.mg_of X G y5,x5⟩,⟨_,PySem.W.mg_of X G y6,x6⟩⟩
  refine ⟨PySem.W.fnOf "law" "law" (defArgs Y25) (defBody Y25) (defScope Y25) .none kV48 dc48 pm48 an48 cd48 ct48,fun s v=>.of_eq rfl,fun base _ _=>?_⟩
  have O0:=O_21 (P:=l.prog) (w:=w) (base:=base) F0 bl
  have C_all_among:Callee l.prog w K mg base 1 "all_among" ["text", "signs"] (J21 K yA yE yN yO yP yQ yR yS yT yU yV yW yX cBook):=⟨_,_,O0,b0,k0,PySem.W.mg_of X G a0⟩
  have O2:=O_23 (P:=l.prog) (w:=w) (base:=base) F2 bl
  have C_is_whole:Callee l.prog w K mg base 1 "is_whole" ["value"] (J23 K yA yE yN yO yP yQ yR yS yT yU yV yW yX cBook):=⟨_,_,O2,b2,k2,PySem.W.mg_of X G a2⟩
  have O3:=O_20 (P:=l.prog) (w:=w) (base:=base) F3 bl
  have C_alike:Callee l.prog w K mg base 1 "alike" ["one", "other"] (J20 K yA yE yN yO yP yQ yR yS yT yU yV yW yX cBook):=⟨_,_,O3,b3,k3,PySem.W.mg_of X G a3⟩
  have O4:=O_39 (P:=l.prog) (w:=w) (base:=base) F4 bl
  have C_refuse_counts_books:Callee l.prog w K mg base 1 "refuse_counts_books" ["facts", "tables"] (J39 K yA yE yN yO yP yQ yR yS yT yU yV yW yX cBook):=⟨_,_,O4,b4,k4,PySem.W.mg_of X G a4⟩
  have O8:=O_37 (P:=l.prog) (w:=w) (base:=base) F8 bl
  have C_named_among:Callee l.prog w K mg base 1 "named_among" ["table", "names"] (J37 K yA yE yN yO yP yQ yR yS yT yU yV yW yX cBook):=⟨_,_,O8,b8,k8,PySem.W.mg_of X G a8⟩
  have O9:=O_47 (P:=l.prog) (w:=w) (base:=base) F9 bl
  have C_table_of:CalleeX l.prog w K mg base 1 "table_of" ["book", "name"] (J47 K yA yE yN yO yP yQ yR yS yT yU yV yW yX cBook):=⟨_,_,O9,b9,k9,PySem.W.mg_of X G a9⟩
  have O13:=O_40 (P:=l.prog) (w:=w) (base:=base) F13 bl
  have C_refuse_counts_tables:Callee l.prog w K mg base 1 "refuse_counts_tables" ["names", "rows"] (J40 K yA yE yN yO yP yQ yR yS yT yU yV yW yX cBook):=⟨_,_,O13,b13,k13,PySem.W.mg_of X G a13⟩
  have O16:=O_38 (P:=l.prog) (w:=w) (base:=base) F16 bl
  have C_own_row:Callee l.prog w K mg base 1 "own_row" ["cells", "code"] (J38 K yA yE yN yO yP yQ yR yS yT yU yV yW yX cBook):=⟨_,_,O16,b16,k16,PySem.W.mg_of X G a16⟩
  have O17:=O_26 (P:=l.prog) (w:=w) (base:=base) F17 bl
  have C_law_at:Callee l.prog w K mg base 1 "_law_at" ["script", "k"] (J26 K yA yE yN yO yP yQ yR yS yT yU yV yW yX cBook):=⟨_,_,O17,b17,k17,PySem.W.mg_of X G a17⟩
  have O18:=O_36 (P:=l.prog) (w:=w) (base:=base) F18 bl
  have C_law_words:Callee l.prog w K mg base 1 "_law_words" ["cell", "count"] (J36 K yA yE yN yO yP yQ yR yS yT yU yV yW yX cBook):=⟨_,_,O18,b18,k18,PySem.W.mg_of X G a18⟩
  have O20:=O_32 (P:=l.prog) (w:=w) (base:=base) F20 bl
  have C_law_pool:Callee l.prog w K mg base 1 "_law_pool" ["domain", "cell"] (J32 K yA yE yN yO yP yQ yR yS yT yU yV yW yX cBook):=⟨_,_,O20,b20,k20,PySem.W.mg_of X G a20⟩
  have O21:=O_34 (P:=l.prog) (w:=w) (base:=base) F21 bl
  have C_law_spans:Callee l.prog w K mg base 1 "_law_spans" ["kind", "one", "two", "domain"] (J34 K yA yE yN yO yP yQ yR yS yT yU yV yW yX cBook):=⟨_,_,O21,b21,k21,PySem.W.mg_of X G a21⟩
  have O31:=O_13 (P:=l.prog) (w:=w) (base:=base) F31 bl
  have B_Way___init___First:BCallee CX0 l.prog w K mg base 1 "Way" "__init__" ["self", "called"] (J13 K yA yE yN yO yP yQ yR yS yT yU yV yW yX cBook):=⟨_,_,_,⟨b_s31,b_r31,b_a31,k31⟩,O31,b31,PySem.W.mg_of X G n_Way⟩
  have O33:=O_17 (P:=l.prog) (w:=w) (base:=base) F33 bl
  have B_Way___init___Only:BCallee CX0 l.prog w K mg base 1 "Way" "__init__" ["self", "called"] (J17 K yA yE yN yO yP yQ yR yS yT yU yV yW yX cBook):=⟨_,_,_,⟨b_s33,b_r33,b_a33,k33⟩,O33,b33,PySem.W.mg_of X G n_Way⟩
  have O35:=O_15 (P:=l.prog) (w:=w) (base:=base) F35 bl
  have B_Way___init___Like:BCallee CX0 l.prog w K mg base 1 "Way" "__init__" ["self", "called"] (J15 K yA yE yN yO yP yQ yR yS yT yU yV yW yX cBook):=⟨_,_,_,⟨b_s35,b_r35,b_a35,k35⟩,O35,b35,PySem.W.mg_of X G n_Way⟩
  have O37:=O_16 (P:=l.prog) (w:=w) (base:=base) F37 bl
  have B_Way___init___Low:BCallee CX0 l.prog w K mg base 1 "Way" "__init__" ["self", "called"] (J16 K yA yE yN yO yP yQ yR yS yT yU yV yW yX cBook):=⟨_,_,_,⟨b_s37,b_r37,b_a37,k37⟩,O37,b37,PySem.W.mg_of X G n_Way⟩
  have O39:=O_14 (P:=l.prog) (w:=w) (base:=base) F39 bl
  have B_Way___init___High:BCallee CX0 l.prog w K mg base 1 "Way" "__init__" ["self", "called"] (J14 K yA yE yN yO yP yQ yR yS yT yU yV yW yX cBook):=⟨_,_,_,⟨b_s39,b_r39,b_a39,k39⟩,O39,b39,PySem.W.mg_of X G n_Way⟩
  have O41:=O_18 (P:=l.prog) (w:=w) (base:=base) F41 bl
  have B_Way___init___Sum:BCallee CX0 l.prog w K mg base 1 "Way" "__init__" ["self", "called"] (J18 K yA yE yN yO yP yQ yR yS yT yU yV yW yX cBook):=⟨_,_,_,⟨b_s41,b_r41,b_a41,k41⟩,O41,b41,PySem.W.mg_of X G n_Way⟩
  have O45:=O_1 (P:=l.prog) (w:=w) (base:=base) F45 bl
  have B_Domain___init___Numbers:BCallee CX0 l.prog w K mg base 1 "Domain" "__init__" ["self", "low", "high"] (J1 K yA yE yN yO yP yQ yR yS yT yU yV yW yX cBook):=⟨_,_,_,⟨b_s45,b_r45,b_a45,k45⟩,O45,b45,PySem.W.mg_of X G n_Domain⟩
  have O47:=O_2 (P:=l.prog) (w:=w) (base:=base) F47 bl
  have B_Domain___init___Words:BCallee CX0 l.prog w K mg base 1 "Domain" "__init__" ["self", "low", "high"] (J2 K yA yE yN yO yP yQ yR yS yT yU yV yW yX cBook):=⟨_,_,_,⟨b_s47,b_r47,b_a47,k47⟩,O47,b47,PySem.W.mg_of X G n_Domain⟩
  have O1:=O_24 (P:=l.prog) (w:=w) (base:=base) F1 bl (C_all_among.mono (by decide))
  have C_is_word:Callee l.prog w K mg base 2 "is_word" ["text"] (J24 K yA yE yN yO yP yQ yR yS yT yU yV yW yX cBook):=⟨_,_,O1,b1,k1,PySem.W.mg_of X G a1⟩
  have O6:=O_41 (P:=l.prog) (w:=w) (base:=base) F6 bl (C_alike.mono (by decide))
  have C_refuse_domains:Callee l.prog w K mg base 2 "refuse_domains" ["facts", "tables"] (J41 K yA yE yN yO yP yQ yR yS yT yU yV yW yX cBook):=⟨_,_,O6,b6,k6,PySem.W.mg_of X G a6⟩
  have O7:=O_44 (P:=l.prog) (w:=w) (base:=base) F7 bl (C_named_among.mono (by decide))
  have C_refuse_rings:Callee l.prog w K mg base 2 "refuse_rings" ["tables"] (J44 K yA yE yN yO yP yQ yR yS yT yU yV yW yX cBook):=⟨_,_,O7,b7,k7,PySem.W.mg_of X G a7⟩
  have O10:=O_22 (P:=l.prog) (w:=w) (base:=base) F10 bl (C_named_among.mono (by decide)) (C_table_of.mono (by decide))
  have C_asks:CalleeX l.prog w K mg base 2 "asks" ["book", "name"] (J22 K yA yE yN yO yP yQ yR yS yT yU yV yW yX cBook):=⟨_,_,O10,b10,k10,PySem.W.mg_of X G a10⟩
  have O19:=O_28 (P:=l.prog) (w:=w) (base:=base) F19 bl (C_law_words.mono (by decide))
  have C_law_domain:Callee l.prog w K mg base 2 "_law_domain" ["cell"] (J28 K yA yE yN yO yP yQ yR yS yT yU yV yW yX cBook):=⟨_,_,O19,b19,k19,PySem.W.mg_of X G a19⟩
  have O22:=O_33 (P:=l.prog) (w:=w) (base:=base) F22 bl (C_law_spans.mono (by decide))
  have C_law_row:Callee l.prog w K mg base 2 "_law_row" ["columns", "domains", "pools", "own", "cell"] (J33 K yA yE yN yO yP yQ yR yS yT yU yV yW yX cBook):=⟨_,_,O22,b22,k22,PySem.W.mg_of X G a22⟩
  have O30:=O_5 (P:=l.prog) (w:=w) (base:=base) F30 bl (B_Way___init___First.mono (by decide))
  have K_First___init___First:MkCallee CX0 l.prog w K mg base 2 "First" yO ["self"] (J5 K yA yE yN yO yP yQ yR yS yT yU yV yW yX cBook):=⟨_,_,⟨im30,i30,if30,ik30⟩,O30,b30,PySem.W.mg_of X G n_First⟩
  have O32:=O_10 (P:=l.prog) (w:=w) (base:=base) F32 bl (B_Way___init___Only.mono (by decide))
  have K_Only___init___Only:MkCallee CX0 l.prog w K mg base 2 "Only" yP ["self"] (J10 K yA yE yN yO yP yQ yR yS yT yU yV yW yX cBook):=⟨_,_,⟨im32,i32,if32,ik32⟩,O32,b32,PySem.W.mg_of X G n_Only⟩
  have O34:=O_7 (P:=l.prog) (w:=w) (base:=base) F34 bl (B_Way___init___Like.mono (by decide))
  have K_Like___init___Like:MkCallee CX0 l.prog w K mg base 2 "Like" yQ ["self"] (J7 K yA yE yN yO yP yQ yR yS yT yU yV yW yX cBook):=⟨_,_,⟨im34,i34,if34,ik34⟩,O34,b34,PySem.W.mg_of X G n_Like⟩
  have O36:=O_8 (P:=l.prog) (w:=w) (base:=base) F36 bl (B_Way___init___Low.mono (by decide))
  have K_Low___init___Low:MkCallee CX0 l.prog w K mg base 2 "Low" yR ["self"] (J8 K yA yE yN yO yP yQ yR yS yT yU yV yW yX cBook):=⟨_,_,⟨im36,i36,if36,ik36⟩,O36,b36,PySem.W.mg_of X G n_Low⟩
  have O38:=O_6 (P:=l.prog) (w:=w) (base:=base) F38 bl (B_Way___init___High.mono (by decide))
  have K_High___init___High:MkCallee CX0 l.prog w K mg base 2 "High" yS ["self"] (J6 K yA yE yN yO yP yQ yR yS yT yU yV yW yX cBook):=⟨_,_,⟨im38,i38,if38,ik38⟩,O38,b38,PySem.W.mg_of X G n_High⟩
  have O40:=O_11 (P:=l.prog) (w:=w) (base:=base) F40 bl (B_Way___init___Sum.mono (by decide))
  have K_Sum___init___Sum:MkCallee CX0 l.prog w K mg base 2 "Sum" yT ["self"] (J11 K yA yE yN yO yP yQ yR yS yT yU yV yW yX cBook):=⟨_,_,⟨im40,i40,if40,ik40⟩,O40,b40,PySem.W.mg_of X G n_Sum⟩
  have O42:=O_3 (P:=l.prog) (w:=w) (base:=base) F42 bl (C_is_whole.mono (by decide))
  have M_Domain_has_code_Numbers:MCallee CX0 l.prog w K mg base 2 yV "has_code" ["self", "value"] (J3 K yA yE yN yO yP yQ yR yS yT yU yV yW yX cBook):=⟨_,_,⟨m42,mf42,k42⟩,O42,b42⟩
  have O43:=O_4 (P:=l.prog) (w:=w) (base:=base) F43 bl (C_is_whole.mono (by decide))
  have M_Domain_has_code_Words:MCallee CX0 l.prog w K mg base 2 yW "has_code" ["self", "value"] (J4 K yA yE yN yO yP yQ yR yS yT yU yV yW yX cBook):=⟨_,_,⟨m43,mf43,k43⟩,O43,b43⟩
  have O44:=O_9 (P:=l.prog) (w:=w) (base:=base) F44 bl (B_Domain___init___Numbers.mono (by decide))
  have K_Numbers___init___Numbers:MkCallee CX0 l.prog w K mg base 2 "Numbers" yV ["self", "low", "high"] (J9 K yA yE yN yO yP yQ yR yS yT yU yV yW yX cBook):=⟨_,_,⟨im44,i44,if44,ik44⟩,O44,b44,PySem.W.mg_of X G n_Numbers⟩
  have O5:=O_42 (P:=l.prog) (w:=w) (base:=base) F5 bl (C_is_word.mono (by decide))
  have C_refuse_names_books:Callee l.prog w K mg base 3 "refuse_names_books" ["facts", "tables"] (J42 K yA yE yN yO yP yQ yR yS yT yU yV yW yX cBook):=⟨_,_,O5,b5,k5,PySem.W.mg_of X G a5⟩
  have O12:=O_43 (P:=l.prog) (w:=w) (base:=base) F12 bl (C_is_word.mono (by decide))
  have C_refuse_names_tables:Callee l.prog w K mg base 3 "refuse_names_tables" ["names"] (J43 K yA yE yN yO yP yQ yR yS yT yU yV yW yX cBook):=⟨_,_,O12,b12,k12,PySem.W.mg_of X G a12⟩
  have O15:=O_45 (P:=l.prog) (w:=w) (base:=base) F15 bl (M_Domain_has_code_Numbers.mono (by decide)) (M_Domain_has_code_Words.mono (by decide))
  have C_refuse_row:Callee l.prog w K mg base 3 "refuse_row" ["domains", "outcome", "cells", "code"] (J45 K yA yE yN yO yP yQ yR yS yT yU yV yW yX cBook):=⟨_,_,O15,b15,k15,PySem.W.mg_of X G a15⟩
  have O23:=O_27 (P:=l.prog) (w:=w) (base:=base) F23 bl (C_law_domain.mono (by decide)) (C_law_pool.mono (by decide)) (C_law_at.mono (by decide)) (C_law_words.mono (by decide)) (C_law_row.mono (by decide))
  have C_law_book:Callee l.prog w K mg base 3 "_law_book" ["script"] (J27 K yA yE yN yO yP yQ yR yS yT yU yV yW yX cBook):=⟨_,_,O23,b23,k23,PySem.W.mg_of X G a23⟩
  have O27:=O_31 (P:=l.prog) (w:=w) (base:=base) F27 bl (C_table_of.mono (by decide)) (C_asks.mono (by decide))
  have C_law_no_table:Callee l.prog w K mg base 3 "_law_no_table" ["book", "name"] (J31 K yA yE yN yO yP yQ yR yS yT yU yV yW yX cBook):=⟨_,_,O27,b27,k27,PySem.W.mg_of X G a27⟩
  have O46:=O_19 (P:=l.prog) (w:=w) (base:=base) F46 bl (B_Domain___init___Words.mono (by decide)) (C_is_word.mono (by decide))
  have K_Words___init___Words:MkCallee CX0 l.prog w K mg base 3 "Words" yW ["self", "words"] (J19 K yA yE yN yO yP yQ yR yS yT yU yV yW yX cBook):=⟨_,_,⟨im46,i46,if46,ik46⟩,O46,b46,PySem.W.mg_of X G n_Words⟩
  have O11:=O_48 (P:=l.prog) (w:=w) (base:=base) F11 bl (K_First___init___First.mono (by decide)) (K_Only___init___Only.mono (by decide)) (K_Like___init___Like.mono (by decide)) (K_Low___init___Low.mono (by decide)) (K_High___init___High.mono (by decide)) (K_Sum___init___Sum.mono (by decide))
  have C_way_by:Callee l.prog w K mg base 4 "way_by" ["name"] (J48 K yA yE yN yO yP yQ yR yS yT yU yV yW yX cBook):=⟨_,_,O11,b11,k11,PySem.W.mg_of X G a11⟩
  have O28:=O_0 (P:=l.prog) (w:=w) (base:=base) F28 bl (C_refuse_counts_books.mono (by decide)) (C_refuse_names_books.mono (by decide)) (C_refuse_domains.mono (by decide)) (C_refuse_rings.mono (by decide))
  have K_Book___init___Book:MkCallee CX0 l.prog w K mg base 4 "Book" cBook ["self", "facts", "tables"] (J0 K yA yE yN yO yP yQ yR yS yT yU yV yW yX cBook):=⟨_,_,⟨im28,i28,if28,ik28⟩,O28,b28,PySem.W.mg_of X G n_Book⟩
  have O14:=O_46 (P:=l.prog) (w:=w) (base:=base) F14 bl (C_way_by.mono (by decide))
  have C_refuse_way:Callee l.prog w K mg base 5 "refuse_way" ["way", "outcome"] (J46 K yA yE yN yO yP yQ yR yS yT yU yV yW yX cBook):=⟨_,_,O14,b14,k14,PySem.W.mg_of X G a14⟩
  have O24:=O_30 (P:=l.prog) (w:=w) (base:=base) F24 bl (K_Numbers___init___Numbers.mono (by decide)) (K_Words___init___Words.mono (by decide))
  have C_law_made:Callee l.prog w K mg base 5 "_law_made" ["domain"] (J30 K yA yE yN yO yP yQ yR yS yT yU yV yW yX cBook):=⟨_,_,O24,b24,k24,PySem.W.mg_of X G a24⟩
  have O26:=O_29 (P:=l.prog) (w:=w) (base:=base) F26 bl (C_law_made.mono (by decide))
  have C_law_facts:Callee l.prog w K mg base 6 "_law_facts" ["plan"] (J29 K yA yE yN yO yP yQ yR yS yT yU yV yW yX cBook):=⟨_,_,O26,b26,k26,PySem.W.mg_of X G a26⟩
  have O29:=O_12 (P:=l.prog) (w:=w) (base:=base) F29 bl (C_refuse_names_tables.mono (by decide)) (C_refuse_counts_tables.mono (by decide)) (C_refuse_way.mono (by decide)) (C_refuse_row.mono (by decide)) (C_own_row.mono (by decide))
  have K_Table___init___Table:MkCallee CX0 l.prog w K mg base 6 "Table" yX ["self", "name", "names", "domains", "outcome", "way", "rows"] (J12 K yA yE yN yO yP yQ yR yS yT yU yV yW yX cBook):=⟨_,_,⟨im29,i29,if29,ik29⟩,O29,b29,PySem.W.mg_of X G n_Table⟩
  have O25:=O_35 (P:=l.prog) (w:=w) (base:=base) F25 bl (K_Table___init___Table.mono (by decide)) (C_law_made.mono (by decide))
  have C_law_table:Callee l.prog w K mg base 8 "_law_table" ["plan", "k"] (J35 K yA yE yN yO yP yQ yR yS yT yU yV yW yX cBook):=⟨_,_,O25,b25,k25,PySem.W.mg_of X G a25⟩
  exact O_25 F48 bl (C_law_book.mono (by decide)) (K_Book___init___Book.mono (by decide)) (C_law_table.mono (by decide)) (C_law_facts.mono (by decide)) (C_table_of.mono (by decide)) (C_asks.mono (by decide)) (C_law_no_table.mono (by decide)) (C_law_at.mono (by decide))
theorem walk {l:PySem.W.OpenLaw} {q:Program} {loose:List Str} {XP:(Str→Option Value)→Heap→Prop} {YP:World→Heap→Prop} {d:DefRec} {K:Params→PySem.W.Frag} (hn:l.most = some 63) (hdf:d.params.defaults = [])
    (hY:∀ (w:World) (h:Heap),YP w h→(K w.params).In h)
    (F:∀ (w:World) (mg:Str→Option Value) (fa:Addr) (h:Heap),(K w.params).In h→h.Ns mainGlobals mg→mg d.name = some (.ref fa) →
      ∃ fd:FuncData,(∀ (s:Shared) (u:Value),BindsTo s fd ⟨[u],[]⟩ [("script",u)])∧∀ base:Heap,(K w.params).In base→base.Ns mainGlobals mg→FnOk l.prog w (K w.params) mg base CX0 9 fa fd ["script"] (J25 (K w.params))) :
    PySem.W.WalkO q loose XP YP l.row.toRowW d [] (fun f vs=>PySem.call f vs) :=
  L2.walk_of (n:=63) (k:=9) (x := "script") (CX:=fun _=>CX0) (sp:=fun w=>J25 (K w.params)) hn (by decide) hdf ⟨rfl,by decide,by decide⟩ hY F (fun _ _ a ns hl _ hS=>⟨a,ns,rfl,hS,hl,fun _=>rfl⟩) fun _ _ _ _ _ z=>z
end My
namespace PySem.W.Fast
def tw1992563091086515137:=()
def tw17281276745639550069:=()
def tw2234951075679256687:=()
def tw2471623299362678596:=()
def tw15388591174054606414:=()
def tw11136109581687744368:=()
def tw17007657071056354050:=()
def tw18092925507108946427:=()
def tw16599983438747049713:=()
def tw4929682040524854860:=()
def tw16758833033166613511:=()
def tw1072531967026031979:=()
def tw15299872027679718580:=()
def tw12211397533956359591:=()
def tw5627364888789993553:=()
def tw11924494591910981919:=()
def tw16771307759659624821:=()
def tw3635904082657069629:=()
def tw3864567649907005790:=()
def tw287154039913666823:=()
def tw4893768119225940738:=()
def tw2117404962178343974:=()
def tw15253627789764976355:=()
def tw9513513970722139199:=()
def tw10111308195590430863:=()
def tw15846884710852863382:=()
def tw1437429246992231581:=()
def tw5727457236886619798:=()
def tw8578486183777505836:=()
def tw6991955590518423409:=()
def tw14221622821899352666:=()
def tw9688313720747065824:=()
def tw12737283825066109016:=()
def tw17528846727117482924:=()
def tw10945979021549804000:=()
def tw16413550460790031857:=()
def tw7344517895772216421:=()
def tw16947807502093935572:=()
def tw6494307793290832411:=()
def tw2057493690108123425:=()
def tw14909799513890908595:=()
def tw12459731801458833308:=()
def tw14282981422404424703:=()
def tw11634220528081403528:=()
def tw14401486171112960103:=()
def tw12156618872917700300:=()
def tw2464332191592629893:=()
def tw13364342809473872054:=()
def tw17479372185309438314:=()
def tw987599078009642581:=()
def tw2199533882965935653:=()
def tw5733672504004741412:=()
def tw5742280781067446261:=()
def tw18328090890146754957:=()
def tw2137593140239501521:=()
def tw13654709331733775313:=()
def tw14575128145856783623:=()
def tw6197943179489669201:=()
def tw5817394139335978455:=()
def tw12575269620138787445:=()
def tw13471429757176927738:=()
def tw3905224845543993679:=()
def tw17716919149847342760:=()
def tw12758330348585391822:=()
def tw7053193162933665737:=()
def tw16005199857741729059:=()
def tw17214794851061843604:=()
def tw8320007715634604702:=()
def tw752195174141489394:=()
def tw11206756289765925820:=()
def tw4851155262874155992:=()
def tw17565578095486974460:=()
def tw11036858347432908598:=()
def tw1572437251918052751:=()
def tw10045025078731650395:=()
def tw5740434922241151908:=()
def tw14125489954106848350:=()
def tw12479860802707737817:=()
def tw14082114373618579903:=()
def tw10271334661294533616:=()
def tw2849881646936567100:=()
def tw1563414270582802456:=()
def tw8844034182828428316:=()
def tw18235806123491774001:=()
def tw2928029014250726843:=()
def tw756751842658740429:=()
def tw9167259816775813164:=()
def tw14362281230460579341:=()
def tw1654515086926056305:=()
def tw16625748178487604808:=()
def tw5600327398623214234:=()
def tw16772402831561041918:=()
def tw14652930492748089962:=()
def tw4292888259460201387:=()
def tw3482208599603980020:=()
def tw12178422411349736788:=()
def tw6977834143559896920:=()
def tw6764571221326373326:=()
def tw10027892940382607004:=()
def tw17233159231400506104:=()
def tw6307395714193396594:=()
def tw9452263021702057572:=()
def tw4178741228453396054:=()
def tw735694305972521734:=()
def tw1932027405391482529:=()
def tw16668022885322981558:=()
def tw14728732415137468901:=()
def tw8872921539574572189:=()
def tw17713799067632404531:=()
def tw854949923818499939:=()
def tw16216029485543073309:=()
def tw4523789253481509496:=()
def tw1970996508111762627:=()
def tw2905349981950511654:=()
def tw13337950436823072353:=()
def tw15309388047704295899:=()
def tw13855645854574430723:=()
def tw15343990055247706816:=()
def tw17767191306760103212:=()
def tw17922767871779508937:=()
def tw16764719566541895549:=()
def tw1969362410789372532:=()
def tw1214462983685429319:=()
def tw16528006101989745351:=()
def tw3144498828451202199:=()
def tw2392324094692886718:=()
def tw11217424086601315883:=()
def tw9822803398142351808:=()
def tw15301901387681775839:=()
def tw9457688273296178633:=()
def tw1175107244017306648:=()
def tw2504229670480515175:=()
def tw18353981779221362673:=()
def tw8388591857976775236:=()
def tw1436725787154620350:=()
def tw10005672963009214950:=()
def tw6871689989621361315:=()
def tw16296962311958641295:=()
def tw1438127954438077298:=()
def tw17370286256836957106:=()
def tw14549286310831123053:=()
def tw9599712121872618359:=()
def tw5310895934268354159:=()
def tw13805146103079426979:=()
def tw577576298066867275:=()
def tw7583364568154087904:=()
def tw16170313375870140876:=()
def tw17988733135087290757:=()
def tw15426432513165560823:=()
def tw369081102676184457:=()
def tw17586262737727911878:=()
def tw9986846471257348625:=()
def tw15142494373362535260:=()
def tw13060858256914658456:=()
def tw14420432961252630353:=()
def tw2515878557654097074:=()
def tw10076278892729071336:=()
def tw11732539421294114861:=()
def tw12073231958456445293:=()
def tw15173862991095999807:=()
def tw4429362127423672893:=()
def tw3373923030636947234:=()
def tw8087797823856919534:=()
def tw15930322406941594757:=()
def tw5206590314261536641:=()
def tw11050174499299272111:=()
def tw18079804585733644627:=()
def tw2037825153600745216:=()
def tw14908562181247603677:=()
def tw6465514766537670717:=()
def tw8111034252489805484:=()
def tw14215659562963651355:=()
def tw4559631304388764718:=()
def tw12739476246287521522:=()
def tw15549052546829163827:=()
def tw12964147884726062616:=()
def tw17082006795996700062:=()
def tw17088554970021714407:=()
def tw7801237531642821369:=()
def tw4560272580206571039:=()
def tw9400457028805778063:=()
def tw18214680597444158909:=()
def tw14666074758893962873:=()
def tw10812703068248478203:=()
def tw5011026924142137718:=()
def tw2512437139679641009:=()
def tw6535879515395970411:=()
def tw17410734298394428701:=()
def tw11480775801598966966:=()
def tw14921028050543055715:=()
def tw6265917953303083231:=()
def tw6911709509406872264:=()
def tw3683330937501848628:=()
def tw18322216073532862245:=()
def tw6877844857354867364:=()
def tw3011859046168797656:=()
def tw14129943587375774054:=()
def tw15442026303585416375:=()
def tw12755439234622945596:=()
def tw1950555546749404578:=()
def tw16992005981730952888:=()
def tw15726859910935633403:=()
def tw2176878041155407445:=()
def tw12859696944472038504:=()
def tw18294083897351571443:=()
def tw15614609539963494867:=()
def tw17004754506922638978:=()
def tw3678699125753542528:=()
def tw17766207120190324125:=()
def tw16568150932822734214:=()
def tw5206252234974074383:=()
def tw12006699416255049112:=()
def tw9967570942928443618:=()
def tw3324298066305769980:=()
def tw2998790644091739968:=()
def tw5176818376511673194:=()
def tw15245871271356249193:=()
def tw270079530145491487:=()
def tw6532245369782148463:=()
def tw14484812022014438092:=()
def tw12465690574686732220:=()
def tw9837859099826021166:=()
def tw10246375253075239057:=()
def tw14378494503029774107:=()
def tw8515764714796036802:=()
def tw11695439977719226587:=()
def tw17276400039098010804:=()
def tw7006885850810621834:=()
def tw13506604302128918940:=()
def tw14424023403733524732:=()
def tw14085052925111840737:=()
def tw8799456279513034028:=()
def tw4112073773193812665:=()
def tw12755978402309571183:=()
def tw491777286777984534:=()
def tw5342111871304930441:=()
def tw13768572230368312160:=()
def tw1340647440761530955:=()
def tw18331824049764400196:=()
def tw2931047688350611554:=()
def tw17951724656401790242:=()
def tw3659231473089626326:=()
def tw7650754409754909849:=()
def tw11601687938267813040:=()
def tw13111760640292635285:=()
def tw11203876746452666860:=()
def tw8243774674046041145:=()
def tw6272264797304570338:=()
def tw1331431798103891839:=()
def tw9334014921849130918:=()
def tw4541680230603478732:=()
def tw5178022352199113338:=()
def tw16354783915413859555:=()
def tw15212966578814115966:=()
def tw3354996582340089260:=()
def tw15731449173686886706:=()
def tw12726202318125392481:=()
def tw3343102664568810592:=()
def tw9928138163986724237:=()
def tw16735012174048754480:=()
def tw9458318428331347358:=()
def tw5821579505883945616:=()
def tw4947232477057185889:=()
def tw6672709543665257499:=()
def tw12678943580328546162:=()
def tw16065342911720753931:=()
def tw15227959267455984345:=()
def tw10785796947492388323:=()
def tw14358259476513740612:=()
def tw6472461076389271211:=()
def tw13497811926682099275:=()
def tw1023689360079129797:=()
def tw10315010330516602670:=()
def tw13148291314613513897:=()
def tw5498742699977648028:=()
def tw3447804455104205989:=()
def tw4284540723293211277:=()
def tw5229679218358279524:=()
def tw7572354651666523337:=()
def tw4554139853970171930:=()
def tw16070942561927091460:=()
def tw12701092479667502570:=()
def tw16419975306318803667:=()
def tw14538051753148931010:=()
def tw3110792648786505488:=()
def tw17589784536089722800:=()
def tw3528541693817902545:=()
def tw16785903565315883717:=()
def tw11028813860586823096:=()
def tw4743131648043640873:=()
def tw2417035420069422719:=()
def tw9376531287429585160:=()
def tw126303410969193412:=()
def tw18276792071852340274:=()
def tw4473589984464675671:=()
def tw11473365137709143399:=()
def tw9907127967427776837:=()
def tw17226967061418311680:=()
def tw15201351747401356643:=()
def tw3219627219652290877:=()
def tw8166129206000532386:=()
def tw8581813719811671571:=()
def tw15007012664889527885:=()
def tw2673071753561276106:=()
def tw5993875173970692785:=()
def tw5386203152834045182:=()
def tw13466212205810711849:=()
def tw6959319724325404091:=()
def tw11185129016069395242:=()
def tw5865191886949517819:=()
def tw16481056101683096270:=()
def tw10313925887136250102:=()
def tw537149206118889042:=()
def tw15128506934567816479:=()
def tw13453576897946108509:=()
def tw4945297980004017711:=()
def tw3520408194875963850:=()
def tw13845448069133097922:=()
def tw11915651859237422194:=()
def tw18290161570111543059:=()
def tw18438543205705069938:=()
def tw18277649962584797667:=()
def tw8672588025593720446:=()
def tw14967512395034510778:=()
def tw5140254412182411006:=()
def tw981205554172782073:=()
def tw13018317554790944991:=()
def tw13621502159909824674:=()
def tw7461087879682894108:=()
def tw13348292197666045047:=()
def tw5396945810844671954:=()
def tw5114378245396344372:=()
def tw7042484673527823148:=()
def tw17807873311088661180:=()
def tw8912756205043922097:=()
def tw3756591134297511556:=()
def tw309195509463110945:=()
def tw17415869239133930913:=()
def tw4602135633045055615:=()
def tw14527493302585540770:=()
def tw5145337450298021511:=()
def tw13647261965813356978:=()
def tw17707503963991105089:=()
def tw17227751920352564113:=()
def tw11550755559564203799:=()
def tw13716804394661559664:=()
def tw15980127000736414311:=()
def tw9127072205539054285:=()
def tw12169840319566668818:=()
def tw5840231053259230256:=()
def tw6451154088304767155:=()
def tw14893320548247998628:=()
def tw16833915404864139948:=()
def tw16806702999261915233:=()
def tw13855378878518890016:=()
def tw8174003002994382998:=()
def tw17008831421982408931:=()
def tw1098235061899283334:=()
def tw10081269846046367880:=()
def tw3805921212136932601:=()
def tw17499609716711412166:=()
def tw522111584389143506:=()
def tw16733820630709409260:=()
def tw3227262788844303504:=()
def tw3324300324134263934:=()
def tw16645791621776893785:=()
def tw6931453335915720023:=()
def tw2598649200106988812:=()
def tw6221264727298779384:=()
def tw10320279896863804420:=()
def tw5236445239960400699:=()
def tw1385940409840696257:=()
def tw6950058506485959944:=()
def tw10895165907691075409:=()
def tw5735698017309931585:=()
def tw14925275973208102936:=()
def tw15781011750676430640:=()
def tw1857612857468610437:=()
def tw2428514906613778793:=()
def tw7584395159882709430:=()
def tw6837480958161061035:=()
def tw3317404422878867133:=()
def tw13263556483174363411:=()
def tw15338281676122927687:=()
def tw786090427224374645:=()
def tw598208177919591028:=()
def tw15539304014007644541:=()
def tw5280507526059762599:=()
def tw4088621843814932071:=()
def tw7304824111556715140:=()
def tw1683407655358204864:=()
def tw8333615414623972788:=()
def tw1551088427976650710:=()
def tw15165939371934127444:=()
def tw2449653806234947999:=()
def tw8639452272817044576:=()
def tw7101196949254796685:=()
def tw7504018851561406608:=()
def tw6726479840150049719:=()
def tw553817199421650726:=()
def tw11430672027277392525:=()
def tw9468622561338374114:=()
def tw6263182579777422950:=()
def tw183325869397991426:=()
def tw9722960393328983395:=()
def tw8148498389433181245:=()
def tw9900623321691199697:=()
def tw8947259661928718713:=()
def tw2298234396096679039:=()
def tw5699322660321952475:=()
def tw1473672652280537013:=()
def tw5851801834017927299:=()
def tw4593132036111614218:=()
def tw16158928112116676830:=()
def tw10249669720452670877:=()
def tw793002055340122848:=()
def tw11301048758253778212:=()
def tw18433825646085451773:=()
def tw6936209618191233895:=()
def tw7891826387597919131:=()
def tw6467648799351858995:=()
def tw15835761151207460217:=()
def tw136077103850106051:=()
def tw4240200856209122331:=()
def tw8344488956190733122:=()
def tw3358613438842841444:=()
def tw1241457700185930977:=()
def tw15286128479916496605:=()
def tw12316912980274926079:=()
def tw5820163550830931075:=()
def tw10221599519486326290:=()
def tw16257276997700313360:=()
def tw3581001726943291637:=()
def tw14446871561241727702:=()
def tw10448558796212357624:=()
def tw9755313805787762570:=()
def tw14375635865208593947:=()
def tw2457419735469961086:=()
def tw5758554801930995758:=()
def tw7929753083314082964:=()
def tw7340438049355274947:=()
def tw16091485667401213504:=()
def tw7755064799669504909:=()
def tw14578699936788911685:=()
def tw5464907354205521306:=()
def tw12427009635908699214:=()
def tw12105525002386607445:=()
def tw2248444686252072653:=()
def tw9337959488027709395:=()
def tw4170134953003225786:=()
def tw11744898219282412851:=()
def tw13313032512682977891:=()
def tw11519264769010977620:=()
def tw17120363765957459473:=()
def tw13328262072566418369:=()
def tw17353650739897635372:=()
def tw9469600089181340240:=()
def tw887326134371513982:=()
def tw15663442254253162377:=()
def tw12579832655330876943:=()
def tw4362474636526631182:=()
def tw12005391746255918134:=()
def tw10047736779164134525:=()
def tw15957218858529154261:=()
def tw8235652892617891933:=()
def tw17411573622739179434:=()
def tw3106431950472298416:=()
def tw7383229504991407837:=()
def tw6261247954700094943:=()
def tw8309196260047326081:=()
def tw9709718695847381566:=()
def tw2127432769431275733:=()
def tw6005728114805005740:=()
def tw1442159366232326903:=()
def tw13807063449842778443:=()
def tw16931710519836040266:=()
def tw14058249077891282429:=()
def tw9919624707610316417:=()
def tw16168983405972155552:=()
def tw1712509619634465487:=()
def tw2924174095150294659:=()
def tw6033402347771386534:=()
def tw265632409327952558:=()
def tw319748930342698273:=()
def tw6174668387182439015:=()
def tw2576938416859838538:=()
def tw4346131244127341709:=()
def tw3640654501824000310:=()
def tw11931388906990403980:=()
def tw13545448420124134019:=()
def tw8551904839512347700:=()
def tw2080051477816542421:=()
def tw16258832641781833970:=()
def tw10727415104044082519:=()
def tw8173740902824298854:=()
def tw12374277954667003118:=()
def tw14544340533768710424:=()
def tw12362881962325318081:=()
def tw7193863503931893620:=()
def tw14339885085583140104:=()
def tw4726126710579986826:=()
def tw3772449155114819881:=()
def tw6842078945082789764:=()
def tw11636142148684922442:=()
def tw6257062995051462114:=()
def tw633525754056033948:=()
def tw536840620448804376:=()
def tw9451279921216470092:=()
def tw10524695050031760121:=()
def tw18148169851685955470:=()
def tw8785772815064718355:=()
def tw4804852959667600570:=()
def tw6408498832446466133:=()
def tw8033651494120024134:=()
def tw805071405453130609:=()
def tw1826768821161270469:=()
def tw17934453842861545593:=()
def tw17942173833792313541:=()
def tw1507849080322725826:=()
def tw15933524564274739161:=()
def tw5686541799410347455:=()
def tw10443393943144062423:=()
def tw2712126512382400903:=()
def tw6140677877186492695:=()
def tw2456838074253204549:=()
def tw14861048044970987223:=()
def tw9911377744720898456:=()
def tw10265320347365069870:=()
def tw14525658587008155527:=()
def tw3845229632329400341:=()
def tw15496513624224935803:=()
def tw15229364909053650130:=()
def tw3557022465478713930:=()
def tw91342526427287233:=()
def tw833643857787761621:=()
def tw1637873255270101278:=()
def tw7082812393048870437:=()
def tw14713929902757890277:=()
def tw11424948803473519835:=()
def tw1203448633225047633:=()
def tw2824453946450285022:=()
def tw14961876240595832583:=()
def tw1265186480247202803:=()
def tw7718756973405410464:=()
def tw8257098309010181150:=()
def tw2697181949940051342:=()
def tw5440365380364653549:=()
def tw9081955171726990344:=()
def tw2592636421501530330:=()
def tw13384979431685806271:=()
def tw2689740028333459884:=()
def tw6922737693976233475:=()
def tw14024019896897006995:=()
def tw985063358817811128:=()
def tw4069983988122261301:=()
def tw16582028749166336603:=()
def tw8847828476644573798:=()
def tw12269794103559439790:=()
def tw7944981185527263652:=()
def tw12666660729677534907:=()
def tw8577880404566447901:=()
def tw12255567841537435249:=()
def tw6448379860983611949:=()
def tw13704696586539752796:=()
def tw11588152718193790573:=()
def tw10792228908498218115:=()
def tw2612402327264990701:=()
def tw8321304813457537279:=()
def tw7353480031552045916:=()
def tw4654465988364512650:=()
def tw16403983991239766985:=()
def tw15561986033851843768:=()
def tw9833215383381202517:=()
def tw4853143486891522481:=()
def tw8112319054755982765:=()
def tw9681557696759620593:=()
def tw981859649027142401:=()
def tw6240978803547494506:=()
def tw3408289352445070601:=()
def tw3702569889556059533:=()
def tw18029484697881468888:=()
def tw17829762240755074183:=()
def tw9746421239113816139:=()
def tw14426651010583153354:=()
def tw15154824215390047764:=()
def tw5430358253752606313:=()
def tw5418233582443702005:=()
def tw17623904089430291341:=()
def tw8866560296300025138:=()
def tw3326293222017019783:=()
def tw5290710870924907233:=()
def tw17899200655892172935:=()
def tw11279923102685665688:=()
def tw9305307409037751316:=()
def tw1109726914477743105:=()
def tw1988133667648929117:=()
def tw2368844939053215768:=()
def tw16595062723613142611:=()
def tw9473672723122614538:=()
def tw575568130109950931:=()
def tw4167750919934182206:=()
def tw11390832552478867997:=()
def tw12716416602962422879:=()
def tw7332578960201458450:=()
def tw5466644083698187539:=()
def tw766884516259744885:=()
def tw12608707402058193438:=()
def tw7189933883572981951:=()
def tw10176302440853632778:=()
def tw9929298204349388290:=()
def tw17070193429729051108:=()
def tw15817609768325819818:=()
def tw14327823332109779762:=()
def tw16874274207588587865:=()
def tw17741265063472093124:=()
def tw17668919190060019330:=()
def tw1611261722878261559:=()
def tw14012763432680755084:=()
def tw337395111536251610:=()
def tw7410163785088497820:=()
def tw11744985888714790751:=()
def tw6145010514780643226:=()
def tw4072723309145122848:=()
def tw8473034680610604507:=()
def tw12366582081417088467:=()
def tw371247588891812601:=()
def tw17442764663125595785:=()
def tw3103522235783714894:=()
def tw16797402824081118660:=()
def tw14576935347542834444:=()
def tw15564277114751499768:=()
def tw17823706339641986358:=()
def tw7875607189936976852:=()
def tw5963104656933142354:=()
def tw4965771732367520531:=()
def tw2477326464773943303:=()
def tw15898191930006086974:=()
def tw9400396704725300660:=()
def tw13991906476453488593:=()
def tw8131323320313190412:=()
def tw8590225034739271946:=()
def tw7889241794936637739:=()
def tw1035296927640471457:=()
def tw16936357437233820141:=()
def tw17081403423241818779:=()
def tw5574380236175990538:=()
def tw10890096571536351296:=()
def tw7700246786824692731:=()
def tw17542385896403822863:=()
def tw17864176508776755153:=()
def tw18205367498301400313:=()
def tw11403584047301590402:=()
def tw5700047830230218872:=()
def tw12698641225631958872:=()
def tw7359784658576926018:=()
def tw12308353912965418049:=()
def tw10705308730502596511:=()
def tw8974066771394299731:=()
def tw7880181659353944713:=()
def tw1169823798632597478:=()
def tw7188526205457487748:=()
def tw4559378517944445420:=()
def tw11214741381483388865:=()
def tw7021463219253617349:=()
def tw1782908577563105697:=()
def tw1249718991181985588:=()
def tw3179061742958105037:=()
def tw4381722045009877287:=()
def tw8012210431533927288:=()
def tw5706586276452807100:=()
def tw5291073094087281136:=()
def tw8544647388764998658:=()
def tw3323523810955540951:=()
def tw40692371269312805:=()
def tw6765667679900636989:=()
def tw13966596807875290389:=()
def tw2360058674911770159:=()
def tw4263206184963851652:=()
def tw13320780090982530376:=()
def tw16572514961310205732:=()
def tw6984636111162859318:=()
def tw13053126836213083912:=()
def tw2531232427430837274:=()
def tw380742137165204411:=()
def tw12841379783602887170:=()
def tw6150945719504803695:=()
def tw12178372734093723505:=()
def tw12087896785775246828:=()
def tw3429631907152369605:=()
def tw1673460801551177773:=()
def tw3778768406531394548:=()
def tw2729261019822213474:=()
def tw5554731275040936613:=()
def tw13525588891139454442:=()
def tw15038610920079770828:=()
def tw3996021815529081342:=()
def tw14333555329417588428:=()
def tw12740041078302578103:=()
def tw314073410583719680:=()
def tw9740706598234023845:=()
def tw2017084396722526615:=()
def tw4157917133591074931:=()
def tw1937961050035373381:=()
def tw15744358326391642738:=()
def tw7028623733030687730:=()
def tw12638429053181406391:=()
def tw17861297689660026921:=()
def tw4875908644336792898:=()
def tw1587071816831292117:=()
def tw7329005977200699602:=()
def tw8862015885812897278:=()
def tw1892003579054991343:=()
def tw12459536464238249150:=()
def tw15453255876836714785:=()
def tw13809160177276598691:=()
def tw8889440186065254450:=()
def tw2216126363669320740:=()
def tw12850857485004816852:=()
def tw16120847848829965652:=()
def tw898482854829283123:=()
def tw7009522920263138099:=()
def tw717973797979225857:=()
def tw4635751585842532212:=()
def tw3585458543227305367:=()
def tw12774454980726093088:=()
def tw2215488058150991057:=()
def tw10269812868918314037:=()
def tw6649449194422919492:=()
def tw11009886467977595355:=()
def tw14806904715255934061:=()
def tw1937262496322074420:=()
def tw11962915077498663322:=()
def tw17000968968452782331:=()
def tw16975272496284355543:=()
def tw8949377469802846422:=()
def tw4928845459867276513:=()
def tw5529196762417268678:=()
def tw14077811544744289473:=()
def tw2403936916898709198:=()
def tw2104354892371601593:=()
def tw17974714164800755372:=()
def tw14186363080563352424:=()
def tw15093962259887685680:=()
def tw7260868725670107519:=()
def tw5467636059550100707:=()
def tw4502729055665835491:=()
def tw9335716335912153106:=()
def tw1251722339454075572:=()
def tw7140362689895785052:=()
def tw180399377874519907:=()
def tw3057705356812842796:=()
def tw8241904162490839437:=()
def tw4407288552378971463:=()
def tw1433566651062498669:=()
def tw14814367439391554134:=()
def tw7673321285872437164:=()
def tw7504400182334612179:=()
def tw12645028636581080352:=()
def tw13267098927585193733:=()
def tw3083162170425308827:=()
def tw11731717280876467418:=()
def tw12178191428721810988:=()
def tw8209960585553913613:=()
def tw7424218841980706607:=()
def tw16563703599553242044:=()
def tw16696076607464212030:=()
def tw15591684094396581849:=()
def tw3348660588758054567:=()
def tw18223334317336724102:=()
def tw270091345029539011:=()
def tw16424902676929087240:=()
def tw4541087703994644492:=()
def tw8365253879726389537:=()
def tw16774392331793548534:=()
def tw16065887060262782287:=()
def tw15746921102105504364:=()
def tw23586391213450550:=()
def tw3140102220368315098:=()
def tw8774421725375474901:=()
def tw5421729292350624693:=()
def tw1399064457539394271:=()
def tw10105632200912394807:=()
def tw5550139206915540332:=()
def tw14266722247054468007:=()
def tw7345134259496091180:=()
def tw13503845027625342170:=()
def tw10777883877374775244:=()
def tw144644754667058129:=()
def tw12057139479464743194:=()
def tw8194739446320280852:=()
def tw9804643455418766308:=()
def tw16464505643997649630:=()
def tw10029716848274724227:=()
def tw984706248718480603:=()
def tw4969157000372699820:=()
def tw15242540529123970412:=()
def tw18424215878577548805:=()
def tw9390537795188116639:=()
def tw18269834265449710073:=()
def tw16559015707697729756:=()
def tw1454487503136210934:=()
def tw16234476261481024908:=()
def tw10564559216964632224:=()
def tw9724326854938909213:=()
def tw345001063612768274:=()
def tw12183853303421773998:=()
def tw16104919380456293000:=()
def tw15474231504791497374:=()
def tw4158211787769863856:=()
def tw6530466371583566850:=()
def tw17943682047075404592:=()
def tw12173110865838906069:=()
def tw14151260324856454800:=()
def tw1895637667008941598:=()
def tw15197124985033307603:=()
def tw15002218121626428826:=()
def tw10890073345269436121:=()
def tw10911029977641149116:=()
def tw1733590265016909178:=()
def tw7623626538978723455:=()
def tw16868645008746797585:=()
def tw3641511015607134958:=()
def tw5925217529154116363:=()
def tw11517978200812638416:=()
def tw1531635002454164345:=()
def tw879366436085474426:=()
def tw15362850037020933697:=()
def tw9903334196712802359:=()
def tw5175142658940218011:=()
def tw16378945263881062496:=()
def tw17069145616470137858:=()
def tw977497193911674701:=()
def tw14181958323946620459:=()
def tw9004417820446244992:=()
def tw15352937178193363474:=()
end PySem.W.Fast
open PySem PySem.W PyProof.Rows
set_option maxRecDepth 100000 in
set_option maxHeartbeats 0 in
theorem PySem.Challenge.cw_rowjudge_k71_tables_of_a_book_holds : PySem.Challenge.rw_rowjudge_k71_tables_of_a_book.Holds := by
  w_on; o_law; k_head; (case hw=>w_witness2)
  k_fill
  refine My.walk (l:=PySem.Challenge.rw_rowjudge_k71_tables_of_a_book) rfl rfl (fun w h Y=>PySem.W.kIn_of Y) ?F
  case F =>
    intro w mg fa h KX G hmg
    refine' My.all_mk KX G hmg ?n_TableError ?n_NoTable ?n_Way ?n_First ?n_Only ?n_Like ?n_Low ?n_High ?n_Sum ?n_Domain ?n_Numbers ?n_Words ?n_Table ?n_Book ?a0 ?l0 ?c0 ?k0 ?a1 ?l1 ?c1 ?k1 ?a2 ?l2 ?c2 ?k2 ?a3 ?l3 ?c3 ?k3 ?a4 ?l4 ?c4 ?k4 ?a5 ?l5 ?c5 ?k5 ?a6 ?l6 ?c6 ?k6 ?a7 ?l7 ?c7 ?k7 ?a8 ?l8 ?c8 ?k8 ?a9 ?l9 ?c9 ?k9 ?a10 ?l10 ?c10 ?k10 ?a11 ?l11 ?c11 ?k11 ?a12 ?l12 ?c12 ?k12 ?a13 ?l13 ?c13 ?k13 ?a14 ?l14 ?c14 ?k14 ?a15 ?l15 ?c15 ?k15 ?a16 ?l16 ?c16 ?k16 ?a17 ?l17 ?c17 ?k17 ?a18 ?l18 ?c18 ?k18 ?a19 ?l19 ?c19 ?k19 ?a20 ?l20 ?c20 ?k20 ?a21 ?l21 ?c21 ?k21 ?a22 ?l22 ?c22 ?k22 ?a23 ?l23 ?c23 ?k23 ?a24 ?l24 ?c24 ?k24 ?a25 ?l25 ?c25 ?k25 ?a26 ?l26 ?c26 ?k26 ?a27 ?l27 ?c27 ?k27 ?i28 ?if28 ?im28 ?ik28 ?l28 ?c28 ?k28 ?i29 ?if29 ?im29 ?ik29 ?l29 ?c29 ?k29 ?i30 ?if30 ?im30 ?ik30 ?l30 ?c30 ?k30 ?b_s31 ?b_r31 ?b_a31 ?l31 ?c31 ?k31 ?i32 ?if32 ?im32 ?ik32 ?l32 ?c32 ?k32 ?b_s33 ?b_r33 ?b_a33 ?l33 ?c33 ?k33 ?i34 ?if34 ?im34 ?ik34 ?l34 ?c34 ?k34 ?b_s35 ?b_r35 ?b_a35 ?l35 ?c35 ?k35 ?i36 ?if36 ?im36 ?ik36 ?l36 ?c36 ?k36 ?b_s37 ?b_r37 ?b_a37 ?l37 ?c37 ?k37 ?i38 ?if38 ?im38 ?ik38 ?l38 ?c38 ?k38 ?b_s39 ?b_r39 ?b_a39 ?l39 ?c39 ?k39 ?i40 ?if40 ?im40 ?ik40 ?l40 ?c40 ?k40 ?b_s41 ?b_r41 ?b_a41 ?l41 ?c41 ?k41 ?m42 ?mf42 ?l42 ?c42 ?k42 ?m43 ?mf43 ?l43 ?c43 ?k43 ?i44 ?if44 ?im44 ?ik44 ?l44 ?c44 ?k44 ?b_s45 ?b_r45 ?b_a45 ?l45 ?c45 ?k45 ?i46 ?if46 ?im46 ?ik46 ?l46 ?c46 ?k46 ?b_s47 ?b_r47 ?b_a47 ?l47 ?c47 ?k47 ?a48 ?l48 ?c48 ?k48 ?z0 ?z1 ?z2 ?z3 ?z4 ?z5 ?z6 ?z7 ?z8 ?z9 ?z10 ?y0 ?x0 ?y1 ?x1 ?y2 ?x2 ?y3 ?x3 ?y4 ?x4 ?y5 ?x5 ?y6 ?x6 ?x_NoTable ?l0_NoTable ?l1_NoTable ?l2_NoTable ?l3_NoTable ?l4_NoTable ?l5_NoTable ?l6_NoTable ?l7_NoTable ?pg_First ?hd_First ?po_First ?sa_First ?pg_Only ?hd_Only ?po_Only ?sa_Only ?pg_Like ?hd_Like ?po_Like ?sa_Like ?pg_Low ?hd_Low ?po_Low ?sa_Low ?pg_High ?hd_High ?po_High ?sa_High ?pg_Sum ?hd_Sum ?po_Sum ?sa_Sum ?pg_Numbers ?hd_Numbers ?po_Numbers ?sa_Numbers ?pg_Words ?hd_Words ?po_Words ?sa_Words ?pg_Table ?hd_Table ?po_Table ?sa_Table ?pg_Book ?hd_Book ?po_Book ?sa_Book ?ta_First ?tn_First ?tt_First ?tm_First ?ta_Only ?tn_Only ?tt_Only ?tm_Only ?ta_Like ?tn_Like ?tt_Like ?tm_Like ?ta_Low ?tn_Low ?tt_Low ?tm_Low ?ta_High ?tn_High ?tt_High ?tm_High ?ta_Sum ?tn_Sum ?tt_Sum ?tm_Sum ?ta_Numbers ?tn_Numbers ?tt_Numbers ?tm_Numbers ?ta_Words ?tn_Words ?tt_Words ?tm_Words ?ta_Table ?tn_Table ?tt_Table ?tm_Table ?ta_Book ?tn_Book ?tt_Book ?tm_Book ?na_First_called ?na_Only_called ?na_Like_called ?na_Low_called ?na_High_called ?na_Sum_called ?na_Numbers_low ?na_Numbers_high ?na_Numbers_words ?na_Words_low ?na_Words_high ?na_Words_words ?na_Table_name ?na_Table_names ?na_Table_domains ?na_Table_outcome ?na_Table_way ?na_Table_rows ?na_Book_facts ?na_Book_tables ?f_nn ?f_wn ?f_ww ?f_tt ?f_nw ?e_NoTable ?e2_NoTable ?v_NoTable ?g_NoTable
    (case n_TableError=>k_is)
    (case n_NoTable=>k_is)
    (case n_Way=>k_is)
    (case n_First=>k_is)
    (case n_Only=>k_is)
    (case n_Like=>k_is)
    (case n_Low=>k_is)
    (case n_High=>k_is)
    (case n_Sum=>k_is)
    (case n_Domain=>k_is)
    (case n_Numbers=>k_is)
    (case n_Words=>k_is)
    (case n_Table=>k_is)
    (case n_Book=>k_is)
    (case a0=>k_is); (case l0=>k_is); (case c0=>k_is); (case k0=>k_is)
    (case a1=>k_is); (case l1=>k_is); (case c1=>k_is); (case k1=>k_is)
    (case a2=>k_is); (case l2=>k_is); (case c2=>k_is); (case k2=>k_is)
    (case a3=>k_is); (case l3=>k_is); (case c3=>k_is); (case k3=>k_is)
    (case a4=>k_is); (case l4=>k_is); (case c4=>k_is); (case k4=>k_is)
    (case a5=>k_is); (case l5=>k_is); (case c5=>k_is); (case k5=>k_is)
    (case a6=>k_is); (case l6=>k_is); (case c6=>k_is); (case k6=>k_is)
    (case a7=>k_is); (case l7=>k_is); (case c7=>k_is); (case k7=>k_is)
    (case a8=>k_is); (case l8=>k_is); (case c8=>k_is); (case k8=>k_is)
    (case a9=>k_is); (case l9=>k_is); (case c9=>k_is); (case k9=>k_is)
    (case a10=>k_is); (case l10=>k_is); (case c10=>k_is); (case k10=>k_is)
    (case a11=>k_is); (case l11=>k_is); (case c11=>k_is); (case k11=>k_is)
    (case a12=>k_is); (case l12=>k_is); (case c12=>k_is); (case k12=>k_is)
    (case a13=>k_is); (case l13=>k_is); (case c13=>k_is); (case k13=>k_is)
    (case a14=>k_is); (case l14=>k_is); (case c14=>k_is); (case k14=>k_is)
    (case a15=>k_is); (case l15=>k_is); (case c15=>k_is); (case k15=>k_is)
    (case a16=>k_is); (case l16=>k_is); (case c16=>k_is); (case k16=>k_is)
    (case a17=>k_is); (case l17=>k_is); (case c17=>k_is); (case k17=>k_is)
    (case a18=>k_is); (case l18=>k_is); (case c18=>k_is); (case k18=>k_is)
    (case a19=>k_is); (case l19=>k_is); (case c19=>k_is); (case k19=>k_is)
    (case a20=>k_is); (case l20=>k_is); (case c20=>k_is); (case k20=>k_is)
    (case a21=>k_is); (case l21=>k_is); (case c21=>k_is); (case k21=>k_is)
    (case a22=>k_is); (case l22=>k_is); (case c22=>k_is); (case k22=>k_is)
    (case a23=>k_is); (case l23=>k_is); (case c23=>k_is); (case k23=>k_is)
    (case a24=>k_is); (case l24=>k_is); (case c24=>k_is); (case k24=>k_is)
    (case a25=>k_is); (case l25=>k_is); (case c25=>k_is); (case k25=>k_is)
    (case a26=>k_is); (case l26=>k_is); (case c26=>k_is); (case k26=>k_is)
    (case a27=>k_is); (case l27=>k_is); (case c27=>k_is); (case k27=>k_is)
    (case i28=>k_is); (case if28=>k_is); (case im28=>k_is); (case ik28=>k_is); (case l28=>k_is); (case c28=>k_is); (case k28=>k_is)
    (case i29=>k_is); (case if29=>k_is); (case im29=>k_is); (case ik29=>k_is); (case l29=>k_is); (case c29=>k_is); (case k29=>k_is)
    (case i30=>k_is); (case if30=>k_is); (case im30=>k_is); (case ik30=>k_is); (case l30=>k_is); (case c30=>k_is); (case k30=>k_is)
    (case b_s31=>k_is); (case b_r31=>k_is); (case b_a31=>k_is); (case l31=>k_is); (case c31=>k_is); (case k31=>k_is)
    (case i32=>k_is); (case if32=>k_is); (case im32=>k_is); (case ik32=>k_is); (case l32=>k_is); (case c32=>k_is); (case k32=>k_is)
    (case b_s33=>k_is); (case b_r33=>k_is); (case b_a33=>k_is); (case l33=>k_is); (case c33=>k_is); (case k33=>k_is)
    (case i34=>k_is); (case if34=>k_is); (case im34=>k_is); (case ik34=>k_is); (case l34=>k_is); (case c34=>k_is); (case k34=>k_is)
    (case b_s35=>k_is); (case b_r35=>k_is); (case b_a35=>k_is); (case l35=>k_is); (case c35=>k_is); (case k35=>k_is)
    (case i36=>k_is); (case if36=>k_is); (case im36=>k_is); (case ik36=>k_is); (case l36=>k_is); (case c36=>k_is); (case k36=>k_is)
    (case b_s37=>k_is); (case b_r37=>k_is); (case b_a37=>k_is); (case l37=>k_is); (case c37=>k_is); (case k37=>k_is)
    (case i38=>k_is); (case if38=>k_is); (case im38=>k_is); (case ik38=>k_is); (case l38=>k_is); (case c38=>k_is); (case k38=>k_is)
    (case b_s39=>k_is); (case b_r39=>k_is); (case b_a39=>k_is); (case l39=>k_is); (case c39=>k_is); (case k39=>k_is)
    (case i40=>k_is); (case if40=>k_is); (case im40=>k_is); (case ik40=>k_is); (case l40=>k_is); (case c40=>k_is); (case k40=>k_is)
    (case b_s41=>k_is); (case b_r41=>k_is); (case b_a41=>k_is); (case l41=>k_is); (case c41=>k_is); (case k41=>k_is)
    (case m42=>k_is); (case mf42=>k_is); (case l42=>k_is); (case c42=>k_is); (case k42=>k_is)
    (case m43=>k_is); (case mf43=>k_is); (case l43=>k_is); (case c43=>k_is); (case k43=>k_is)
    (case i44=>k_is); (case if44=>k_is); (case im44=>k_is); (case ik44=>k_is); (case l44=>k_is); (case c44=>k_is); (case k44=>k_is)
    (case b_s45=>k_is); (case b_r45=>k_is); (case b_a45=>k_is); (case l45=>k_is); (case c45=>k_is); (case k45=>k_is)
    (case i46=>k_is); (case if46=>k_is); (case im46=>k_is); (case ik46=>k_is); (case l46=>k_is); (case c46=>k_is); (case k46=>k_is)
    (case b_s47=>k_is); (case b_r47=>k_is); (case b_a47=>k_is); (case l47=>k_is); (case c47=>k_is); (case k47=>k_is)
    (case a48=>k_is); (case l48=>k_is); (case c48=>k_is); (case k48=>k_is)
    (case z0=>k_is)
    (case z1=>k_is)
    (case z2=>k_is)
    (case z3=>k_is)
    (case z4=>k_is)
    (case z5=>k_is)
    (case z6=>k_is)
    (case z7=>k_is)
    (case z8=>k_is)
    (case z9=>k_is)
    (case z10=>k_is)
    (case y0=>k_is)
    (case x0=>exact ⟨_,rfl⟩)
    (case y1=>k_is)
    (case x1=>exact ⟨_,rfl⟩)
    (case y2=>k_is)
    (case x2=>exact ⟨_,rfl⟩)
    (case y3=>k_is)
    (case x3=>exact ⟨_,rfl⟩)
    (case y4=>k_is)
    (case x4=>exact ⟨_,rfl⟩)
    (case y5=>k_is)
    (case x5=>exact ⟨_,rfl⟩)
    (case y6=>k_is)
    (case x6=>exact ⟨_,rfl⟩)
    (case pg_First=>first | k_is | rfl | with_unfolding_all rfl)
    (case hd_First=>first | k_is | rfl | with_unfolding_all rfl)
    (case po_First=>first | k_is | rfl | with_unfolding_all rfl)
    (case sa_First=>first | k_is | rfl | with_unfolding_all rfl)
    (case pg_Only=>first | k_is | rfl | with_unfolding_all rfl)
    (case hd_Only=>first | k_is | rfl | with_unfolding_all rfl)
    (case po_Only=>first | k_is | rfl | with_unfolding_all rfl)
    (case sa_Only=>first | k_is | rfl | with_unfolding_all rfl)
    (case pg_Like=>first | k_is | rfl | with_unfolding_all rfl)
    (case hd_Like=>first | k_is | rfl | with_unfolding_all rfl)
    (case po_Like=>first | k_is | rfl | with_unfolding_all rfl)
    (case sa_Like=>first | k_is | rfl | with_unfolding_all rfl)
    (case pg_Low=>first | k_is | rfl | with_unfolding_all rfl)
    (case hd_Low=>first | k_is | rfl | with_unfolding_all rfl)
    (case po_Low=>first | k_is | rfl | with_unfolding_all rfl)
    (case sa_Low=>first | k_is | rfl | with_unfolding_all rfl)
    (case pg_High=>first | k_is | rfl | with_unfolding_all rfl)
    (case hd_High=>first | k_is | rfl | with_unfolding_all rfl)
    (case po_High=>first | k_is | rfl | with_unfolding_all rfl)
    (case sa_High=>first | k_is | rfl | with_unfolding_all rfl)
    (case pg_Sum=>first | k_is | rfl | with_unfolding_all rfl)
    (case hd_Sum=>first | k_is | rfl | with_unfolding_all rfl)
    (case po_Sum=>first | k_is | rfl | with_unfolding_all rfl)
    (case sa_Sum=>first | k_is | rfl | with_unfolding_all rfl)
    (case pg_Numbers=>first | k_is | rfl | with_unfolding_all rfl)
    (case hd_Numbers=>first | k_is | rfl | with_unfolding_all rfl)
    (case po_Numbers=>first | k_is | rfl | with_unfolding_all rfl)
    (case sa_Numbers=>first | k_is | rfl | with_unfolding_all rfl)
    (case pg_Words=>first | k_is | rfl | with_unfolding_all rfl)
    (case hd_Words=>first | k_is | rfl | with_unfolding_all rfl)
    (case po_Words=>first | k_is | rfl | with_unfolding_all rfl)
    (case sa_Words=>first | k_is | rfl | with_unfolding_all rfl)
    (case pg_Table=>first | k_is | rfl | with_unfolding_all rfl)
    (case hd_Table=>first | k_is | rfl | with_unfolding_all rfl)
    (case po_Table=>first | k_is | rfl | with_unfolding_all rfl)
    (case sa_Table=>first | k_is | rfl | with_unfolding_all rfl)
    (case pg_Book=>first | k_is | rfl | with_unfolding_all rfl)
    (case hd_Book=>first | k_is | rfl | with_unfolding_all rfl)
    (case po_Book=>first | k_is | rfl | with_unfolding_all rfl)
    (case sa_Book=>first | k_is | rfl | with_unfolding_all rfl)
    (case ta_First=>first | k_is | rfl | with_unfolding_all rfl)
    (case tn_First=>first | k_is | rfl | with_unfolding_all rfl)
    (case tt_First=>first | k_is | rfl | with_unfolding_all rfl)
    (case tm_First=>first | k_is | rfl | with_unfolding_all rfl)
    (case ta_Only=>first | k_is | rfl | with_unfolding_all rfl)
    (case tn_Only=>first | k_is | rfl | with_unfolding_all rfl)
    (case tt_Only=>first | k_is | rfl | with_unfolding_all rfl)
    (case tm_Only=>first | k_is | rfl | with_unfolding_all rfl)
    (case ta_Like=>first | k_is | rfl | with_unfolding_all rfl)
    (case tn_Like=>first | k_is | rfl | with_unfolding_all rfl)
    (case tt_Like=>first | k_is | rfl | with_unfolding_all rfl)
    (case tm_Like=>first | k_is | rfl | with_unfolding_all rfl)
    (case ta_Low=>first | k_is | rfl | with_unfolding_all rfl)
    (case tn_Low=>first | k_is | rfl | with_unfolding_all rfl)
    (case tt_Low=>first | k_is | rfl | with_unfolding_all rfl)
    (case tm_Low=>first | k_is | rfl | with_unfolding_all rfl)
    (case ta_High=>first | k_is | rfl | with_unfolding_all rfl)
    (case tn_High=>first | k_is | rfl | with_unfolding_all rfl)
    (case tt_High=>first | k_is | rfl | with_unfolding_all rfl)
    (case tm_High=>first | k_is | rfl | with_unfolding_all rfl)
    (case ta_Sum=>first | k_is | rfl | with_unfolding_all rfl)
    (case tn_Sum=>first | k_is | rfl | with_unfolding_all rfl)
    (case tt_Sum=>first | k_is | rfl | with_unfolding_all rfl)
    (case tm_Sum=>first | k_is | rfl | with_unfolding_all rfl)
    (case ta_Numbers=>first | k_is | rfl | with_unfolding_all rfl)
    (case tn_Numbers=>first | k_is | rfl | with_unfolding_all rfl)
    (case tt_Numbers=>first | k_is | rfl | with_unfolding_all rfl)
    (case tm_Numbers=>first | k_is | rfl | with_unfolding_all rfl)
    (case ta_Words=>first | k_is | rfl | with_unfolding_all rfl)
    (case tn_Words=>first | k_is | rfl | with_unfolding_all rfl)
    (case tt_Words=>first | k_is | rfl | with_unfolding_all rfl)
    (case tm_Words=>first | k_is | rfl | with_unfolding_all rfl)
    (case ta_Table=>first | k_is | rfl | with_unfolding_all rfl)
    (case tn_Table=>first | k_is | rfl | with_unfolding_all rfl)
    (case tt_Table=>first | k_is | rfl | with_unfolding_all rfl)
    (case tm_Table=>first | k_is | rfl | with_unfolding_all rfl)
    (case ta_Book=>first | k_is | rfl | with_unfolding_all rfl)
    (case tn_Book=>first | k_is | rfl | with_unfolding_all rfl)
    (case tt_Book=>first | k_is | rfl | with_unfolding_all rfl)
    (case tm_Book=>first | k_is | rfl | with_unfolding_all rfl)
    (case na_First_called=>first | k_is | rfl | with_unfolding_all rfl)
    (case na_Only_called=>first | k_is | rfl | with_unfolding_all rfl)
    (case na_Like_called=>first | k_is | rfl | with_unfolding_all rfl)
    (case na_Low_called=>first | k_is | rfl | with_unfolding_all rfl)
    (case na_High_called=>first | k_is | rfl | with_unfolding_all rfl)
    (case na_Sum_called=>first | k_is | rfl | with_unfolding_all rfl)
    (case na_Numbers_low=>first | k_is | rfl | with_unfolding_all rfl)
    (case na_Numbers_high=>first | k_is | rfl | with_unfolding_all rfl)
    (case na_Numbers_words=>first | k_is | rfl | with_unfolding_all rfl)
    (case na_Words_low=>first | k_is | rfl | with_unfolding_all rfl)
    (case na_Words_high=>first | k_is | rfl | with_unfolding_all rfl)
    (case na_Words_words=>first | k_is | rfl | with_unfolding_all rfl)
    (case na_Table_name=>first | k_is | rfl | with_unfolding_all rfl)
    (case na_Table_names=>first | k_is | rfl | with_unfolding_all rfl)
    (case na_Table_domains=>first | k_is | rfl | with_unfolding_all rfl)
    (case na_Table_outcome=>first | k_is | rfl | with_unfolding_all rfl)
    (case na_Table_way=>first | k_is | rfl | with_unfolding_all rfl)
    (case na_Table_rows=>first | k_is | rfl | with_unfolding_all rfl)
    (case na_Book_facts=>first | k_is | rfl | with_unfolding_all rfl)
    (case na_Book_tables=>first | k_is | rfl | with_unfolding_all rfl)
    (case x_NoTable=>first | rfl | with_unfolding_all rfl)
    (case l0_NoTable=>first | k_is | rfl | with_unfolding_all rfl)
    (case l1_NoTable=>first | k_is | rfl | with_unfolding_all rfl)
    (case l2_NoTable=>first | k_is | rfl | with_unfolding_all rfl)
    (case l3_NoTable=>first | k_is | rfl | with_unfolding_all rfl)
    (case l4_NoTable=>first | k_is | rfl | with_unfolding_all rfl)
    (case l5_NoTable=>first | k_is | rfl | with_unfolding_all rfl)
    (case l6_NoTable=>first | k_is | rfl | with_unfolding_all rfl)
    (case l7_NoTable=>first | k_is | rfl | with_unfolding_all rfl)
    (case f_nn=>first | k_is | rfl | with_unfolding_all rfl)
    (case f_wn=>first | k_is | rfl | with_unfolding_all rfl)
    (case f_ww=>first | k_is | rfl | with_unfolding_all rfl)
    (case f_tt=>first | k_is | rfl | with_unfolding_all rfl)
    (case f_nw=>first | k_is | rfl | with_unfolding_all rfl)
    (case e_NoTable=>first | k_is | rfl | with_unfolding_all rfl)
    (case e2_NoTable=>first | k_is | rfl | with_unfolding_all rfl)
    (case v_NoTable=>first | k_is | rfl | with_unfolding_all rfl)
    (case g_NoTable=>first | k_is | rfl | with_unfolding_all rfl)
