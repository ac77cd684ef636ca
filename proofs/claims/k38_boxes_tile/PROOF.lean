import PyProof.Rows.All
import Wide.All
import OpenK.AllK
import Wide.FinOn
import Lean
import PyProof.EqAt
import PyProof.EqKinds
import PyProof.TupleCall
import KE.KIntText
import KE.KTryMore
import KE.KIsAll
import PyProof.ZipIter
import KE.KRevIter
import PyProof.CollectIter
import PyProof.FactsAll.range_2
import PyProof.FactsAll.range_iterator_1
import KE.KNest
import PySem.Challenge.RW_rowjudge_k38_boxes_tile
set_option Elab.async false
set_option linter.all false
set_option maxRecDepth 100000
namespace L2
open PySem PySem.Spec PyProof.Rows
abbrev Key:=Sum Int Str
def keyIs:Key→Value→Bool
  | .inl k,v=>Value.isInt k v
  | .inr x,v=>Value.isStrOf x v
def keyH (w:World):Key→Int
  | .inl k=>hashInt k
  | .inr x=>hashStr w x
theorem keyIs_shape:∀ {k:Key} {v:Value},keyIs k v = true→(∃ i t,k = Sum.inl i∧v = Value.int i t)∨(∃ x t,k = Sum.inr x∧v = Value.str x t)
  | .inl i,v,h=>by
    obtain ⟨t,e⟩:=Value.isInt_shape (k:=i) (v:=v) h
    exact .inl ⟨i,t,rfl,e⟩
  | .inr x,v,h=>by
    obtain ⟨t,e⟩:=Value.isStrOf_shape (x:=x) (v:=v) h
    exact .inr ⟨x,t,rfl,e⟩
theorem key_ll (a b:Int):decide ((Sum.inl a:Key) = Sum.inl b) = (a == b):=by
  by_cases e:a = b
  · subst e; simp
  · have h:¬ (Sum.inl a:Key) = Sum.inl b:=fun q=>e (Sum.inl.inj q)
    rw [decide_eq_false h]
    exact (beq_eq_false_iff_ne.mpr e).symm
theorem key_rr (a b:Str):decide ((Sum.inr a:Key) = Sum.inr b) = decide (a = b):=by
  by_cases e:a = b
  · subst e; simp
  · have h:¬ (Sum.inr a:Key) = Sum.inr b:=fun q=>e (Sum.inr.inj q)
    rw [decide_eq_false h,decide_eq_false e]
theorem key_lr (a:Int) (b:Str):decide ((Sum.inl a:Key) = Sum.inr b) = false:=decide_eq_false (fun q=>nomatch q)
theorem key_rl (a:Str) (b:Int):decide ((Sum.inr a:Key) = Sum.inl b) = false:=decide_eq_false (fun q=>nomatch q)
def mixKind (prog:Program) (w:World):PySem.KeyKind prog w Key where
  is:=keyIs
  hash:=keyH w
  inj:=fun v a b ha hb=>by
    rcases keyIs_shape ha with ⟨i,t,rfl,rfl⟩ | ⟨x,t,rfl,rfl⟩
    · rcases keyIs_shape hb with ⟨j,u,rfl,e⟩ | ⟨y,u,rfl,e⟩
      · injection e with e1 _; rw [e1]
      · exact nomatch e
    · rcases keyIs_shape hb with ⟨j,u,rfl,e⟩ | ⟨y,u,rfl,e⟩
      · exact nomatch e
      · injection e with e1 _; rw [e1]
  byValue:=fun k v h=>by
    rcases keyIs_shape h with ⟨i,t,rfl,rfl⟩ | ⟨x,t,rfl,rfl⟩ <;> rfl
  pyHash:=fun hv h=>by
    rcases keyIs_shape hv with ⟨i,t,rfl,rfl⟩ | ⟨x,t,rfl,rfl⟩
    · exact wpAny_pyHash_int h
    · exact wpAny_pyHash_str h
  eqBool:=fun hu hv h=>by
    rcases keyIs_shape hu with ⟨i,t,rfl,rfl⟩ | ⟨x,t,rfl,rfl⟩
    · rcases keyIs_shape hv with ⟨j,u,rfl,rfl⟩ | ⟨y,u,rfl,rfl⟩
      · rw [key_ll] at h; exact wpAny_eqBool_int h
      · rw [key_lr] at h; exact SeqAt.EqAt.int_str i t y u _ _ _ _ h
    · rcases keyIs_shape hv with ⟨j,u,rfl,rfl⟩ | ⟨y,u,rfl,rfl⟩
      · rw [key_rl] at h; exact SeqAt.EqAt.str_int x t j u _ _ _ _ h
      · rw [key_rr] at h; exact wpAny_eqBool_str h
  «strs»:=fun k x t v h=>by
    rcases keyIs_shape h with ⟨i,u,rfl,e⟩ | ⟨y,u,rfl,e⟩
    · exact nomatch e
    · injection e with e1 _
      subst e1
      cases v <;> rfl
end L2
namespace L2
open PySem PySem.Spec PyProof.Rows
inductive V where
  | non | bl (b:Bool) | int (i:Int) | str (x:Str) | byt (b:Array UInt8) | flt (b:UInt64) | ref (a:Addr) | ty (n:String)
  deriving DecidableEq
def RelV:V→Value→Prop
  | .non,u=>u = Value.none
  | .bl b,u=>u = Value.bool b
  | .int i,u=>∃ t,u = Value.int i t
  | .str x,u=>∃ t,u = Value.str x t
  | .byt b,u=>∃ t,u = Value.bytes b t
  | .flt b,u=>∃ t,u = Value.float b t
  | .ref a,u=>u = Value.ref a
  | .ty n,u=>u = Value.type n
abbrev Vals:List V→List Value→Prop:=Paired RelV
theorem Vals.length {xs:List V} {us:List Value} (r:Vals xs us):xs.length = us.length:=Paired.length r
theorem Vals.get:∀ {xs:List V} {us:List Value} {i:Nat} {x:V},Vals xs us→xs[i]? = some x→∃ u,us[i]? = some u∧RelV x u
  | _,_,_,_,.nil,e=>by simp at e
  | _,_,0,_,.cons r _,e=>by simp at e; subst e; exact ⟨_,rfl,r⟩
  | _,_,i + 1,x,.cons _ t,e=>by
    obtain ⟨u,h1,h2⟩:=Vals.get (i:=i) (x:=x) t (by simpa using e)
    exact ⟨u,by simpa using h1,h2⟩
theorem Vals.set {x:V} {u:Value} (r:RelV x u):∀ {xs:List V} {us:List Value} (i:Nat),Vals xs us→Vals (xs.set i x) (us.set i u)
  | _,_,_,.nil=>.nil
  | _,_,0,.cons _ t=>.cons r t
  | _,_,i + 1,.cons q t=>.cons q (Vals.set r i t)
theorem Vals.append:∀ {xs ys:List V} {us ws:List Value},Vals xs us→Vals ys ws→Vals (xs ++ ys) (us ++ ws)
  | _,_,_,_,.nil,s=>s
  | _,_,_,_,.cons r t,s=>.cons r (Vals.append t s)
theorem Vals.take:∀ {xs:List V} {us:List Value} (n:Nat),Vals xs us→Vals (xs.take n) (us.take n)
  | _,_,0,_=>.nil
  | _,_,_ + 1,.nil=>.nil
  | _,_,n + 1,.cons r t=>.cons r (Vals.take n t)
theorem Vals.drop:∀ {xs:List V} {us:List Value} (n:Nat),Vals xs us→Vals (xs.drop n) (us.drop n)
  | _,_,0,r=>r
  | _,_,_ + 1,.nil=>.nil
  | _,_,n + 1,.cons _ t=>Vals.drop n t
def RelO:Option V→Option Value→Prop
  | some v,some u=>RelV v u
  | none,none=>True
  | _,_=>False
def KV {κ:Type} : List (κ × V)→List (κ × Value)→Prop:=Paired fun (p:κ × V) (q:κ × Value)=>p.1 = q.1∧RelV p.2 q.2
def kV:Key→V
  | .inl i=>.int i
  | .inr x=>.str x
inductive HO where
  | lst (xs:List V)
  | tup (xs:List V)
  | dK (kvs:List (Key × V)) | dT (kvs:List (List Key × V))
  | set (S:Int→Bool) (n:Nat)
  | ins (C dx:Addr) (fs:List (Str × V))
  | own (x:Addr)
  | xd (fs:List (Str × V))
  | met (f x:Addr)
  | rng (lo hi:Int)
  | frz (o:Obj) (u:HO)
  | tbl (ps:Array Value)
  | ext (φ:Heap→Prop)
abbrev Hp:=Addr→Option HO
def upd (H:Hp) (a:Addr) (o:HO):Hp:=fun b=>if b = a then some o else H b
theorem upd_same {H:Hp} {a:Addr} {o:HO} : upd H a o a = some o:=by unfold upd; rw [if_pos rfl]
theorem upd_ne {H:Hp} {a b:Addr} {o:HO} (h:b ≠ a):upd H a o b = H b:=by unfold upd; rw [if_neg h]
theorem ne_of {H:Hp} {a b:Addr} {o u:HO} (h:H a = some o) (h' : H b = some u) (d:o ≠ u):a ≠ b:=by
  intro e; subst e; rw [h] at h'; exact d (Option.some.inj h')
theorem ne_of_none {H:Hp} {a b:Addr} {o:HO} (h:H a = some o) (h' : H b = none):a ≠ b:=by
  intro e; subst e; rw [h] at h'; cases h'
section
variable (P:Program) (w:World)
def ObjOk (H:Hp) (h:Heap) (a:Addr):HO→Prop
  | .lst xs=>xs.length ≤ sizeLine∧∃ (its:List Value) (n:Nat),Vals xs its∧h.get? a = some { cls:=.type "list",data:=.seq its.toArray n }
  | .tup xs=>xs.length ≤ sizeLine∧∃ its:List Value,Vals xs its∧IsTup h a its.toArray
  | .dK kvs=>kvs.length ≤ sizeLine∧(a == sysModules) = false∧∃ vs,KV kvs vs∧h.DictOf (mixKind P w) a vs
  | .dT kvs=>kvs.length ≤ sizeLine∧(a == sysModules) = false∧∃ xs:List (List Key × Addr × Value),
      Paired (fun (p:List Key × V) (q:List Key × Addr × Value)=>p.1 = q.1∧H q.2.1 = some (.tup (p.1.map kV))∧RelV p.2 q.2.2) kvs xs ∧
      ∃ o es ep,h.get? a = some o∧o.ExactDict∧o.data = .dict es ep∧es.toList = xs.map (entryOfKey (tupleKind (mixKind P w)))∧(xs.map (·.1)).Nodup
  | .set S n=>h.SetOf (intKind P w) a S n
  | .ins C dx fs=>H dx = some (.own a)∧fs.length ≤ 1000∧dx ≠ a∧h.get? a = some (PySem.W.instObj C dx) ∧
      ∃ mA,h.Ns1 dx mA∧(∀ f,RelO (fs.lookup f) (mA f))∧PySem.Within mA (fs.map (·.1))
  | .own _=>∃ o,h.get? a = some o
  | .xd fs=>∃ mA,h.Ns1 a mA∧∀ f,RelO (fs.lookup f) (mA f)
  | .rng lo hi=>∃ t u v,h.get? a = some { cls:=.type "range",data:=.fields #[.int lo t,.int hi u,.int 1 v] }
  | .frz o u=>h.get? a = some o∧ObjOk H h a u
  | .tbl ps=>h.get? a = some { cls:=.none,data:=.fields ps }
  | .met f x=>h.get? a = some (PySem.W.methodObj (.ref f) (.ref x))
  | .ext φ=>φ h∧(∃ o,h.get? a = some o)∧∀ h1 h2:Heap,φ h1→(∀ o,h1.get? a = some o→h2.get? a = some o)→φ h2
def HOk (H:Hp) (h:Heap):Prop:=∀ a o,H a = some o→ObjOk P w H h a o
end
section
variable {P:Program} {w:World} {H H' : Hp} {h h' : Heap} {a:Addr} {o:HO}
theorem ObjOk.lt (x:ObjOk P w H h a o):a < h.objs.size:=by
  cases o with
  | lst xs=>obtain ⟨_,_,_,_,e⟩:=x; exact Heap.lt_size e
  | tup xs=>obtain ⟨_,_,_,p⟩:=x; exact p.lt
  | dK kvs=>obtain ⟨_,_,_,_,o,_,_,e,_⟩:=x; exact Heap.lt_size e
  | dT kvs=>obtain ⟨_,_,_,_,o,_,_,e,_⟩:=x; exact Heap.lt_size e
  | set S n=>obtain ⟨o,_,_,_,e,_⟩:=x; exact Heap.lt_size e
  | ins C dx fs=>obtain ⟨_,_,_,e,_⟩:=x; exact Heap.lt_size e
  | own y=>obtain ⟨_,e⟩:=x; exact Heap.lt_size e
  | xd fs=>obtain ⟨_,⟨_,_,_,e,_⟩,_⟩:=x; exact Heap.lt_size e
  | rng lo hi=>obtain ⟨_,_,_,e⟩:=x; exact Heap.lt_size e
  | frz ob u=>obtain ⟨e,_⟩:=x; exact Heap.lt_size e
  | tbl ps=>exact Heap.lt_size (show h.get? a = some _ from x)
  | met f y=>exact Heap.lt_size (show h.get? a = some _ from x)
  | ext φ=>obtain ⟨_,⟨_,e⟩,_⟩:=x; exact Heap.lt_size e
theorem Paired.mapP {α β:Type} {F G:α→β→Prop} : ∀ {l₁:List α} {l₂:List β},Paired F l₁ l₂→(∀ a b,F a b→G a b)→Paired G l₁ l₂
  | _,_,.nil,_=>.nil
  | _,_,.cons r t,f=>.cons (f _ _ r) (Paired.mapP t f)
theorem ObjOk.stay (x:ObjOk P w H h a o) (k:∀ b u,(b = a∨H b = some (.own a))→h.get? b = some u→h'.get? b = some u)
    (ho:∀ b,H b = some (.own a)→H' b = some (.own a)) (ht:∀ b xs,H b = some (.tup xs)→H' b = some (.tup xs)):ObjOk P w H' h' a o:=by
  induction o with
  | lst xs=>obtain ⟨z,its,n,r,e⟩:=x; exact ⟨z,its,n,r,k _ _ (.inl rfl) e⟩
  | tup xs=>obtain ⟨z,its,r,ob,e,c⟩:=x; exact ⟨z,its,r,ob,k _ _ (.inl rfl) e,c⟩
  | dK kvs=>obtain ⟨z,y,vs,r,ob,es,ep,e,c⟩:=x; exact ⟨z,y,vs,r,ob,es,ep,k _ _ (.inl rfl) e,c⟩
  | dT kvs =>
    obtain ⟨z,y,xs,r,ob,es,ep,e,c⟩:=x
    exact ⟨z,y,xs,Paired.mapP r fun p q z=>⟨z.1,ht _ _ z.2.1,z.2.2⟩,ob,es,ep,k _ _ (.inl rfl) e,c⟩
  | set S n=>obtain ⟨ob,es,ep,t,e,c⟩:=x; exact ⟨ob,es,ep,t,k _ _ (.inl rfl) e,c⟩
  | ins C dx fs =>
    obtain ⟨d,z,ne,e,mA,⟨od,es,ep,e2,c⟩,r⟩:=x
    exact ⟨ho _ d,z,ne,k _ _ (.inl rfl) e,mA,⟨od,es,ep,k _ _ (.inr d) e2,c⟩,r⟩
  | own y=>obtain ⟨ob,e⟩:=x; exact ⟨ob,k _ _ (.inl rfl) e⟩
  | xd fs=>obtain ⟨mA,⟨od,es,ep,e,c⟩,r⟩:=x; exact ⟨mA,⟨od,es,ep,k _ _ (.inl rfl) e,c⟩,r⟩
  | rng lo hi=>obtain ⟨t,u,v,e⟩:=x; exact ⟨t,u,v,k _ _ (.inl rfl) e⟩
  | frz ob u ih=>obtain ⟨e,q⟩:=x; exact ⟨k _ _ (.inl rfl) e,ih q⟩
  | tbl ps =>
    have e:h.get? a = some { cls:=.none,data:=.fields ps }:=x
    show h'.get? a = some { cls:=.none,data:=.fields ps }
    exact k a _ (.inl rfl) e
  | met f y =>
    have e:h.get? a = some (PySem.W.methodObj (.ref f) (.ref y)):=x
    show h'.get? a = some (PySem.W.methodObj (.ref f) (.ref y))
    exact k a _ (.inl rfl) e
  | ext φ=>obtain ⟨p,⟨o,e⟩,st⟩:=x; exact ⟨st _ _ p fun o q=>k _ _ (.inl rfl) q,⟨o,k _ _ (.inl rfl) e⟩,st⟩
theorem HOk.lt (x:HOk P w H h) (e:H a = some o):a < h.objs.size:=(x a o e).lt
theorem HOk.fresh (x:HOk P w H h) (e:h.objs.size ≤ a):H a = none:=by
  cases q:H a with
  | none=>rfl
  | some u=>exact absurd (Nat.lt_of_lt_of_le (x.lt q) e) (Nat.lt_irrefl _)
theorem HOk.kept (x:HOk P w H h) (k:∀ b u,h.get? b = some u→h'.get? b = some u):HOk P w H h':=fun a o e =>
  (x a o e).stay (fun b u _ q=>k b u q) (fun _ q=>q) fun _ _ q=>q
theorem HOk.laid (x:HOk P w H h) (k:∀ b u,h.get? b = some u→h'.get? b = some u) (hp:h.objs.size ≤ a) (new:ObjOk P w (upd H a o) h' a o):HOk P w (upd H a o) h':=fun b u e=>by
  have hn:=x.fresh hp
  by_cases hb:b = a
  · subst hb; rw [upd_same] at e; cases e; exact new
  · rw [upd_ne hb] at e
    exact (x b u e).stay (fun c v _ q=>k c v q) (fun c q=>by rw [upd_ne (ne_of_none q hn)]; exact q) fun c xs q=>by rw [upd_ne (ne_of_none q hn)]; exact q
end
def Rd (H:Hp) (a:Addr) (u:HO):Prop:=H a = some u∨∃ o,H a = some (.frz o u)
theorem Rd.ok {P:Program} {w:World} {H:Hp} {h:Heap} {a:Addr} {u:HO} (r:Rd H a u) (x:HOk P w H h):ObjOk P w H h a u:=by
  rcases r with r | ⟨o,r⟩
  · exact x a u r
  · obtain ⟨_,q⟩:=x a _ r
    exact q
def Mut:Option HO→Prop
  | some (.lst _)=>True
  | some (.dK _)=>True
  | some (.dT _)=>True
  | some (.set _ _)=>True
  | some (.ins _ _ _)=>True
  | some (.ext _)=>True
  | _=>False
section
variable {P:Program} {w:World} {H:Hp} {h h' : Heap} {x e:Addr} {o' : HO}
theorem HOk.write (ok:HOk P w H h) (mu:Mut (H x)) (he:e = x∨H e = some (.own x)) (k:∀ b u,b ≠ e→h.get? b = some u→h'.get? b = some u) (heo:∃ u,h'.get? e = some u)
    (new:ObjOk P w (upd H x o') h' x o'):HOk P w (upd H x o') h':=fun b u q=>by
  have nown:∀ c y,H c = some (.own y)→c ≠ x:=fun c y r z=>by subst z; rw [r] at mu; exact mu
  have ntup:∀ c xs,H c = some (.tup xs)→c ≠ x:=fun c xs r z=>by subst z; rw [r] at mu; exact mu
  by_cases hb:b = x
  · subst hb; rw [upd_same] at q; cases q; exact new
  · rw [upd_ne hb] at q
    by_cases hbe:b = e
    · have q' : H b = some (.own x):=by
        rcases he with z | z
        · exact absurd (hbe.trans z) hb
        · rw [hbe]; exact z
      rw [q] at q'; cases q'
      obtain ⟨v,hv⟩:=heo
      exact ⟨v,by rw [hbe]; exact hv⟩
    · refine (ok b u q).stay (fun c v hc r=>k c v ?_ r) (fun c r=>by rw [upd_ne (nown c b r)]; exact r) fun c xs r=>by rw [upd_ne (ntup c xs r)]; exact r
      rcases hc with rfl | hc
      · exact hbe
      · rintro rfl
        rcases he with z | z
        · exact nown c b hc z
        · rw [hc] at z; cases z; exact hb rfl
end
structure Un (fs ex:List Addr) (H H' : Hp) (h h' : Heap):Prop where
  keep:∀ b o,h.get? b = some o→H b = none→b ∉ fs→b ∉ ex→h'.get? b = some o
  slot:∀ b o,h.get? b = some o→H b = none→b ∈ fs→b ∉ ex→∃ sl,h'.get? b = some { o with slots:=sl }
  free:∀ b o,h.get? b = some o→H b = none→b ∉ ex→H' b = none
  there:∀ b o,h.get? b = some o→b ∉ ex→∃ o',h'.get? b = some o'
  tups:∀ b xs,H b = some (.tup xs)→H' b = some (.tup xs)
  frzs:∀ b o u,H b = some (.frz o u)→H' b = some (.frz o u)
  tbls:∀ b ps,H b = some (.tbl ps)→∃ more,H' b = some (.tbl (ps ++ more))
section
variable {fs fs' ex ex' : List Addr} {H H1 H2:Hp} {h h1 h2 h' : Heap} {a x e:Addr} {o:HO}
theorem Un.any (u:Un fs ex H H1 h h1) {b:Addr} {ob:Obj} (q:h.get? b = some ob) (n:H b = none) (hx:b ∉ ex):∃ sl,h1.get? b = some { ob with slots:=sl }:=by
  by_cases hb:b ∈ fs
  · exact u.slot b ob q n hb hx
  · exact ⟨ob.slots,u.keep b ob q n hb hx⟩
theorem Un.kept (k:∀ b u,h.get? b = some u→h'.get? b = some u):Un fs ex H H h h' :=
  ⟨fun b ob q _ _ _=>k b ob q,fun b ob q _ _ _=>⟨ob.slots,k b ob q⟩,fun _ _ _ n _=>n,fun b ob q _=>⟨ob,k b ob q⟩,fun _ _ q=>q,fun _ _ _ q=>q,fun _ ps q=>⟨#[],by rw [q]; simp⟩⟩
theorem Un.refl:Un fs ex H H h h:=Un.kept fun _ _ q=>q
theorem Un.laid (k:∀ b u,h.get? b = some u→h'.get? b = some u) (hp:h.objs.size ≤ a) (hn:H a = none):Un fs ex H (upd H a o) h h' where
  keep:=fun b u q _ _ _=>k b u q
  slot:=fun b u q _ _ _=>⟨u.slots,k b u q⟩
  free:=fun b u q n _=>by rw [upd_ne (Nat.ne_of_lt (Nat.lt_of_lt_of_le (Heap.lt_size q) hp))]; exact n
  there:=fun b u q _=>⟨u,k b u q⟩
  tups:=fun b xs q=>by rw [upd_ne (ne_of_none q hn)]; exact q
  frzs:=fun b u xs q=>by rw [upd_ne (ne_of_none q hn)]; exact q
  tbls:=fun b ps q=>⟨#[],by rw [upd_ne (ne_of_none q hn),q]; simp⟩
theorem Un.write (mu:Mut (H x)) (he:e = x∨H e = some (.own x)) (k:∀ b u,b ≠ e→h.get? b = some u→h'.get? b = some u) (heo:∃ u,h'.get? e = some u):Un fs ex H (upd H x o) h h':=by
  have hx:∀ b,H b = none→b ≠ x:=fun b n z=>by subst z; rw [n] at mu; exact mu
  have hb:∀ b,H b = none→b ≠ e:=fun b n z=>by
    subst z
    rcases he with r | r
    · exact hx b n r
    · rw [n] at r; cases r
  have hm:∀ b u,H b = some u→¬ Mut (some u)→b ≠ x:=fun b u q nm z=>by subst z; rw [q] at mu; exact nm mu
  refine ⟨fun b u q n _ _=>k b u (hb b n) q,fun b u q n _ _=>⟨u.slots,k b u (hb b n) q⟩,fun b u q n _=>by rw [upd_ne (hx b n)]; exact n,fun b u q _=>?_,
    fun b xs q=>by rw [upd_ne (hm b _ q fun z=>z)]; exact q,fun b u xs q=>by rw [upd_ne (hm b _ q fun z=>z)]; exact q,fun b ps q=>⟨#[],by rw [upd_ne (hm b _ q fun z=>z),q]; simp⟩⟩
  by_cases hbe:b = e
  · subst hbe; exact heo
  · exact ⟨u,k b u hbe q⟩
end
def trk (h:Heap) (H:Hp):List Addr:=(List.range h.objs.size).filter fun a=>(H a).isSome
def hidT (h:Heap) (H:Hp):Heap:=PySem.W.hideAll h (trk h H)
theorem hidT_size (h:Heap) (H:Hp):(hidT h H).objs.size = h.objs.size:=PySem.W.hideAll_size _ _
theorem hidT_get {h:Heap} {H:Hp} {b:Addr} {o:Obj} (e:h.get? b = some o) (n:H b = none):(hidT h H).get? b = some o :=
  PySem.W.hideAll_get _ e fun hm=>by
    have q:(H b).isSome = true:=(List.mem_filter.mp hm).2
    rw [n] at q; simp at q
theorem of_hidT {h:Heap} {H:Hp} {b:Addr} {o:Obj} (e:(hidT h H).get? b = some o):h.get? b = some o∧H b = none:=by
  have e' : h.get? b = some o:=PySem.W.of_hideAll (trk h H) e
  refine ⟨e',?_⟩
  cases q:H b with
  | none=>rfl
  | some x =>
    have hm:b ∈ trk h H:=List.mem_filter.mpr ⟨List.mem_range.mpr (Heap.lt_size e'),by simp [q]⟩
    have z:(hidT h H).get? b = none:=PySem.W.hideAll_none (trk h H) hm
    rw [z] at e; cases e
def allNews (g h:Heap) (L:Addr):List (Addr × Obj):=(List.range h.objs.size).filterMap fun a=>if a = L∨(g.get? a).isSome = true then none else (h.get? a).map fun o=>(a,o)
def rest (g h:Heap) (L d:Addr):List (Addr × Obj):=(allNews g h L).filter fun p=>decide (p.1 ≠ d)
end L2
namespace L2
open PySem PySem.Spec PyProof.Rows
structure Mod (K:PySem.W.Frag) (mg:Str→Option Value) (base:Heap):Prop where
  kin:K.In base
  glob:base.Ns mainGlobals mg
  blt:∃ mb,base.Ns builtinsNs mb∧∀ x:Str,x ≠ "__name__" → mb x = bootBuiltins x
  nolimit:base.NoLimit
structure Cx where
  prog:Program
  w:World
  K:PySem.W.Frag
  mg:Str→Option Value
  base:Heap
  A:Around
  N:List Str
  s₀:Shared
  H₀:Hp
  env:Env
  outer:List Env
  stack:List Env
  ex:List Addr
  fn:Str→Bool
  calm:Bool
  pn:List (Addr × Obj)
  xe:Value→Shared→Prop
def frs (l:List Env):List Addr:=l.filterMap (·.frame)
abbrev Cx.fs (X:Cx):List Addr:=frs X.outer
def Vis (sc:Scope) (x:Str):Prop:=sc.names.lookup x = some .local∨sc.names.lookup x = some .cell∨sc.names.lookup x = some .free
def Loc (sc:Scope) (x:Str):Prop:=sc.names.lookup x = some .local∨sc.names.lookup x = some .cell
def Look (env:Env) (h:Heap) (m:Str→Option Value) (x:Str) (u:Value):Prop :=
  (env.kindOf x = some .local∧m x = some u)∨((env.kindOf x = some .cell∨env.kindOf x = some .free)∧∃ c,env.cells.lookup x = some c∧h.IsCell c (some u))
structure Cx.Ok (X:Cx):Prop where
  mod:Mod X.K X.mg X.base
  kind:X.env.scope.kind = .function
  glob:X.env.globals = mainGlobals
  blt:X.env.builtins = builtinsNs
  above:X.s₀.heap.objs.size ≤ X.env.locals
  inj:∀ x y c,X.env.cells.lookup x = some c→X.env.cells.lookup y = some c→x = y
  has:∀ x,(X.env.kindOf x = some .cell∨X.env.kindOf x = some .free)→∃ c,X.env.cells.lookup x = some c
  cab:∀ x c,X.fn x = true→X.env.cells.lookup x = some c→X.s₀.heap.objs.size ≤ c
  hd:X.calm = true→X.A.handled = none
  frames:X.A.frames = some X.stack
  stk:X.stack = X.outer∨(X.stack = X.env :: X.outer∧X.env.frame = some X.env.locals)
  exf:∀ b ∈ X.ex,b ≠ X.env.locals∧∀ x c,X.env.cells.lookup x = some c→c ≠ b
  bs:∀ b o,X.base.get? b = some o→X.s₀.heap.get? b = some o∧X.H₀ b = none
  bsz:X.base.objs.size ≤ X.s₀.heap.objs.size
  noex:∀ b o,X.base.get? b = some o→b ∉ X.ex
  exfs:∀ b ∈ X.ex,b ∉ X.fs
  funs:X.s₀.heap.FunFrames X.base X.outer
  frf:∀ b ∈ X.fs,X.H₀ b = none
structure Inv (X:Cx) (pins:List (Addr × Obj)) (σ:List (Option V)) (H:Hp) (s:Shared):Prop where
  ok:X.Ok
  os:s.os = X.s₀.os
  bare:AllBare s.gens
  base:Un X.fs X.ex X.H₀ H X.s₀.heap s.heap
  loc:∃ m,s.heap.Ns X.env.locals m∧∀ (i:Nat) (x:Str) (v:V),X.N[i]? = some x→σ[i]? = some (some v)→Vis X.env.scope x→∃ u,RelV v u∧Look X.env s.heap m x u
  cell:∀ x c,X.env.cells.lookup x = some c→∃ v,s.heap.IsCell c v
  free:H X.env.locals = none
  freeC:∀ x c,X.env.cells.lookup x = some c→H c = none
  pin:∀ p ∈ X.pn ++ pins,s.heap.get? p.1 = some p.2∧H p.1 = none∧p.1 ≠ X.env.locals∧p.1 ∉ X.fs∧∀ v,p.2.data ≠ .cell v
  hok:HOk X.prog X.w H s.heap
  len:σ.length = X.N.length
section
variable {X:Cx} {pins:List (Addr × Obj)} {σ:List (Option V)} {H H' : Hp} {s:Shared} {h' : Heap}
theorem Cx.Ok.nofr (ok:X.Ok) {b:Addr} {o:Obj} (e:X.base.get? b = some o):b ∉ X.fs:=fun hb=>by
  have:=(ok.funs.mem hb).1
  rw [e] at this; cases this
theorem Inv.bs (I:Inv X pins σ H s):∀ b o,X.base.get? b = some o→s.heap.get? b = some o∧H b = none:=fun b o e =>
  ⟨I.base.keep b o (I.ok.bs b o e).1 (I.ok.bs b o e).2 (I.ok.nofr e) (I.ok.noex b o e),I.base.free b o (I.ok.bs b o e).1 (I.ok.bs b o e).2 (I.ok.noex b o e)⟩
theorem Inv.bk (I:Inv X pins σ H s):∀ b o,X.base.get? b = some o→s.heap.get? b = some o:=fun b o e=>(I.bs b o e).1
theorem Inv.mod (I:Inv X pins σ H s):Mod X.K X.mg X.base:=I.ok.mod
theorem Inv.kIn (I:Inv X pins σ H s):X.K.In s.heap:=I.ok.mod.kin.keeps I.bk
theorem Inv.lt (I:Inv X pins σ H s):X.env.locals < s.heap.objs.size:=by obtain ⟨_,hn,_⟩:=I.loc; exact hn.lt
theorem Inv.sz (I:Inv X pins σ H s):X.s₀.heap.objs.size ≤ s.heap.objs.size:=Nat.le_trans I.ok.above (Nat.le_of_lt I.lt)
theorem Inv.nofs (I:Inv X pins σ H s) {a:Addr} (h:s.heap.objs.size ≤ a):a ∉ X.fs:=fun hb=>by
  obtain ⟨_,o,ho,_⟩:=I.ok.funs.mem hb
  exact absurd (Nat.lt_of_lt_of_le (Heap.lt_size ho) (Nat.le_trans I.sz h)) (Nat.lt_irrefl _)
theorem Inv.cne (I:Inv X pins σ H s):∀ x c,X.env.cells.lookup x = some c→c ≠ X.env.locals:=fun x c e z=>by
  obtain ⟨v,o,ho,hd⟩:=I.cell x c e
  obtain ⟨m,⟨o',es,ep,ho',hd',_⟩,_⟩:=I.loc
  rw [z,ho'] at ho; cases ho; rw [hd'] at hd; cases hd
theorem Inv.funs (I:Inv X pins σ H s):s.heap.FunFrames X.base X.outer:=by
  have all:∀ (l:List Env),(∀ b ∈ frs l,b ∈ X.fs)→X.s₀.heap.FunFrames X.base l→s.heap.FunFrames X.base l:=by
    intro l
    induction l with
    | nil=>intro _ _; trivial
    | cons env r ih =>
      intro hs hl
      obtain ⟨hk,⟨L,o,hf,hn,ho,hd⟩,hr⟩:=hl
      have hL:L ∈ X.fs:=hs L (by unfold frs; rw [List.filterMap_cons,hf]; exact List.mem_cons_self)
      obtain ⟨sl,e⟩:=I.base.slot L o ho (I.ok.frf L hL) hL fun z=>I.ok.exfs L z hL
      exact ⟨hk,⟨L,_,hf,hn,e,hd⟩,ih (fun b hb=>hs b (by unfold frs; rw [List.filterMap_cons,hf]; exact List.mem_cons_of_mem _ hb)) hr⟩
  exact all X.outer (fun _ hb=>hb) I.ok.funs
theorem Inv.stack (I:Inv X pins σ H s):s.heap.FunFrames X.base X.stack:=by
  rcases I.ok.stk with e | ⟨e,hf⟩
  · rw [e]; exact I.funs
  · rw [e]
    obtain ⟨m,hn,_⟩:=I.loc
    refine .cons (by rw [I.ok.kind]; decide) hf hn ?_ I.funs
    exact Heap.get?_none_of_le (Nat.le_trans I.ok.bsz I.ok.above)
theorem Inv.stkSub (I:Inv X pins σ H s):∀ b ∈ frs X.stack,b ∈ X.env.locals :: X.fs:=fun b hb=>by
  rcases I.ok.stk with e | ⟨e,hf⟩
  · rw [e] at hb; exact List.mem_cons_of_mem _ hb
  · rw [e] at hb
    unfold frs at hb
    rw [List.filterMap_cons,hf] at hb
    exact hb
theorem Inv.stkFree (I:Inv X pins σ H s):∀ b ∈ frs X.stack,H b = none:=fun b hb=>by
  rcases List.mem_cons.mp (I.stkSub b hb) with e | hb
  · rw [e]; exact I.free
  · obtain ⟨_,o,ho,_⟩:=I.ok.funs.mem hb
    exact I.base.free b o ho (I.ok.frf b hb) fun z=>I.ok.exfs b z hb
theorem Inv.step {g' : Array GenState} {t' : Nat} {d' : Drawn} {ch:List Addr} (I:Inv X pins σ H s)
    (hch:∀ b ∈ ch,(b ∈ X.ex∨X.s₀.heap.objs.size ≤ b)∧b ≠ X.env.locals∧(∀ x c,X.env.cells.lookup x = some c→c ≠ b)∧∀ p ∈ X.pn ++ pins,p.1 ≠ b)
    (keep:∀ b o,b ≠ X.env.locals→b ∉ X.fs→b ∉ ch→s.heap.get? b = some o→H b = none→h'.get? b = some o)
    (slot:∀ b o,b ≠ X.env.locals→b ∈ X.fs→b ∉ ch→s.heap.get? b = some o→H b = none→∃ sl,h'.get? b = some { o with slots:=sl }) (free:∀ b o,b ∉ ch→s.heap.get? b = some o→H b = none→H' b = none)
    (there:∀ b o,b ∉ ch→s.heap.get? b = some o→∃ o',h'.get? b = some o')
    (tups:∀ b xs,H b = some (.tup xs)→H' b = some (.tup xs)) (frzs:∀ b o u,H b = some (.frz o u)→H' b = some (.frz o u)) (tbls:∀ b ps,H b = some (.tbl ps)→∃ more,H' b = some (.tbl (ps ++ more)))
    (ns:∀ m,s.heap.Ns X.env.locals m→h'.Ns X.env.locals m) (hok:HOk X.prog X.w H' h') (hg:AllBare g') :
    Inv X pins σ H' { s with heap:=h',gens:=g',drawn:=d',toks:=t' }:=by
  have neL:∀ b o,X.s₀.heap.get? b = some o→b ≠ X.env.locals:=fun b o e=>Nat.ne_of_lt (Nat.lt_of_lt_of_le (Heap.lt_size e) I.ok.above)
  have neC:∀ b o,X.s₀.heap.get? b = some o→b ∉ X.ex→b ∉ ch:=fun b o e hx hb=>by
    rcases (hch b hb).1 with z | z
    · exact hx z
    · exact absurd (Nat.lt_of_lt_of_le (Heap.lt_size e) z) (Nat.lt_irrefl _)
  have cellK:∀ x c,X.env.cells.lookup x = some c→∀ v,s.heap.IsCell c v→h'.IsCell c v:=fun x c e v ⟨o,ho,hd⟩=>by
    have nch:c ∉ ch:=fun z=>(hch c z).2.2.1 x c e rfl
    by_cases hc:c ∈ X.fs
    · obtain ⟨sl,q⟩:=slot c o (I.cne x c e) hc nch ho (I.freeC x c e)
      exact ⟨_,q,hd⟩
    · exact ⟨o,keep c o (I.cne x c e) hc nch ho (I.freeC x c e),hd⟩
  refine ⟨I.ok,I.os,hg,⟨fun b o e n hb hx=>?_,fun b o e n hb hx=>?_,fun b o e n hx=>?_,fun b o e hx=>?_,fun b xs e=>tups b xs (I.base.tups b xs e),fun b o xs e=>frzs b o xs (I.base.frzs b o xs e),fun b ps e=>?_⟩,?_,fun x c e=>?_,?_,fun x c e=>?_,fun p hp=>?_,hok,I.len⟩
  · exact keep b o (neL b o e) hb (neC b o e hx) (I.base.keep b o e n hb hx) (I.base.free b o e n hx)
  · obtain ⟨sl,e1⟩:=I.base.slot b o e n hb hx
    obtain ⟨sl',e2⟩:=slot b _ (neL b o e) hb (neC b o e hx) e1 (I.base.free b o e n hx)
    exact ⟨sl',e2⟩
  · obtain ⟨o',e1⟩:=I.base.there b o e hx
    exact free b o' (neC b o e hx) e1 (I.base.free b o e n hx)
  · obtain ⟨o',e1⟩:=I.base.there b o e hx
    exact there b o' (neC b o e hx) e1
  · obtain ⟨m1,e1⟩:=I.base.tbls b ps e
    obtain ⟨m2,e2⟩:=tbls b _ e1
    exact ⟨m1 ++ m2,by rw [e2,Array.append_assoc]⟩
  · obtain ⟨m,hn,hl⟩:=I.loc
    refine ⟨m,ns m hn,fun i x v e1 e2 e3=>?_⟩
    obtain ⟨u,r,l⟩:=hl i x v e1 e2 e3
    refine ⟨u,r,?_⟩
    rcases l with l | ⟨k,c,e,z⟩
    · exact .inl l
    · exact .inr ⟨k,c,e,cellK x c e _ z⟩
  · obtain ⟨v,z⟩:=I.cell x c e
    exact ⟨v,cellK x c e v z⟩
  · obtain ⟨m,⟨o,_,_,ho,_⟩,_⟩:=I.loc
    exact free _ o (fun z=>(hch _ z).2.1 rfl) ho I.free
  · obtain ⟨v,o,ho,hd⟩:=I.cell x c e
    exact free c o (fun z=>(hch c z).2.2.1 x c e rfl) ho (I.freeC x c e)
  · obtain ⟨e,n,ne,nf,d⟩:=I.pin p hp
    have nch:p.1 ∉ ch:=fun z=>(hch p.1 z).2.2.2 p hp rfl
    exact ⟨keep p.1 p.2 ne nf nch e n,free p.1 p.2 nch e n,ne,nf,d⟩
theorem Inv.un {t' : Nat} (I:Inv X pins σ H s) (u:Un X.fs [] H H' s.heap h') (hok:HOk X.prog X.w H' h'):Inv X pins σ H' { s with heap:=h',toks:=t' }:=by
  obtain ⟨m,⟨o,es,ep,ho,r⟩,_⟩:=id I.loc
  obtain ⟨sl,hL⟩:=u.any ho I.free (by simp)
  exact I.step (g':=s.gens) (d':=s.drawn) (ch:=[]) (fun _ z=>nomatch z) (fun b o _ hb _ e n=>u.keep b o e n hb (by simp)) (fun b o _ hb _ e n=>u.slot b o e n hb (by simp)) (fun b o _ e n=>u.free b o e n (by simp)) (fun b o _ e=>u.there b o e (by simp)) u.tups u.frzs u.tbls (fun m' hm=>by
    obtain ⟨o',es',ep',ho',r'⟩:=hm
    rw [ho] at ho'; cases ho'
    exact ⟨_,es',ep',hL,r'⟩) hok I.bare
theorem Inv.call {g' : Array GenState} {t' : Nat} {d' : Drawn} {ch:List Addr} (I:Inv X pins σ H s) (u:Un (frs X.stack) ch H H' s.heap h') (hok:HOk X.prog X.w H' h') (hg:AllBare g')
    (hch:∀ b ∈ ch,(b ∈ X.ex∨X.s₀.heap.objs.size ≤ b)∧b ≠ X.env.locals∧(∀ x c,X.env.cells.lookup x = some c→c ≠ b)∧∀ p ∈ X.pn ++ pins,p.1 ≠ b) :
    Inv X pins σ H' { s with heap:=h',gens:=g',drawn:=d',toks:=t' }:=by
  obtain ⟨m,⟨o,es,ep,ho,r⟩,_⟩:=id I.loc
  obtain ⟨sl,hL⟩:=u.any ho I.free fun z=>(hch _ z).2.1 rfl
  exact I.step (ch:=ch) hch (fun b o hL hb hc e n=>u.keep b o e n (fun z=>(List.mem_cons.mp (I.stkSub b z)).elim hL hb) hc) (fun b o _ _ hc e n=>u.any e n hc) (fun b o hc e n=>u.free b o e n hc) (fun b o hc e=>u.there b o e hc) u.tups u.frzs u.tbls (fun m' hm=>by
    obtain ⟨o',es',ep',ho',r'⟩:=hm
    rw [ho] at ho'; cases ho'
    exact ⟨_,es',ep',hL,r'⟩) hok hg
theorem Inv.turned {t' : Nat} {it:Addr} (I:Inv X pins σ H s) (k:∀ b o,b ≠ it→s.heap.get? b = some o→h'.get? b = some o) (hn:H it = none) (hL:it ≠ X.env.locals)
    (h1:it ∈ X.ex∨X.s₀.heap.objs.size ≤ it) (h2:∀ x c,X.env.cells.lookup x = some c→c ≠ it) (h3:∀ p ∈ X.pn ++ pins,p.1 ≠ it):Inv X pins σ H { s with heap:=h',toks:=t' }:=by
  have nit:∀ b u,H b = some u→b ≠ it:=fun b u e z=>by rw [z,hn] at e; cases e
  refine I.step (g':=s.gens) (d':=s.drawn) (ch:=[it]) (fun b hb=>?_) (fun b o _ _ hc e _=>k b o (fun z=>hc (by simp [z])) e) (fun b o _ _ hc e _=>⟨o.slots,k b o (fun z=>hc (by simp [z])) e⟩) (fun _ _ _ _ n=>n)
    (fun b o hc e=>⟨o,k b o (fun z=>hc (by simp [z])) e⟩) (fun _ _ e=>e) (fun _ _ _ e=>e) (fun b ps e=>⟨#[],by rw [e]; simp⟩) (fun m hm=>?_) (fun b u e=>?_) I.bare
  · have e:b = it:=by simpa using hb
    subst e
    exact ⟨h1,hL,h2,h3⟩
  · obtain ⟨o,es,ep,ho,r⟩:=hm
    exact ⟨o,es,ep,k _ o (Ne.symm hL) ho,r⟩
  · refine (I.hok b u e).stay (fun c v hc q=>k c v ?_ q) (fun _ q=>q) fun _ _ q=>q
    rcases hc with z | z
    · rw [z]; exact nit b u e
    · exact nit c _ z
theorem Inv.tok (I:Inv X pins σ H s) (t:Nat):Inv X pins σ H { s with toks:=t }:=I.un (h':=s.heap) (t':=t) Un.refl I.hok
theorem Inv.kept {t' : Nat} (I:Inv X pins σ H s) (k:∀ b u,s.heap.get? b = some u→h'.get? b = some u):Inv X pins σ H { s with heap:=h',toks:=t' }:=I.un (Un.kept k) (I.hok.kept k)
theorem Inv.laid {a:Addr} {o:HO} {t' : Nat} (I:Inv X pins σ H s) (k:∀ b u,s.heap.get? b = some u→h'.get? b = some u) (hp:s.heap.objs.size ≤ a) (new:ObjOk X.prog X.w (upd H a o) h' a o) :
    Inv X pins σ (upd H a o) { s with heap:=h',toks:=t' }:=I.un (Un.laid k hp (I.hok.fresh hp)) (I.hok.laid k hp new)
theorem Inv.write {x e:Addr} {o:HO} {t' : Nat} (I:Inv X pins σ H s) (mu:Mut (H x)) (he:e = x∨H e = some (.own x)) (k:∀ b u,b ≠ e→s.heap.get? b = some u→h'.get? b = some u) (heo:∃ u,h'.get? e = some u)
    (new:ObjOk X.prog X.w (upd H x o) h' x o):Inv X pins σ (upd H x o) { s with heap:=h',toks:=t' }:=I.un (Un.write mu he k heo) (I.hok.write mu he k heo new)
theorem Inv.pins_of {pins' : List (Addr × Obj)} (I:Inv X pins σ H s) (h:∀ p ∈ pins',s.heap.get? p.1 = some p.2∧H p.1 = none∧p.1 ≠ X.env.locals∧p.1 ∉ X.fs∧∀ v,p.2.data ≠ .cell v):Inv X pins' σ H s :=
  ⟨I.ok,I.os,I.bare,I.base,I.loc,I.cell,I.free,I.freeC,fun p hp=>(List.mem_append.mp hp).elim (fun z=>I.pin p (List.mem_append_left _ z)) (h p),I.hok,I.len⟩
theorem nodup_ix {N:List Str} (hN:N.Nodup) {i j:Nat} {x:Str} (a:N[i]? = some x) (b:N[j]? = some x):i = j:=by
  obtain ⟨h1,e1⟩:=List.getElem?_eq_some_iff.mp a
  obtain ⟨h2,e2⟩:=List.getElem?_eq_some_iff.mp b
  exact (List.getElem_inj hN).mp (e1.trans e2.symm)
theorem store_ok2 {M:Model} {A:Around} {E:Value→Shared→Prop} {i:Nat} {x:Str} {v:V} {u:Value} {Q:Unit→Shared→Prop} (I:Inv X pins σ H s) (hN:X.N.Nodup) (hi:X.N[i]? = some x) (hx:Loc X.env.scope x) (r:RelV v u)
    (h:∀ s',Inv X pins (σ.set i (some v)) H s'→(∃ a,Heap.SameBut a s.heap s'.heap∧(a = X.env.locals∨X.env.cells.lookup x = some a))→Q () s') (hf:X.fn x = true∨X.env.scope.names.lookup x = some .local:=by first | exact .inl rfl | exact .inr rfl | assumption):wpAny M A (storeName X.env x u) Q E s:=by
  obtain ⟨m,hn,hl⟩:=id I.loc
  have hcls:(X.env.scope.kind == .class || (X.env.scope.kind == .module && X.env.locals != X.env.globals)) = false:=by rw [I.ok.kind]; rfl
  have hiσ:i < σ.length:=by rw [I.len]; exact (List.getElem?_eq_some_iff.mp hi).1
  have cne:=I.cne
  have tracked:∀ {a:Addr} {h' : Heap},(∃ o,s.heap.get? a = some o∧H a = none)→Heap.SameBut a s.heap h'→HOk X.prog X.w H h':=fun {a h'} ha hs b ob e=>by
    obtain ⟨_,_,hfree⟩:=ha
    refine (I.hok b ob e).stay (fun c w' hc q=>(hs.2 c ?_).trans q) (fun _ q=>q) fun _ _ q=>q
    rintro rfl
    rcases hc with rfl | hc
    · rw [hfree] at e; cases e
    · rw [hfree] at hc; cases hc
  rcases hx with hk | hk
  · refine wpAny_storeName_local hk hn (fun h' hn' hs=>?_) hcls
    obtain ⟨oL,_,_,hoL,_⟩:=id hn
    refine h _ ⟨I.ok,I.os,I.bare,⟨fun b o e n hb hx=>?_,fun b o e n hb hx=>?_,I.base.free,fun b o e hx=>?_,I.base.tups,I.base.frzs,I.base.tbls⟩,⟨_,hn',fun j y v' e1 e2 e3=>?_⟩,fun y c e=>?_,I.free,I.freeC,fun p hp=>?_,tracked ⟨oL,hoL,I.free⟩ hs,by simpa using I.len⟩ ⟨_,hs,.inl rfl⟩
    · exact (hs.2 b (Nat.ne_of_lt (Nat.lt_of_lt_of_le (Heap.lt_size e) I.ok.above))).trans (I.base.keep b o e n hb hx)
    · obtain ⟨sl,e1⟩:=I.base.slot b o e n hb hx
      exact ⟨sl,(hs.2 b (Nat.ne_of_lt (Nat.lt_of_lt_of_le (Heap.lt_size e) I.ok.above))).trans e1⟩
    · obtain ⟨o',e1⟩:=I.base.there b o e hx
      exact ⟨o',(hs.2 b (Nat.ne_of_lt (Nat.lt_of_lt_of_le (Heap.lt_size e) I.ok.above))).trans e1⟩
    · by_cases hj:j = i
      · subst hj
        rw [hi] at e1; cases e1
        rw [List.getElem?_set_self hiσ] at e2
        cases e2
        exact ⟨u,r,.inl ⟨hk,by simp⟩⟩
      · rw [List.getElem?_set_ne (Ne.symm hj)] at e2
        obtain ⟨u',r',q⟩:=hl j y v' e1 e2 e3
        refine ⟨u',r',?_⟩
        rcases q with ⟨k,e⟩ | ⟨k,c,e,z⟩
        · refine .inl ⟨k,?_⟩
          have:y ≠ x:=fun e=>hj (nodup_ix hN e1 (e ▸ hi))
          simp [this,e]
        · exact .inr ⟨k,c,e,z.sameBut hs (cne y c e)⟩
    · obtain ⟨w',z⟩:=I.cell y c e
      exact ⟨w',z.sameBut hs (cne y c e)⟩
    · obtain ⟨e,n,ne,nf,d⟩:=I.pin p hp
      exact ⟨(hs.2 p.1 ne).trans e,n,ne,nf,d⟩
  · have hfn:X.fn x = true:=by
      rcases hf with z | z
      · exact z
      · rw [z] at hk; cases hk
    obtain ⟨c,hc⟩:=I.ok.has x (.inl hk)
    obtain ⟨w',z⟩:=I.cell x c hc
    refine wpAny_storeName_cell I.ok.kind hk hc z (fun h' hc' hs=>?_)
    obtain ⟨oc,hoc,hocd⟩:=id z
    refine h { s with heap:=h' } ⟨I.ok,I.os,I.bare,⟨fun b o e n hb hx=>?_,fun b o e n hb hx=>?_,I.base.free,fun b o e hx=>?_,I.base.tups,I.base.frzs,I.base.tbls⟩,⟨m,hn.sameBut hs (Ne.symm (cne x c hc)),fun j y v' e1 e2 e3=>?_⟩,fun y c' e=>?_,I.free,I.freeC,fun p hp=>?_,tracked ⟨oc,hoc,I.freeC x c hc⟩ hs,by simpa using I.len⟩ ⟨c,hs,.inr hc⟩
    · exact (hs.2 b (Nat.ne_of_lt (Nat.lt_of_lt_of_le (Heap.lt_size e) (I.ok.cab x c hfn hc)))).trans (I.base.keep b o e n hb hx)
    · obtain ⟨sl,e1⟩:=I.base.slot b o e n hb hx
      exact ⟨sl,(hs.2 b (Nat.ne_of_lt (Nat.lt_of_lt_of_le (Heap.lt_size e) (I.ok.cab x c hfn hc)))).trans e1⟩
    · obtain ⟨o',e1⟩:=I.base.there b o e hx
      exact ⟨o',(hs.2 b (Nat.ne_of_lt (Nat.lt_of_lt_of_le (Heap.lt_size e) (I.ok.cab x c hfn hc)))).trans e1⟩
    · by_cases hj:j = i
      · subst hj
        rw [hi] at e1; cases e1
        rw [List.getElem?_set_self hiσ] at e2
        cases e2
        exact ⟨u,r,.inr ⟨.inl hk,c,hc,hc'⟩⟩
      · rw [List.getElem?_set_ne (Ne.symm hj)] at e2
        obtain ⟨u',r',q⟩:=hl j y v' e1 e2 e3
        refine ⟨u',r',?_⟩
        rcases q with q | ⟨k,c',e,z'⟩
        · exact .inl q
        · refine .inr ⟨k,c',e,z'.sameBut hs ?_⟩
          rintro rfl
          exact hj (nodup_ix hN e1 (I.ok.inj _ _ _ e hc ▸ hi))
    · by_cases hcc:c' = c
      · subst hcc; exact ⟨_,hc'⟩
      · obtain ⟨w2,z2⟩:=I.cell y c' e
        exact ⟨w2,z2.sameBut hs hcc⟩
    · obtain ⟨e,n,ne,nf,d⟩:=I.pin p hp
      refine ⟨(hs.2 p.1 ?_).trans e,n,ne,nf,d⟩
      intro q
      rw [q,hoc] at e
      have q' : oc = p.2:=Option.some.inj e
      exact d w' (by rw [← q']; exact hocd)
theorem store_ok {M:Model} {A:Around} {E:Value→Shared→Prop} {i:Nat} {x:Str} {v:V} {u:Value} {Q:Unit→Shared→Prop} (I:Inv X pins σ H s) (hN:X.N.Nodup) (hi:X.N[i]? = some x) (hx:Loc X.env.scope x) (r:RelV v u)
    (h:∀ s',Inv X pins (σ.set i (some v)) H s'→Q () s') (hf:X.fn x = true∨X.env.scope.names.lookup x = some .local:=by first | exact .inl rfl | exact .inr rfl | assumption):wpAny M A (storeName X.env x u) Q E s :=
  store_ok2 I hN hi hx r (fun s' I' _=>h s' I') hf
theorem Inv.call' {s' : Shared} {ch:List Addr} (I:Inv X pins σ H s) (ho:s'.os = s.os) (u:Un (frs X.stack) ch H H' s.heap s'.heap) (hok:HOk X.prog X.w H' s'.heap) (hg:AllBare s'.gens)
    (hch:∀ b ∈ ch,(b ∈ X.ex∨X.s₀.heap.objs.size ≤ b)∧b ≠ X.env.locals∧(∀ x c,X.env.cells.lookup x = some c→c ≠ b)∧∀ p ∈ X.pn ++ pins,p.1 ≠ b):Inv X pins σ H' s':=by
  obtain ⟨h',g',d',t',o'⟩:=s'
  have e:o' = s.os:=ho
  subst e
  exact I.call (g':=g') (t':=t') (d':=d') u hok hg hch
end
abbrev XK:=Value→Option Addr→Hp→Prop
abbrev St:=List (Option V)
abbrev VK:=V→Hp→Prop
abbrev TE:=St→Hp→VK→Prop
abbrev TT:=St→Hp→(Bool→Hp→Prop)→Prop
abbrev TA:=St→Hp→(List V→Hp→Prop)→Prop
structure Ends where
  nx:St→Hp→Prop
  rt:VK
  bk:St→Hp→Prop:=fun _ _=>False
  ct:St→Hp→Prop:=fun _ _=>False
abbrev TS:=Ends→St→Hp→Prop
def EP (X:Cx) (pins:List (Addr × Obj)) (σ:St) (Q:VK) (u:Value) (s' : Shared):Prop:=∃ v H',Inv X pins σ H' s'∧RelV v u∧Q v H'
def TP (X:Cx) (pins:List (Addr × Obj)) (σ:St) (Q:Bool→Hp→Prop) (b:Bool) (s' : Shared):Prop:=∃ H',Inv X pins σ H' s'∧Q b H'
def AP (X:Cx) (pins:List (Addr × Obj)) (σ:St) (Q:List V→Hp→Prop) (us:List Value) (s' : Shared):Prop:=∃ vs H',Inv X pins σ H' s'∧Vals vs us∧Q vs H'
def SP (X:Cx) (pins:List (Addr × Obj)) (D:Ends) (f:Flow) (s' : Shared):Prop :=
  match f with
  | .next=>∃ σ' H',Inv X pins σ' H' s'∧D.nx σ' H'
  | .brk=>∃ σ' H',Inv X pins σ' H' s'∧D.bk σ' H'
  | .cont=>∃ σ' H',Inv X pins σ' H' s'∧D.ct σ' H'
  | .ret u=>∃ v σ' H',Inv X pins σ' H' s'∧RelV v u∧D.rt v H'
def PE (X:Cx) (e:Expr) (t:TE):Prop :=
  ∀ (pins:List (Addr × Obj)) (s:Shared) (σ:St) (H:Hp) (Q:VK),Inv X pins σ H s→t σ H Q→wpAny (model X.prog X.w) X.A (eval e X.env) (EP X pins σ Q) X.xe s
def PT (X:Cx) (e:Expr) (t:TT):Prop :=
  ∀ (pins:List (Addr × Obj)) (s:Shared) (σ:St) (H:Hp) (Q:Bool→Hp→Prop),Inv X pins σ H s→t σ H Q→wpAny (model X.prog X.w) X.A (isTrue e X.env (eval e X.env)) (TP X pins σ Q) X.xe s
def PW (X:Cx) (e:Expr) (t:TT):Prop :=
  ∀ (whole:Sem Value) (pins:List (Addr × Obj)) (s:Shared) (σ:St) (H:Hp) (Q:Bool→Hp→Prop),Inv X pins σ H s→t σ H Q→wpAny (model X.prog X.w) X.A (isTrue e X.env whole) (TP X pins σ Q) X.xe s
theorem PW.pt {X:Cx} {e:Expr} {t:TT} (h:PW X e t):PT X e t:=h _
def PA (X:Cx) (es:List Expr) (t:TA):Prop :=
  ∀ (pos:Pos) (pins:List (Addr × Obj)) (s:Shared) (σ:St) (H:Hp) (Q:List V→Hp→Prop),Inv X pins σ H s→t σ H Q→wpAny (model X.prog X.w) X.A (spliced (backTo pos (starEach es X.env))) (AP X pins σ Q) X.xe s
def PS (X:Cx) (st:Stmt) (t:TS):Prop :=
  ∀ (pins:List (Addr × Obj)) (s:Shared) (σ:St) (H:Hp) (D:Ends),Inv X pins σ H s→t D σ H→wpAny (model X.prog X.w) X.A (exec st X.env) (SP X pins D) X.xe s
def PSs (X:Cx) (st:List Stmt) (t:TS):Prop :=
  ∀ (pins:List (Addr × Obj)) (s:Shared) (σ:St) (H:Hp) (D:Ends),Inv X pins σ H s→t D σ H→wpAny (model X.prog X.w) X.A (execs st X.env) (SP X pins D) X.xe s
theorem thn {α:Type} {t:Sem α} {Q Q' : α→Shared→Prop} {M:Model} {A:Around} {E:Value→Shared→Prop} {s:Shared} (h:wpAny M A t Q E s) (hQ:∀ a s,Q a s→Q' a s):wpAny M A t Q' E s:=wpAny_mono h hQ fun _ _ x=>x
end L2
namespace L2
open PySem PySem.Spec PyProof.Rows
section
variable {X:Cx}
def tVar (i:Nat):TE:=fun σ H Q=>∃ v,σ[i]? = some (some v)∧Q v H
def tC (v:V):TE:=fun _ H Q=>Q v H
theorem pe_var {i:Nat} {x:Str} {pos:Pos} (hN:X.N[i]? = some x) (hv:Vis X.env.scope x) (hd:(x == ("__debug__" : Str)) = false:=by decide) (hcd:(x == ("__classdict__" : Str)) = false:=by decide):PE X (.Name x pos) (tVar i):=by
  intro pins s σ H Q I h
  obtain ⟨v,e,h⟩:=h
  obtain ⟨m,hn,hl⟩:=I.loc
  obtain ⟨u,r,l⟩:=hl i x v hN e hv
  have fin:EP X pins σ Q u s:=⟨v,H,I,r,h⟩
  rcases l with ⟨hk,hm⟩ | ⟨hk,c,hc,hcell⟩
  · exact wpAny_Name (wpAny_loadName_local I.ok.kind hk hn hm fin) hd
  · rcases hk with hk | hk
    · exact wpAny_Name (wpAny_loadName_cell I.ok.kind hk hc hcell fin) hd
    · exact wpAny_Name (wpAny_loadName_free I.ok.kind hk hc hcell fin hcd) hd
theorem pe_int {i j pos} : PE X (.Constant (.int i) j pos) (tC (.int i)):=fun _ _ _ H _ I h=>wpAny_Constant_int ⟨.int i,H,I.tok _,⟨_,rfl⟩,h⟩
theorem pe_bl {b j pos} : PE X (.Constant (.bool b) j pos) (tC (.bl b)):=fun _ _ _ H _ I h=>Constant_bool ⟨.bl b,H,I,rfl,h⟩
def Gl (X:Cx) (x:Str):Prop:=X.env.kindOf x = some .globalImplicit
theorem ld_glob {E:Value→Shared→Prop} {pins:List (Addr × Obj)} {s:Shared} {σ:St} {H:Hp} {x:Str} {u:Value} {pos:Pos} {Q:Value→Shared→Prop} (I:Inv X pins σ H s) (hg:Gl X x) (hm:X.mg x = some u) (h:Q u s)
    (hd:(x == ("__debug__" : Str)) = false:=by decide):wpAny (model X.prog X.w) X.A (eval (.Name x pos) X.env) Q E s :=
  Calls.Name_function_global I.ok.kind hg (Calls.loadGlobal_global (by rw [I.ok.glob]; exact I.mod.glob.keeps I.bk) hm h) hd
theorem ld_blt {E:Value→Shared→Prop} {pins:List (Addr × Obj)} {s:Shared} {σ:St} {H:Hp} {x:Str} {u:Value} {pos:Pos} {Q:Value→Shared→Prop} (I:Inv X pins σ H s) (hg:Gl X x) (hm:X.mg x = none) (hv:bootBuiltins x = some u) (h:Q u s)
    (hn:x ≠ "__name__" := by decide) (hd:(x == ("__debug__" : Str)) = false:=by decide):wpAny (model X.prog X.w) X.A (eval (.Name x pos) X.env) Q E s:=by
  obtain ⟨mb,h1,h2⟩:=I.mod.blt
  exact Calls.Name_function_global I.ok.kind hg (Calls.loadGlobal_builtin (by rw [I.ok.glob]; exact I.mod.glob.keeps I.bk) hm (by rw [I.ok.blt]; exact h1.keeps I.bk) ((h2 x hn).trans hv) h) hd
theorem pe_glob {x:Str} {v:V} {u:Value} {pos:Pos} (hg:Gl X x) (hm:X.mg x = some u) (r:RelV v u) (hd:(x == ("__debug__" : Str)) = false:=by decide):PE X (.Name x pos) (tC v) :=
  fun _ _ _ H _ I h=>ld_glob I hg hm ⟨v,H,I,r,h⟩ hd
theorem pe_bltn {x:Str} {v:V} {u:Value} {pos:Pos} (hg:Gl X x) (hm:X.mg x = none) (hv:bootBuiltins x = some u) (r:RelV v u) (hn:x ≠ "__name__" := by decide) (hd:(x == ("__debug__" : Str)) = false:=by decide):PE X (.Name x pos) (tC v) :=
  fun _ _ _ H _ I h=>ld_blt I hg hm hv ⟨v,H,I,r,h⟩ hn hd
def t2I (ta tb:TE) (k:Int→Int→Hp→Prop):St→Hp→Prop:=fun σ H=>ta σ H fun x H1=>tb σ H1 fun y H2=>∃ i j,x = .int i∧y = .int j∧k i j H2
def tAdd (ta tb:TE):TE:=fun σ H Q=>t2I ta tb (fun i j H2=>Q (.int (i + j)) H2) σ H
def tSub (ta tb:TE):TE:=fun σ H Q=>t2I ta tb (fun i j H2=>Q (.int (i - j)) H2) σ H
def tMul (ta tb:TE):TE:=fun σ H Q=>t2I ta tb (fun i j H2=>(-(2 ^ 64) < i∧i < 2 ^ 64)∧Q (.int (i * j)) H2) σ H
variable {a b:Expr} {ta tb:TE} {pos:Pos}
def PC (X:Cx) (op:CmpOp) (a b:Expr) (t:TE):Prop :=
  ∀ (pins:List (Addr × Obj)) (s:Shared) (σ:St) (H:Hp) (Q:VK),Inv X pins σ H s→t σ H Q →
    wpAny (model X.prog X.w) X.A (eval a X.env) (fun v s₁=>wpAny (model X.prog X.w) X.A (eval b X.env) (fun u s₂=>wpAny (model X.prog X.w) X.A (compareOp op v u) (EP X pins σ Q) X.xe s₂) X.xe s₁) X.xe s
def tCmp (p:Int→Int→Bool) (ta tb:TE):TE:=fun σ H Q=>t2I ta tb (fun i j H2=>Q (.bl (p i j)) H2) σ H
abbrev tLt:TE→TE→TE:=tCmp fun i j=>decide (i < j)
abbrev tLe:TE→TE→TE:=tCmp fun i j=>decide (i ≤ j)
abbrev tGt:TE→TE→TE:=tCmp fun i j=>decide (j < i)
abbrev tGe:TE→TE→TE:=tCmp fun i j=>decide (j ≤ i)
abbrev tEqI:TE→TE→TE:=tCmp fun i j=>decide (i = j)
abbrev tNeI:TE→TE→TE:=tCmp fun i j=>!decide (i = j)
def tIsN (ta:TE):TE:=fun σ H Q=>ta σ H fun x H1=>Q (.bl (decide (x = .non))) H1
def tNotN (ta:TE):TE:=fun σ H Q=>ta σ H fun x H1=>Q (.bl (!decide (x = .non))) H1
def tB (t:TE):TT:=fun σ H Q=>t σ H fun x H1=>∃ c,x = .bl c∧Q c H1
theorem pt_val {e:Expr} {t:TE} (h:PE X e t) (he:∀ whole,isTrue e X.env whole = (do let v ← whole; standAt e.pos; holding [v] (truthy v)):=by intro _; rfl):PT X e (tB t):=by
  intro pins s σ H Q I hw
  refine isTrue_plain (thn (h pins s σ H _ I hw) fun v s1 ⟨x,H1,I1,r1,q1⟩=>?_) (he _)
  obtain ⟨d,rfl,q⟩:=q1
  cases r1
  exact wpAny_truthy_bool ⟨H1,I1,q⟩
variable {tA tB' : TT} {rest:List Expr}
def tAnd (t u:TT):TT:=fun σ H Q=>t σ H fun c H1=>if c = true then u σ H1 Q else Q false H1
def tOr (t u:TT):TT:=fun σ H Q=>t σ H fun c H1=>if c = true then Q true H1 else u σ H1 Q
def tNot (t:TT):TT:=fun σ H Q=>t σ H fun c H1=>Q (!c) H1
theorem pw_and1 (ha:PT X a tA):PW X (.BoolOp .And [a] pos) tA:=by
  intro wh pins s σ H Q I h
  refine isTrue_and (thn (ha pins s σ H Q I h) fun c s1 e=>?_)
  cases c with
  | true=>exact isTrue_and_nil e
  | false=>exact e
theorem pw_or1 (ha:PT X a tA):PW X (.BoolOp .Or [a] pos) tA:=by
  intro wh pins s σ H Q I h
  refine isTrue_or (thn (ha pins s σ H Q I h) fun c s1 e=>?_)
  cases c with
  | false=>exact isTrue_or_nil e
  | true=>exact e
theorem pw_and (ha:PT X a tA) (hb:PW X (.BoolOp .And (b :: rest) pos) tB'):PW X (.BoolOp .And (a :: b :: rest) pos) (tAnd tA tB'):=by
  intro wh pins s σ H Q I h
  refine isTrue_and (thn (ha pins s σ H _ I h) fun c s1 ⟨H1,I1,q1⟩=>?_)
  cases c with
  | true=>exact hb wh pins s1 σ H1 Q I1 q1
  | false=>exact ⟨H1,I1,q1⟩
theorem pw_or (ha:PT X a tA) (hb:PW X (.BoolOp .Or (b :: rest) pos) tB'):PW X (.BoolOp .Or (a :: b :: rest) pos) (tOr tA tB'):=by
  intro wh pins s σ H Q I h
  refine isTrue_or (thn (ha pins s σ H _ I h) fun c s1 ⟨H1,I1,q1⟩=>?_)
  cases c with
  | true=>exact ⟨H1,I1,q1⟩
  | false=>exact hb wh pins s1 σ H1 Q I1 q1
theorem pt_not (ha:PT X a tA):PT X (.UnaryOp .Not a pos) (tNot tA):=by
  intro pins s σ H Q I h
  exact isTrue_not (ha pins s σ H (fun c H1=>Q (!c) H1) I h)
def tAndV (ta tb:TE):TE:=fun σ H Q=>ta σ H fun x H1=>∃ c,x = .bl c∧if c = true then tb σ H1 Q else Q (.bl false) H1
def tOrV (ta tb:TE):TE:=fun σ H Q=>ta σ H fun x H1=>∃ c,x = .bl c∧if c = true then Q (.bl true) H1 else tb σ H1 Q
def tNotV (ta:TE):TE:=fun σ H Q=>ta σ H fun x H1=>∃ c,x = .bl c∧Q (.bl (!c)) H1
theorem pe_one {op} {t:TE} (h:PE X a t):PE X (.BoolOp op [a] pos) t:=fun pins s σ H Q I hw=>BoolOp_one (h pins s σ H Q I hw)
theorem pe_and (ha:PE X a ta) (hb:PE X (.BoolOp .And (b :: rest) pos) tb):PE X (.BoolOp .And (a :: b :: rest) pos) (tAndV ta tb):=by
  intro pins s σ H Q I h
  refine BoolOp_and (thn (ha pins s σ H _ I h) fun v s1 ⟨x,H1,I1,r1,q1⟩=>?_)
  obtain ⟨c,rfl,q1⟩:=q1
  cases r1
  refine wpAny_truthy_bool ?_
  cases c with
  | true=>exact hb pins s1 σ H1 Q I1 q1
  | false=>exact ⟨.bl false,H1,I1,rfl,q1⟩
theorem pe_not (ha:PE X a ta):PE X (.UnaryOp .Not a pos) (tNotV ta):=by
  intro pins s σ H Q I h
  refine UnaryOp_ (thn (ha pins s σ H _ I h) fun v s1 ⟨x,H1,I1,r1,q1⟩=>?_)
  obtain ⟨c,rfl,q1⟩:=q1
  cases r1
  exact not_of (wpAny_truthy_bool ⟨.bl (!c),H1,I1,rfl,q1⟩)
def tIf (t:TT) (ta tb:TE):TE:=fun σ H Q=>t σ H fun c H1=>if c = true then ta σ H1 Q else tb σ H1 Q
end
end L2
namespace L2
open PySem PySem.Spec PyProof.Rows
def SqL (K:PySem.W.Frag) (H:Hp) (a:Addr) (xs:List V):Prop :=
  Rd H a (.lst xs) ∨
    ∃ (o:Obj) (its:Array Value) (n:Nat),K.lookup a = some o∧o.cls = .type "list" ∧ o.dict = none∧o.data = .seq its n∧its.size ≤ sizeLine∧Vals xs its.toList
def SqT (K:PySem.W.Frag) (H:Hp) (a:Addr) (xs:List V):Prop :=
  Rd H a (.tup xs) ∨
    ∃ (o:Obj) (its:Array Value) (n:Nat),K.lookup a = some o∧o.cls = .type "tuple" ∧ o.data = .seq its n∧its.size ≤ sizeLine∧Vals xs its.toList
def absV:Value→Option V
  | .none=>some .non
  | .bool b=>some (.bl b)
  | .int i _=>some (.int i)
  | .str x _=>some (.str x)
  | .bytes b _=>some (.byt b)
  | .float b _=>some (.flt b)
  | .ref a=>some (.ref a)
  | .type n=>some (.ty n)
  | _=>none
theorem RelV.abs {x:V} {u:Value} (r:RelV x u):absV u = some x:=by
  cases x with
  | non=>cases r; rfl
  | bl _=>cases r; rfl
  | int _=>obtain ⟨t,rfl⟩:=r; rfl
  | str _=>obtain ⟨t,rfl⟩:=r; rfl
  | byt _=>obtain ⟨t,rfl⟩:=r; rfl
  | flt _=>obtain ⟨t,rfl⟩:=r; rfl
  | ref _=>cases r; rfl
  | ty _=>cases r; rfl
theorem RelV.inj {x y:V} {u:Value} (r:RelV x u) (q:RelV y u):x = y:=Option.some.inj (r.abs.symm.trans q.abs)
theorem Vals.inj:∀ {xs ys:List V} {us:List Value},Vals xs us→Vals ys us→xs = ys
  | _,_,_,.nil,.nil=>rfl
  | _,_,_,.cons r t,.cons r' t'=>by rw [r.inj r',Vals.inj t t']
section
variable {X:Cx} {pins:List (Addr × Obj)} {σ:St} {H:Hp} {s:Shared} {a:Addr} {xs ys:List V}
theorem SqL.of {K:PySem.W.Frag} (h:H a = some (.lst xs)):SqL K H a xs:=.inl (.inl h)
theorem SqT.of {K:PySem.W.Frag} (h:H a = some (.tup xs)):SqT K H a xs:=.inl (.inl h)
theorem Inv.list (I:Inv X pins σ H s) (h:SqL X.K H a xs):∃ its:List Value,Vals xs its∧PlainL s.heap a its.toArray∧xs.length ≤ sizeLine:=by
  rcases h with h | ⟨o,its,n,hk,hc,hd,hs,hz,r⟩
  · obtain ⟨z,its,n,r,e⟩:=h.ok I.hok
    exact ⟨its,r,⟨_,n,e,rfl,rfl,rfl⟩,z⟩
  · refine ⟨its.toList,r,⟨o,n,I.kIn a o hk,hc,hd,by simpa using hs⟩,?_⟩
    have e:=r.length
    simp only [Array.length_toList] at e
    omega
theorem Inv.tuple (I:Inv X pins σ H s) (h:SqT X.K H a xs):∃ its:List Value,Vals xs its∧IsTup s.heap a its.toArray∧xs.length ≤ sizeLine:=by
  rcases h with h | ⟨o,its,n,hk,hc,hs,hz,r⟩
  · obtain ⟨z,its,r,p⟩:=h.ok I.hok
    exact ⟨its,r,p,z⟩
  · refine ⟨its.toList,r,⟨o,I.kIn a o hk,hc,n,by simpa using hs⟩,?_⟩
    have e:=r.length
    simp only [Array.length_toList] at e
    omega
theorem Inv.list_inj (I:Inv X pins σ H s) (h:SqL X.K H a xs) (h' : SqL X.K H a ys):xs = ys:=by
  obtain ⟨its,r,⟨o,n,e,_,_,d⟩,_⟩:=I.list h
  obtain ⟨its',r',⟨o',n',e',_,_,d'⟩,_⟩:=I.list h'
  rw [e] at e'; cases e'
  rw [d] at d'
  injection d' with d1 _
  have:its = its':=by simpa using congrArg Array.toList d1
  subst this
  exact r.inj r'
theorem Inv.tuple_inj (I:Inv X pins σ H s) (h:SqT X.K H a xs) (h' : SqT X.K H a ys):xs = ys:=by
  obtain ⟨its,r,⟨o,e,_,n,d⟩,_⟩:=I.tuple h
  obtain ⟨its',r',⟨o',e',_,n',d'⟩,_⟩:=I.tuple h'
  rw [e] at e'; cases e'
  rw [d] at d'
  injection d' with d1 _
  have:its = its':=by simpa using congrArg Array.toList d1
  subst this
  exact r.inj r'
end
abbrev Cx.wish (X:Cx) (E:Value→Shared→Prop):Cx:={ X with xe:=E }
abbrev Cx.nox (X:Cx):Cx:=X.wish fun _ _=>False
theorem Cx.Ok.wish {X:Cx} (ok:X.Ok) (E:Value→Shared→Prop):(X.wish E).Ok :=
  ⟨ok.mod,ok.kind,ok.glob,ok.blt,ok.above,ok.inj,ok.has,ok.cab,ok.hd,ok.frames,ok.stk,ok.exf,ok.bs,ok.bsz,ok.noex,ok.exfs,ok.funs,ok.frf⟩
theorem Cx.Ok.unwish {X:Cx} {E:Value→Shared→Prop} (ok:(X.wish E).Ok):X.Ok :=
  ⟨ok.mod,ok.kind,ok.glob,ok.blt,ok.above,ok.inj,ok.has,ok.cab,ok.hd,ok.frames,ok.stk,ok.exf,ok.bs,ok.bsz,ok.noex,ok.exfs,ok.funs,ok.frf⟩
section
variable {X:Cx} {pins:List (Addr × Obj)} {σ:St} {H:Hp} {s:Shared} {E:Value→Shared→Prop}
theorem Inv.wish (I:Inv X pins σ H s) (E:Value→Shared→Prop):Inv (X.wish E) pins σ H s:=⟨I.ok.wish E,I.os,I.bare,I.base,I.loc,I.cell,I.free,I.freeC,I.pin,I.hok,I.len⟩
theorem Inv.unwish (I:Inv (X.wish E) pins σ H s):Inv X pins σ H s:=⟨I.ok.unwish,I.os,I.bare,I.base,I.loc,I.cell,I.free,I.freeC,I.pin,I.hok,I.len⟩
theorem SP.unwish {D:Ends} {f:Flow} {s' : Shared} (h:SP (X.wish E) pins D f s'):SP X pins D f s':=by
  cases f with
  | next=>obtain ⟨σ',H',I,q⟩:=h; exact ⟨σ',H',I.unwish,q⟩
  | brk=>obtain ⟨σ',H',I,q⟩:=h; exact ⟨σ',H',I.unwish,q⟩
  | cont=>obtain ⟨σ',H',I,q⟩:=h; exact ⟨σ',H',I.unwish,q⟩
  | ret u=>obtain ⟨v,σ',H',I,r,q⟩:=h; exact ⟨v,σ',H',I.unwish,r,q⟩
theorem PSs.nox {st:List Stmt} {t:TS} (h:PSs X.nox st t):PSs X st t:=fun pins s σ H D I hw =>
  wpAny_mono (h pins s σ H D (I.wish _) hw) (fun _ _ q=>q.unwish) fun _ _ z=>False.elim z
end
section
variable {X:Cx} {st:Stmt} {rest:List Stmt} {t u:TS} {e:Expr} {te:TE} {pos:Pos}
def tNext:TS:=fun D σ H=>D.nx σ H
def tSeq (t u:TS):TS:=fun D σ H=>t { D with nx:=u D } σ H
theorem pss_nil:PSs X [] tNext:=fun _ _ σ H _ I h=>wpAny_execs_nil ⟨σ,H,I,h⟩
theorem pss_cons (h1:PS X st t) (h2:PSs X rest u):PSs X (st :: rest) (tSeq t u):=by
  intro pins s σ H D I h
  refine wpAny_execs_cons (thn (h1 pins s σ H { D with nx:=u D } I h) fun f s1 q=>?_)
  cases f with
  | next =>
    obtain ⟨σ',H',I',q⟩:=q
    exact h2 pins s1 σ' H' D I' q
  | ret v=>exact q
  | brk=>exact q
  | cont=>exact q
theorem pss_one (h1:PS X st t):PSs X [st] t:=by
  intro pins s σ H D I h
  refine wpAny_execs_cons (thn (h1 pins s σ H D I h) fun f s1 q=>?_)
  cases f with
  | next=>exact wpAny_execs_nil q
  | ret v=>exact q
  | brk=>exact q
  | cont=>exact q
def tBreak:TS:=fun D σ H=>D.bk σ H
def tCont:TS:=fun D σ H=>D.ct σ H
theorem Inv.quiet {pins:List (Addr × Obj)} {σ:St} {H:Hp} {s:Shared} (I:Inv X pins σ H s):interactive X.env = false:=by simp [interactive,I.ok.kind]
def tDrop (te:TE):TS:=fun D σ H=>te σ H fun _ H1=>D.nx σ H1
theorem ps_expr (he:PE X e te) (hs:swapsWith e none pos.line X.env = pure false:=by rfl):PS X (.Expr e pos) (tDrop te):=by
  intro pins s σ H D I h
  exact wpAny_Expr_any (thn (he pins s σ H _ I h) fun v s1 ⟨x,H1,I1,r1,q1⟩=>⟨σ,H1,I1,q1⟩) I.quiet hs
def tRet (te:TE):TS:=fun D σ H=>te σ H D.rt
theorem ps_ret (he:PE X e te):PS X (.Return (some e) pos) (tRet te):=by
  intro pins s σ H D I h
  exact wpAny_Return_some (thn (he pins s σ H _ I h) fun v s1 ⟨x,H1,I1,r1,q1⟩=>⟨x,σ,H1,I1,r1,q1⟩)
def tRetN:TS:=fun D _ H=>D.rt .non H
def tIfS (c:TT) (t u:TS):TS:=fun D σ H=>c σ H fun b H1=>if b = true then t D σ H1 else u D σ H1
theorem ps_if {c:Expr} {a b:List Stmt} {tc:TT} (hc:PT X c tc) (ha:PSs X a t) (hb:PSs X b u):PS X (.If c a b pos) (tIfS tc t u):=by
  intro pins s σ H D I h
  refine wpAny_If (thn (hc pins s σ H _ I h) fun d s1 ⟨H1,I1,q1⟩=>?_)
  cases d with
  | true=>exact ha pins s1 σ H1 D I1 q1
  | false=>exact hb pins s1 σ H1 D I1 q1
def tNever:TS:=fun _ _ _=>False
theorem ps_never:PS X st tNever:=fun _ _ _ _ _ _ h=>h.elim
end
abbrev TG:=V→St→Hp→(St→Hp→Prop)→Prop
abbrev TGs:=List V→St→Hp→(St→Hp→Prop)→Prop
def PG (X:Cx) (target:Expr) (t:TG):Prop :=
  ∀ (pins:List (Addr × Obj)) (s:Shared) (σ:St) (H:Hp) (v:V) (u:Value) (Q:St→Hp→Prop),Inv X pins σ H s→RelV v u→t v σ H Q →
    wpAny (model X.prog X.w) X.A (assign target X.env u) (fun _ s'=>∃ σ' H',Inv X pins σ' H' s'∧Q σ' H') X.xe s
def PGs (X:Cx) (ts:List Expr) (t:TGs):Prop :=
  ∀ (pins:List (Addr × Obj)) (s:Shared) (σ:St) (H:Hp) (vs:List V) (us:List Value) (Q:St→Hp→Prop),Inv X pins σ H s→Vals vs us→t vs σ H Q →
    wpAny (model X.prog X.w) X.A (assignInOrder ((assignEach ts X.env).map (·.2)) us) (fun _ s'=>∃ σ' H',Inv X pins σ' H' s'∧Q σ' H') X.xe s
abbrev TSet:=V→V→V→Hp→(Hp→Prop)→Prop
def PSet (X:Cx) (t:TSet):Prop :=
  ∀ (pins:List (Addr × Obj)) (s:Shared) (σ:St) (H:Hp) (o i v:V) (ov iv u:Value) (Q:Hp→Prop),Inv X pins σ H s→RelV o ov→RelV i iv→RelV v u→t o i v H Q →
    wpAny (model X.prog X.w) X.A (setItem ov iv u) (fun _ s'=>∃ H',Inv X pins σ H' s'∧Q H') X.xe s
abbrev TIp:=V→V→Hp→VK→Prop
def PIp (X:Cx) (op:Operator) (t:TIp):Prop :=
  ∀ (pins:List (Addr × Obj)) (s:Shared) (σ:St) (H:Hp) (x y:V) (v u:Value) (Q:VK),Inv X pins σ H s→RelV x v→RelV y u→t x y H Q →
    wpAny (model X.prog X.w) X.A (inplaceOp op v u) (EP X pins σ Q) X.xe s
section
variable {X:Cx} {pos:Pos}
def gName (i:Nat):TG:=fun v σ H Q=>Q (σ.set i (some v)) H
theorem pg_name {i:Nat} {x:Str} (hN:X.N.Nodup) (hi:X.N[i]? = some x) (hx:Loc X.env.scope x) (hf:X.fn x = true∨X.env.scope.names.lookup x = some .local:=by first | exact .inl rfl | exact .inr rfl | assumption):PG X (.Name x pos) (gName i):=by
  intro pins s σ H v u Q I r h
  exact wpAny_assign_Name (store_ok I hN hi hx r (fun s' I'=>⟨_,H,I',h⟩) hf)
def gNil:TGs:=fun vs σ H Q=>vs = []∧Q σ H
def gCons (t:TG) (u:TGs):TGs:=fun vs σ H Q=>∃ v r,vs = v :: r∧t v σ H fun σ' H'=>u r σ' H' Q
theorem pgs_nil:PGs X [] gNil:=by
  intro pins s σ H vs us Q I r h
  obtain ⟨e,h⟩:=h
  subst e
  cases r
  exact assignInOrder_nil ⟨σ,H,I,h⟩
theorem pgs_cons {e:Expr} {es:List Expr} {t:TG} {u:TGs} (h1:PG X e t) (h2:PGs X es u)
    (hs:(assignEach (e :: es) X.env).map (·.2) = assign e X.env :: (assignEach es X.env).map (·.2):=by rfl):PGs X (e :: es) (gCons t u):=by
  intro pins s σ H vs us Q I r h
  obtain ⟨v,vr,e1,h⟩:=h
  subst e1
  cases r with
  | cons r rr =>
    rw [hs]
    refine assignInOrder_cons (thn (h1 pins s σ H _ _ _ I r h) fun _ s1 ⟨σ1,H1,I1,q1⟩=>?_)
    exact h2 pins s1 σ1 H1 _ _ Q I1 rr q1
def gTup (K:PySem.W.Frag) (n:Nat) (t:TGs):TG:=fun v σ H Q=>∃ a xs,v = .ref a∧SqT K H a xs∧xs.length = n∧t xs σ H Q
theorem pg_tup {es:List Expr} {k:Nat} {t:TGs} {n:Nat} (hc:X.calm = true) (h:PGs X es t)
    (hn:(assignEach es X.env).length = n:=by rfl) (hst:(assignEach es X.env).findIdx? (·.1) = none:=by rfl):PG X (.Tuple es k pos) (gTup X.K n t):=by
  intro pins s σ H v u Q I r hw
  obtain ⟨a,xs,e1,hq,hl,hw⟩:=hw
  subst e1
  cases r
  obtain ⟨its,rv,ht,hz⟩:=I.tuple hq
  refine assign_Tuple_tuple (I.ok.hd hc) ht (by simp [hn,← hl,rv.length]) hst fun h' hx=>?_
  have I1:Inv X pins σ H { s with heap:=h' }:=I.kept (t':=s.toks) fun b o e=>hx b o (Nat.ne_of_lt (Heap.lt_size e)) e
  exact h pins _ σ H xs _ Q I1 (by simpa using rv) hw
def gSub (to ti:TE) (t:TSet):TG:=fun v σ H Q=>to σ H fun o H1=>ti σ H1 fun i H2=>t o i v H2 fun H3=>Q σ H3
theorem pg_sub {o i:Expr} {to ti:TE} {t:TSet} (ho:PE X o to) (hi:PE X i ti) (hs:PSet X t)
    (ha:∀ v,assign (.Subscript o i pos) X.env v = (do
      let ov ← holding [v] (eval o X.env)
      let iv ← holding [v,ov] (eval i X.env)
      standAt pos
      holding [v,ov,iv] (setItem ov iv v)
      release [v,ov,iv] []):=by intro _; rfl):PG X (.Subscript o i pos) (gSub to ti t):=by
  intro pins s σ H v u Q I r h
  rw [ha]
  refine wpAny_bind (wpAny_holding (thn (ho pins s σ H _ I h) fun ov s1 ⟨x,H1,I1,r1,q1⟩=>?_))
  refine wpAny_bind (wpAny_holding (thn (hi pins s1 σ H1 _ I1 q1) fun iv s2 ⟨y,H2,I2,r2,q2⟩=>?_))
  refine wpAny_bind (wpAny_standAt (wpAny_bind (wpAny_holding (thn (hs pins s2 σ H2 x y v ov iv u _ I2 r1 r2 r q2) fun _ s3 ⟨H3,I3,q3⟩=>?_))))
  exact wpAny_release ⟨σ,H3,I3,q3⟩
def tAsg (te:TE) (g:TG):TS:=fun D σ H=>te σ H fun x H1=>g x σ H1 D.nx
theorem ps_asg {tg e:Expr} {te:TE} {g:TG} (he:PE X e te) (hg:PG X tg g) (hs:swapsWithSole [tg] e pos.line X.env = pure false:=by rfl) (hw:swappedStores [tg] e X.env = pure none:=by rfl)
    (h1:(assignEach [tg] X.env).map (·.2) = [assign tg X.env]:=by rfl):PS X (.Assign [tg] e pos) (tAsg te g):=by
  intro pins s σ H D I h
  refine wpAny_Assign_stores (thn (he pins s σ H _ I h) fun v s1 ⟨x,H1,I1,r1,q1⟩=>?_) hs hw
  rw [h1]
  exact thn (hg pins s1 σ H1 x v _ I1 r1 q1) fun _ s2 q=>q
theorem ps_set {i:Nat} {x:Str} {e:Expr} {te:TE} {pos' : Pos} (hN:X.N.Nodup) (hi:X.N[i]? = some x) (hx:Loc X.env.scope x) (he:PE X e te) (hs:swapsWith e (some (.Name x pos')) pos.line X.env = pure false:=by rfl) (hf:X.fn x = true∨X.env.scope.names.lookup x = some .local:=by first | exact .inl rfl | exact .inr rfl | assumption) :
    PS X (.Assign [.Name x pos'] e pos) (tAsg te (gName i)):=by
  intro pins s σ H D I h
  refine wpAny_Assign_Name (thn (he pins s σ H _ I h) fun v s1 ⟨y,H1,I1,r1,q1⟩=>?_) hs
  exact store_ok I1 hN hi hx r1 (fun s2 I2=>⟨_,H1,I2,q1⟩) hf
def tPar (i j:Nat) (ta:TA):TS:=fun D σ H=>ta σ H fun vs H1=>∃ v w,vs = [v,w]∧D.nx ((σ.set i (some v)).set j (some w)) H1
def tAug (i:Nat) (te:TE) (ti:TIp):TS:=fun D σ H=>∃ x,σ[i]? = some (some x)∧te σ H fun y H1=>ti x y H1 fun z H2=>D.nx (σ.set i (some z)) H2
theorem ps_aug {i:Nat} {x:Str} {e:Expr} {te:TE} {op:Operator} {ti:TIp} {pos' : Pos} (hN:X.N.Nodup) (hi:X.N[i]? = some x) (hx:Loc X.env.scope x) (he:PE X e te) (ho:PIp X op ti) (hf:X.fn x = true∨X.env.scope.names.lookup x = some .local:=by first | exact .inl rfl | exact .inr rfl | assumption) :
    PS X (.AugAssign (.Name x pos') op e pos) (tAug i te ti):=by
  intro pins s σ H D I h
  obtain ⟨v,e1,h⟩:=h
  obtain ⟨m,hn,hl⟩:=I.loc
  have vis:Vis X.env.scope x:=by rcases hx with k | k; exact .inl k; exact .inr (.inl k)
  obtain ⟨u,r,l⟩:=hl i x v hi e1 vis
  refine wpAny_AugAssign_Name ?_
  have go:wpAny (model X.prog X.w) X.A (eval e X.env) (fun w s₂=>wpAny (model X.prog X.w) X.A (inplaceOp op u w) (fun r s₃=>wpAny (model X.prog X.w) X.A (storeName X.env x r) (fun _=>SP X pins D .next) X.xe s₃) X.xe s₂) X.xe s:=by
    refine thn (he pins s σ H _ I h) fun w s1 ⟨y,H1,I1,r1,q1⟩=>?_
    refine thn (ho pins s1 σ H1 v y u w _ I1 r r1 q1) fun z s2 ⟨zv,H2,I2,r2,q2⟩=>?_
    exact store_ok I2 hN hi hx r2 (fun s3 I3=>⟨_,H2,I3,q2⟩) hf
  rcases l with ⟨hk,hm⟩ | ⟨hk,c,hc,hcell⟩
  · exact wpAny_loadName_local I.ok.kind hk hn hm go
  · rcases hk with hk | hk
    · exact wpAny_loadName_cell I.ok.kind hk hc hcell go
    · rcases hx with k | k
      · have:X.env.scope.names.lookup x = some .free:=hk
        rw [k] at this; cases this
      · have:X.env.scope.names.lookup x = some .free:=hk
        rw [k] at this; cases this
def tAugS (to ti te:TE) (tget:V→V→Hp→VK→Prop) (tip:TIp) (tset:TSet):TS:=fun D σ H=>to σ H fun o H1=>ti σ H1 fun i H2=>tget o i H2 fun x H3=>te σ H3 fun y H4=>tip x y H4 fun z H5=>tset o i z H5 fun H6=>D.nx σ H6
def PGet (X:Cx) (t:V→V→Hp→VK→Prop):Prop :=
  ∀ (pins:List (Addr × Obj)) (s:Shared) (σ:St) (H:Hp) (o i:V) (ov iv:Value) (Q:VK),Inv X pins σ H s→RelV o ov→RelV i iv→t o i H Q →
    wpAny (model X.prog X.w) X.A (getItem ov iv) (EP X pins σ Q) X.xe s
def ipI (f:Int→Int→Int):TIp:=fun x y H Q=>∃ i j,x = .int i∧y = .int j∧Q (.int (f i j)) H
theorem ip_add:PIp X .Add (ipI fun i j=>i + j):=by
  intro pins s σ H x y v u Q I r1 r2 h
  obtain ⟨i,j,e1,e2,q⟩:=h
  subst e1; subst e2
  obtain ⟨t,rfl⟩:=r1
  obtain ⟨t',rfl⟩:=r2
  exact iadd_int ⟨.int _,H,I.tok _,⟨_,rfl⟩,q⟩
end
section
variable {X:Cx} {pos:Pos}
def tWhile (c:TT) (tb:TS):TS:=fun D σ H=>∃ W:Nat→St→Hp→Prop,(∃ m,W m σ H)∧∀ m σ H,W m σ H →
  c σ H fun b H1=>if b = true then ∃ N:St→Hp→Prop,(∀ σ' H',N σ' H'→∃ m',m' < m∧W m' σ' H')∧tb { D with nx:=N,ct:=N,bk:=D.nx } σ H1 else D.nx σ H1
theorem ps_while {c:Expr} {body:List Stmt} {tc:TT} {tb:TS} (hp:PassesOwn (model X.prog X.w) X.A X.env X.xe) (hc:PT X c tc) (hb:PSs X body tb):PS X (.While c body [] pos) (tWhile tc tb):=by
  intro pins s σ H D I h
  obtain ⟨W,⟨m0,w0⟩,turn⟩:=h
  refine wpAny_While (codeAny_whileLoop (fun n s'=>∃ σ' H',Inv X pins σ' H' s'∧W n σ' H') ?_ m0 ⟨σ,H,I,w0⟩)
  rintro n s1 ⟨σ1,H1,I1,w1⟩
  refine wpAny_passesOwn hp (thn (hc pins s1 σ1 H1 _ I1 (turn n σ1 H1 w1)) fun b s2 ⟨H2,I2,q2⟩=>?_)
  cases b with
  | true =>
    obtain ⟨N,hN,q2⟩:=q2
    rw [if_pos rfl]
    refine wpAny_passesOwn hp (thn (hb pins s2 σ1 H2 _ I2 q2) fun f s3 q3=>?_)
    cases f with
    | next =>
      obtain ⟨σ3,H3,I3,n3⟩:=q3
      obtain ⟨m',hm,w3⟩:=hN σ3 H3 n3
      exact ⟨m',hm,σ3,H3,I3,w3⟩
    | cont =>
      obtain ⟨σ3,H3,I3,n3⟩:=q3
      obtain ⟨m',hm,w3⟩:=hN σ3 H3 n3
      exact ⟨m',hm,σ3,H3,I3,w3⟩
    | brk=>exact q3
    | ret v=>exact q3
  | false =>
    rw [if_neg Bool.false_ne_true]
    exact wpAny_execs_nil ⟨σ1,H2,I2,q2⟩
end
structure It where
  go:Nat→Hp→Prop
  yld:Nat→Hp→V→Hp→Prop
  stop:Nat→Hp→Prop
def FpOk (X:Cx) (pins:List (Addr × Obj)) (H:Hp) (b:Addr):Prop :=
  H b = none∧b ≠ X.env.locals∧b ∉ X.fs∧(b ∈ X.ex∨X.s₀.heap.objs.size ≤ b)∧(∀ x c,X.env.cells.lookup x = some c→c ≠ b)∧∀ p ∈ X.pn ++ pins,p.1 ≠ b
theorem Inv.fpOk {X:Cx} {pins:List (Addr × Obj)} {σ:St} {H H' : Hp} {s:Shared} {b:Addr} (I:Inv X pins σ H s) (hb:s.heap.objs.size ≤ b) (hn:H' b = none):FpOk X pins H' b:=by
  refine ⟨hn,Nat.ne_of_gt (Nat.lt_of_lt_of_le I.lt hb),I.nofs hb,.inr (Nat.le_trans I.sz hb),fun x c e z=>?_,fun p hp z=>?_⟩
  · obtain ⟨v,q⟩:=I.cell x c e
    exact absurd (Nat.lt_of_lt_of_le q.lt (by rw [z]; exact hb)) (Nat.lt_irrefl _)
  · exact absurd (Nat.lt_of_lt_of_le (Heap.lt_size (I.pin p hp).1) (by rw [z]; exact hb)) (Nat.lt_irrefl _)
structure Turn (P:Program) (w:World) (K:PySem.W.Frag) (tg:Expr) (J:It) (fp:List Addr) (it:Addr) (tn:Nat→Heap→Prop):Prop where
  mem:it ∈ fp
  obj:∀ i h,tn i h→∀ b ∈ fp,∃ o,h.get? b = some o∧∀ v,o.data ≠ .cell v
  keep:∀ i h h',tn i h→(∀ b ∈ fp,∀ o,h.get? b = some o→h'.get? b = some o)→tn i h'
  item:∀ (X:Cx),X.prog = P→X.w = w→X.K = K→X.calm = true→∀ (i:Nat) (pins:List (Addr × Obj)) (s:Shared) (σ:St) (H:Hp) (E:Value→Shared→Prop),Inv X pins σ H s→(∀ b ∈ fp,FpOk X pins H b)→tn i s.heap→J.go i H →
    wpAny (model P w) X.A (pyNext (.ref it)) (fun r s1=>∃ u,r = some u ∧
      wpAny (model P w) X.A (letOwnedTupleGo tg (.ref it) u) (fun _ s2=>∃ x H',Inv X pins σ H' s2∧RelV x u∧J.yld i H x H'∧tn (i + 1) s2.heap∧∀ b ∈ fp,H' b = none) E s1) E s
  done:∀ (X:Cx),X.prog = P→X.w = w→X.K = K→X.calm = true→∀ (i:Nat) (pins:List (Addr × Obj)) (s:Shared) (σ:St) (H:Hp) (E:Value→Shared→Prop),Inv X pins σ H s→(∀ b ∈ fp,FpOk X pins H b)→tn i s.heap→J.stop i H →
    wpAny (model P w) X.A (pyNext (.ref it)) (fun r s1=>r = none∧Inv X pins σ H s1) E s
  self:∀ (A:Around) (i:Nat) (s:Shared) (Q:Value→Shared→Prop) (E:Value→Shared→Prop),tn i s.heap→Q (.ref it) s→wpAny (model P w) A (pyIter (.ref it)) Q E s
abbrev TI:=St→Hp→(It→Hp→Prop)→Prop
def PIE (X:Cx) (pins:List (Addr × Obj)) (σ:St) (tg:Expr) (R:It→Hp→Prop) (itv:Value) (s2:Shared):Prop :=
  ∃ (it:Addr) (fp:List Addr) (tn:Nat→Heap→Prop) (J:It) (H' : Hp),itv = .ref it∧Inv X pins σ H' s2∧Turn X.prog X.w X.K tg J fp it tn∧tn 0 s2.heap∧(∀ b ∈ fp,FpOk X pins H' b)∧R J H'
def PI (X:Cx) (tg iter:Expr) (wi:TI):Prop :=
  ∀ (pins:List (Addr × Obj)) (s:Shared) (σ:St) (H:Hp) (R:It→Hp→Prop),Inv X pins σ H s→wi σ H R →
    wpAny (model X.prog X.w) X.A (eval iter X.env) (fun v s1=>wpAny (model X.prog X.w) X.A (pyIter v) (PIE X pins σ tg R) X.xe s1) X.xe s
theorem go_of {M:Model} {A:Around} {E:Value→Shared→Prop} {s:Shared} {tg:Expr} {it:Addr} {u:Value} {o:Obj} {n:String} {vs:Array Value} {Q:Unit→Shared→Prop} (ho:s.heap.get? it = some o) (hc:o.cls = .type n) (hd:o.data = .fields vs)
    (hn:["enumerate", "zip", "dict_itemiterator", "dict_reverseitemiterator", "odict_iterator", "itertools.zip_longest", "itertools.pairwise"].contains n = false) (hQ:Q () s):wpAny M A (letOwnedTupleGo tg (.ref it) u) Q E s:=by
  unfold letOwnedTupleGo
  cases tg <;> first
    | exact wpAny_pure hQ
    | (cases u <;> first
        | exact wpAny_pure hQ
        | (refine wpAny_bind (wpAny_load ho ?_)
           rw [hc,hd]
           show wpAny M A (if (["enumerate", "zip", "dict_itemiterator", "dict_reverseitemiterator", "odict_iterator", "itertools.zip_longest", "itertools.pairwise"].contains n && vs[0]? == some (rawInt _)) = true then _ else _) Q E s
           rw [if_neg (by intro h; rw [hn,Bool.false_and] at h; cases h)]
           exact wpAny_pure hQ))
def Itl (K:PySem.W.Frag) (a:Addr):It :=
  ⟨fun i H=>∃ xs x,SqL K H a xs∧xs[i]? = some x,fun i H x H'=>H' = H∧∀ xs,SqL K H a xs→xs[i]? = some x,fun i H=>∃ xs,SqL K H a xs∧xs.length ≤ i⟩
def Itt (K:PySem.W.Frag) (a:Addr):It :=
  ⟨fun i H=>∃ xs x,SqT K H a xs∧xs[i]? = some x,fun i H x H'=>H' = H∧∀ xs,SqT K H a xs→xs[i]? = some x,fun i H=>∃ xs,SqT K H a xs∧xs.length ≤ i⟩
def Itr (lo:Int) (n:Nat):It:=⟨fun i _=>i < n,fun i H x H'=>H' = H∧x = .int (lo + i),fun i _=>n ≤ i⟩
theorem turn_list {P:Program} {w:World} {K:PySem.W.Frag} {tg:Expr} (a it:Addr):Turn P w K tg (Itl K a) [it] it (fun i h=>h.IsListIter it a i) where
  mem:=by simp
  obj:=fun i h st b hb=>by
    have e:b = it:=by simpa using hb
    subst e
    obtain ⟨o,e,c,d⟩:=st
    exact ⟨o,e,fun v z=>by rw [d] at z; cases z⟩
  keep:=fun i h h' st k=>st.at fun o e=>k it (by simp) o e
  item:=by
    intro X hP hw hK hc i pins s σ H E I hf st hg
    subst hP hw hK
    obtain ⟨xs,x,hq,hx⟩:=hg
    obtain ⟨its,rv,p,hz⟩:=I.list hq
    obtain ⟨u,hu,ru⟩:=rv.get hx
    obtain ⟨f0,f1,f2,f3,f4,f5⟩:=hf it (by simp)
    refine wpAny_pyNext_list_item st p.isList (x:=u) (by simpa using hu) fun h' st' sb=>?_
    have I1:Inv X pins σ H { s with heap:=h' }:=I.turned (t':=s.toks) (fun b o hb e=>(sb.2 b hb).trans e) f0 f1 f3 f4 f5
    obtain ⟨o,e,c,d⟩:=id st'
    exact ⟨u,rfl,go_of (s:={ s with heap:=h' }) e c d (by decide) ⟨x,H,I1,ru,⟨rfl,fun ys hy=>by rw [I.list_inj hy hq]; exact hx⟩,st',fun b hb=>(hf b hb).1⟩⟩
  done:=by
    intro X hP hw hK hc i pins s σ H E I hf st hg
    subst hP hw hK
    obtain ⟨xs,hq,hx⟩:=hg
    obtain ⟨its,rv,p,hz⟩:=I.list hq
    obtain ⟨f0,f1,f2,f3,f4,f5⟩:=hf it (by simp)
    have hl:=rv.length
    exact wpAny_pyNext_list_end (I.ok.hd hc) st p.isList (by simp; omega) fun h' eb=>⟨rfl,I.turned (t':=s.toks) (fun b o hb e=>eb b o hb e) f0 f1 f3 f4 f5⟩
  self:=fun _ _ _ _ _ st h=>wpAny_pyIter_listiter st h
theorem turn_tuple {P:Program} {w:World} {K:PySem.W.Frag} {tg:Expr} (a it:Addr):Turn P w K tg (Itt K a) [it] it (fun i h=>h.IsTupleIter it a i) where
  mem:=by simp
  obj:=fun i h st b hb=>by
    have e:b = it:=by simpa using hb
    subst e
    obtain ⟨o,e,c,d⟩:=st
    exact ⟨o,e,fun v z=>by rw [d] at z; cases z⟩
  keep:=fun i h h' st k=>st.at fun o e=>k it (by simp) o e
  item:=by
    intro X hP hw hK hc i pins s σ H E I hf st hg
    subst hP hw hK
    obtain ⟨xs,x,hq,hx⟩:=hg
    obtain ⟨its,rv,p,hz⟩:=I.tuple hq
    obtain ⟨u,hu,ru⟩:=rv.get hx
    obtain ⟨f0,f1,f2,f3,f4,f5⟩:=hf it (by simp)
    refine wpAny_pyNext_tuple_item st (show s.heap.IsTuple a its.toArray from p) (x:=u) (by simpa using hu) fun h' st' sb=>?_
    have I1:Inv X pins σ H { s with heap:=h' }:=I.turned (t':=s.toks) (fun b o hb e=>(sb.2 b hb).trans e) f0 f1 f3 f4 f5
    obtain ⟨o,e,c,d⟩:=id st'
    exact ⟨u,rfl,go_of (s:={ s with heap:=h' }) e c d (by decide) ⟨x,H,I1,ru,⟨rfl,fun ys hy=>by rw [I.tuple_inj hy hq]; exact hx⟩,st',fun b hb=>(hf b hb).1⟩⟩
  done:=by
    intro X hP hw hK hc i pins s σ H E I hf st hg
    subst hP hw hK
    obtain ⟨xs,hq,hx⟩:=hg
    obtain ⟨its,rv,p,hz⟩:=I.tuple hq
    obtain ⟨f0,f1,f2,f3,f4,f5⟩:=hf it (by simp)
    have hl:=rv.length
    exact wpAny_pyNext_tuple_end (I.ok.hd hc) st (show s.heap.IsTuple a its.toArray from p) (by simp; omega) fun h' eb=>⟨rfl,I.turned (t':=s.toks) (fun b o hb e=>eb b o hb e) f0 f1 f3 f4 f5⟩
  self:=fun _ _ _ _ _ st h=>wpAny_pyIter_tupleiter st h
theorem turn_range {P:Program} {w:World} {K:PySem.W.Frag} {tg:Expr} (it:Addr) (lo:Int) (n:Nat):Turn P w K tg (Itr lo n) [it] it (fun i h=>IsRangeIter h it (lo + (i:Nat) * 1) ((n:Int) - (i:Nat)) 1) where
  mem:=by simp
  obj:=fun i h st b hb=>by
    have e:b = it:=by simpa using hb
    subst e
    exact ⟨_,st,fun v z=>by
      have z' : Data.fields _ = Data.cell v:=z
      cases z'⟩
  keep:=fun i h h' st k=>k it (by simp) _ st
  item:=by
    intro X hP hw hK hc i pins s σ H E I hf st hg
    subst hP hw hK
    obtain ⟨f0,f1,f2,f3,f4,f5⟩:=hf it (by simp)
    have W:=Walks.range (prog:=X.prog) (w:=X.w) (I.ok.hd hc) it lo 1 n
    refine W.item i s _ _ hg st fun v h' tk hv st' kk=>?_
    obtain ⟨t,rfl⟩:=hv
    have I1:Inv X pins σ H { s with heap:=h',toks:=tk }:=I.turned (fun b o hb e=>kk b o (by simpa using hb) e) f0 f1 f3 f4 f5
    refine ⟨_,rfl,go_of (s:={ s with heap:=h',toks:=tk }) (n := "range_iterator") st' rfl rfl (by decide) ⟨.int (lo + i),H,I1,⟨t,?_⟩,⟨rfl,rfl⟩,st',fun b hb=>(hf b hb).1⟩⟩
    rw [Int.mul_one]
  done:=by
    intro X hP hw hK hc i pins s σ H E I hf st hg
    subst hP hw hK
    obtain ⟨f0,f1,f2,f3,f4,f5⟩:=hf it (by simp)
    exact wpAny_pyNext_range_end (I.ok.hd hc) st (by have:n ≤ i:=hg; omega) fun h' eb=>⟨rfl,I.turned (t':=s.toks) (fun b o hb e=>eb b o hb e) f0 f1 f3 f4 f5⟩
  self:=fun _ _ _ _ _ st h=>wpAny_pyIter_rangeiter st h
end L2
namespace L2
open PySem PySem.Spec PyProof.Rows
section
variable {X:Cx} {tg:Expr}
def iList (K:PySem.W.Frag) (tl:TE):TI:=fun σ H R=>tl σ H fun x H1=>∃ a,x = .ref a∧(∃ xs,SqL K H1 a xs)∧R (Itl K a) H1
def iTup (K:PySem.W.Frag) (tl:TE):TI:=fun σ H R=>tl σ H fun x H1=>∃ a,x = .ref a∧(∃ xs,SqT K H1 a xs)∧R (Itt K a) H1
theorem pi_list {l:Expr} {tl:TE} (hl:PE X l tl):PI X tg l (iList X.K tl):=by
  intro pins s σ H R I h
  refine thn (hl pins s σ H _ I h) fun v s1 ⟨x,H1,I1,r1,q1⟩=>?_
  obtain ⟨a,e,⟨xs,hq⟩,q⟩:=q1
  subst e
  cases r1
  obtain ⟨its,rv,p,hz⟩:=I1.list hq
  refine wpAny_pyIter_list p.isList ?_
  refine ⟨s1.heap.objs.size,[s1.heap.objs.size],_,_,H1,rfl,I1.kept (t':=s1.toks) fun b o e=>Heap.get?_push_of_some _ e,turn_list a _,⟨_,Heap.get?_push_size _ rfl,rfl,rfl⟩,fun b hb=>?_,q⟩
  have e:b = s1.heap.objs.size:=by simpa using hb
  subst e
  exact I1.fpOk (Nat.le_refl _) (I1.hok.fresh (Nat.le_refl _))
theorem pi_tup {l:Expr} {tl:TE} (hl:PE X l tl):PI X tg l (iTup X.K tl):=by
  intro pins s σ H R I h
  refine thn (hl pins s σ H _ I h) fun v s1 ⟨x,H1,I1,r1,q1⟩=>?_
  obtain ⟨a,e,⟨xs,hq⟩,q⟩:=q1
  subst e
  cases r1
  obtain ⟨its,rv,p,hz⟩:=I1.tuple hq
  refine wpAny_pyIter_tuple (show s1.heap.IsTuple a its.toArray from p) ?_
  refine ⟨s1.heap.objs.size,[s1.heap.objs.size],_,_,H1,rfl,I1.kept (t':=s1.toks) fun b o e=>Heap.get?_push_of_some _ e,turn_tuple a _,⟨_,Heap.get?_push_size _ rfl,rfl,rfl⟩,fun b hb=>?_,q⟩
  have e:b = s1.heap.objs.size:=by simpa using hb
  subst e
  exact I1.fpOk (Nat.le_refl _) (I1.hok.fresh (Nat.le_refl _))
theorem range_it {pins:List (Addr × Obj)} {σ:St} {H:Hp} {s:Shared} {R:It→Hp→Prop} {E:Value→Shared→Prop} {lo hi:Int} {t u v:Tok} {tk:Nat} (I:Inv X pins σ H s) (h1 : -(2 ^ 62) ≤ lo) (h2:lo < 2 ^ 62) (h3 : -(2 ^ 62) ≤ hi) (h4:hi < 2 ^ 62)
    (q:R (Itr lo (hi - lo).toNat) H):wpAny (model X.prog X.w) X.A (pyIter (.ref s.heap.objs.size)) (PIE X pins σ tg R) E { s with heap:=s.heap.push { cls:=.type "range",data:=.fields #[.int lo t,.int hi u,.int 1 v] },toks:=tk }:=by
  refine wpAny_pyIter_range (IsRange.new ..) (small_one h1 h2 h3 h4) ?_
  have I1:Inv X pins σ H { s with heap:=s.heap.push { cls:=.type "range",data:=.fields #[.int lo t,.int hi u,.int 1 v] },toks:=tk }:=I.kept fun b o e=>Heap.get?_push_of_some _ e
  refine ⟨(s.heap.push { cls:=.type "range",data:=.fields #[.int lo t,.int hi u,.int 1 v] }).objs.size,[(s.heap.push { cls:=.type "range",data:=.fields #[.int lo t,.int hi u,.int 1 v] }).objs.size],_,_,H,rfl,
    I1.kept (t':=tk) fun b o e=>Heap.get?_push_of_some _ e,turn_range _ lo (hi - lo).toNat,?_,fun b hb=>?_,q⟩
  · have e1:lo + ((0:Nat):Int) * 1 = lo:=by simp
    have e2:(((hi - lo).toNat:Nat):Int) - ((0:Nat):Int) = Builtin.Range.rangeSize lo hi 1:=by rw [rangeSize_one]; split <;> omega
    show IsRangeIter _ _ (lo + ((0:Nat):Int) * 1) ((((hi - lo).toNat:Nat):Int) - ((0:Nat):Int)) 1
    rw [e1,e2]
    exact Heap.get?_push_size _ rfl
  · have e:b = (s.heap.push { cls:=.type "range",data:=.fields #[.int lo t,.int hi u,.int 1 v] }).objs.size:=by simpa using hb
    subst e
    exact I1.fpOk (Nat.le_refl _) (I1.hok.fresh (Nat.le_refl _))
def iRng1 (ta:TA):TI:=fun σ H R=>ta σ H fun vs H1=>∃ j:Int,vs = [.int j]∧-(2 ^ 62) ≤ j∧j < 2 ^ 62∧R (Itr 0 j.toNat) H1
def iRng2 (ta:TA):TI:=fun σ H R=>ta σ H fun vs H1=>∃ i j:Int,vs = [.int i,.int j]∧(-(2 ^ 62) ≤ i∧i < 2 ^ 62∧-(2 ^ 62) ≤ j∧j < 2 ^ 62)∧R (Itr i (j - i).toNat) H1
theorem pi_range1 {a:Expr} {ta:TA} {p pos:Pos} (hg:Gl X "range") (hm:X.mg "range" = none) (ha:PA X [a] ta) (hs:starEach [a] X.env = [(false,eval a X.env)]:=by rfl):PI X tg (.Call (.Name "range" p) [a] [] pos) (iRng1 ta):=by
  intro pins s σ H R I h
  refine Call_ (ld_blt I hg hm boot_range (PyProof.Rows.callWith_type1 (thn (ha pos pins s σ H _ I h) fun us s1 ⟨vs,H1,I1,r1,q1⟩=>?_) hs rfl))
  obtain ⟨j,e,q1,q2,q⟩:=q1
  subst e
  cases r1 with
  | cons r rr =>
    cases rr
    obtain ⟨t,rfl⟩:=r
    exact call_range_1 (range_it I1 (by omega) (by omega) q1 q2 (by simpa using q))
theorem pi_range2 {a b:Expr} {ta:TA} {p pos:Pos} (hg:Gl X "range") (hm:X.mg "range" = none) (ha:PA X [a,b] ta) (hs:starEach [a,b] X.env = [(false,eval a X.env),(false,eval b X.env)]:=by rfl) (hs2:starEach [b] X.env = [(false,eval b X.env)]:=by rfl) :
    PI X tg (.Call (.Name "range" p) [a,b] [] pos) (iRng2 ta):=by
  intro pins s σ H R I h
  refine Call_ (ld_blt I hg hm boot_range (PyProof.Rows.callWith_type1 (thn (ha pos pins s σ H _ I h) fun us s1 ⟨vs,H1,I1,r1,q1⟩=>?_) (by rw [hs,hs2]) (by rw [hs2]; rfl)))
  obtain ⟨i,j,e,⟨q1,q2,q3,q4⟩,q⟩:=q1
  subst e
  cases r1 with
  | cons r rr =>
    cases rr with
    | cons r' rr =>
      cases rr
      obtain ⟨t,rfl⟩:=r
      obtain ⟨t',rfl⟩:=r'
      exact call_range_2 (range_it I1 q1 q2 q3 q4 q)
def tFor (wi:TI) (g:TG) (tb:TS):TS:=fun D σ H=>wi σ H fun J H1=>∃ W:Nat→Nat→St→Hp→Prop,(∃ m,W 0 m σ H1)∧∀ i m σ H,W i m σ H →
  (J.stop i H∧D.nx σ H)∨(J.go i H∧∃ N:St→Hp→Prop,(∀ σ' H',N σ' H'→∃ m',m' < m∧W (i + 1) m' σ' H')∧∀ x H',J.yld i H x H'→g x σ H' fun σ2 H2=>tb { D with nx:=N,ct:=N,bk:=D.nx } σ2 H2)
def pinsAt (fp:List Addr) (h:Heap):List (Addr × Obj):=fp.filterMap fun b=>(h.get? b).map fun o=>(b,o)
theorem mem_pinsAt {fp:List Addr} {h:Heap} {b:Addr} {o:Obj} (hb:b ∈ fp) (e:h.get? b = some o):(b,o) ∈ pinsAt fp h:=List.mem_filterMap.mpr ⟨b,hb,by rw [e]; rfl⟩
theorem of_pinsAt {fp:List Addr} {h:Heap} {p:Addr × Obj} (hp:p ∈ pinsAt fp h):p.1 ∈ fp∧h.get? p.1 = some p.2:=by
  obtain ⟨b,hb,e⟩:=List.mem_filterMap.mp hp
  cases q:h.get? b with
  | none=>rw [q] at e; cases e
  | some o =>
    rw [q] at e
    have e' : (b,o) = p:=Option.some.inj e
    subst e'
    exact ⟨hb,q⟩
theorem Inv.pinned {pins:List (Addr × Obj)} {σ:St} {H:Hp} {s:Shared} {fp:List Addr} (I:Inv X pins σ H s) (hf:∀ b ∈ fp,FpOk X pins H b) (ho:∀ b ∈ fp,∃ o,s.heap.get? b = some o∧∀ v,o.data ≠ .cell v):Inv X (pins ++ pinsAt fp s.heap) σ H s :=
  I.pins_of fun p hp=>(List.mem_append.mp hp).elim (fun z=>I.pin p (List.mem_append_right _ z)) fun z=>by
    obtain ⟨hb,e⟩:=of_pinsAt z
    obtain ⟨f0,f1,f2,_⟩:=hf p.1 hb
    obtain ⟨o,e',d⟩:=ho p.1 hb
    rw [e] at e'; cases e'
    exact ⟨e,f0,f1,f2,d⟩
theorem Inv.unpinned {pins pl:List (Addr × Obj)} {σ:St} {H:Hp} {s:Shared} (I:Inv X (pins ++ pl) σ H s):Inv X pins σ H s:=I.pins_of fun p hp=>I.pin p (List.mem_append_right _ (List.mem_append_left _ hp))
theorem ps_for {iter:Expr} {body:List Stmt} {wi:TI} {g:TG} {tb:TS} {pos:Pos} (hp:PassesOwn (model X.prog X.w) X.A X.env X.xe) (hc:X.calm = true) (hi:PI X tg iter wi) (hg:PG X tg g) (hb:PSs X body tb)
    (hs:∀ x,foldedSetIterable iter X.env x = pure x:=by intro _; rfl):PS X (.For tg iter body [] pos) (tFor wi g tb):=by
  intro pins s σ H D I h
  refine wpAny_For (thn (hi pins s σ H _ I h) fun v s1 h1=>thn h1 fun itv s2 h2=>?_) hs
  obtain ⟨it,fp,tn,J,H2,e,I2,T,st2,f2,W,⟨m0,w0⟩,turn⟩:=h2
  subst e
  have stat:∀ {H' : Hp},(∀ b ∈ fp,H' b = none)→∀ b ∈ fp,FpOk X pins H' b:=fun hn b hb=>⟨hn b hb,(f2 b hb).2⟩
  refine codeAny_forLoop_any (fun n s'=>∃ i σ' H',Inv X pins σ' H' s'∧tn i s'.heap∧(∀ b ∈ fp,H' b = none)∧W i n σ' H') ?_ m0 ⟨0,σ,H2,I2,st2,fun b hb=>(f2 b hb).1,w0⟩
  rintro n s3 ⟨i,σ3,H3,I3,st3,fr3,w3⟩
  rcases turn i n σ3 H3 w3 with ⟨stop,qn⟩ | ⟨go,N,hN,step⟩
  · refine wpAny_passesOwn hp (thn (T.done X rfl rfl rfl hc i pins s3 σ3 H3 X.xe I3 (stat fr3) st3 stop) fun r s4 ⟨hr,I4⟩=>?_)
    subst hr
    exact wpAny_execs_nil ⟨σ3,H3,I4,qn⟩
  · refine wpAny_passesOwn hp (thn (T.item X rfl rfl rfl hc i pins s3 σ3 H3 X.xe I3 (stat fr3) st3 go) fun r s4 ⟨u,hr,h4⟩=>?_)
    subst hr
    refine wpAny_passesOwn hp (thn h4 fun _ s5 ⟨x,H5,I5,r5,y5,st5,fr5⟩=>?_)
    have I5':=I5.pinned (stat fr5) (T.obj _ _ st5)
    refine wpAny_passesOwn hp (thn (hg _ s5 σ3 H5 x u _ I5' r5 (step x H5 y5)) fun _ s6 ⟨σ6,H6,I6,q6⟩=>?_)
    refine wpAny_passesOwn hp (thn (hb _ s6 σ6 H6 _ I6 q6) fun f s7 q7=>?_)
    have again:∀ {σ7:St} {H7:Hp},Inv X (pins ++ pinsAt fp s5.heap) σ7 H7 s7→N σ7 H7→∃ m,m < n∧∃ i σ' H',Inv X pins σ' H' s7∧tn i s7.heap∧(∀ b ∈ fp,H' b = none)∧W i m σ' H':=fun {σ7 H7} I7 n7=>by
      obtain ⟨m',hm,w7⟩:=hN σ7 H7 n7
      refine ⟨m',hm,i + 1,σ7,H7,I7.unpinned,T.keep _ _ _ st5 fun b hb o e=>(I7.pin (b,o) (List.mem_append_right _ (List.mem_append_right _ (mem_pinsAt hb e)))).1,fun b hb=>?_,w7⟩
      obtain ⟨o,e,d⟩:=T.obj _ _ st5 b hb
      exact (I7.pin (b,o) (List.mem_append_right _ (List.mem_append_right _ (mem_pinsAt hb e)))).2.1
    cases f with
    | next=>obtain ⟨σ7,H7,I7,n7⟩:=q7; exact again I7 n7
    | cont=>obtain ⟨σ7,H7,I7,n7⟩:=q7; exact again I7 n7
    | brk=>obtain ⟨σ7,H7,I7,q7⟩:=q7; exact ⟨σ7,H7,I7.unpinned,q7⟩
    | ret v=>obtain ⟨x7,σ7,H7,I7,r7,q7⟩:=q7; exact ⟨x7,σ7,H7,I7.unpinned,r7,q7⟩
end
theorem for_list {K:PySem.W.Frag} {a:Addr} {xs:List V} {g:TG} {tb:TS} {D:Ends} {σ:St} {H:Hp} (Pv:Nat→St→Hp→Prop) (h0:Pv 0 σ H) (hl:∀ i σ H,i ≤ xs.length→Pv i σ H→SqL K H a xs)
    (hs:∀ i x σ H,xs[i]? = some x→Pv i σ H→g x σ H fun σ2 H2=>tb { D with nx:=Pv (i + 1),ct:=Pv (i + 1),bk:=D.nx } σ2 H2) (hd:∀ σ H,Pv xs.length σ H→D.nx σ H) :
    ∃ W:Nat→Nat→St→Hp→Prop,(∃ m,W 0 m σ H)∧∀ i m σ H,W i m σ H →
      ((Itl K a).stop i H∧D.nx σ H)∨((Itl K a).go i H∧∃ N:St→Hp→Prop,(∀ σ' H',N σ' H'→∃ m',m' < m∧W (i + 1) m' σ' H')∧∀ x H',(Itl K a).yld i H x H'→g x σ H' fun σ2 H2=>tb { D with nx:=N,ct:=N,bk:=D.nx } σ2 H2):=by
  refine ⟨fun i m σ H=>m = xs.length - i∧i ≤ xs.length∧Pv i σ H,⟨xs.length,by simp,Nat.zero_le _,h0⟩,?_⟩
  rintro i m σ H ⟨rfl,hi,p⟩
  have q:=hl i σ H hi p
  by_cases hlt:i < xs.length
  · refine .inr ⟨⟨xs,xs[i],q,by simp [hlt]⟩,Pv (i + 1),fun σ' H' p'=>⟨xs.length - (i + 1),by omega,rfl,hlt,p'⟩,fun x H' y=>?_⟩
    obtain ⟨e,y⟩:=y
    subst e
    exact hs i x σ _ (y xs q) p
  · have e:i = xs.length:=by omega
    subst e
    exact .inl ⟨⟨xs,q,Nat.le_refl _⟩,hd σ H p⟩
theorem for_tup {K:PySem.W.Frag} {a:Addr} {xs:List V} {g:TG} {tb:TS} {D:Ends} {σ:St} {H:Hp} (Pv:Nat→St→Hp→Prop) (h0:Pv 0 σ H) (hl:∀ i σ H,i ≤ xs.length→Pv i σ H→SqT K H a xs)
    (hs:∀ i x σ H,xs[i]? = some x→Pv i σ H→g x σ H fun σ2 H2=>tb { D with nx:=Pv (i + 1),ct:=Pv (i + 1),bk:=D.nx } σ2 H2) (hd:∀ σ H,Pv xs.length σ H→D.nx σ H) :
    ∃ W:Nat→Nat→St→Hp→Prop,(∃ m,W 0 m σ H)∧∀ i m σ H,W i m σ H →
      ((Itt K a).stop i H∧D.nx σ H)∨((Itt K a).go i H∧∃ N:St→Hp→Prop,(∀ σ' H',N σ' H'→∃ m',m' < m∧W (i + 1) m' σ' H')∧∀ x H',(Itt K a).yld i H x H'→g x σ H' fun σ2 H2=>tb { D with nx:=N,ct:=N,bk:=D.nx } σ2 H2):=by
  refine ⟨fun i m σ H=>m = xs.length - i∧i ≤ xs.length∧Pv i σ H,⟨xs.length,by simp,Nat.zero_le _,h0⟩,?_⟩
  rintro i m σ H ⟨rfl,hi,p⟩
  have q:=hl i σ H hi p
  by_cases hlt:i < xs.length
  · refine .inr ⟨⟨xs,xs[i],q,by simp [hlt]⟩,Pv (i + 1),fun σ' H' p'=>⟨xs.length - (i + 1),by omega,rfl,hlt,p'⟩,fun x H' y=>?_⟩
    obtain ⟨e,y⟩:=y
    subst e
    exact hs i x σ _ (y xs q) p
  · have e:i = xs.length:=by omega
    subst e
    exact .inl ⟨⟨xs,q,Nat.le_refl _⟩,hd σ H p⟩
theorem for_range {lo:Int} {n:Nat} {g:TG} {tb:TS} {D:Ends} {σ:St} {H:Hp} (Pv:Nat→St→Hp→Prop) (h0:Pv 0 σ H)
    (hs:∀ i σ H,i < n→Pv i σ H→g (.int (lo + i)) σ H fun σ2 H2=>tb { D with nx:=Pv (i + 1),ct:=Pv (i + 1),bk:=D.nx } σ2 H2) (hd:∀ σ H,Pv n σ H→D.nx σ H) :
    ∃ W:Nat→Nat→St→Hp→Prop,(∃ m,W 0 m σ H)∧∀ i m σ H,W i m σ H →
      ((Itr lo n).stop i H∧D.nx σ H)∨((Itr lo n).go i H∧∃ N:St→Hp→Prop,(∀ σ' H',N σ' H'→∃ m',m' < m∧W (i + 1) m' σ' H')∧∀ x H',(Itr lo n).yld i H x H'→g x σ H' fun σ2 H2=>tb { D with nx:=N,ct:=N,bk:=D.nx } σ2 H2):=by
  refine ⟨fun i m σ H=>m = n - i∧i ≤ n∧Pv i σ H,⟨n,by simp,Nat.zero_le _,h0⟩,?_⟩
  rintro i m σ H ⟨rfl,hi,p⟩
  by_cases hlt:i < n
  · refine .inr ⟨hlt,Pv (i + 1),fun σ' H' p'=>⟨n - (i + 1),by omega,rfl,hlt,p'⟩,fun x H' y=>?_⟩
    obtain ⟨e,y⟩:=y
    subst e y
    exact hs i σ _ hlt p
  · have e:i = n:=by omega
    subst e
    exact .inl ⟨Nat.le_refl _,hd σ H p⟩
end L2
namespace L2
open PySem PySem.Spec PyProof.Rows
abbrev R2:=V→V→Hp→VK→Prop
def OpR (X:Cx) (f:Value→Value→Sem Value) (r:R2):Prop :=
  ∀ (pins:List (Addr × Obj)) (s:Shared) (σ:St) (H:Hp) (x y:V) (v u:Value) (Q:VK),Inv X pins σ H s→RelV x v→RelV y u→r x y H Q →
    wpAny (model X.prog X.w) X.A (f v u) (EP X pins σ Q) X.xe s
def UnR (X:Cx) (f:Value→Sem Value) (r:V→Hp→VK→Prop):Prop :=
  ∀ (pins:List (Addr × Obj)) (s:Shared) (σ:St) (H:Hp) (x:V) (v:Value) (Q:VK),Inv X pins σ H s→RelV x v→r x H Q →
    wpAny (model X.prog X.w) X.A (f v) (EP X pins σ Q) X.xe s
def CallR (X:Cx) (f:Value) (r:List V→Hp→VK→Prop):Prop :=
  ∀ (pins:List (Addr × Obj)) (s:Shared) (σ:St) (H:Hp) (xs:List V) (us:List Value) (Q:VK),Inv X pins σ H s→Vals xs us→r xs H Q →
    wpAny (model X.prog X.w) X.A (call f us) (EP X pins σ Q) X.xe s
def TruR (X:Cx) (r:V→Hp→(Bool→Hp→Prop)→Prop):Prop :=
  ∀ (pins:List (Addr × Obj)) (s:Shared) (σ:St) (H:Hp) (x:V) (v:Value) (Q:Bool→Hp→Prop),Inv X pins σ H s→RelV x v→r x H Q →
    wpAny (model X.prog X.w) X.A (truthy v) (TP X pins σ Q) X.xe s
def tOp (r:R2) (ta tb:TE):TE:=fun σ H Q=>ta σ H fun x H1=>tb σ H1 fun y H2=>r x y H2 Q
def tUn (r:V→Hp→VK→Prop) (ta:TE):TE:=fun σ H Q=>ta σ H fun x H1=>r x H1 Q
def rI (C:Int→Int→Prop) (g:Int→Int→V):R2:=fun x y H Q=>∃ i j,x = .int i∧y = .int j∧C i j∧Q (g i j) H
def rI0 (g:Int→Int→V):R2:=fun x y H Q=>∃ i j,x = .int i∧y = .int j∧Q (g i j) H
def rU (g:Int→V):V→Hp→VK→Prop:=fun x H Q=>∃ i,x = .int i∧Q (g i) H
section
variable {X:Cx} {a b c:Expr} {ta tb tc:TE} {pos:Pos}
theorem binT (ha:PE X a ta) (hb:PE X b tb) {pins:List (Addr × Obj)} {s:Shared} {σ:St} {H:Hp} {R:V→V→Hp→Prop} (I:Inv X pins σ H s)
    (h:ta σ H fun x H1=>tb σ H1 fun y H2=>R x y H2) {Q:Value→Shared→Prop} {f:Value→Value→Sem Value}
    (hf:∀ v u s2 x y H2,Inv X pins σ H2 s2→RelV x v→RelV y u→R x y H2→wpAny (model X.prog X.w) X.A (f v u) Q X.xe s2) :
    wpAny (model X.prog X.w) X.A (eval a X.env) (fun v s₁=>wpAny (model X.prog X.w) X.A (eval b X.env) (fun u s₂=>wpAny (model X.prog X.w) X.A (f v u) Q X.xe s₂) X.xe s₁) X.xe s:=by
  refine thn (ha pins s σ H _ I h) fun v s1 ⟨x,H1,I1,r1,q1⟩=>?_
  refine thn (hb pins s1 σ H1 _ I1 q1) fun u s2 ⟨y,H2,I2,r2,q2⟩=>?_
  exact hf v u s2 x y H2 I2 r1 r2 q2
theorem pe_op {op:Operator} {r:R2} (ho:OpR X (binaryOp op) r) (ha:PE X a ta) (hb:PE X b tb):PE X (.BinOp a op b pos) (tOp r ta tb):=by
  intro pins s σ H Q I h
  exact wpAny_BinOp (binT ha hb I h fun v u s2 x y H2 I2 rx ry q=>ho pins s2 σ H2 x y v u Q I2 rx ry q)
theorem pe_un {op:UnaryOp} {r:V→Hp→VK→Prop} (ho:UnR X (unaryOp op) r) (ha:PE X a ta):PE X (.UnaryOp op a pos) (tUn r ta):=by
  intro pins s σ H Q I h
  exact UnaryOp_ (thn (ha pins s σ H _ I h) fun v s1 ⟨x,H1,I1,r1,q1⟩=>ho pins s1 σ H1 x v Q I1 r1 q1)
theorem opI {f:Value→Value→Sem Value} {C:Int→Int→Prop} {g:Int→Int→Int}
    (rule:∀ (i j:Int) (t u:Tok) (s:Shared) (Q:Value→Shared→Prop) (E:Value→Shared→Prop),C i j→Q (.int (g i j) s.toks) { s with toks:=s.toks + 1 }→wpAny (model X.prog X.w) X.A (f (.int i t) (.int j u)) Q E s) :
    OpR X f (rI C fun i j=>.int (g i j)):=by
  intro pins s σ H x y v u Q I rx ry h
  obtain ⟨i,j,rfl,rfl,hc,q⟩:=h
  obtain ⟨t,rfl⟩:=rx
  obtain ⟨t',rfl⟩:=ry
  exact rule i j t t' s _ _ hc ⟨.int (g i j),H,I.tok _,⟨_,rfl⟩,q⟩
theorem opI0 {f:Value→Value→Sem Value} {g:Int→Int→Int}
    (rule:∀ (i j:Int) (t u:Tok) (s:Shared) (Q:Value→Shared→Prop) (E:Value→Shared→Prop),Q (.int (g i j) s.toks) { s with toks:=s.toks + 1 }→wpAny (model X.prog X.w) X.A (f (.int i t) (.int j u)) Q E s) :
    OpR X f (rI0 fun i j=>.int (g i j)):=by
  intro pins s σ H x y v u Q I rx ry h
  obtain ⟨i,j,rfl,rfl,q⟩:=h
  obtain ⟨t,rfl⟩:=rx
  obtain ⟨t',rfl⟩:=ry
  exact rule i j t t' s _ _ ⟨.int (g i j),H,I.tok _,⟨_,rfl⟩,q⟩
theorem opB0 {f:Value→Value→Sem Value} {g:Int→Int→Bool}
    (rule:∀ (i j:Int) (t u:Tok) (s:Shared) (Q:Value→Shared→Prop) (E:Value→Shared→Prop),Q (.bool (g i j)) s→wpAny (model X.prog X.w) X.A (f (.int i t) (.int j u)) Q E s) :
    OpR X f (rI0 fun i j=>.bl (g i j)):=by
  intro pins s σ H x y v u Q I rx ry h
  obtain ⟨i,j,rfl,rfl,q⟩:=h
  obtain ⟨t,rfl⟩:=rx
  obtain ⟨t',rfl⟩:=ry
  exact rule i j t t' s _ _ ⟨.bl (g i j),H,I,rfl,q⟩
def CDiv (i j:Int):Prop:=0 < j∧j < 1073741824
def CDivN (i j:Int):Prop:=j ≠ 0∧j.natAbs < 1073741824
def CPow (i j:Int):Prop:=0 ≤ j∧j ≤ 1000000∧i.natAbs < 2 ^ 64
def CMul (i j:Int):Prop:=(-(2 ^ 64) < i∧i < 2 ^ 64)∨(-(2 ^ 64) < j∧j < 2 ^ 64)
theorem CMul.ok {i j:Int} (h:CMul i j):IntMulOk i j:=by
  rcases h with ⟨h1,h2⟩ | ⟨h1,h2⟩
  · exact .of_left (intBits_le_64 h1 h2)
  · exact .of_right (intBits_le_64 h1 h2)
theorem op_add:OpR X (binaryOp .Add) (rI0 fun i j=>.int (i + j)):=opI0 fun _ _ _ _ _ _ _ q=>add_int q
theorem op_sub:OpR X (binaryOp .Sub) (rI0 fun i j=>.int (i - j)):=opI0 fun _ _ _ _ _ _ _ q=>sub_int q
theorem op_mul:OpR X (binaryOp .Mult) (rI CMul fun i j=>.int (i * j)):=opI fun _ _ _ _ _ _ _ hc q=>mul_int q hc.ok
theorem op_fdiv:OpR X (binaryOp .FloorDiv) (rI CDiv fun i j=>.int (i / j)):=opI fun i j _ _ _ _ _ hc q=>by
  have h1:(0:Int) < j:=hc.1
  have h2:j < 1073741824:=hc.2
  exact floordiv_int (by omega) (by rw [Int.fdiv_eq_ediv_of_nonneg i (by omega)]; exact q) (.inl (PyProof.noPylong_small (by omega)))
theorem op_mod:OpR X (binaryOp .Mod) (rI (fun _ j=>0 < j) fun i j=>.int (i % j)):=opI fun i j _ _ _ _ _ hc q=>by
  have h1:(0:Int) < j:=hc
  exact mod_int' (by omega) (by rw [Int.fmod_eq_emod_of_nonneg i (by omega)]; exact q)
theorem op_pow:OpR X (binaryOp .Pow) (rI CPow fun i j=>.int (i ^ j.toNat)):=opI fun _ _ _ _ _ _ _ hc q=>pow_int_small hc.1 hc.2.1 hc.2.2 q
theorem unI {f:Value→Sem Value} {g:Int→Int}
    (rule:∀ (i:Int) (t:Tok) (s:Shared) (Q:Value→Shared→Prop) (E:Value→Shared→Prop),Q (.int (g i) s.toks) { s with toks:=s.toks + 1 }→wpAny (model X.prog X.w) X.A (f (.int i t)) Q E s) :
    UnR X f (rU fun i=>.int (g i)):=by
  intro pins s σ H x v Q I rx h
  obtain ⟨i,rfl,q⟩:=h
  obtain ⟨t,rfl⟩:=rx
  exact rule i t s _ _ ⟨.int (g i),H,I.tok _,⟨_,rfl⟩,q⟩
theorem un_neg:UnR X (unaryOp .USub) (rU fun i=>.int (-i)):=unI fun _ _ _ _ _ q=>neg_int q
end
def scal:V→V→Bool
  | .non,.non=>true | .non,.int _=>true | .int _,.non=>true | .non,.bl _=>true | .bl _,.non=>true | .non,.str _=>true | .str _,.non=>true
  | .int _,.int _=>true | .bl _,.bl _=>true | .str _,.str _=>true | .byt _,.byt _=>true
  | .int _,.str _=>true | .str _,.int _=>true | .bl _,.str _=>true | .str _,.bl _=>true
  | _,_=>false
def rEq:R2:=fun x y H Q=>scal x y = true∧Q (.bl (decide (x = y))) H
def rNe:R2:=fun x y H Q=>scal x y = true∧Q (.bl (!decide (x = y))) H
theorem dec_int {i j:Int} : decide (V.int i = V.int j) = (i == j):=by
  rw [Bool.eq_iff_iff]
  simp
theorem dec_bl {i j:Bool} : decide (V.bl i = V.bl j) = (i == j):=by
  rw [Bool.eq_iff_iff]
  simp
theorem dec_str {i j:Str} : decide (V.str i = V.str j) = (i == j):=by
  rw [Bool.eq_iff_iff]
  simp
theorem dec_byt {i j:Array UInt8} : decide (V.byt i = V.byt j) = (i.toList == j.toList):=by
  rw [Bool.eq_iff_iff]
  cases i
  cases j
  simp
section
variable {X:Cx} {a b c:Expr} {ta tb tc:TE} {pos:Pos}
theorem fin_bl {pins:List (Addr × Obj)} {σ:St} {H:Hp} {s:Shared} {Q:VK} {k k' : Bool} (I:Inv X pins σ H s) (q:Q (.bl k) H) (e:k = k'):EP X pins σ Q (.bool k') s:=by
  subst e
  exact ⟨.bl k,H,I,rfl,q⟩
theorem op_eq:OpR X (compareOp .Eq) rEq:=by
  intro pins s σ H x y v u Q I rx ry h
  obtain ⟨hs,q⟩:=h
  cases x with
  | non =>
    cases rx
    cases y with
    | non=>cases ry; exact PySem.EqNone.eq_none_none (fin_bl I q (by simp))
    | bl j=>cases ry; exact PySem.EqNone.eq_none_bool (fin_bl I q (by simp))
    | int j=>obtain ⟨t',rfl⟩:=ry; exact PySem.EqNone.eq_none_int (fin_bl I q (by simp))
    | str j=>obtain ⟨t',rfl⟩:=ry; exact PySem.EqNone.eq_none_str (fin_bl I q (by simp))
    | _=>exact absurd (show false = true from hs) Bool.false_ne_true
  | bl i =>
    cases rx
    cases y with
    | non=>cases ry; exact PySem.EqNone.eq_bool_none (fin_bl I q (by simp))
    | bl j=>cases ry; exact eq_bool (fin_bl I q dec_bl)
    | str j=>obtain ⟨t',rfl⟩:=ry; exact PySem.EqMixed.eq_bool_str (fin_bl I q (by simp))
    | _=>exact absurd (show false = true from hs) Bool.false_ne_true
  | int i =>
    obtain ⟨t,rfl⟩:=rx
    cases y with
    | non=>cases ry; exact PySem.EqNone.eq_int_none (fin_bl I q (by simp))
    | int j=>obtain ⟨t',rfl⟩:=ry; exact eq_int (fin_bl I q dec_int)
    | str j=>obtain ⟨t',rfl⟩:=ry; exact PySem.EqMixed.eq_int_str (fin_bl I q (by simp))
    | _=>exact absurd (show false = true from hs) Bool.false_ne_true
  | str i =>
    obtain ⟨t,rfl⟩:=rx
    cases y with
    | non=>cases ry; exact PySem.EqNone.eq_str_none (fin_bl I q (by simp))
    | bl j=>cases ry; exact PySem.EqMixed.eq_str_bool (fin_bl I q (by simp))
    | int j=>obtain ⟨t',rfl⟩:=ry; exact PySem.EqMixed.eq_str_int (fin_bl I q (by simp))
    | str j=>obtain ⟨t',rfl⟩:=ry; exact eq_str (fin_bl I q dec_str)
    | _=>exact absurd (show false = true from hs) Bool.false_ne_true
  | byt i =>
    obtain ⟨t,rfl⟩:=rx
    cases y with
    | byt j=>obtain ⟨t',rfl⟩:=ry; exact PySem.W.eq_bytes (fin_bl I q dec_byt)
    | _=>exact absurd (show false = true from hs) Bool.false_ne_true
  | _=>cases y <;> exact absurd (show false = true from hs) Bool.false_ne_true
theorem op_ne:OpR X (compareOp .NotEq) rNe:=by
  intro pins s σ H x y v u Q I rx ry h
  obtain ⟨hs,q⟩:=h
  cases x with
  | non =>
    cases rx
    cases y with
    | non=>cases ry; exact PySem.EqNone.ne_none_none (fin_bl I q (by simp))
    | bl j=>cases ry; exact PySem.EqNone.ne_none_bool (fin_bl I q (by simp))
    | int j=>obtain ⟨t',rfl⟩:=ry; exact PySem.EqNone.ne_none_int (fin_bl I q (by simp))
    | str j=>obtain ⟨t',rfl⟩:=ry; exact PySem.EqNone.ne_none_str (fin_bl I q (by simp))
    | _=>exact absurd (show false = true from hs) Bool.false_ne_true
  | bl i =>
    cases rx
    cases y with
    | non=>cases ry; exact PySem.EqNone.ne_bool_none (fin_bl I q (by simp))
    | bl j=>cases ry; exact ne_bool (fin_bl I q (congrArg not dec_bl))
    | str j=>obtain ⟨t',rfl⟩:=ry; exact PySem.EqMixed.ne_bool_str (fin_bl I q (by simp))
    | _=>exact absurd (show false = true from hs) Bool.false_ne_true
  | int i =>
    obtain ⟨t,rfl⟩:=rx
    cases y with
    | non=>cases ry; exact PySem.EqNone.ne_int_none (fin_bl I q (by simp))
    | int j=>obtain ⟨t',rfl⟩:=ry; exact ne_int (fin_bl I q (congrArg not dec_int))
    | str j=>obtain ⟨t',rfl⟩:=ry; exact PySem.EqMixed.ne_int_str (fin_bl I q (by simp))
    | _=>exact absurd (show false = true from hs) Bool.false_ne_true
  | str i =>
    obtain ⟨t,rfl⟩:=rx
    cases y with
    | non=>cases ry; exact PySem.EqNone.ne_str_none (fin_bl I q (by simp))
    | bl j=>cases ry; exact PySem.EqMixed.ne_str_bool (fin_bl I q (by simp))
    | int j=>obtain ⟨t',rfl⟩:=ry; exact PySem.EqMixed.ne_str_int (fin_bl I q (by simp))
    | str j=>obtain ⟨t',rfl⟩:=ry; exact ne_str (fin_bl I q (congrArg not dec_str))
    | _=>exact absurd (show false = true from hs) Bool.false_ne_true
  | byt i =>
    obtain ⟨t,rfl⟩:=rx
    cases y with
    | byt j=>obtain ⟨t',rfl⟩:=ry; exact PySem.W.ne_bytes (fin_bl I q (congrArg not dec_byt))
    | _=>exact absurd (show false = true from hs) Bool.false_ne_true
  | _=>cases y <;> exact absurd (show false = true from hs) Bool.false_ne_true
theorem op_lt:OpR X (compareOp .Lt) (rI0 fun i j=>.bl (decide (i < j))):=opB0 fun _ _ _ _ _ _ _ q=>lt_int q
theorem op_le:OpR X (compareOp .LtE) (rI0 fun i j=>.bl (decide (i ≤ j))):=opB0 fun _ _ _ _ _ _ _ q=>le_int q
theorem op_gt:OpR X (compareOp .Gt) (rI0 fun i j=>.bl (decide (j < i))):=opB0 fun _ _ _ _ _ _ _ q=>gt_int q
def isObj:HO→Bool
  | .lst _=>true
  | .ins _ _ _=>true
  | _=>false
theorem nomark (b:Expr) {op:CmpOp} (h:op ≠ .In:=by decide) (h2:op ≠ .NotIn:=by decide):behindInMarks op b = false:=by
  have e1:(op == CmpOp.In) = false:=by cases op <;> first | rfl | exact absurd rfl h
  have e2:(op == CmpOp.NotIn) = false:=by cases op <;> first | rfl | exact absurd rfl h2
  cases b <;> simp [behindInMarks,e1,e2]
theorem pe_cmpR {op:CmpOp} {r:R2} (ho:OpR X (compareOp op) r) (ha:PE X a ta) (hb:PE X b tb) (hm:behindInMarks op b = false):PE X (.Compare a [op] [b] pos) (tOp r ta tb):=by
  intro pins s σ H Q I h
  exact wpAny_Compare1 (binT ha hb I h fun v u s2 x y H2 I2 rx ry q=>ho pins s2 σ H2 x y v u Q I2 rx ry q) hm
def tTest (t:TE):TT:=fun σ H Q=>t σ H fun x H'=>∃ k,x = .bl k∧Q k H'
theorem pt_cmpR {op:CmpOp} {r:R2} (ho:OpR X (compareOp op) r) (ha:PE X a ta) (hb:PE X b tb) (hm:behindInMarks op b = false):PT X (.Compare a [op] [b] pos) (tTest (tOp r ta tb)):=by
  intro pins s σ H Q I h
  refine wpAny_isTrue_Compare1 (thn (ha pins s σ H _ I h) fun v s1 ⟨x,H1,I1,r1,q1⟩=>thn (hb pins s1 σ H1 _ I1 q1) fun u s2 ⟨y,H2,I2,r2,q2⟩ =>
    thn (ho pins s2 σ H2 x y v u _ I2 r1 r2 q2) fun c s3 ⟨z,H3,I3,r3,k,e,q3⟩=>?_) hm
  subst e
  cases r3
  exact wpAny_truthy_bool ⟨H3,I3,q3⟩
def tChain (r r' : R2) (ta tb tc:TE):TE:=fun σ H Q=>ta σ H fun x H1=>tb σ H1 fun y H2=>r x y H2 fun z H3=>∃ k,z = .bl k ∧
  (if k = true then tc σ H3 fun w' H4=>r' y w' H4 Q else Q (.bl false) H3)
theorem pt_chain {op op' : CmpOp} {r r' : R2} (ho:OpR X (compareOp op) r) (ho' : OpR X (compareOp op') r') (ha:PE X a ta) (hb:PE X b tb) (hc:PE X c tc)
    (hm:lastMarks [op,op'] [b,c] = false:=by with_unfolding_all rfl):PT X (.Compare a [op,op'] [b,c] pos) (tTest (tChain r r' ta tb tc)):=by
  intro pins s σ H Q I h
  refine isTrue_chain (thn (ha pins s σ H _ I h) fun v s1 ⟨x,H1,I1,r1,q1⟩=>test_link (thn (hb pins s1 σ H1 _ I1 q1) fun u s2 ⟨y,H2,I2,r2,q2⟩ =>
    thn (ho pins s2 σ H2 x y v u _ I2 r1 r2 q2) fun d s3 ⟨z,H3,I3,r3,k,e,q3⟩=>?_)) hm
  subst e
  cases r3
  refine wpAny_truthy_bool ?_
  cases k with
  | false =>
    obtain ⟨k',e',q'⟩:=q3
    cases e'
    exact ite_ff ⟨H3,I3,q'⟩
  | true =>
    refine ite_tt (test_last (thn (hc pins s3 σ H3 _ I3 q3) fun w' s4 ⟨z',H4,I4,r4,q4⟩=>thn (ho' pins s4 σ H4 y z' u w' _ I4 r2 r4 q4) fun d' s5 ⟨z2,H5,I5,r5,k2,e2,q5⟩=>?_))
    subst e2
    cases r5
    exact wpAny_truthy_bool ⟨H5,I5,q5⟩
def TruV (K:PySem.W.Frag) (x:V) (H:Hp) (k:Bool):Prop :=
  match x with
  | .non=>k = false
  | .bl b=>k = b
  | .int i=>k = (i != 0)
  | .str y=>y.length ≤ sizeLine∧k = ((y.length:Int) != 0)
  | .byt y=>y.size ≤ sizeLine∧k = ((y.size:Int) != 0)
  | .ref p=>(∃ xs,SqL K H p xs∧k = !xs.isEmpty)∨(∃ xs,SqT K H p xs∧k = !xs.isEmpty)∨∃ kvs,H p = some (.dK kvs)∧k = !kvs.isEmpty
  | _=>False
theorem isEmpty_kv {κ:Type} {kvs:List (κ × V)} {vs:List (κ × Value)} (r:KV kvs vs):(!vs.isEmpty) = !kvs.isEmpty:=by
  cases r <;> rfl
theorem isEmpty_of {xs:List V} {its:List Value} (r:Vals xs its):(!its.toArray.isEmpty) = !xs.isEmpty:=by
  cases r <;> simp
theorem line63:(sizeLine:Nat) < 2 ^ 63:=by rw [sizeLine_eq]; decide
theorem tru_ok:TruR X (fun x H Q=>∃ k,TruV X.K x H k∧Q k H):=by
  intro pins s σ H x v Q I rx h
  obtain ⟨k,e,q⟩:=h
  have hl:=line63
  have hs:sizeLine = 16777216:=sizeLine_eq
  cases x with
  | non =>
    cases rx
    have e' : k = false:=e
    subst e'
    exact truthy_none ⟨H,I,q⟩
  | bl b =>
    cases rx
    have e' : k = b:=e
    subst e'
    exact wpAny_truthy_bool ⟨H,I,q⟩
  | int i =>
    obtain ⟨t,rfl⟩:=rx
    have e' : k = (i != 0):=e
    subst e'
    exact PySem.P.truthy_int ⟨H,I,q⟩
  | str y =>
    obtain ⟨t,rfl⟩:=rx
    obtain ⟨hy,e'⟩:y.length ≤ sizeLine∧k = ((y.length:Int) != 0):=e
    subst e'
    exact PySem.P.truthy_str (by omega) ⟨H,I.tok _,q⟩
  | byt y =>
    obtain ⟨t,rfl⟩:=rx
    obtain ⟨hy,e'⟩:y.size ≤ sizeLine∧k = ((y.size:Int) != 0):=e
    subst e'
    exact PySem.W.truthy_bytes (by omega) ⟨H,I.tok _,q⟩
  | ref p =>
    cases rx
    have e' : (∃ xs,SqL X.K H p xs∧k = !xs.isEmpty)∨(∃ xs,SqT X.K H p xs∧k = !xs.isEmpty)∨∃ kvs,H p = some (.dK kvs)∧k = !kvs.isEmpty:=e
    rcases e' with ⟨xs,hx,e'⟩ | ⟨xs,hx,e'⟩ | ⟨kvs,hx,e'⟩
    · subst e'
      obtain ⟨its,r,pl,hz⟩:=I.list hx
      have hlen:=r.length
      exact wpAny_truthy_list pl.isList (by simp only [List.size_toArray]; omega) ⟨H,I.tok _,by rw [isEmpty_of r]; exact q⟩
    · subst e'
      obtain ⟨its,r,pl,hz⟩:=I.tuple hx
      have hlen:=r.length
      exact truthy_tuple pl (by simp only [List.size_toArray]; omega) ⟨H,I.tok _,by rw [isEmpty_of r]; exact q⟩
    · subst e'
      obtain ⟨hz,hS,vs,r,m⟩:kvs.length ≤ sizeLine∧(p == sysModules) = false∧∃ vs,KV kvs vs∧s.heap.DictOf (mixKind X.prog X.w) p vs:=I.hok p _ hx
      have hlen:kvs.length = vs.length:=Paired.length r
      exact wpAny_truthy_dict hS m (by omega) ⟨H,I.tok _,by rw [isEmpty_kv r]; exact q⟩
  | _=>exact (show False from e).elim
theorem pt_truth (ha:PE X a ta) (he:∀ whole,isTrue a X.env whole = (do let v ← whole; standAt a.pos; holding [v] (truthy v))) :
    PT X a (fun σ H Q=>ta σ H fun x H'=>∃ k,TruV X.K x H' k∧Q k H'):=by
  intro pins s σ H Q I h
  exact isTrue_plain (thn (ha pins s σ H _ I h) fun v s1 ⟨x,H1,I1,r1,q1⟩=>tru_ok pins s1 σ H1 x v Q I1 r1 q1) (he _)
theorem op_add_byt:OpR X (binaryOp .Add) (fun x y H Q=>∃ i j,x = .byt i∧y = .byt j∧i.size + j.size ≤ 16777216∧Q (.byt (i ++ j)) H):=by
  intro pins s σ H x y v u Q I rx ry h
  obtain ⟨i,j,rfl,rfl,hz,q⟩:=h
  obtain ⟨t,rfl⟩:=rx
  obtain ⟨t',rfl⟩:=ry
  exact PySem.W.KBy.add_bytes hz (fun t' tk=>⟨.byt (i ++ j),H,I.tok _,⟨_,rfl⟩,q⟩)
def PlainIxT (b:Expr):Prop:=∀ o i,subscripted b false o i = operate [o,i] (getItem o i)
theorem vals1 {x:V} {us:List Value} (r:Vals [x] us):∃ u,us = [u]∧RelV x u:=by
  cases r with
  | cons r1 r2=>cases r2; exact ⟨_,rfl,r1⟩
theorem vals2 {x y:V} {us:List Value} (r:Vals [x,y] us):∃ u w',us = [u,w']∧RelV x u∧RelV y w':=by
  cases r with
  | cons r1 r2 =>
    cases r2 with
    | cons r3 r4=>cases r4; exact ⟨_,_,rfl,r1,r3⟩
theorem call_min2 (hc:X.calm = true):CallR X (.builtin "min") (fun xs H Q=>∃ i j,xs = [.int i,.int j]∧Q (.int (if j < i then j else i)) H):=by
  intro pins s σ H xs us Q I r h
  obtain ⟨i,j,rfl,q⟩:=h
  obtain ⟨u,w',rfl,⟨t,rfl⟩,⟨t',rfl⟩⟩:=vals2 r
  refine min_two_ints (I.ok.hd hc) fun h' tk k=>⟨_,H,I.kept k,?_,q⟩
  by_cases hj:j < i
  · rw [if_pos hj,if_pos hj]; exact ⟨_,rfl⟩
  · rw [if_neg hj,if_neg hj]; exact ⟨_,rfl⟩
def LenV (K:PySem.W.Frag) (x:V) (H:Hp) (n:Nat):Prop :=
  match x with
  | .str y=>y.length ≤ sizeLine∧n = y.length
  | .byt y=>y.size ≤ sizeLine∧n = y.size
  | .ref p=>(∃ xs,SqL K H p xs∧n = xs.length)∨∃ xs,SqT K H p xs∧n = xs.length
  | _=>False
end
end L2
namespace L2
open PySem PySem.Spec PyProof.Rows
structure ObjM (h:Heap) (x dx C:Addr) (mA:Str→Option Value):Prop where
  obj:h.get? x = some (PySem.W.instObj C dx)
  ns:h.Ns1 dx mA
  ne:dx ≠ x
theorem lookIn_ns {h:Heap} {dx:Addr} {mA:Str→Option Value} (n:h.Ns1 dx mA):∃ od,h.get? dx = some od∧∀ name,PySem.W.lookIn name od = some (mA name):=by
  obtain ⟨o,es,ep,ho,hd,hk,_,hm⟩:=n
  refine ⟨o,ho,fun name=>?_⟩
  have e:=hm name
  unfold nsFind findBy at e
  rw [← Array.find?_toList] at e
  unfold PySem.W.lookIn
  rw [hd]
  dsimp only
  split
  · rename_i y q
    rw [q] at e
    exact congrArg some e
  · rename_i q
    rw [q] at e
    have a:es.toList.any (·.refKey) = false:=by
      rw [List.any_eq_false]
      intro y hy
      obtain ⟨z,t,hkey⟩:=hk y (Array.mem_toList_iff.mp hy)
      simp [DictEntry.refKey,hkey]
    have a' : ¬ es.toList.any (·.refKey) = true:=by rw [a]; exact Bool.false_ne_true
    rw [if_neg a']
    exact congrArg some e
theorem ObjM.look {h:Heap} {x dx C:Addr} {mA:Str→Option Value} (I:ObjM h x dx C mA):∃ od,PySem.W.InstAt h x (PySem.W.instObj C dx) C (some od)∧∀ name,PySem.W.lookIn name od = some (mA name):=by
  obtain ⟨od,ho,hl⟩:=lookIn_ns I.ns
  exact ⟨od,⟨I.obj,rfl,rfl,ho⟩,hl⟩
section
variable {prog:Program} {w:World} {A:Around} {E:Value→Shared→Prop} {s:Shared} {K:PySem.W.Frag} {x dx C f:Addr} {mA:Str→Option Value} {name:Str} {v:Value}
end
def putF (f:Str) (v:V):List (Str × V)→List (Str × V)
  | []=>[(f,v)]
  | (g,x) :: r=>if g = f then (g,v) :: r else (g,x) :: putF f v r
section
variable {P:Program} {w:World} {H H' : Hp} {h h' : Heap} {a C dx:Addr} {fs fs' : List (Str × V)}
theorem ins_get (hok:HOk P w H h) (e:H a = some (.ins C dx fs)):∃ mA,ObjM h a dx C mA∧(∀ f,RelO (fs.lookup f) (mA f))∧PySem.Within mA (fs.map (·.1))∧fs.length ≤ 1000∧H dx = some (.own a):=by
  obtain ⟨d,z,ne,ob,mA,n,r,q⟩:=(show ObjOk P w H h a (.ins C dx fs) from hok a _ e)
  exact ⟨mA,⟨ob,n,ne⟩,r,q,z,d⟩
end
structure Cls (K:PySem.W.Frag) (C:Addr):Prop where
  pg:PySem.W.plainGet K C Str.empty = true
  hd:PySem.W.hasDictIn K C = true
  po:PySem.W.plainOver K C = true
  sa:PySem.W.findIn K (.ref C) "__setattr__" = some (some (.builtin "object.__setattr__"))
theorem Cls.get {K:PySem.W.Frag} {C:Addr} (c:Cls K C) (f:Str):PySem.W.plainGet K C f = true:=c.pg
def NoAttr (K:PySem.W.Frag) (C:Addr) (f:Str):Prop:=PySem.W.findIn K (.ref C) f = some none
structure Con (K:PySem.W.Frag) (C:Addr) (f:Str) (v:V) (u:Value):Prop where
  at_:PySem.W.findIn K (.ref C) f = some (some u)
  rel:RelV v u
  get:PySem.W.specialIn K u "__get__" = some none
  cp:PySem.W.copiedNames.contains f = false
structure Meth (K:PySem.W.Frag) (C:Addr) (m:Str) (f:Addr):Prop where
  at_:PySem.W.findIn K (.ref C) m = some (some (.ref f))
  fn:PySem.W.isFn K (.ref f) = true
  kp:PySem.W.keepIn K (.ref f) = true
section
variable {X:Cx} {pins:List (Addr × Obj)} {σ:St} {H:Hp} {s:Shared} {a C dx:Addr} {fs:List (Str × V)} {f:Str} {v:V} {A:Around} {E:Value→Shared→Prop}
end
def tFld (K:PySem.W.Frag) (ta:TE) (f:Str):TE:=fun σ H Q=>ta σ H fun x H1=>∃ a C dx fs v,x = .ref a∧H1 a = some (.ins C dx fs)∧Cls K C∧NoAttr K C f∧fs.lookup f = some v∧Q v H1
def tCon (K:PySem.W.Frag) (ta:TE) (f:Str):TE:=fun σ H Q=>ta σ H fun x H1=>∃ a C dx fs v u,x = .ref a∧H1 a = some (.ins C dx fs)∧Cls K C∧Con K C f v u∧fs.lookup f = none∧Q v H1
def sFld (K:PySem.W.Frag) (ta tv:TE) (f:Str):TS:=fun D σ H=>tv σ H fun y H1=>ta σ H1 fun x H2=>∃ a C dx fs,x = .ref a∧H2 a = some (.ins C dx fs)∧Cls K C∧NoAttr K C f∧fs.length < 1000 ∧
  D.nx σ (upd H2 a (.ins C dx (putF f y fs)))
def InOp (X:Cx) (op:Operator) (rd:V→V→Hp→VK→Prop):Prop :=
  ∀ (pins:List (Addr × Obj)) (s:Shared) (σ:St) (H:Hp) (x y:V) (u v:Value) (Q:VK),Inv X pins σ H s→RelV x u→RelV y v→rd x y H Q→wpAny (model X.prog X.w) X.A (inplaceOp op u v) (EP X pins σ Q) X.xe s
def sFldAug (K:PySem.W.Frag) (ta tv:TE) (rd:V→V→Hp→VK→Prop) (f:Str):TS:=fun D σ H=>ta σ H fun x H1=>∃ a C dx fs v,x = .ref a∧H1 a = some (.ins C dx fs)∧Cls K C∧NoAttr K C f∧fs.lookup f = some v ∧
  tv σ H1 fun y H2=>rd v y H2 fun z H3=>∃ dx' fs',H3 a = some (.ins C dx' fs')∧fs'.length < 1000∧D.nx σ (upd H3 a (.ins C dx' (putF f z fs')))
section
variable {X:Cx} {o e value:Expr} {f:Str} {pos pos' tpos:Pos} {ta tv:TE}
def rAdd:V→V→Hp→VK→Prop:=fun x y H Q=>∃ i j,x = .int i∧y = .int j∧Q (.int (i + j)) H
def rSub:V→V→Hp→VK→Prop:=fun x y H Q=>∃ i j,x = .int i∧y = .int j∧Q (.int (i - j)) H
end
section
variable {X:Cx} {pins:List (Addr × Obj)} {σ:St} {H:Hp} {s:Shared} {A:Around} {E:Value→Shared→Prop} {Q:Value→Shared→Prop} {c:Value} {b:Bool}
inductive TyOf (K:PySem.W.Frag) (H:Hp):V→Value→Prop where
  | non:TyOf K H .non (.type "NoneType")
  | bl (x:Bool):TyOf K H (.bl x) (.type "bool")
  | int (i:Int):TyOf K H (.int i) (.type "int")
  | str (x:Str):TyOf K H (.str x) (.type "str")
  | flt (x:UInt64):TyOf K H (.flt x) (.type "float")
  | lst {a:Addr} {xs:List V} (e:H a = some (.lst xs)):TyOf K H (.ref a) (.type "list")
  | frz {a:Addr} {o:Obj} {xs:List V} (e:H a = some (.frz o (.lst xs))):TyOf K H (.ref a) (.type "list")
  | tup {a:Addr} {xs:List V} (e:H a = some (.tup xs)):TyOf K H (.ref a) (.type "tuple")
  | dK {a:Addr} {kvs:List (Key × V)} (e:H a = some (.dK kvs)):TyOf K H (.ref a) (.type "dict")
  | dT {a:Addr} {kvs:List (List Key × V)} (e:H a = some (.dT kvs)):TyOf K H (.ref a) (.type "dict")
  | ins {a C dx:Addr} {fs:List (Str × V)} (e:H a = some (.ins C dx fs)) (cl:Cls K C) (ha:PySem.W.findIn K (.ref C) "__class__" = some (some (.builtin "object.__class__")))
      (hn:PySem.W.specialIn K (.builtin "object.__class__") "__get__" = some (some (.builtin "getset_descriptor.__get__"))) (htk:PySem.W.takesIn K (.builtin "object.__class__") = some true)
      (hm:PySem.W.mroIn K C (.type "object") = some true):TyOf K H (.ref a) (.ref C)
theorem isinst_ok {x:V} {u t:Value} (I:Inv X pins σ H s) (rx:RelV x u) (ty:TyOf X.K H x t) (e:PySem.W.kitOne X.K t c = some b) (h:∀ tk,Q (.bool b) { s with toks:=tk }) :
    wpAny (model X.prog X.w) A (call (.builtin "isinstance") [u,c]) Q E s:=by
  cases ty with
  | non=>cases (show u = Value.none from rx); exact PySem.W.kia_one PySem.W.kitx_none I.kIn True.intro e (fun z=>nomatch z) h
  | bl y=>cases (show u = Value.bool y from rx); exact PySem.W.kia_one PySem.W.kitx_bool I.kIn True.intro e (fun z=>nomatch z) h
  | int i=>obtain ⟨t,q⟩:=(show ∃ t,u = Value.int i t from rx); cases q; exact PySem.W.kia_one PySem.W.kitx_int I.kIn True.intro e (fun z=>nomatch z) h
  | str y=>obtain ⟨t,q⟩:=(show ∃ t,u = Value.str y t from rx); cases q; exact PySem.W.kia_one PySem.W.kitx_str I.kIn True.intro e (fun z=>nomatch z) h
  | flt y=>obtain ⟨t,q⟩:=(show ∃ t,u = Value.float y t from rx); cases q; exact PySem.W.kia_one PySem.W.kitx_float I.kIn True.intro e (fun z=>nomatch z) h
  | @lst a xs ea =>
    cases (show u = Value.ref a from rx)
    obtain ⟨_,_,n,_,h1⟩:=(show ObjOk X.prog X.w H s.heap a (.lst xs) from I.hok a _ ea)
    exact PySem.W.kia_one PySem.W.kitx_list I.kIn ⟨_,h1,rfl⟩ e (fun z=>nomatch z) h
  | @frz a ob xs ea =>
    cases (show u = Value.ref a from rx)
    obtain ⟨_,_,_,n,_,h1⟩:=(show ObjOk X.prog X.w H s.heap a (.frz ob (.lst xs)) from I.hok a _ ea)
    exact PySem.W.kia_one PySem.W.kitx_list I.kIn ⟨_,h1,rfl⟩ e (fun z=>nomatch z) h
  | @tup a xs ea =>
    cases (show u = Value.ref a from rx)
    obtain ⟨_,_,_,p⟩:=(show ObjOk X.prog X.w H s.heap a (.tup xs) from I.hok a _ ea)
    obtain ⟨o,h1,h2,_⟩:=p
    exact PySem.W.kia_one PySem.W.kitx_tuple I.kIn ⟨o,h1,h2⟩ e (fun z=>nomatch z) h
  | @dK a kvs ea =>
    cases (show u = Value.ref a from rx)
    obtain ⟨_,_,vs,_,p⟩:=(show ObjOk X.prog X.w H s.heap a (.dK kvs) from I.hok a _ ea)
    obtain ⟨o,es,ep,h1,h2,_⟩:=p
    exact PySem.W.kia_one PySem.W.kitx_dict I.kIn ⟨o,h1,h2.1⟩ e (fun z=>nomatch z) h
  | @dT a kvs ea =>
    cases (show u = Value.ref a from rx)
    obtain ⟨_,_,xs,_,o,es,ep,h1,h2,_⟩:=(show ObjOk X.prog X.w H s.heap a (.dT kvs) from I.hok a _ ea)
    exact PySem.W.kia_one PySem.W.kitx_dict I.kIn ⟨o,h1,h2.1⟩ e (fun z=>nomatch z) h
  | @ins a C dx fs ea cl ha hn htk hm =>
    cases (show u = Value.ref a from rx)
    obtain ⟨mA,O,_⟩:=ins_get I.hok ea
    obtain ⟨od,J,_⟩:=O.look
    exact PySem.W.kia_one (PySem.W.kitx_own (cl.get _) cl.hd ha hn htk hm) I.kIn J e (fun z=>nomatch z) h
end
end L2
namespace L2
open PySem PySem.Spec PyProof.Rows
structure Room (k:Nat) (A:Around):Prop where
  hd:A.handled = none
  dp:A.depth + 3 * k + 5 < recursionLimit
  un:A.units + 16 * k + 200 < cLine
theorem Room.mono {j k:Nat} {A:Around} (r:Room k A) (h:j ≤ k):Room j A:=⟨r.hd,by have:=r.dp; omega,by have:=r.un; omega⟩
theorem Room.deeper {k:Nat} {A:Around} (r:Room (k + 1) A) (env:Env):Room k (A.deeper env) :=
  ⟨r.hd,by have:=r.dp; show A.depth + 1 + 3 * k + 5 < _; omega,by have:=r.un; show A.units + 3 + 16 * k + 200 < _; omega⟩
theorem Room.depth {k:Nat} {A:Around} (r:Room k A):A.depth < recursionLimit:=by have:=r.dp; omega
theorem Room.units {k:Nat} {A:Around} (r:Room k A):A.units + 64 < cLine:=by have:=r.un; omega
def tNil:TA:=fun _ H Q=>Q [] H
def tCons (ta:TE) (tr:TA):TA:=fun σ H Q=>ta σ H fun x H1=>tr σ H1 fun xs H2=>Q (x :: xs) H2
section
variable {X:Cx} {e:Expr} {es:List Expr} {te:TE} {t:TA} {pos:Pos}
theorem pa_nil:PA X [] tNil:=fun _ _ _ _ H Q I h=>Calls.spliced_nil ⟨[],H,I,.nil,h⟩
theorem pa_cons (ha:PE X e te) (hr:PA X es t) (hs:starEach (e :: es) X.env = (false,eval e X.env) :: starEach es X.env:=by rfl):PA X (e :: es) (tCons te t):=by
  intro pos pins s σ H Q I h
  rw [hs]
  show wpAny _ _ (spliced ((false,eval e X.env) :: backTo pos (starEach es X.env))) _ _ s
  refine Calls.spliced_cons (thn (ha pins s σ H _ I h) fun u s1 ⟨x,H1,I1,r1,q1⟩=>?_)
  exact thn (hr pos pins s1 σ H1 _ I1 q1) fun us s2 ⟨xs,H2,I2,r2,q2⟩=>⟨x :: xs,H2,I2,.cons r1 r2,q2⟩
def tTup (t:TA):TE:=fun σ H Q=>t σ H fun xs H1=>xs.length ≤ sizeLine∧∀ p,H1 p = none→Q (.ref p) (upd H1 p (.tup xs))
def tLst (t:TA):TE:=fun σ H Q=>t σ H fun xs H1=>xs.length ≤ sizeLine∧∀ p,H1 p = none→Q (.ref p) (upd H1 p (.lst xs))
theorem pe_tup {x1} (h:PA X es t):PE X (.Tuple es x1 pos) (tTup t):=by
  intro pins s σ H Q I hq
  refine wpAny_Tuple_spliced (thn (h pos pins s σ H _ I hq) fun us s1 ⟨xs,H1,I1,r,z,q⟩=>⟨by rw [← r.length]; exact z,?_⟩)
  have hf:H1 s1.heap.objs.size = none:=I1.hok.fresh (Nat.le_refl _)
  refine ⟨.ref s1.heap.objs.size,upd H1 s1.heap.objs.size (.tup xs),I1.laid (t':=s1.toks) (fun b u e=>Heap.get?_push_of_some _ e) (Nat.le_refl _) ?_,rfl,q _ hf⟩
  exact ⟨z,us,r,⟨_,Heap.get?_push_size _ rfl,rfl,_,rfl⟩⟩
theorem pe_lst (h:PA X es t):PE X (.List es pos) (tLst t):=by
  intro pins s σ H Q I hq
  refine wpAny_List_spliced (thn (h pos pins s σ H _ I hq) fun us s1 ⟨xs,H1,I1,r,z,q⟩=>⟨by rw [← r.length]; exact z,?_⟩)
  have hf:H1 s1.heap.objs.size = none:=I1.hok.fresh (Nat.le_refl _)
  refine ⟨.ref s1.heap.objs.size,upd H1 s1.heap.objs.size (.lst xs),I1.laid (t':=s1.toks) (fun b u e=>Heap.get?_push_of_some _ e) (Nat.le_refl _) ?_,rfl,q _ hf⟩
  exact ⟨z,us,0,r,Heap.get?_push_size _ rfl⟩
end
abbrev Sp:=List V→Hp→VK→XK→Prop
abbrev CXT:=List Env→Hp→Shared→XK→Value→Shared→Prop
structure Env0 (P:Program) (w:World) (K:PySem.W.Frag) (mg:Str→Option Value) (base:Heap) (A:Around) (outer:List Env) (s:Shared) (H:Hp):Prop where
  frames:A.frames = some outer
  mod:Mod K mg base
  bs:∀ b o,base.get? b = some o→s.heap.get? b = some o∧H b = none
  bsz:base.objs.size ≤ s.heap.objs.size
  funs:s.heap.FunFrames base outer
  frf:∀ b ∈ frs outer,H b = none
  hok:HOk P w H s.heap
  bare:AllBare s.gens
def CE (outer:List Env) (P:Program) (w:World) (H:Hp) (s:Shared) (Q:VK) (u:Value) (s' : Shared):Prop :=
  ∃ v H',s'.os = s.os∧AllBare s'.gens∧Un (frs outer) [] H H' s.heap s'.heap∧HOk P w H' s'.heap∧RelV v u∧Q v H'
def CR (CX:CXT) (outer:List Env) (P:Program) (w:World) (H:Hp) (s:Shared) (Q:VK) (E:XK) (r:Result) (s' : Shared):Prop :=
  match r with
  | .ok (.ret u)=>CE outer P w H s Q u s'
  | .ok _=>False
  | .error e=>CX outer H s E e s'
structure FnOk (P:Program) (w:World) (K:PySem.W.Frag) (mg:Str→Option Value) (base:Heap) (CX:CXT) (k:Nat) (f:Addr) (fd:FuncData) (ps:List Str) (sp:Sp):Prop where
  len:∀ vs H Q E,sp vs H Q E→vs.length = ps.length
  run:∀ (A:Around) (outer:List Env) (s:Shared) (H:Hp) (args:Args) (us:List Value) (vs:List V) (Q:VK) (E:XK),Room k A→Env0 P w K mg base A outer s H→BindsTo s fd args (ps.zip us)→Vals vs us→sp vs H Q E →
    codeAny (model P w) A (.call (.ref f) args) (CR CX outer P w H s Q E) s
theorem FnOk.mono {P:Program} {w:World} {K:PySem.W.Frag} {mg:Str→Option Value} {base:Heap} {CX:CXT} {j k:Nat} {f:Addr} {fd:FuncData} {ps:List Str} {sp:Sp} (F:FnOk P w K mg base CX j f fd ps sp) (h:j ≤ k) :
    FnOk P w K mg base CX k f fd ps sp:=⟨F.len,fun A outer s H args us vs Q E hr=>F.run A outer s H args us vs Q E (hr.mono h)⟩
section
variable {X:Cx} {pins:List (Addr × Obj)} {σ:St} {H:Hp} {s s' : Shared}
theorem Inv.env0 (I:Inv X pins σ H s):Env0 X.prog X.w X.K X.mg X.base X.A X.stack s H :=
  ⟨I.ok.frames,I.ok.mod,I.bs,Nat.le_trans I.ok.bsz I.sz,I.stack,I.stkFree,I.hok,I.bare⟩
theorem Inv.after {Q:VK} {u:Value} (I:Inv X pins σ H s) (h:CE X.stack X.prog X.w H s Q u s'):EP X pins σ Q u s':=by
  obtain ⟨v,H',os,bare,un,hok,r,q⟩:=h
  obtain ⟨hh,g,d,t,os'⟩:=s'
  obtain rfl:os' = s.os:=os
  exact ⟨v,H',I.call (h':=hh) (g':=g) (d':=d) (t':=t) (ch:=[]) un hok bare (fun b z=>absurd z (by simp)),r,q⟩
end
def tCall (sp:Sp) (dvs:List V) (E:XK) (t:TA):TE:=fun σ H Q=>t σ H fun vs H1=>sp (vs ++ dvs) H1 Q E
def tMeth (C:Addr) (m:Str) (sp:Sp) (dvs:List V) (E:XK) (ta:TE) (t:TA):TE:=fun σ H Q=>ta σ H fun x H1=>∃ a dx fs,x = .ref a∧H1 a = some (.ins C dx fs)∧fs.lookup m = none ∧
  t σ H1 fun vs H2=>sp (x :: (vs ++ dvs)) H2 Q E
def tMake (C:Addr) (sp:Sp) (dvs:List V) (E:XK) (t:TA):TE:=fun σ H Q=>t σ H fun vs H1=>∀ x dx,H1 x = none→H1 dx = none→dx ≠ x →
  sp (.ref x :: (vs ++ dvs)) (upd (upd H1 dx (.own x)) x (.ins C dx [])) (fun v H2=>v = .non∧Q (.ref x) H2) E
def Binds (K:PySem.W.Frag) (fd:FuncData) (ps:List Str) (ds:List Value):Prop :=
  ∀ (s:Shared) (us:List Value),K.In s.heap→(us ++ ds).length = ps.length→BindsTo s fd ⟨us,[]⟩ (ps.zip (us ++ ds))
theorem Binds.all {K:PySem.W.Frag} {fd:FuncData} {ps:List Str} (h:∀ us:List Value,us.length = ps.length→bindArgs fd ⟨us,[]⟩ = pure (ps.zip us)):Binds K fd ps []:=fun s us _ hl=>by
  rw [List.append_nil] at hl ⊢
  exact .of_eq (h us hl)
def Passes (CX:CXT) (X:Cx) (E:XK):Prop:=∀ (pins:List (Addr × Obj)) (σ:St) (H:Hp) (s:Shared) (e:Value) (s' : Shared),Inv X pins σ H s→CX X.stack H s E e s'→X.xe e s'
section
variable {X:Cx} {CX:CXT} {k:Nat} {f C:Addr} {fd:FuncData} {ps:List Str} {sp:Sp} {dvs:List V} {ds:List Value} {E:XK} {x m:Str} {p pos apos:Pos} {e o:Expr} {es:List Expr} {ta:TE} {t:TA}
theorem run_fn {pins:List (Addr × Obj)} {σ:St} {H:Hp} {s:Shared} {Q:VK} {us:List Value} {vs:List V} (F:FnOk X.prog X.w X.K X.mg X.base CX k f fd ps sp) (hr:Room k X.A) (hb:Binds X.K fd ps ds) (hd:Vals dvs ds) (hx:Passes CX X E)
    (I:Inv X pins σ H s) (r:Vals vs us) (h:sp (vs ++ dvs) H Q E):wpAny (model X.prog X.w) X.A (call (.ref f) us) (EP X pins σ Q) X.xe s:=by
  have r2:Vals (vs ++ dvs) (us ++ ds):=r.append hd
  have hl:(us ++ ds).length = ps.length:=by rw [← r2.length]; exact F.len _ _ _ _ h
  refine wpAny_call (codeAny_mono (F.run X.A X.stack s H ⟨us,[]⟩ (us ++ ds) (vs ++ dvs) Q E hr I.env0 (hb s us I.kIn hl) r2 h) fun r s' hq=>?_)
  cases r with
  | error e=>exact hx pins σ H s e s' I hq
  | ok fl =>
    cases fl with
    | ret u=>exact I.after hq
    | next=>exact False.elim hq
    | brk=>exact False.elim hq
    | cont=>exact False.elim hq
theorem pe_call (F:FnOk X.prog X.w X.K X.mg X.base CX k f fd ps sp) (hr:Room k X.A) (hg:Gl X x) (hm:X.mg x = some (.ref f)) (hk:PySem.W.keepIn X.K (.ref f) = true) (hb:Binds X.K fd ps ds) (hd:Vals dvs ds) (hx:Passes CX X E)
    (ha:PA X (e :: es) t) (hdb:(x == ("__debug__" : Str)) = false:=by decide) (he:starEach (e :: es) X.env = (false,eval e X.env) :: starEach es X.env:=by rfl) (hpl:(backTo pos (starEach es X.env)).any (·.1) = false:=by rfl) :
    PE X (.Call (.Name x p) (e :: es) [] pos) (tCall sp dvs E t):=by
  intro pins s σ H Q I h
  refine wpAny_Call_Name_kw (ld_glob I hg hm ?_ hdb)
  refine PySem.W.callWith_K (h₀:=X.base) I.ok.mod.kin hk (thn (ha pos pins s σ H _ I h) fun us s1 ⟨vs,H1,I1,r,q⟩=>⟨I1.kIn,?_⟩) he hpl
  exact run_fn F hr hb hd hx I1 r q
structure Mk (K:PySem.W.Frag) (C f:Addr):Prop where
  makes:PySem.W.makesIn K C = true
  init:PySem.W.findIn K (.ref C) "__init__" = some (some (.ref f))
  fn:PySem.W.isFn K (.ref f) = true
  kp:PySem.W.keepIn K (.ref C) = true
end
def PK (X:Cx) (kws:List Keyword) (t:TA):Prop :=
  ∀ (pos:Pos) (pins:List (Addr × Obj)) (s:Shared) (σ:St) (H:Hp) (Q:List V→Hp→Prop),Inv X pins σ H s→t σ H Q→wpAny (model X.prog X.w) X.A (evalAll ((backToKw pos (keywordEach kws X.env)).map (·.2))) (AP X pins σ Q) X.xe s
section
variable {X:Cx} {CX:CXT} {k:Nat} {f C:Addr} {fd:FuncData} {ps ks:List Str} {sp:Sp} {E:XK} {x m:Str} {p pos apos kpos:Pos} {e o:Expr} {es:List Expr} {kws:List Keyword} {te ta:TE} {t tk:TA} {nm:Option Str}
structure KBinds (K:PySem.W.Frag) (fd:FuncData) (ps ks:List Str) (g:List Value→List Value→List Value) (gV:List V→List V→List V):Prop where
  to:∀ (s:Shared) (us ws:List Value),K.In s.heap→(g us ws).length = ps.length→BindsTo s fd ⟨us,ks.zip ws⟩ (ps.zip (g us ws))
  rel:∀ {vs:List V} {us:List Value} {zs:List V} {ws:List Value},Vals vs us→Vals zs ws→Vals (gV vs zs) (g us ws)
def tCallK (sp:Sp) (gV:List V→List V→List V) (E:XK) (t tk:TA):TE:=fun σ H Q=>t σ H fun vs H1=>tk σ H1 fun zs H2=>sp (gV vs zs) H2 Q E
variable {g:List Value→List Value→List Value} {gV:List V→List V→List V}
end
structure FnScope (N P:List Str) (sc:Scope):Prop where
  kind:sc.kind = .function
  co:sc.isCoroutine = false
  gen:sc.isGenerator = false
  nd:N.Nodup
  pre:N.take P.length = P
  par:∀ x ∈ P,sc.names.lookup x = some .local∨sc.names.lookup x = some .cell
  nofree:∀ y ∈ sc.names,y.2 ≠ .free
theorem bindL_out {kindOf:Str→Option NameKind} {x:Str} : ∀ {binds:List (Str × Value)} {m:Str→Option Value},(∀ v,(x,v) ∉ binds)→bindL kindOf binds m x = m x
  | [],_,_=>rfl
  | (n,v) :: r,m,h=>by
    unfold bindL
    rw [bindL_out fun w hw=>h w (List.mem_cons_of_mem _ hw)]
    split
    · have:x ≠ n:=by rintro rfl; exact h v List.mem_cons_self
      simp [this]
    · rfl
theorem bindC_out {kindOf:Str→Option NameKind} {x:Str} : ∀ {binds:List (Str × Value)} {m:Str→Option Value},(∀ v,(x,v) ∉ binds)→bindC kindOf binds m x = m x
  | [],_,_=>rfl
  | (n,v) :: r,m,h=>by
    unfold bindC
    rw [bindC_out fun w hw=>h w (List.mem_cons_of_mem _ hw)]
    split
    · rfl
    · have:x ≠ n:=by rintro rfl; exact h v List.mem_cons_self
      simp [this]
theorem bindL_get {kindOf:Str→Option NameKind} {x:Str} {v:Value} : ∀ {P:List Str} {vs:List Value} {i:Nat} {m:Str→Option Value},P.Nodup→P[i]? = some x→vs[i]? = some v→kindOf x = some .local →
    bindL kindOf (P.zip vs) m x = some v
  | [],_,_,_,_,h,_,_=>by simp at h
  | _ :: _,[],_,_,_,_,h,_=>by simp at h
  | p :: P,w :: vs,0,m,nd,h1,h2,hk=>by
    simp at h1 h2; subst h1; subst h2
    show bindL kindOf ((p,w) :: P.zip vs) m p = _
    unfold bindL
    rw [bindL_out fun v hv=>(List.nodup_cons.mp nd).1 (List.of_mem_zip hv).1,if_pos hk]
    simp
  | p :: P,w :: vs,i + 1,m,nd,h1,h2,hk=>by
    show bindL kindOf ((p,w) :: P.zip vs) m x = _
    unfold bindL
    exact bindL_get (i:=i) (List.nodup_cons.mp nd).2 (by simpa using h1) (by simpa using h2) hk
theorem bindC_get {kindOf:Str→Option NameKind} {x:Str} {v:Value} : ∀ {P:List Str} {vs:List Value} {i:Nat} {m:Str→Option Value},P.Nodup→P[i]? = some x→vs[i]? = some v→kindOf x ≠ some .local →
    bindC kindOf (P.zip vs) m x = some v
  | [],_,_,_,_,h,_,_=>by simp at h
  | _ :: _,[],_,_,_,_,h,_=>by simp at h
  | p :: P,w :: vs,0,m,nd,h1,h2,hk=>by
    simp at h1 h2; subst h1; subst h2
    show bindC kindOf ((p,w) :: P.zip vs) m p = _
    unfold bindC
    rw [bindC_out fun v hv=>(List.nodup_cons.mp nd).1 (List.of_mem_zip hv).1,if_neg hk]
    simp
  | p :: P,w :: vs,i + 1,m,nd,h1,h2,hk=>by
    show bindC kindOf ((p,w) :: P.zip vs) m x = _
    unfold bindC
    exact bindC_get (i:=i) (List.nodup_cons.mp nd).2 (by simpa using h1) (by simpa using h2) hk
def start (N:List Str) (vs:List V):St:=vs.map some ++ List.replicate (N.length - vs.length) none
def cxOf (CX:CXT) (P:Program) (w:World) (K:PySem.W.Frag) (mg:Str→Option Value) (base:Heap) (N:List Str) (qual:Str) (scope:Scope) (f:Addr) (cd:Value) (A:Around) (outer:List Env) (s:Shared) (H:Hp) (E:XK):Cx where
  prog:=P
  w:=w
  K:=K
  mg:=mg
  base:=base
  A:=A.deeper (envOfC qual scope s.heap.objs.size f cd)
  N:=N
  s₀:=s
  H₀:=H
  env:=envOfC qual scope s.heap.objs.size f cd
  outer:=outer
  stack:=envOfC qual scope s.heap.objs.size f cd :: outer
  ex:=[]
  calm:=true
  fn:=fun _=>true
  pn:=[]
  xe:=fun e s'=>wpAny (model P w) (A.deeper (envOfC qual scope s.heap.objs.size f cd)) (leaving (envOfC qual scope s.heap.objs.size f cd) e) (fun _ s''=>CX outer H s E e s'') (fun e' s''=>CX outer H s E e' s'') s'
theorem cell_has {sc:Scope} {n:Nat} {x:Str} (h:sc.names.lookup x = some .cell):∃ c,(cellsFrom n sc.names []).lookup x = some c:=by
  have q:=PySem.W.cellsFrom_some sc.names n [] (.inl h)
  exact Option.isSome_iff_exists.mp q
theorem inv_start {CX:CXT} {P:Program} {w:World} {K:PySem.W.Frag} {mg:Str→Option Value} {base:Heap} {N ps:List Str} {qual:Str} {scope:Scope} {f:Addr} {cd:Value} {A:Around} {outer:List Env} {s s1:Shared} {H:Hp} {E:XK} {us:List Value} {vs:List V}
    (S:FnScope N ps scope) (hd:A.handled = none) (e0:Env0 P w K mg base A outer s H) (hl:vs.length = ps.length) (r:Vals vs us)
    (x:InCallC s s.heap.objs.size (bindL (envOfC qual scope s.heap.objs.size f cd).kindOf (ps.zip us) fun _=>none) (cellsFrom (s.heap.objs.size + 1) scope.names []) (bindC (envOfC qual scope s.heap.objs.size f cd).kindOf (ps.zip us) fun _=>none) s1) :
    Inv (cxOf CX P w K mg base N qual scope f cd A outer s H E) [] (start N vs) H s1:=by
  have hpl:ps.length ≤ N.length:=by have:=congrArg List.length S.pre; rw [List.length_take] at this; omega
  obtain ⟨h1,tk,rfl,hk⟩:=x.done
  have noA:∀ b:Addr,b ∉ (cxOf CX P w K mg base N qual scope f cd A outer s H E).ex:=fun b z=>absurd (show b ∈ ([]:List Addr) from z) (by simp)
  refine ⟨⟨e0.mod,S.kind,rfl,rfl,Nat.le_refl _,fun y z c h1 h2=>?_,fun y hy=>?_,fun y c _ h=>?_,fun _=>hd,Around.frames_deeper e0.frames,.inr ⟨rfl,rfl⟩,fun b z=>absurd z (noA b),e0.bs,e0.bsz,fun b _ _=>noA b,fun b z=>absurd z (noA b),e0.funs,e0.frf⟩,
    rfl,e0.bare,Un.kept hk,⟨_,x.toInCall.ns,fun i y v h1 h2 h3=>?_⟩,fun y c h=>⟨_,x.cell y c h⟩,e0.hok.fresh (Nat.le_refl _),fun y c h=>?_,fun p hp=>absurd (show p ∈ ([]:List (Addr × Obj)) from hp) (by simp),e0.hok.kept hk,?_⟩
  · exact name_of_addr x.apart (PySem.mem_of_lookup h1) (PySem.mem_of_lookup h2)
  · have hy:scope.names.lookup y = some .cell∨scope.names.lookup y = some .free:=hy
    rcases hy with hy | hy
    · exact cell_has hy
    · exact absurd rfl (S.nofree _ (PySem.mem_of_lookup hy))
  · exact Nat.le_of_lt (x.above y c (PySem.mem_of_lookup h))
  · have hi:i < vs.length:=by
      unfold start at h2
      by_cases hi:i < vs.length
      · exact hi
      · rw [List.getElem?_append_right (by simpa using hi)] at h2
        rw [List.getElem?_replicate] at h2
        split at h2 <;> cases h2
    have ha:vs[i]? = some v:=by
      unfold start at h2
      rw [List.getElem?_append_left (by simpa using hi),List.getElem?_map] at h2
      cases e:vs[i]? with
      | none=>rw [e] at h2; cases h2
      | some a=>rw [e] at h2; cases h2; rfl
    obtain ⟨u,hu,rv⟩:=r.get ha
    have hp:ps[i]? = some y:=by
      rw [← S.pre,List.getElem?_take_of_lt (by omega)]; exact h1
    have ndP:ps.Nodup:=by rw [← S.pre]; exact S.nd.sublist (List.take_sublist _ _)
    refine ⟨u,rv,?_⟩
    rcases S.par y (List.mem_of_getElem? hp) with k | k
    · exact .inl ⟨k,bindL_get ndP hp hu k⟩
    · obtain ⟨c,e⟩:=cell_has (n:=s.heap.objs.size + 1) k
      refine .inr ⟨.inl k,c,e,?_⟩
      have q:=x.cell y c e
      rw [bindC_get ndP hp hu (by show scope.names.lookup y ≠ _; rw [k]; decide)] at q
      exact q
  · exact e0.hok.fresh (Nat.le_of_lt (x.above y c (PySem.mem_of_lookup h)))
  · unfold start
    show _ = N.length
    rw [List.length_append,List.length_map,List.length_replicate]
    omega
theorem fn_of {CX:CXT} {P:Program} {w:World} {K:PySem.W.Frag} {mg:Str→Option Value} {base:Heap} {k:Nat} {f:Addr} {name qual:Str} {params:Arguments} {body:List Stmt} {scope:Scope} {dV kV doc pm cdv ct oc:Value} {an od:Option Addr}
    {osl:Array (Option Value)} {N ps:List Str} {sp:Sp} (lk:K.lookup f = some ⟨oc,od,.func (PySem.W.fnOf name qual params body scope dV kV doc pm an cdv ct),osl⟩) (hcd:PySem.W.codeIn K cdv qual = true) (S:FnScope N ps scope)
    (len:∀ vs H Q E,sp vs H Q E→vs.length = ps.length)
    (hbody:∀ (A:Around) (outer:List Env) (s:Shared) (H:Hp) (vs:List V) (Q:VK) (E:XK),Room k (A.deeper (envOfC qual scope s.heap.objs.size f cdv))→sp vs H Q E →
      ∃ t,PSs (cxOf CX P w K mg base N qual scope f cdv A outer s H E) body t∧t { nx:=fun _ H'=>Q .non H',rt:=Q } (start N vs) H) :
    FnOk P w K mg base CX (k + 1) f (PySem.W.fnOf name qual params body scope dV kV doc pm an cdv ct) ps sp:=by
  refine ⟨len,fun A outer s H args us vs Q E hr e0 hb r hsp=>?_⟩
  have hl:=len _ _ _ _ hsp
  have KX:K.In s.heap:=e0.mod.kin.keeps fun b o e=>(e0.bs b o e).1
  have lim:s.heap.NoLimit:=e0.mod.nolimit.keeps fun b o e=>(e0.bs b o e).1
  have hkind:∀ y ∈ ps.zip us,scope.names.lookup y.1 = some .local∨(scope.names.lookup y.1 = some .cell∧((cellsFrom (s.heap.objs.size + 1) scope.names []).lookup y.1).isSome = true):=fun ⟨n,v⟩ hy=>by
    rcases S.par n (List.of_mem_zip hy).1 with q | q
    · exact .inl q
    · exact .inr ⟨q,PySem.W.cellsFrom_some _ _ _ (.inl q)⟩
  refine codeAny_call_function hr.depth (KX _ _ lk) rfl S.co S.gen rfl (PySem.W.codeRec_of KX hcd) (hb _ _ _ _ ?_)
  refine wpAny_newFunctionEnv_cells S.kind hkind fun env he s1 x=>?_
  subst he
  refine ⟨lim.keeps x.toInCall.keep,codeAny_func ?_⟩
  obtain ⟨t,ht,hq⟩:=hbody A outer s H vs Q E (hr.deeper _) hsp
  have I:Inv (cxOf CX P w K mg base N qual scope f cdv A outer s H E) [] (start N vs) H s1:=inv_start S hr.hd e0 hl r x
  refine wpAny_mono (ht [] s1 (start N vs) H _ I hq) (fun fl s' hs=>?_) fun e s' hs=>hs
  have fin:∀ {σ' : St} {H' : Hp} {v:V} {u:Value},Inv (cxOf CX P w K mg base N qual scope f cdv A outer s H E) [] σ' H' s'→RelV v u→Q v H'→CE outer P w H s Q u s' :=
    fun {σ' H' v u} J rv q=>⟨v,H',J.os,J.bare,J.base,J.hok,rv,q⟩
  cases fl with
  | ret u =>
    obtain ⟨v,σ',H',J,rv,q⟩:=hs
    exact fin J rv q
  | next =>
    obtain ⟨σ',H',J,q⟩:=hs
    exact fin (v:=V.non) (u:=Value.none) J rfl q
  | brk =>
    obtain ⟨_,_,_,q⟩:=hs
    exact False.elim q
  | cont =>
    obtain ⟨_,_,_,q⟩:=hs
    exact False.elim q
end L2
namespace L2
open PySem PySem.Spec PyProof.Rows
section
variable {X:Cx} {x:Str} {p pos:Pos} {e:Expr} {es:List Expr} {t:TA} {id T:String} {r:List V→Hp→VK→Prop}
def tCB (r:List V→Hp→VK→Prop) (t:TA):TE:=fun σ H Q=>t σ H fun vs H1=>r vs H1 Q
theorem pe_callB (hc:CallR X (.builtin id) r) (hg:Gl X x) (hm:X.mg x = none) (hv:bootBuiltins x = some (.builtin id)) (ha:PA X (e :: es) t) (hn:x ≠ "__name__" := by decide) (hdb:(x == ("__debug__" : Str)) = false:=by decide)
    (he:starEach (e :: es) X.env = (false,eval e X.env) :: starEach es X.env:=by rfl) (hpl:(backTo pos (starEach es X.env)).any (·.1) = false:=by rfl):PE X (.Call (.Name x p) (e :: es) [] pos) (tCB r t):=by
  intro pins s σ H Q I h
  refine wpAny_Call_Name_kw (ld_blt I hg hm hv ?_ hn hdb)
  exact PyProof.Rows.callWith_builtin1 (thn (ha pos pins s σ H _ I h) fun us s1 ⟨vs,H1,I1,r1,q1⟩=>hc pins s1 σ H1 vs us Q I1 r1 q1) he hpl
theorem pe_callTy (hc:CallR X (.type T) r) (hg:Gl X x) (hm:X.mg x = none) (hv:bootBuiltins x = some (.type T)) (ha:PA X (e :: es) t) (hn:x ≠ "__name__" := by decide) (hdb:(x == ("__debug__" : Str)) = false:=by decide)
    (he:starEach (e :: es) X.env = (false,eval e X.env) :: starEach es X.env:=by rfl) (hpl:(backTo pos (starEach es X.env)).any (·.1) = false:=by rfl):PE X (.Call (.Name x p) (e :: es) [] pos) (tCB r t):=by
  intro pins s σ H Q I h
  refine wpAny_Call_Name_kw (ld_blt I hg hm hv ?_ hn hdb)
  exact PyProof.Rows.callWith_type1 (thn (ha pos pins s σ H _ I h) fun us s1 ⟨vs,H1,I1,r1,q1⟩=>hc pins s1 σ H1 vs us Q I1 r1 q1) he hpl
end
end L2
namespace HT
open PySem PyProof.Rows
def lexLt:List Int→List Int→Bool
  | [],[]=>false
  | [],_ :: _=>true
  | _ :: _,[]=>false
  | x :: xs,y :: ys=>if x = y then lexLt xs ys else decide (x < y)
theorem lexLt_cons (x y:Int) (xs ys:List Int):lexLt (x :: xs) (y :: ys) = if x = y then lexLt xs ys else decide (x < y):=rfl
theorem lexLt_nil_nil:lexLt [] [] = false:=rfl
theorem lexLt_nil_cons (y:Int) (ys:List Int):lexLt [] (y :: ys) = true:=rfl
theorem lexLt_cons_nil (x:Int) (xs:List Int):lexLt (x :: xs) [] = false:=rfl
theorem eqAt_int (A:Around) (s:Shared) (a:Int) (t:Tok) (c:Int) (u:Tok):∃ e,SeqAt.EqAt A s (.int a t) (.int c u) e∧(e = true↔a = c) :=
  ⟨(a == c),SeqAt.EqAt.int_int a t c u,by simp⟩
theorem rcLt_int (A:Around) (s:Shared) (a:Int) (t:Tok) (c:Int) (u:Tok) (prog:Program) (w:World) (E:Value→Shared→Prop) (Q:Value→Shared→Prop) (h:Q (.bool (decide (a < c))) s) :
    wpAny (model prog w) A (richCompare .Lt (.int a t) (.int c u)) Q E s :=
  (PyProof.Rows.lt_int h:wpAny (model prog w) A (compareOp .Lt (.int a t) (.int c u)) Q E s)
section
open PySem.SeqAt
open PySem.AutoSeq1 (wpAny_loadPart')
open PySem.MeetsSeq PySem.MeetsSeq2 PySem.MeetsSeq3
theorem tuple_lt_ints (l b:Addr) (items items2:Array Value) (n n2:Nat) (dd dd2:Option Addr) (sl sl2:Array (Option Value)) (ns ms:List Int) (hi:IntsAre items.toList ns) (hj:IntsAre items2.toList ms) :
    Meets (Builtin.«tuple.__lt__» ⟨[.ref l,.ref b],[]⟩)
      (fun _ R s=>s.heap.get? l = some { cls:=.type "tuple",dict:=dd,data:=.seq items n,slots:=sl }∧s.heap.get? b = some { cls:=.type "tuple",dict:=dd2,data:=.seq items2 n2,slots:=sl2 } ∧
        R (.ok (.ret (.bool (lexLt ns ms)))) s) :=
  .of_wp fun prog w A R s h=>by
    obtain ⟨hp,g,d,tk,os⟩:=s; obtain ⟨hl,hb,h⟩:=h
    have f2:=AutoSeq1.sub_tuple_tuple
    have z1:items.size = ns.length:=by rw [← hi.length]; simp
    have z2:items2.size = ms.length:=by rw [← hj.length]; simp
    wp_walk using wpAny_loadPart' hl,wpAny_loadPart' hb,wpAny_forIn_list _ (fun rest b s'=>b.1 = none∧s' = ⟨hp,g,d,tk,os⟩∧∃ (vs ws:List Value) (ns' ms' : List Int),rest = vs.zip ws ∧
      IntsAre vs ns'∧IntsAre ws ms'∧ns'.length + items2.size = ms'.length + items.size∧R (.ok (.ret (.bool (lexLt ns' ms')))) ⟨hp,g,d,tk,os⟩) _
    case turn =>
      rintro ⟨y,x⟩ rest b s' ⟨hb',rfl,vs,ws,ns',ms',hz,hvi,hwi,hlen,hR⟩
      cases hvi with
      | nil=>rw [List.zip_nil_left] at hz; cases hz
      | cons a t hvi' =>
        cases hwi with
        | nil=>rw [List.zip_nil_right] at hz; cases hz
        | cons c u hwi' =>
          rw [List.zip_cons_cons] at hz
          injection hz with hyx hrest
          injection hyx with hy hx
          subst hy hx
          rw [lexLt_cons] at hR
          simp only [List.length_cons] at hlen
          obtain ⟨e,he,hiff⟩:=eqAt_int A.in1 ⟨hp,g,d,tk,os⟩ a t c u
          refine wpAny_bind (he prog w _ _ ?_)
          cases e with
          | true =>
            rw [if_pos (hiff.mp rfl)] at hR
            wp_walk
            exact ⟨rfl,rfl,_,_,_,_,hrest,hvi',hwi',by omega,hR⟩
          | false =>
            rw [if_neg (fun q=>absurd (hiff.mpr q) Bool.false_ne_true)] at hR
            have hri:=rcLt_int A.in1 ⟨hp,g,d,tk,os⟩ a t c u prog w
            wp_walk using hri
            exact ⟨_,rfl,by simpa using hR⟩
    case fin =>
      rintro ⟨b1,b2⟩ s' ⟨hb',rfl,vs,ws,ns',ms',hz,hvi,hwi,hlen,hR⟩
      simp only at hb'
      subst hb'
      have hv:lexLt ns' ms' = decide (items.size < items2.size):=by
        cases hvi with
        | nil =>
          cases hwi with
          | nil =>
            simp only [List.length_nil] at hlen
            rw [lexLt_nil_nil]
            exact (decide_eq_false (by omega)).symm
          | cons c u hw =>
            simp only [List.length_nil,List.length_cons] at hlen
            rw [lexLt_nil_cons]
            exact (decide_eq_true (by omega)).symm
        | cons a t hv =>
          cases hwi with
          | nil =>
            simp only [List.length_nil,List.length_cons] at hlen
            rw [lexLt_cons_nil]
            exact (decide_eq_false (by omega)).symm
          | cons c u hw =>
            rw [List.zip_cons_cons] at hz
            cases hz
      rw [hv] at hR
      wp_walk
      exact ⟨_,rfl,by simpa [Builtin.Tuple.tupleCompareSizes] using hR⟩
    case h =>
      exact ⟨rfl,rfl,items.toList,items2.toList,ns,ms,rfl,hi,hj,by omega,h⟩
end
section
variable {prog:Program} {w:World} {A:Around} {E:Value→Shared→Prop} {s:Shared}
theorem lt_tupInts {l b:Addr} {items items2:Array Value} {ns ms:List Int} {Q:Value→Shared→Prop} (hl:IsTup s.heap l items) (hb:IsTup s.heap b items2) (hi:IntsAre items.toList ns) (hj:IntsAre items2.toList ms)
    (hu:A.units < cLine) (h:Q (.bool (lexLt ns ms)) s):wpAny (model prog w) A (compareOp .Lt (.ref l) (.ref b)) Q E s:=by
  obtain ⟨⟨cls,dd,data,sl⟩,ho,hc,n,hd⟩:=id hl
  obtain ⟨⟨cls2,dd2,data2,sl2⟩,ho2,hc2,n2,hd2⟩:=id hb
  simp only at hc hd hc2 hd2
  subst hc hd hc2 hd2
  exact richCompare_meets_room (op:=.Lt) ⟨_,ho,rfl⟩ ⟨_,ho2,rfl⟩ PySem.F.slot_tuple_lt PySem.F.entry_tuple_lt (PySem.F.args_tuple_lt_2 _ _) (tuple_lt_ints l b items items2 n n2 dd dd2 sl sl2 ns ms hi hj)
    ⟨ho,ho2,show Value.bool (lexLt ns ms) ≠ Value.notImplemented∧Q (.bool (lexLt ns ms)) s from ⟨(fun x=>nomatch x),h⟩⟩ hu
theorem cat_tup {t b:Addr} {vs ws:List Value} {Q:Value→Shared→Prop} (ht:IsTup s.heap t vs.toArray) (hb:IsTup s.heap b ws.toArray) (hv:vs ≠ [])
    (h1:ws = []→Q (.ref t) s) (h2:ws ≠ []→Q (.ref s.heap.objs.size) { s with heap:=s.heap.push { cls:=.type "tuple",data:=.seq (vs ++ ws).toArray } })
    (hsz:vs.length + ws.length ≤ sizeLine):wpAny (model prog w) A (binaryOp .Add (.ref t) (.ref b)) Q E s:=by
  obtain ⟨⟨cls,dd,data,sl⟩,ho,hc,n,hd⟩:=id ht
  obtain ⟨⟨cls2,dd2,data2,sl2⟩,ho2,hc2,n2,hd2⟩:=id hb
  simp only at hc hd hc2 hd2
  subst hc hd hc2 hd2
  have e:vs.toArray ++ ws.toArray = (vs ++ ws).toArray:=by simp
  by_cases hw:ws = []
  · exact concat_meets ⟨_,ho,rfl⟩ ⟨_,ho2,rfl⟩ noFill_tuple_add seq_tuple_add PySem.F.slot_tuple_add PySem.F.entry_tuple_add (PySem.F.args_tuple_add_2 _ _)
      (tuple_addW1 t b vs.toArray ws.toArray n n2 dd dd2 sl sl2 (by simpa using hv) (by simp [hw])) ⟨ho,ho2,h1 hw⟩
  · refine concat_meets ⟨_,ho,rfl⟩ ⟨_,ho2,rfl⟩ noFill_tuple_add seq_tuple_add PySem.F.slot_tuple_add PySem.F.entry_tuple_add (PySem.F.args_tuple_add_2 _ _)
      (tuple_addW2 t b vs.toArray ws.toArray n n2 dd dd2 sl sl2 (by simpa using hv) (by simpa using hw) (by rw [List.size_toArray,List.size_toArray]; exact hsz)) ⟨ho,ho2,?_⟩
    rw [e]
    exact h2 hw
def sIx (n d:Nat):Option Int→Nat
  | none=>d
  | some v=>if v < 0 then (v + (n:Int)).toNat else min v.toNat n
theorem sIx_le (n d:Nat) (hd:d ≤ n) (o:Option Int):sIx n d o ≤ n:=by
  cases o with
  | none=>exact hd
  | some v =>
    show (if v < 0 then (v + (n:Int)).toNat else min v.toNat n) ≤ n
    by_cases hv:v < 0
    · rw [if_pos hv]; omega
    · rw [if_neg hv]; exact Nat.min_le_right _ _
theorem clip_eq (v:Int) (n d:Nat):(if v < 0 then max (v + (n:Int)) 0 else min v (n:Int)) = ((sIx n d (some v):Nat):Int):=by
  show (if v < 0 then max (v + (n:Int)) 0 else min v (n:Int)) = (((if v < 0 then (v + (n:Int)).toNat else min v.toNat n):Nat):Int)
  by_cases hv:v < 0
  · simp only [if_pos hv]; omega
  · simp only [if_neg hv]; omega
theorem adjust_gen (lo hi:Option Int) (n:Nat):Builtin.Slice.sliceAdjust lo hi 1 (n:Int) = (((sIx n 0 lo:Nat):Int),((sIx n n hi:Nat):Int)):=by
  have h1:¬ ((1:Int) < 0):=by omega
  unfold Builtin.Slice.sliceAdjust
  simp only [h1,if_false]
  refine Prod.ext ?_ ?_
  · cases lo with
    | none=>rfl
    | some v=>exact clip_eq v n 0
  · cases hi with
    | none=>rfl
    | some v=>exact clip_eq v n n
theorem places_gen (i j:Nat):Builtin.Slice.slicePlaces (i:Int) (j:Int) 1 = j - i:=by
  unfold Builtin.Slice.slicePlaces
  have h1:(1:Int) > 0:=by omega
  simp only [h1,if_true,Int.ediv_one]
  split <;> omega
theorem slicePart_ {v:Value} {o:Option Int} {Q:Option Int→Shared→Prop} (p:IsPart v o) (h:Q o s):wpAny (model prog w) A (Builtin.Slice.slicePartIndex v) Q E s:=by
  cases p with
  | none=>exact slicePart_none h
  | int i t=>exact slicePart_int h
theorem sliceApplied_gen {sl:Addr} {vl vu:Value} {lo hi:Option Int} {n:Nat} {Q:Int × Int × Nat→Shared→Prop} (hs:s.heap.IsSliceOf sl vl vu .none) (pl:IsPart vl lo) (pu:IsPart vu hi)
    (h:Q (((sIx n 0 lo:Nat):Int),1,sIx n n hi - sIx n 0 lo) s):wpAny (model prog w) A (Builtin.Slice.sliceApplied (.ref sl) (pure (n:Int))) Q E s:=by
  obtain ⟨os,hos,hcs,hds⟩:=id hs
  unfold Builtin.Slice.sliceApplied Builtin.Slice.sliceFields
  refine wpAny_bind (wpAny_bind (wpAny_field hos hds (x:=vl) rfl (wpAny_bind (wpAny_field hos hds (x:=vu) rfl (wpAny_bind (wpAny_field hos hds (x:=.none) rfl (wpAny_pure ?_)))))))
  refine wpAny_bind (slicePart_none ?_)
  show wpAny _ _ (if ((1:Int) == 0) = true then _ else _) _ _ s
  rw [if_neg (by decide)]
  refine wpAny_bind (slicePart_ pl (wpAny_bind (slicePart_ pu (wpAny_bind (wpAny_pure ?_)))))
  show wpAny _ _ (match Builtin.Slice.sliceAdjust lo hi 1 (n:Int) with | (lo,hi)=>pure (lo,(1:Int),Builtin.Slice.slicePlaces lo hi 1)) _ _ s
  rw [adjust_gen lo hi n]
  show wpAny _ _ (pure (((sIx n 0 lo:Nat):Int),(1:Int),Builtin.Slice.slicePlaces ((sIx n 0 lo:Nat):Int) ((sIx n n hi:Nat):Int) 1)) _ _ s
  rw [places_gen]
  exact wpAny_pure h
theorem pick_gen (xs:Array Value) (i k:Nat):((List.range k).filterMap fun (m:Nat)=>xs[((i:Int) + (m:Int) * 1).toNat]?).toArray = ((xs.toList.drop i).take k).toArray:=by
  have e:(fun (m:Nat)=>xs[((i:Int) + (m:Int) * 1).toNat]?) = fun m=>xs[i + m]?:=by
    funext m
    have:((i:Int) + (m:Int) * 1).toNat = i + m:=by omega
    rw [this]
  rw [e]
  have:=pick_run xs i k
  rw [List.filterMap_map] at this
  have e2:((fun x=>xs[x]?) ∘ fun x=>i + x) = fun m=>xs[i + m]?:=rfl
  rw [e2] at this
  rw [this]
theorem getItem_tuple_cut {t sl:Addr} {items:Array Value} {vl vu:Value} {lo hi:Option Int} {Q:Value→Shared→Prop} (ht:IsTup s.heap t items) (hs:s.heap.IsSliceOf sl vl vu .none) (pl:IsPart vl lo) (pu:IsPart vu hi)
    (hw:¬ (sIx items.size 0 lo = 0∧sIx items.size items.size hi = items.size))
    (h:Q (.ref s.heap.objs.size) { s with heap:=s.heap.push { cls:=.type "tuple",data:=.seq ((items.toList.drop (sIx items.size 0 lo)).take (sIx items.size items.size hi - sIx items.size 0 lo)).toArray } })
    (hsz:items.size ≤ sizeLine):wpAny (model prog w) A (getItem (.ref t) (.ref sl)) Q E s:=by
  have htake:sizeOk (.seq ((items.toList.drop (sIx items.size 0 lo)).take (sIx items.size items.size hi - sIx items.size 0 lo)).toArray):=by
    show ((items.toList.drop (sIx items.size 0 lo)).take (sIx items.size items.size hi - sIx items.size 0 lo)).toArray.size ≤ sizeLine
    rw [List.size_toArray,List.length_take,List.length_drop,Array.length_toList]
    omega
  have hj:sIx items.size items.size hi ≤ items.size:=sIx_le _ _ (Nat.le_refl _) hi
  obtain ⟨os,hos,hcs,hds⟩:=id hs
  have hTs:s.TypeIs (.ref sl) "slice" := ⟨os,hos,hcs⟩
  unfold getItem
  try with_reducible refine wpAny_holding ?_
  first | refine wpAny_bind (wpAny_pure ?_) | skip
  refine wpAny_bind (wpAny_sequenceKey ht.typeIs (by decide) ?_)
  refine wpAny_bind (wpAny_callSpecial?_slot (name:=Str.ofString "__getitem__") ht.typeIs PyProof.Rows.slot_tuple_getitem
    (wpAny_call_entry PyProof.Rows.slot_tuple_getitem ht.typeIs entry_tuple_getitem ?_ (args_tuple_getitem _ _)))
  show wpAny _ _ (Builtin.Tuple.tupleItemsOf (.ref t) >>= _) _ _ s
  refine wpAny_bind (tupleItemsOf_ ht ?_)
  refine wpAny_bind (wpAny_typeOf hTs ?_)
  rw [if_pos (by decide)]
  refine wpAny_bind (sliceApplied_gen hs pl pu ?_)
  have hno:¬ ((((sIx items.size 0 lo:Nat):Int) == 0 && (1:Int) == 1 && (sIx items.size items.size hi - sIx items.size 0 lo) == items.size) = true):=by
    intro q
    rw [Bool.and_eq_true,Bool.and_eq_true] at q
    have q1:((sIx items.size 0 lo:Nat):Int) = 0:=eq_of_beq q.1.1
    have q2:sIx items.size items.size hi - sIx items.size 0 lo = items.size:=eq_of_beq q.2
    exact hw ⟨by omega,by omega⟩
  show wpAny _ _ (if (((sIx items.size 0 lo:Nat):Int) == 0 && (1:Int) == 1 && (sIx items.size items.size hi - sIx items.size 0 lo) == items.size) = true then _ else _) _ _ s
  rw [if_neg hno,pick_gen]
  first
    | exact wpAny_bind (m:=Builtin.Tuple.tupleExact _) (wpAny_newObj_type (wpAny_pure ⟨_,rfl,wpAny_pure h⟩) htake)
    | exact wpAny_bind (m:=Builtin.Tuple.tupleExact _) (wpAny_newObj_type (wpAny_bind (wpAny_pure (wpAny_pure ⟨_,rfl,wpAny_pure h⟩))) htake)
    | exact wpAny_bind (wpAny_bind (m:=Builtin.Tuple.tupleExact _) (wpAny_newObj_type (wpAny_pure (wpAny_pure ⟨_,rfl,wpAny_pure h⟩)) htake))
    | exact wpAny_bind (wpAny_bind (m:=Builtin.Tuple.tupleExact _) (wpAny_newObj_type (wpAny_pure ⟨_,rfl,wpAny_pure h⟩) htake))
end
end HT
namespace L2
open PySem PySem.Spec PyProof.Rows
abbrev TO:=St→Hp→(Option Int→Hp→Prop)→Prop
def PO (X:Cx) (e:Option Expr) (t:TO):Prop :=
  ∀ (pins:List (Addr × Obj)) (s:Shared) (σ:St) (H:Hp) (Q:Option Int→Hp→Prop),Inv X pins σ H s→t σ H Q →
    wpAny (model X.prog X.w) X.A (evalPart e X.env) (fun u s'=>∃ o H',Inv X pins σ H' s'∧IsPart u o∧Q o H') X.xe s
def tNoPart:TO:=fun _ H Q=>Q none H
def tPart (t:TE):TO:=fun σ H Q=>t σ H fun x H1=>∃ i,x = .int i∧Q (some i) H1
theorem intsAre_of {ns:List Int} : ∀ {us:List Value},Vals (ns.map V.int) us→IntsAre us ns:=by
  induction ns with
  | nil=>intro us r; rw [List.map_nil] at r; cases r; exact .nil
  | cons n ns ih =>
    intro us r
    rw [List.map_cons] at r
    cases r with
    | cons r1 r2 =>
      obtain ⟨t,e⟩:=r1
      subst e
      exact .cons n t (ih r2)
section
variable {X:Cx} {e:Expr} {te:TE} {lo hi:Option Expr} {tl th:TO} {pos p2:Pos}
theorem po_none:PO X none tNoPart:=by
  intro pins s σ H Q I h
  rw [evalPart_none]
  exact wpAny_pure ⟨none,H,I,.none,h⟩
theorem po_some (h:PE X e te):PO X (some e) (tPart te):=by
  intro pins s σ H Q I hw
  rw [evalPart_some]
  refine thn (h pins s σ H _ I hw) fun u s1 ⟨x,H1,I1,r1,q1⟩=>?_
  obtain ⟨i,rfl,q⟩:=q1
  obtain ⟨t,rfl⟩:=r1
  exact ⟨some i,H1,I1,.int i t,q⟩
def SlR (X:Cx) (r:V→Option Int→Option Int→Hp→VK→Prop):Prop :=
  ∀ (pins:List (Addr × Obj)) (s:Shared) (σ:St) (H:Hp) (x:V) (v vl vu:Value) (lo hi:Option Int) (sl:Addr) (Q:VK),Inv X pins σ H s→RelV x v→s.heap.IsSliceOf sl vl vu .none→IsPart vl lo→IsPart vu hi→r x lo hi H Q →
    ∃ T id,typeLookup (.type T) "__getitem__" = pure (some (.builtin id))∧s.TypeIs v T∧wpAny (model X.prog X.w) X.A (getItem v (.ref sl)) (EP X pins σ Q) X.xe s
def tSl (r:V→Option Int→Option Int→Hp→VK→Prop) (te:TE) (tl th:TO):TE:=fun σ H Q=>te σ H fun x H1=>tl σ H1 fun l H2=>th σ H2 fun u H3=>r x l u H3 Q
theorem pe_slice {r:V→Option Int→Option Int→Hp→VK→Prop} (hr:SlR X r) (he:PE X e te) (hl:PO X lo tl) (hu:PO X hi th):PE X (.Subscript e (.Slice lo hi none p2) pos) (tSl r te tl th):=by
  intro pins s σ H Q I h
  refine Subscript_ (thn (he pins s σ H _ I h) fun v s1 ⟨x,H1,I1,r1,q1⟩=>?_)
  refine wpAny_Slice (thn (hl pins s1 σ H1 _ I1 q1) fun vl s2 ⟨l,H2,I2,pl,q2⟩=>thn (hu pins s2 σ H2 _ I2 q2) fun vu s3 ⟨u,H3,I3,pu,q3⟩=>?_)
  rw [evalPart_none]
  refine wpAny_pure ?_
  have I4:Inv X pins σ H3 { s3 with heap:=s3.heap.push { cls:=.type "slice",data:=.fields #[vl,vu,.none] } }:=I3.kept (t':=s3.toks) fun b ob q=>Heap.get?_push_of_some _ q
  obtain ⟨T,id,hT,ht,hg⟩:=hr pins { s3 with heap:=s3.heap.push { cls:=.type "slice",data:=.fields #[vl,vu,.none] } } σ H3 x v vl vu l u s3.heap.objs.size Q I4 r1 (Heap.IsSliceOf.new ..) pl pu q3
  show wpAny (model X.prog X.w) X.A (subscriptTail e (.Slice lo hi none p2) v (.ref s3.heap.objs.size)) (EP X pins σ Q) X.xe { s3 with heap:=s3.heap.push { cls:=.type "slice",data:=.fields #[vl,vu,.none] } }
  exact tail_any (ops:=[.ref s3.heap.objs.size,v]) ht hT hg (by with_unfolding_all rfl)
def cutV (xs:List V) (lo hi:Option Int):List V:=(xs.drop (HT.sIx xs.length 0 lo)).take (HT.sIx xs.length xs.length hi - HT.sIx xs.length 0 lo)
theorem cutV_length (xs:List V) (lo hi:Option Int):(cutV xs lo hi).length ≤ xs.length:=by
  unfold cutV
  rw [List.length_take,List.length_drop]
  omega
def rSlT (K:PySem.W.Frag):V→Option Int→Option Int→Hp→VK→Prop:=fun x lo hi H Q=>∃ a xs,x = .ref a∧SqT K H a xs ∧
  ¬ (HT.sIx xs.length 0 lo = 0∧HT.sIx xs.length xs.length hi = xs.length)∧∀ p,H p = none→Q (.ref p) (upd H p (.tup (cutV xs lo hi)))
theorem sl_tup:SlR X (rSlT X.K):=by
  intro pins s σ H x v vl vu lo hi sl Q I rx hs pl pu h
  obtain ⟨a,xs,rfl,hx,hw,q⟩:=h
  cases rx
  obtain ⟨its,r,ht,hz⟩:=I.tuple hx
  have hlen:its.toArray.size = xs.length:=by rw [List.size_toArray]; exact r.length.symm
  refine ⟨"tuple",_,PyProof.Rows.slot_tuple_getitem.lookup,ht.typeIs,?_⟩
  refine HT.getItem_tuple_cut ht hs pl pu (by rw [hlen]; exact hw) ?_ (by rw [hlen]; exact hz)
  rw [hlen]
  refine ⟨.ref s.heap.objs.size,_,I.laid (t':=s.toks) (o:=.tup (cutV xs lo hi)) (fun b ob q=>Heap.get?_push_of_some _ q) (Nat.le_refl _) ?_,rfl,q _ (I.hok.fresh (Nat.le_refl _))⟩
  exact ⟨Nat.le_trans (cutV_length xs lo hi) hz,_,(r.drop (HT.sIx xs.length 0 lo)).take (HT.sIx xs.length xs.length hi - HT.sIx xs.length 0 lo),IsTup.new _ _⟩
def rLtT (K:PySem.W.Frag):R2:=fun x y H Q=>∃ a b ns ms,x = .ref a∧y = .ref b∧SqT K H a (ns.map V.int)∧SqT K H b (ms.map V.int)∧Q (.bl (HT.lexLt ns ms)) H
def rCatT (K:PySem.W.Frag):R2:=fun x y H Q=>∃ a b xs ys,x = .ref a∧y = .ref b∧SqT K H a xs∧SqT K H b ys∧xs ≠ []∧xs.length + ys.length ≤ sizeLine ∧
  (ys = []→Q (.ref a) H)∧(ys ≠ []→∀ p,H p = none→Q (.ref p) (upd H p (.tup (xs ++ ys))))
theorem Vals.nil_iff {xs:List V} {us:List Value} (r:Vals xs us):us = []↔xs = []:=by
  cases r with
  | nil=>simp
  | cons _ _=>simp
theorem op_catT:OpR X (binaryOp .Add) (rCatT X.K):=by
  intro pins s σ H x y v u Q I rx ry h
  obtain ⟨a,b,xs,ys,rfl,rfl,ha,hb,hx,hz,q1,q2⟩:=h
  cases rx
  cases ry
  obtain ⟨its,r1,p1,_⟩:=I.tuple ha
  obtain ⟨its2,r2,p2,_⟩:=I.tuple hb
  refine HT.cat_tup p1 p2 (fun z=>hx (r1.nil_iff.mp z)) (fun z=>⟨.ref a,H,I,rfl,q1 (r2.nil_iff.mp z)⟩) (fun z=>?_) (by rw [← r1.length,← r2.length]; exact hz)
  refine ⟨.ref s.heap.objs.size,_,I.laid (t':=s.toks) (o:=.tup (xs ++ ys)) (fun b ob q=>Heap.get?_push_of_some _ q) (Nat.le_refl _) ?_,rfl,q2 (fun w=>z (r2.nil_iff.mpr w)) _ (I.hok.fresh (Nat.le_refl _))⟩
  exact ⟨by rw [List.length_append]; exact hz,_,r1.append r2,IsTup.new _ _⟩
end
end L2
namespace L2
open PySem PySem.Spec PyProof.Rows
def ixN (n:Nat) (i:Int):Option Nat:=if 0 ≤ i then (if i < n then some i.toNat else none) else if -(n:Int) ≤ i then some (i + n).toNat else none
def atI {α:Type} (xs:List α) (i:Int):Option α:=(ixN xs.length i).bind fun j=>xs[j]?
theorem ixN_seq {n:Nat} {i:Int} {j:Nat} (h:ixN n i = some j):seqIndex? i n = some j∧j < n∧-(n:Int) ≤ i∧i < n:=by
  unfold ixN at h
  by_cases h0:0 ≤ i
  · rw [if_pos h0] at h
    by_cases h1:i < n
    · rw [if_pos h1] at h
      have e:i.toNat = j:=Option.some.inj h
      exact ⟨by rw [seqIndex_of h0 h1,e],by omega,by omega,h1⟩
    · rw [if_neg h1] at h; cases h
  · rw [if_neg h0] at h
    by_cases h1 : -(n:Int) ≤ i
    · rw [if_pos h1] at h
      have e:(i + n).toNat = j:=Option.some.inj h
      exact ⟨by rw [seqIndex_neg (by omega) h1,e],by omega,h1,by omega⟩
    · rw [if_neg h1] at h; cases h
theorem atI_get {α:Type} {xs:List α} {i:Int} {v:α} (h:atI xs i = some v):∃ j,seqIndex? i xs.length = some j∧xs[j]? = some v∧j < xs.length∧-(xs.length:Int) ≤ i∧i < xs.length:=by
  unfold atI at h
  cases e:ixN xs.length i with
  | none=>rw [e] at h; cases h
  | some j =>
    rw [e] at h
    obtain ⟨h1,h2,h3,h4⟩:=ixN_seq e
    exact ⟨j,h1,h,h2,h3,h4⟩
theorem atI_nat {α:Type} {xs:List α} {j:Nat} {v:α} (h:xs[j]? = some v):atI xs (j:Int) = some v:=by
  have hj:j < xs.length:=(List.getElem?_eq_some_iff.mp h).1
  have e:ixN xs.length (j:Int) = some j:=by
    unfold ixN
    rw [if_pos (by omega),if_pos (by omega)]; simp
  unfold atI; rw [e]; exact h
theorem atI_last {α:Type} (xs:List α) (v:α):atI (xs ++ [v]) (-1) = some v:=by
  have hl:(xs ++ [v]).length = xs.length + 1:=by simp
  have e:ixN (xs ++ [v]).length (-1) = some xs.length:=by
    unfold ixN
    rw [hl,if_neg (by decide),if_pos (by omega)]
    congr 1
    omega
  unfold atI
  rw [e]
  show (xs ++ [v])[xs.length]? = some v
  simp
def PlainIx (b:Expr):Prop:=∀ o i,subscripted b false o i = operate [o,i] (getItem o i)
def IxR (X:Cx) (r:R2):Prop :=
  ∀ (value slice:Expr) (pins:List (Addr × Obj)) (s:Shared) (σ:St) (H:Hp) (x y:V) (v u:Value) (Q:VK),Inv X pins σ H s→RelV x v→RelV y u→r x y H Q →
    subscripted slice false v u = operate [v,u] (getItem v u)→wpAny (model X.prog X.w) X.A (subscriptTail value slice v u) (EP X pins σ Q) X.xe s
def MtR (X:Cx) (id:String) (r:V→List V→Hp→VK→Prop):Prop :=
  ∀ (pins:List (Addr × Obj)) (s:Shared) (σ:St) (H:Hp) (x:V) (xs:List V) (v:Value) (us:List Value) (Q:VK),Inv X pins σ H s→RelV x v→Vals xs us→r x xs H Q →
    wpAny (model X.prog X.w) X.A (call (.builtin id) (v :: us)) (EP X pins σ Q) X.xe s
section
variable {X:Cx} {a b:Expr} {ta tb:TE} {pos:Pos}
theorem pe_ix {r:R2} (hr:IxR X r) (ha:PE X a ta) (hb:PE X b tb) (hs:PlainIx b):PE X (.Subscript a b pos) (tOp r ta tb):=by
  intro pins s σ H Q I h
  exact Subscript_ (binT ha hb I h fun v u s2 x y H2 I2 rx ry q=>hr a b pins s2 σ H2 x y v u Q I2 rx ry q (hs _ _))
def rIxL (K:PySem.W.Frag):R2:=fun x y H Q=>∃ p xs i v,x = .ref p∧y = .int i∧SqL K H p xs∧atI xs i = some v∧Q v H
def rIxT (K:PySem.W.Frag):R2:=fun x y H Q=>∃ p xs i v,x = .ref p∧y = .int i∧SqT K H p xs∧atI xs i = some v∧Q v H
def rIxS:R2:=fun x y H Q=>∃ z i c,x = .str z∧y = .int i∧z.length ≤ sizeLine∧atI z.cps.toList i = some c∧Q (.str ⟨#[c]⟩) H
theorem ix_list:IxR X (rIxL X.K):=by
  intro value slice pins s σ H x y v u Q I rx ry h hs
  obtain ⟨p,xs,i,z,rfl,rfl,hq,he,q⟩:=h
  cases rx
  obtain ⟨t,rfl⟩:=ry
  obtain ⟨its,r,pl,hz⟩:=I.list hq
  obtain ⟨j,h1,h2,h3,h4,h5⟩:=atI_get he
  obtain ⟨w,ew,rw'⟩:=r.get h2
  have hl:=r.length
  have hn:=line63
  have fin:EP X pins σ Q w s:=⟨z,H,I,rw',q⟩
  by_cases h0:0 ≤ i
  · have hj:i.toNat = j:=by
      rw [seqIndex_of h0 h5] at h1
      exact Option.some.inj h1
    exact item_listR pl.isList h0 (by omega) (by rw [hj]; simpa using ew) fin hs
  · have hj:(i + (its.toArray.size:Int)).toNat = j:=by
      rw [seqIndex_neg (by omega) h4] at h1
      rw [List.size_toArray,← hl]
      exact Option.some.inj h1
    exact subscriptTail_builtinR (x:=w) pl.isList.typeIs slot_list_getitem.lookup
      (wpAny_getItem_list_neg (Q:=fun r s'=>r = w∧EP X pins σ Q r s') pl.isList (by omega) (by rw [List.size_toArray] <;> omega) (by omega) (by rw [hj]; simpa using ew) ⟨rfl,fin⟩) hs
theorem ix_tup:IxR X (rIxT X.K):=by
  intro value slice pins s σ H x y v u Q I rx ry h hs
  obtain ⟨p,xs,i,z,rfl,rfl,hq,he,q⟩:=h
  cases rx
  obtain ⟨t,rfl⟩:=ry
  obtain ⟨its,r,pl,hz⟩:=I.tuple hq
  obtain ⟨j,h1,h2,h3,h4,h5⟩:=atI_get he
  obtain ⟨w,ew,rw'⟩:=r.get h2
  have hl:=r.length
  have hn:=line63
  have fin:EP X pins σ Q w s:=⟨z,H,I,rw',q⟩
  exact subscriptTail_builtinR (x:=w) pl.typeIs slot_tuple_getitem.lookup
    (getItem_tuple (j:=j) (Q:=fun r s'=>r = w∧EP X pins σ Q r s') pl (by omega) (by omega) (by rw [List.size_toArray,← hl]; exact h1) (by simpa using ew) ⟨rfl,fin⟩) hs
def rIx (K:PySem.W.Frag):R2:=fun x y H Q=>rIxL K x y H Q∨rIxT K x y H Q∨rIxS x y H Q
theorem mapSeq_set (its:List Value) (n j:Nat) (u:Value):Obj.mapSeq (·.setIfInBounds j u) { cls:=.type "list",data:=.seq its.toArray n } = { cls:=.type "list",data:=.seq (its.set j u).toArray n }:=by
  simp [Obj.mapSeq]
theorem Inv.lst {pins:List (Addr × Obj)} {σ:St} {H:Hp} {s:Shared} {p:Addr} {xs:List V} (I:Inv X pins σ H s) (h:H p = some (.lst xs)) :
    ∃ (its:List Value) (n:Nat),Vals xs its∧s.heap.get? p = some { cls:=.type "list",data:=.seq its.toArray n }∧xs.length ≤ sizeLine:=by
  obtain ⟨z,its,n,r,e⟩:=I.hok p _ h
  exact ⟨its,n,r,e,z⟩
theorem Inv.lstUpd {pins:List (Addr × Obj)} {σ:St} {H:Hp} {s:Shared} {p:Addr} {xs ys:List V} {its its' : List Value} {n n' : Nat} {f:Obj→Obj} (I:Inv X pins σ H s) (h:H p = some (.lst xs))
    (ho:s.heap.get? p = some { cls:=.type "list",data:=.seq its.toArray n }) (hf:f { cls:=.type "list",data:=.seq its.toArray n } = { cls:=.type "list",data:=.seq its'.toArray n' }) (r:Vals ys its') (hz:ys.length ≤ sizeLine) (t:Nat) :
    Inv X pins σ (upd H p (.lst ys)) { s with heap:=s.heap.update p f,toks:=t }:=by
  have e:(s.heap.update p f).get? p = some { cls:=.type "list",data:=.seq its'.toArray n' }:=by
    rw [Heap.get?_update_self f ho (by rw [hf] <;> rfl),hf]
  refine I.write (x:=p) (e:=p) (by rw [h]; trivial) (.inl rfl) (fun b u hb q=>(Heap.get?_update_other _ _ (Ne.symm hb)).trans q) ⟨_,e⟩ ?_
  exact ⟨hz,its',n',r,e⟩
def rSetL:V→V→V→Hp→(Hp→Prop)→Prop:=fun o i v H Q=>∃ p xs k j,o = .ref p∧i = .int k∧H p = some (.lst xs)∧ixN xs.length k = some j∧Q (upd H p (.lst (xs.set j v)))
theorem set_list:PSet X rSetL:=by
  intro pins s σ H o i v ov iv u Q I ro ri rv h
  obtain ⟨p,xs,k,j,rfl,rfl,hp,hj,q⟩:=h
  cases ro
  obtain ⟨t,rfl⟩:=ri
  obtain ⟨its,n,r,ho,hz⟩:=I.lst hp
  obtain ⟨h1,h2,h3,h4⟩:=ixN_seq hj
  have hl:=r.length
  have hn:=line63
  have I' : Inv X pins σ (upd H p (.lst (xs.set j v))) { s with heap:=s.heap.update p (Obj.mapSeq (·.setIfInBounds j u)) } :=
    I.lstUpd hp ho (mapSeq_set its n j u) (r.set rv j) (by rw [List.length_set]; exact hz) s.toks
  by_cases h0:0 ≤ k
  · have hk:k.toNat = j:=by
      rw [seqIndex_of h0 h4] at h1
      exact Option.some.inj h1
    exact PySem.W.ki_setAt ho h0 (by omega) (by rw [List.size_toArray,← hl]; exact h4) (by rw [hk]; exact ⟨_,I',q⟩)
  · have hk:(k + (its.toArray.size:Int)).toNat = j:=by
      rw [seqIndex_neg (by omega) h3] at h1
      rw [List.size_toArray,← hl]
      exact Option.some.inj h1
    exact PySem.W.ki_setBack ho (by omega) (by rw [List.size_toArray,← hl]; exact h3) (by omega) (by rw [hk]; exact ⟨_,I',q⟩)
theorem slice_bounds (lo hi:Option Int) (n:Nat):(sliceBounds lo hi none n).1 = ((HT.sIx n 0 lo:Nat):Int)∧(sliceBounds lo hi none n).2.1 = ((HT.sIx n n hi:Nat):Int)∧(sliceBounds lo hi none n).2.2 = 1:=by
  refine ⟨?_,?_,rfl⟩
  · cases lo with
    | none=>simp [sliceBounds,HT.sIx]
    | some i =>
      simp only [sliceBounds,HT.sIx,Option.getD_none,show (1:Int) > 0 by decide,if_true]
      by_cases h:i < 0
      · simp only [h,if_true] <;> omega
      · simp only [h,if_false] <;> omega
  · cases hi with
    | none=>simp [sliceBounds,HT.sIx]
    | some i =>
      simp only [sliceBounds,HT.sIx,Option.getD_none,show (1:Int) > 0 by decide,if_true]
      by_cases h:i < 0
      · simp only [h,if_true] <;> omega
      · simp only [h,if_false] <;> omega
theorem slicePick_cut (its:List Value) (lo hi:Option Int):slicePick its.toArray lo hi none = ((its.drop (HT.sIx its.length 0 lo)).take (HT.sIx its.length its.length hi - HT.sIx its.length 0 lo)).toArray:=by
  obtain ⟨h1,h2,h3⟩:=slice_bounds lo hi its.toArray.size
  unfold slicePick
  rw [h1,h2,h3]
  simp only [sliceRange_one,pick_run,List.size_toArray] <;> rfl
def rSlL (K:PySem.W.Frag):V→Option Int→Option Int→Hp→VK→Prop:=fun x lo hi H Q=>∃ a xs,x = .ref a∧SqL K H a xs∧∀ p,H p = none→Q (.ref p) (upd H p (.lst (cutV xs lo hi)))
theorem sl_list:SlR X (rSlL X.K):=by
  intro pins s σ H x v vl vu lo hi sl Q I rx hs pl pu h
  obtain ⟨a,xs,rfl,hx,q⟩:=h
  cases rx
  obtain ⟨its,r,ht,hz⟩:=I.list hx
  have hlen:=r.length
  refine ⟨"list",_,slot_list_getitem.lookup,ht.isList.typeIs,?_⟩
  refine wpAny_getItem_list_slice ht.isList hs pl pu .none (by simp) ?_ (by rw [List.size_toArray] <;> omega)
  rw [slicePick_cut,← hlen]
  refine ⟨.ref s.heap.objs.size,_,I.laid (t':=s.toks) (o:=.lst (cutV xs lo hi)) (fun b ob q=>Heap.get?_push_of_some _ q) (Nat.le_refl _) ?_,rfl,q _ (I.hok.fresh (Nat.le_refl _))⟩
  exact ⟨Nat.le_trans (cutV_length xs lo hi) hz,_,0,(r.drop (HT.sIx xs.length 0 lo)).take (HT.sIx xs.length xs.length hi - HT.sIx xs.length 0 lo),Heap.get?_push_size _ rfl⟩
def flatV:V→Bool
  | .non=>true
  | .bl _=>true
  | .int _=>true
  | .str _=>true
  | _=>false
def eqV:V→V→Bool
  | .non,.non=>true
  | .bl a,.bl b=>a == b
  | .bl a,.int b=>(if a then 1 else 0) == b
  | .int a,.bl b=>a == (if b then 1 else 0)
  | .int a,.int b=>a == b
  | .str a,.str b=>a == b
  | _,_=>false
theorem eqAt_V {A:Around} {s:Shared} {y x:V} {u v:Value} (ry:RelV y u) (rx:RelV x v) (fy:flatV y = true) (fx:flatV x = true):SeqAt.EqAt A s u v (eqV y x):=by
  cases y with
  | non =>
    cases ry
    cases x with
    | non=>cases rx; exact SeqAt.EqAt.same _
    | bl b=>cases rx; exact SeqAt.EqAt.none_bool b
    | int b=>obtain ⟨t,rfl⟩:=rx; exact SeqAt.EqAt.none_int b t
    | str b=>obtain ⟨t,rfl⟩:=rx; exact SeqAt.EqAt.none_str b t
    | _=>exact absurd (show false = true from fx) Bool.false_ne_true
  | bl a =>
    cases ry
    cases x with
    | non=>cases rx; exact SeqAt.EqAt.bool_none a
    | bl b=>cases rx; exact SeqAt.EqAt.bool_bool a b
    | int b=>obtain ⟨t,rfl⟩:=rx; exact SeqAt.EqAt.bool_int a b t
    | str b=>obtain ⟨t,rfl⟩:=rx; exact SeqAt.EqAt.bool_str a b t
    | _=>exact absurd (show false = true from fx) Bool.false_ne_true
  | int a =>
    obtain ⟨t',rfl⟩:=ry
    cases x with
    | non=>cases rx; exact SeqAt.EqAt.int_none a t'
    | bl b=>cases rx; exact SeqAt.EqAt.int_bool a t' b
    | int b=>obtain ⟨t,rfl⟩:=rx; exact SeqAt.EqAt.int_int a t' b t
    | str b=>obtain ⟨t,rfl⟩:=rx; exact SeqAt.EqAt.int_str a t' b t
    | _=>exact absurd (show false = true from fx) Bool.false_ne_true
  | str a =>
    obtain ⟨t',rfl⟩:=ry
    cases x with
    | non=>cases rx; exact SeqAt.EqAt.str_none a t'
    | bl b=>cases rx; exact SeqAt.EqAt.str_bool a t' b
    | int b=>obtain ⟨t,rfl⟩:=rx; exact SeqAt.EqAt.str_int a t' b t
    | str b=>obtain ⟨t,rfl⟩:=rx; exact SeqAt.EqAt.str_str a t' b t
    | _=>exact absurd (show false = true from fx) Bool.false_ne_true
  | _=>exact absurd (show false = true from fy) Bool.false_ne_true
def eqU (x:V) (u:Value):Bool:=match u with
  | .none=>eqV .non x
  | .bool b=>eqV (.bl b) x
  | .int i _=>eqV (.int i) x
  | .str z _=>eqV (.str z) x
  | _=>false
def inV (x:V) (xs:List V):Bool:=xs.any fun y=>eqV y x
def rIn (K:PySem.W.Frag) (neg:Bool):R2:=fun x y H Q=>∃ p xs,y = .ref p∧(SqL K H p xs∨SqT K H p xs)∧flatV x = true∧xs.all flatV = true∧Q (.bl (if neg then !inV x xs else inV x xs)) H
theorem call_len_seq:CallR X (.builtin "len") (fun xs H Q=>∃ p ys,xs = [.ref p]∧(SqL X.K H p ys∨SqT X.K H p ys)∧Q (.int ys.length) H):=by
  intro pins s σ H xs us Q I r h
  obtain ⟨p,ys,rfl,hq,q⟩:=h
  obtain ⟨u,rfl,rx⟩:=vals1 r
  cases rx
  have hn:=line63
  rcases hq with hq | hq
  · obtain ⟨its,r',pl,hz⟩:=I.list hq
    have hlen:=r'.length
    exact Calls.call_len_list pl.isList (by simp only [List.size_toArray] <;> omega) ⟨.int ys.length,H,I.tok _,⟨s.toks + 1,by rw [List.size_toArray,hlen]⟩,q⟩
  · obtain ⟨its,r',pl,hz⟩:=I.tuple hq
    have hlen:=r'.length
    exact len_tuple pl (by simp only [List.size_toArray] <;> omega) ⟨.int ys.length,H,I.tok _,⟨s.toks + 1,by rw [List.size_toArray,hlen]⟩,q⟩
theorem call_list_of:CallR X (.type "list") (fun xs H Q=>∃ p ys,xs = [.ref p]∧(SqL X.K H p ys∨SqT X.K H p ys)∧∀ l,H l = none→Q (.ref l) (upd H l (.lst ys))):=by
  intro pins s σ H xs us Q I r h
  obtain ⟨p,ys,rfl,hq,q⟩:=h
  obtain ⟨u,rfl,rx⟩:=vals1 r
  cases rx
  have fin:∀ (its:List Value),Vals ys its→ys.length ≤ sizeLine→∀ (h' : Heap) (c' : Nat),(∀ b o',s.heap.get? b = some o'→h'.get? b = some o') →
      h'.get? s.heap.objs.size = some { cls:=.type "list",dict:=none,data:=.seq its.toArray c',slots:=#[] }→EP X pins σ Q (.ref s.heap.objs.size) { s with heap:=h' }:=fun its r' hz h' c' kp e =>
    ⟨.ref s.heap.objs.size,_,I.laid (t':=s.toks) kp (Nat.le_refl _) (show ObjOk X.prog X.w _ h' _ (.lst ys) from ⟨hz,its,c',r',e⟩),rfl,q _ (I.hok.fresh (Nat.le_refl _))⟩
  rcases hq with hq | hq
  · obtain ⟨its,r',pl,hz⟩:=I.list hq
    have hlen:=r'.length
    obtain ⟨o,ho,hc,n,hd⟩:=pl.isList
    exact call_list_seq p (.inl rfl) ho hc hd (fun h' c' kp e=>fin its r' hz h' c' kp e) (by simp only [List.size_toArray] <;> omega)
  · obtain ⟨its,r',pl,hz⟩:=I.tuple hq
    have hlen:=r'.length
    obtain ⟨o,ho,hc,n,hd⟩:=pl
    exact call_list_seq p (.inr rfl) ho hc hd (fun h' c' kp e=>fin its r' hz h' c' kp e) (by simp only [List.size_toArray] <;> omega)
theorem call_tuple_of:CallR X (.type "tuple") (fun xs H Q=>∃ p ys,xs = [.ref p]∧((SqL X.K H p ys∧∀ l,H l = none→Q (.ref l) (upd H l (.tup ys)))∨(SqT X.K H p ys∧Q (.ref p) H))):=by
  intro pins s σ H xs us Q I r h
  obtain ⟨p,ys,rfl,h⟩:=h
  obtain ⟨u,rfl,rx⟩:=vals1 r
  cases rx
  rcases h with ⟨hq,q⟩ | ⟨hq,q⟩
  · obtain ⟨its,r',pl,hz⟩:=I.list hq
    have hlen:=r'.length
    refine call_tuple_list pl.isList (fun h' kp=>?_) (by simp only [List.size_toArray] <;> omega)
    have I1:Inv X pins σ H { s with heap:=h' }:=I.kept (t':=s.toks) kp
    have I2:Inv X pins σ (upd H h'.objs.size (.tup ys)) { s with heap:=h'.push { cls:=.type "tuple",data:=.seq its.toArray } } :=
      I1.laid (t':=s.toks) (fun b o e=>Heap.get?_push_of_some _ e) (Nat.le_refl _) (show ObjOk X.prog X.w _ _ _ (.tup ys) from ⟨hz,its,r',IsTup.new _ _⟩)
    exact ⟨.ref h'.objs.size,_,I2,rfl,q _ (I1.hok.fresh (Nat.le_refl _))⟩
  · obtain ⟨its,r',pl,hz⟩:=I.tuple hq
    exact call_tuple_same pl ⟨.ref p,H,I,rfl,q⟩
def tyV (K:PySem.W.Frag) (T:String) (x:V) (H:Hp):Prop:=match x with
  | .str _=>T = "str"
  | .int _=>T = "int"
  | .ref p=>(T = "list" ∧ ∃ xs,SqL K H p xs)∨(T = "tuple" ∧ ∃ o,K.lookup p = some o∧o.cls = .type "tuple" ∧ o.dict = none) ∨
      (T = "dict" ∧ ((∃ kvs,H p = some (.dK kvs))∨∃ kvs,H p = some (.dT kvs)))∨(T = "set" ∧ ∃ S n,H p = some (.set S n))
  | _=>False
theorem tyV_is {pins:List (Addr × Obj)} {σ:St} {H:Hp} {s:Shared} {T:String} {x:V} {v:Value} (I:Inv X pins σ H s) (r:RelV x v) (ty:tyV X.K T x H) :
    s.TypeIs v T∧∀ a,v = .ref a→∃ ob,s.heap.get? a = some ob∧ob.dict = none:=by
  cases x with
  | str z =>
    obtain ⟨t,rfl⟩:=r
    cases (show T = "str" from ty)
    exact ⟨typeIs_str s z t,fun _ e=>nomatch e⟩
  | int i =>
    obtain ⟨t,rfl⟩:=r
    cases (show T = "int" from ty)
    exact ⟨typeIs_int s i t,fun _ e=>nomatch e⟩
  | ref p =>
    cases r
    rcases ty with ⟨rfl,xs,hq⟩ | ⟨rfl,o,hk,hc,hd⟩ | ⟨rfl,hk⟩ | ⟨rfl,S,n,hk⟩
    · obtain ⟨its,_,pl,_⟩:=I.list hq
      refine ⟨pl.isList.typeIs,fun a e=>?_⟩
      cases e
      obtain ⟨o,n,e,c,hd,_⟩:=pl
      exact ⟨o,e,hd⟩
    · refine ⟨⟨o,I.kIn p o hk,hc⟩,fun a e=>?_⟩
      cases e
      exact ⟨o,I.kIn _ o hk,hd⟩
    · have z:∃ o,s.heap.get? p = some o∧o.ExactDict:=by
        rcases hk with ⟨kvs,hk⟩ | ⟨kvs,hk⟩
        · obtain ⟨_,_,_,_,o,_,_,e,ex,_⟩:=I.hok p _ hk
          exact ⟨o,e,ex⟩
        · obtain ⟨_,_,_,_,o,_,_,e,ex,_⟩:=I.hok p _ hk
          exact ⟨o,e,ex⟩
      obtain ⟨o,e,ex⟩:=z
      refine ⟨⟨o,e,ex.1⟩,fun a e2=>?_⟩
      cases e2
      exact ⟨o,e,ex.2.1⟩
    · obtain ⟨o,_,_,_,e,ex,_⟩:=I.hok p _ hk
      refine ⟨⟨o,e,ex.1⟩,fun a e2=>?_⟩
      cases e2
      exact ⟨o,e,ex.2.1⟩
  | _=>exact False.elim ty
def tBM0 (K:PySem.W.Frag) (T:String) (r:V→List V→Hp→VK→Prop) (to:TE):TE:=fun σ H Q=>to σ H fun x H1=>tyV K T x H1∧r x [] H1 Q
def tBM (K:PySem.W.Frag) (T:String) (r:V→List V→Hp→VK→Prop) (to:TE) (t:TA):TE:=fun σ H Q=>to σ H fun x H1=>tyV K T x H1∧t σ H1 fun xs H2=>r x xs H2 Q
variable {o e:Expr} {es:List Expr} {to:TE} {t:TA} {name:Str} {apos cpos:Pos} {T id:String} {r:V→List V→Hp→VK→Prop}
theorem pe_bm (pa:PlainAttrs T) (slot:Slot T name id) (hty:typeOf (.builtin id) = pure (.type "method_descriptor")) (hm:MtR X id r) (ho:PE X o to) (ha:PA X (e :: es) t)
    (hbase:attributeBase o name X.env (eval o X.env) = eval o X.env:=by rfl)
    (hfew:((backTo cpos (starEach (e :: es) X.env)).all (fun x=>!x.1) && (backToKw cpos (keywordEach [] X.env)).all (fun x=>x.1.isSome)
      && decide ((e :: es).length + ([]:List Keyword).length + (if ([]:List Keyword).isEmpty then 0 else 1) < 30)) = true:=by rfl)
    (hline:(apos.endLine == cpos.line) = true:=by rfl) (hs:starEach (e :: es) X.env = (false,eval e X.env) :: starEach es X.env:=by rfl) (hplain:(backTo cpos (starEach es X.env)).any (·.1) = false:=by rfl) :
    PE X (.Call (.Attribute o name apos) (e :: es) [] cpos) (tBM X.K T r to t):=by
  intro pins s σ H Q I h
  refine wpAny_Call_method_late hbase hfew hline rfl (thn (ho pins s σ H _ I h) fun v s1 ⟨x,H1,I1,r1,ty,q1⟩=>?_)
  obtain ⟨h1,h2⟩:=tyV_is I1 r1 ty
  refine ⟨T,id,pa,slot,hty,h1,h2,?_⟩
  have hA:=ha cpos pins s1 σ H1 _ I1 q1
  rw [hs] at hA ⊢
  refine Calls.callWith_builtin (by show (false || (backTo cpos (starEach es X.env)).any (·.1)) = false; rw [hplain] <;> rfl) (Calls.evalArgs_plain ?_)
  exact thn hA fun us s2 ⟨vs,H2,I2,r2,q2⟩=>hm pins s2 σ H2 x vs v us Q I2 r1 r2 q2
end
end L2
namespace L2
open PySem PySem.Spec PyProof.Rows
def MtM (X:Cx) (id:String) (r:V→List V→Hp→VK→Prop):Prop :=
  ∀ (pins:List (Addr × Obj)) (s:Shared) (σ:St) (H:Hp) (x:V) (xs:List V) (v:Value) (us:List Value) (Q:VK),Inv X pins σ H s→RelV x v→Vals xs us→r x xs H Q →
    wpAny (model X.prog X.w) X.A (call (.builtin id) (v :: us)) (EP X pins σ Q) X.xe s
theorem Vals.one:∀ {x:V} {us:List Value},Vals [x] us→∃ u,us = [u]∧RelV x u
  | _,_,.cons r .nil=>⟨_,rfl,r⟩
theorem Vals.two:∀ {x y:V} {us:List Value},Vals [x,y] us→∃ u v,us = [u,v]∧RelV x u∧RelV y v
  | _,_,_,.cons r (.cons q .nil)=>⟨_,_,rfl,r,q⟩
section
variable {X:Cx} {pins:List (Addr × Obj)} {σ:St} {H:Hp} {s:Shared} {l b:Addr} {xs ys zs:List V}
theorem Inv.lset {its its' : List Value} {n:Nat} {f:Array Value→Array Value} {t' : Nat} (I:Inv X pins σ H s) (hH:H l = some (.lst xs))
    (e:s.heap.get? l = some { cls:=.type "list",data:=.seq its.toArray n }) (hf:f its.toArray = its'.toArray) (hv:Vals ys its') (hz:ys.length ≤ sizeLine) :
    Inv X pins σ (upd H l (.lst ys)) { s with heap:=s.heap.update l (Obj.mapSeq f),toks:=t' }:=by
  have q:=PySem.IsL.update e f
  rw [hf] at q
  refine I.write (x:=l) (e:=l) (by rw [hH]; exact trivial) (.inl rfl) (fun b' u hb hu=>(Heap.get?_update_other s.heap (Obj.mapSeq f) (Ne.symm hb)).trans hu) ⟨_,q⟩ ?_
  exact ⟨hz,its',_,hv,q⟩
theorem Inv.lnew {its:List Value} {t' : Nat} (I:Inv X pins σ H s) (hv:Vals ys its) (hz:ys.length ≤ sizeLine) :
    Inv X pins σ (upd H s.heap.objs.size (.lst ys)) { s with heap:=s.heap.push { cls:=.type "list",data:=.seq its.toArray },toks:=t' } :=
  I.laid (fun _ _ q=>Heap.get?_push_of_some _ q) (Nat.le_refl _) ⟨hz,its,0,hv,Heap.get?_push_size _ rfl⟩
theorem Inv.fresh (I:Inv X pins σ H s):H s.heap.objs.size = none:=I.hok.fresh (Nat.le_refl _)
theorem Inv.lstM (I:Inv X pins σ H s) (hH:H l = some (.lst xs)):xs.length ≤ sizeLine∧∃ (its:List Value) (n:Nat),Vals xs its∧xs.length = its.length∧s.heap.get? l = some { cls:=.type "list",data:=.seq its.toArray n }:=by
  obtain ⟨z,its,n,r,e⟩:=I.hok l _ hH
  exact ⟨z,its,n,r,r.length,e⟩
theorem notLongL {n:Nat} (h:n ≤ sizeLine):Builtin.List.listTooLong n = false:=by
  unfold Builtin.List.listTooLong
  exact decide_eq_false (by omega)
end
section
variable {X:Cx}
def rAppend:V→List V→Hp→VK→Prop:=fun x vs H Q=>∃ l xs y,x = .ref l∧vs = [y]∧H l = some (.lst xs)∧xs.length < sizeLine∧Q .non (upd H l (.lst (xs ++ [y])))
theorem mt_append:MtM X "list.append" rAppend:=by
  intro pins s σ H x vs v us Q I rx rv h
  obtain ⟨l,xs,y,rfl,rfl,hH,hz,q⟩:=h
  cases rx
  obtain ⟨u,rfl,ru⟩:=rv.one
  obtain ⟨z,its,n,r,hl,e⟩:=I.lstM hH
  refine call_meets F.slot_list_append ⟨_,e,rfl⟩ F.entry_list_append (F.args_list_append_2 _ _) (PySem.list_append l its.toArray n u (by rw [List.size_toArray]; omega)) ⟨e,?_⟩
  refine ⟨.non,_,I.lset (its':=its ++ [u]) hH e (by simp) (r.append (.cons ru .nil)) ?_,rfl,q⟩
  rw [List.length_append,List.length_singleton]
  omega
def rExtend:V→List V→Hp→VK→Prop:=fun x vs H Q=>∃ l b xs zs,x = .ref l∧vs = [.ref b]∧H l = some (.lst xs)∧H b = some (.lst zs)∧xs.length + zs.length ≤ sizeLine∧Q .non (upd H l (.lst (xs ++ zs)))
theorem mt_extend:MtM X "list.extend" rExtend:=by
  intro pins s σ H x vs v us Q I rx rv h
  obtain ⟨l,b,xs,zs,rfl,rfl,hH,hB,hz,q⟩:=h
  cases rx
  obtain ⟨u,rfl,ru⟩:=rv.one
  cases ru
  obtain ⟨z,its,n,r,hl,e⟩:=I.lstM hH
  obtain ⟨z2,its2,n2,r2,hl2,e2⟩:=I.lstM hB
  have hsz:its.toArray.size + its2.toArray.size ≤ sizeLine:=by rw [List.size_toArray,List.size_toArray]; omega
  have hlong:¬ (!its.toArray.isEmpty && Builtin.List.listTooLong (its.toArray.size + its2.toArray.size)) = true:=by
    rw [notLongL hsz,Bool.and_false]
    exact Bool.false_ne_true
  refine call_meets F.slot_list_extend ⟨_,e,rfl⟩ F.entry_list_extend (F.args_list_extend_2 _ _)
    (AutoSeq1.list_extend_list_list_0 l its.toArray n b its2.toArray n2 hlong (by rw [List.size_toArray]; omega) (by omega)) ⟨e,e2,?_⟩
  refine ⟨.non,_,I.lset (its':=its ++ its2) hH e (by simp) (r.append r2) ?_,rfl,q⟩
  rw [List.length_append]
  omega
def rPop:V→List V→Hp→VK→Prop:=fun x vs H Q=>∃ l xs y,x = .ref l∧vs = []∧H l = some (.lst xs)∧xs[xs.length - 1]? = some y∧Q y (upd H l (.lst xs.dropLast))
def rPopAt:V→List V→Hp→VK→Prop:=fun x vs H Q=>∃ l xs i k y,x = .ref l∧vs = [.int i]∧H l = some (.lst xs)∧-(2 ^ 63) ≤ i∧i < 2 ^ 63∧seqIndex? i xs.length = some k∧xs[k]? = some y∧Q y (upd H l (.lst (xs.eraseIdx k)))
def rReverse:V→List V→Hp→VK→Prop:=fun x vs H Q=>∃ l xs,x = .ref l∧vs = []∧H l = some (.lst xs)∧Q .non (upd H l (.lst xs.reverse))
def rClear:V→List V→Hp→VK→Prop:=fun x vs H Q=>∃ l xs,x = .ref l∧vs = []∧H l = some (.lst xs)∧Q .non (upd H l (.lst []))
def rCat:R2:=fun x y H Q=>∃ l b xs zs,x = .ref l∧y = .ref b∧H l = some (.lst xs)∧H b = some (.lst zs)∧xs.length + zs.length ≤ sizeLine∧∀ p,H p = none→Q (.ref p) (upd H p (.lst (xs ++ zs)))
theorem op_cat:OpR X (binaryOp .Add) rCat:=by
  intro pins s σ H x y v u Q I rx ry h
  obtain ⟨l,b,xs,zs,rfl,rfl,hH,hB,hz,q⟩:=h
  cases rx
  cases ry
  obtain ⟨z,its,n,r,hl,e⟩:=I.lstM hH
  obtain ⟨z2,its2,n2,r2,hl2,e2⟩:=I.lstM hB
  refine PySem.P.add_list e e2 ?_ (by rw [List.size_toArray,List.size_toArray]; omega)
  have ea:its.toArray ++ its2.toArray = (its ++ its2).toArray:=by simp
  rw [ea]
  exact ⟨.ref _,_,I.lnew (t':=s.toks) (r.append r2) (by rw [List.length_append]; omega),rfl,q _ I.fresh⟩
def rRep:R2:=fun x y H Q=>∃ l k xs,x = .ref l∧y = .int k∧H l = some (.lst xs)∧-(2 ^ 63) ≤ k∧k < 2 ^ 63∧xs.length * k.toNat ≤ sizeLine ∧
  ∀ p,H p = none→Q (.ref p) (upd H p (.lst (List.replicate k.toNat xs).flatten))
end
section
variable {prog:Program} {w:World} {A:Around} {E:Value→Shared→Prop} {s:Shared}
end
section
variable {X:Cx}
end
end L2
namespace Att
open PySem PySem.W PySem.Calls PyProof.Rows
theorem ints_of_wellAll {P:Params} {h:Heap} : ∀ (ns:List Int) (vs:List Value),WellAll P h vs (ns.map WData.int)→IntsAre vs ns:=by
  intro ns
  induction ns with
  | nil =>
    intro vs w
    rw [List.map_nil] at w
    cases w
    exact .nil
  | cons n ns ih =>
    intro vs w
    rw [List.map_cons] at w
    cases w with
    | cons a b =>
      cases a
      exact .cons _ _ (ih _ b)
theorem script_of {l:OpenLaw} {n:Nat} (hn:l.most = some n) {P:Params} {h:Heap} {args:List WData} {vals:List Value}
    (hpre:l.row.toRowW.claim.pre args = true) (hwl:WellAll P h vals args) :
    ∃ a vs ns,vals = [Value.ref a]∧args = [WData.list (ns.map WData.int)]∧h.get? a = some { cls:=.type "list",data:=.seq vs.toArray }∧IntsAre vs ns∧ns.length ≤ n:=by
  have hsh:WShape.hasAll [] args [.list .int] = true:=(pre_splitW hpre).1
  have hc:l.pre.holds [] { args:=args } = true:=(pre_splitW hpre).2
  obtain ⟨d,r,rfl,h1,h2⟩:=hasAllW_cons hsh
  obtain rfl:=hasAllW_nil h2
  obtain ⟨xs,rfl,h3⟩:=hasW_list h1
  obtain ⟨ns,rfl⟩:=items_int h3
  have hlen:ns.length ≤ n:=by
    unfold OpenLaw.pre at hc
    have h4:(WTm.not (.lt (.lit (.int (n:Int))) (.len (.arg 0)))).holds [] { args:=[.list (ns.map .int)] } = true:=by
      have h4:=(holds_andW hc).1
      rw [hn] at h4
      exact h4
    have h5:=condW_of h4 (w_not (w_lt w_lit (w_len_list (w_arg rfl))))
    rw [List.length_map] at h5
    refine Nat.le_of_not_lt fun q=>?_
    have q' : (n:Int) < ((ns.length:Nat):Int):=by omega
    first
      | (rw [decide_eq_true q'] at h5; exact absurd h5 (by decide))
      | (simp at h5; omega)
  cases hwl with
  | cons w1 w2 =>
    cases w2
    cases w1 with
    | list ho hall=>exact ⟨_,_,ns,rfl,rfl,ho,ints_of_wellAll ns _ hall,hlen⟩
theorem post_true (l:OpenLaw) (args:List WData):l.row.toRowW.claim.post args (.bool true) args = true :=
  postW_of (r:=l.row.toRowW) (X:=(true == true))
    (show WShape.has [] (.bool true) .bool = true by first | rfl | decide | simp [WShape.has,WShape.arms,WShape.armsAll])
    (show (WTm.eq .res (.lit (.bool true))).value [] { args:=args,res:=some (.bool true),after:=args } = some (.bool (true == true)) from w_eq_bool (w_res rfl) w_lit) rfl
theorem attach_call {l:OpenLaw} {n:Nat} {q:Program} {loose:List Str} {XP:(Str→Option Value)→Heap→Prop} {YP:World→Heap→Prop} {d:DefRec}
    (hn:l.most = some n) (hdf:d.params.defaults = [])
    (call:∀ (w:World) (s₀ s₁:Shared) (mg mb:Str→Option Value) (fa:Addr) (o:Obj) (pm cd doc:Value) (a:Addr) (vs:List Value) (ns:List Int),
      Ground q loose [] XP w s₀ mg mb s₁.heap→YP w s₁.heap →
      s₁.heap.get? fa = some o→o.data = .func (docDef d.name d.params d.body d.scope pm cd doc)→s₁.heap.CodeRec cd d.name→mg d.name = some (.ref fa) →
      s₁.heap.get? a = some { cls:=.type "list",data:=.seq vs.toArray }→IntsAre vs ns→ns.length ≤ n→s₁.gens = #[] →
      codeAny (model l.prog w) callerA (.call (.ref fa) ⟨[.ref a],[]⟩) (fun r s'=>r = .ok (.ret (.bool true))∧OldK s₁.heap s'.heap∧s'.os = s₁.os∧AllBare s'.gens) s₁) :
    WalkO q loose XP YP l.row.toRowW d [] (fun f vs=>PySem.call f vs):=by
  intro w s₀ s₁ mg mb G Y fa o pm cd doc dV kV ho hd hcd hD hmg hg args vals as hpre hlay hrd hwl hlo
  obtain rfl:dV = .none:=Dflts.none hD hdf
  obtain rfl:kV = .none:=Dflts.noKw hD
  obtain ⟨a,vs,ns,rfl,rfl,hobj,hints,hlen⟩:=script_of hn hpre hwl
  refine enter_call (codeAny_mono (call w s₀ s₁ mg mb fa o pm cd doc a vs ns G Y ho (fd_plain hd) hcd hmg hobj hints hlen hg) fun r s' hq=>?_)
  obtain ⟨rfl,h2,h3,h4⟩:=hq
  exact ⟨.inl ⟨.bool true,.bool true,[],rfl,fun _=>rfl,.bool true,post_true l _,fun _=>⟨List.Pairwise.nil,fun _ hm=>(nomatch hm)⟩⟩,h2,h3,h4⟩
section
variable {prog:Program} {w:World} {A:Around} {E:Value→Shared→Prop} {s:Shared} {K:Frag}
def noObjs (h:Heap):Heap:={ h with objs:=#[] }
def ledger (h:Heap) (L d:Addr):List (Addr × Obj):=(List.range h.objs.size).filterMap fun a=>if a = L∨a = d then none else (h.get? a).map fun o=>(a,o)
end
end Att
namespace L2
open PySem PySem.Spec PyProof.Rows
theorem vals_ints:∀ {vs:List Value} {ns:List Int},IntsAre vs ns→Vals (ns.map V.int) vs
  | _,_,.nil=>.nil
  | _,_,.cons n t h=>.cons ⟨t,rfl⟩ (vals_ints h)
def Only (H:Hp):Prop:=∀ b,H b = none∨∃ o xs,H b = some (.frz o (.lst xs))
end L2
namespace L2
open PySem PySem.Spec PyProof.Rows
abbrev KOf {K:PySem.W.Frag} {h:Heap} (_:K.In h):PySem.W.Frag:=K
end L2
namespace L2
open PySem PySem.Spec PyProof.Rows
def inClass (s:Stmt) (j:Nat):Stmt:=match s with
  | .ClassDef _ _ _ body _ _ _ _ _ _ _=>body.getD j (.Pass ⟨0,0,0,0⟩)
  | _=>.Pass ⟨0,0,0,0⟩
def defArgs (s:Stmt):Arguments:=match s with
  | .FunctionDef _ a _ _ _ _ _ _ _ _=>a
  | _=>{ posonlyargs:=[],args:=[],vararg:=none,kwonlyargs:=[],kw_defaults:=[],kwarg:=none,defaults:=[] }
def defBody (s:Stmt):List Stmt:=match s with
  | .FunctionDef _ _ b _ _ _ _ _ _ _=>b
  | _=>[]
def defScope (s:Stmt):Scope:=match s with
  | .FunctionDef _ _ _ _ _ _ sc _ _ _=>sc
  | _=>{ kind:=.function,names:=[],isGenerator:=false,isCoroutine:=false }
abbrev CX0:CXT:=fun _ _ _ _ _ _=>False
abbrev E0:XK:=fun _ _ _=>False
theorem pass0 {X:Cx} : Passes CX0 X E0:=fun _ _ _ _ _ _ _ h=>h.elim
structure Fun (K:PySem.W.Frag) (x qual:Str) (st:Stmt) (f:Addr) (fd:FuncData):Prop where
  ex:∃ (oc:Value) (od:Option Addr) (kV doc pm:Value) (an:Option Addr) (cdv ct:Value) (osl:Array (Option Value)),
    fd = PySem.W.fnOf x qual (defArgs st) (defBody st) (defScope st) .none kV doc pm an cdv ct∧K.lookup f = some ⟨oc,od,.func fd,osl⟩∧PySem.W.codeIn K cdv qual = true
  kp:PySem.W.keepIn K (.ref f) = true
section
variable {P:Program} {w:World} {K:PySem.W.Frag} {mg:Str→Option Value} {base:Heap}
theorem Fun.ok {x qual:Str} {st:Stmt} {f:Addr} {fd:FuncData} {N ps:List Str} {k:Nat} {sp:Sp} (F:Fun K x qual st f fd) (S:FnScope N ps (defScope st)) (len:∀ vs H Q E,sp vs H Q E→vs.length = ps.length)
    (hbody:∀ (cdv:Value) (A:Around) (outer:List Env) (s:Shared) (H:Hp) (vs:List V) (Q:VK) (E:XK),Room k (A.deeper (envOfC qual (defScope st) s.heap.objs.size f cdv))→sp vs H Q E →
      ∃ t,PSs (cxOf CX0 P w K mg base N qual (defScope st) f cdv A outer s H E).nox (defBody st) t∧t { nx:=fun _ H'=>Q .non H',rt:=Q } (start N vs) H):FnOk P w K mg base CX0 (k + 1) f fd ps sp:=by
  obtain ⟨oc,od,kV,doc,pm,an,cdv,ct,osl,rfl,lk,hcd⟩:=F.ex
  refine fn_of lk hcd S len fun A outer s H vs Q E hr hsp=>?_
  obtain ⟨t,h,q⟩:=hbody cdv A outer s H vs Q E hr hsp
  exact ⟨t,h.nox,q⟩
theorem Fun.binds {x qual:Str} {st:Stmt} {f:Addr} {fd:FuncData} {ps:List Str} (F:Fun K x qual st f fd)
    (h:∀ (kV doc pm:Value) (an:Option Addr) (cdv ct:Value) (us:List Value),us.length = ps.length→bindArgs (PySem.W.fnOf x qual (defArgs st) (defBody st) (defScope st) .none kV doc pm an cdv ct) ⟨us,[]⟩ = pure (ps.zip us)):Binds K fd ps []:=by
  obtain ⟨oc,od,kV,doc,pm,an,cdv,ct,osl,rfl,lk,hcd⟩:=F.ex
  exact .all (h kV doc pm an cdv ct)
theorem fun_mk {x qual:Str} {st:Stmt} {f:Addr} {oc:Value} {od an:Option Addr} {osl:Array (Option Value)} {kV doc pm cdv ct:Value} (l:K.lookup f = some ⟨oc,od,.func (PySem.W.fnOf x qual (defArgs st) (defBody st) (defScope st) .none kV doc pm an cdv ct),osl⟩)
    (c:PySem.W.codeIn K cdv qual = true) (k:PySem.W.keepIn K (.ref f) = true):Fun K x qual st f (PySem.W.fnOf x qual (defArgs st) (defBody st) (defScope st) .none kV doc pm an cdv ct):=⟨⟨oc,od,kV,doc,pm,an,cdv,ct,osl,rfl,l,c⟩,k⟩
end
theorem small1000 {n:Nat} (h:n ≤ 1000):n < sizeLine:=Nat.lt_of_le_of_lt h (by decide)
section
variable {X:Cx}
theorem pv (i:Nat) {x:Str} {pos:Pos} (hN:X.N[i]? = some x:=by rfl) (hv:Vis X.env.scope x:=by first | exact Or.inl rfl | exact Or.inr (Or.inl rfl) | exact Or.inr (Or.inr rfl)) (hd:(x == ("__debug__" : Str)) = false:=by decide)
    (hcd:(x == ("__classdict__" : Str)) = false:=by decide):PE X (.Name x pos) (tVar i):=pe_var hN hv hd hcd
end
theorem iteF {A B:Prop} (h:B):if false = true then A else B:=by
  rw [if_neg Bool.false_ne_true]
  exact h
theorem iteT {A B:Prop} (h:A):if true = true then A else B:=by
  rw [if_pos rfl]
  exact h
theorem ite2 {c A B:Prop} [Decidable c] (h1:c→A) (h2:¬ c→B):if c then A else B:=by
  by_cases h:c
  · rw [if_pos h]
    exact h1 h
  · rw [if_neg h]
    exact h2 h
def Same (H H' : Hp):Prop:=∀ b o,H b = some o→H' b = some o
theorem Same.refl (H:Hp):Same H H:=fun _ _ h=>h
theorem Same.trans {H H1 H2:Hp} (a:Same H H1) (b:Same H1 H2):Same H H2:=fun c o h=>b c o (a c o h)
theorem Same.free {H H' : Hp} (e:Same H H') {l:Addr} (h:H' l = Option.none):H l = Option.none:=by
  cases q:H l with
  | none=>rfl
  | some o =>
    rw [e l o q] at h
    cases h
theorem Same.seq {K:PySem.W.Frag} {H H' : Hp} {a:Addr} {xs:List V} (e:Same H H') (h:SqL K H a xs):SqL K H' a xs:=by
  rcases h with (h | ⟨o,h⟩) | h
  · exact .inl (.inl (e _ _ h))
  · exact .inl (.inr ⟨o,e _ _ h⟩)
  · exact .inr h
end L2
set_option maxHeartbeats 4000000
namespace L2
abbrev Pr:=Int × Int
def inR (n:Int) (p:Pr):Bool:=decide (p.1 ≤ n) && decide (n ≤ p.2)
def inP (ps:List Pr) (n:Int):Bool:=ps.any (inR n)
structure Apart (R:List Pr):Prop where
  le:∀ p ∈ R,p.1 ≤ p.2
  gap:R.Pairwise fun p q=>p.2 + 2 ≤ q.1
structure TidI (R qs:List Pr):Prop where
  ap:Apart R
  mem:∀ n,inP R n = inP qs n
  cov:∀ p ∈ qs,p.1 ≤ p.2→∃ r ∈ R,r.1 ≤ p.1∧p.2 ≤ r.2
  low:∀ r ∈ R,∃ q ∈ qs,r.1 = q.1
end L2
namespace L2
open PySem PySem.Spec PyProof.Rows
def Callee (P:Program) (w:World) (K:PySem.W.Frag) (mg:Str→Option Value) (base:Heap) (k:Nat) (x:Str) (ps:List Str) (sp:Sp):Prop :=
  ∃ f fd,FnOk P w K mg base CX0 k f fd ps sp∧Binds K fd ps []∧PySem.W.keepIn K (.ref f) = true∧mg x = some (.ref f)
theorem Callee.mono {P:Program} {w:World} {K:PySem.W.Frag} {mg:Str→Option Value} {base:Heap} {j k:Nat} {x:Str} {ps:List Str} {sp:Sp} (C:Callee P w K mg base j x ps sp) (h:j ≤ k):Callee P w K mg base k x ps sp:=by
  obtain ⟨f,fd,F,r⟩:=C
  exact ⟨f,fd,F.mono h,r⟩
section
variable {X:Cx} {k:Nat} {x:Str} {ps:List Str} {sp:Sp} {e:Expr} {es:List Expr} {t:TA} {p pos:Pos}
def tFn (sp:Sp) (t:TA):TE:=fun σ H Q=>t σ H fun vs H1=>sp vs H1 Q E0
theorem pe_fn (C:Callee X.prog X.w X.K X.mg X.base k x ps sp) (hr:Room k X.A) (hg:Gl X x) (ha:PA X (e :: es) t) (hdb:(x == ("__debug__" : Str)) = false:=by decide)
    (he:starEach (e :: es) X.env = (false,eval e X.env) :: starEach es X.env:=by rfl) (hpl:(backTo pos (starEach es X.env)).any (·.1) = false:=by rfl):PE X (.Call (.Name x p) (e :: es) [] pos) (tFn sp t):=by
  obtain ⟨f,fd,F,b,kk,m⟩:=C
  have h:=pe_call (E:=E0) (dvs:=[]) (ds:=[]) (p:=p) F hr hg m kk b .nil pass0 ha hdb he hpl
  intro pins s σ H Q I q
  refine h pins s σ H Q I ?_
  have q' : t σ H fun vs H1=>sp vs H1 Q E0:=q
  have e1:(fun (vs:List V) (H1:Hp)=>sp (vs ++ []) H1 Q E0) = fun vs H1=>sp vs H1 Q E0:=by
    funext vs H1
    rw [List.append_nil]
  show t σ H fun vs H1=>sp (vs ++ []) H1 Q E0
  rw [e1]
  exact q'
end
def tCut (t u:TS):TS:=fun D σ H=>∃ M:St→Hp→Prop,t { D with nx:=M } σ H∧∀ σ' H',M σ' H'→u D σ' H'
theorem pss_cut {X:Cx} {st:Stmt} {rest:List Stmt} {t u:TS} (h1:PS X st t) (h2:PSs X rest u):PSs X (st :: rest) (tCut t u):=by
  intro pins s σ H D I ⟨M,a,b⟩
  refine wpAny_execs_cons (thn (h1 pins s σ H { D with nx:=M } I a) fun fl s1 q=>?_)
  cases fl with
  | next=>obtain ⟨σ',H',I',q⟩:=q; exact h2 pins s1 σ' H' D I' (b σ' H' q)
  | ret v=>exact q
  | brk=>exact q
  | cont=>exact q
section
variable {X:Cx}
theorem call_isinst:CallR X (.builtin "isinstance") (fun xs H Q=>∃ x T t b,xs = [x,.ty T]∧TyOf X.K H x t∧PySem.W.kitOne X.K t (.type T) = some b∧Q (.bl b) H):=by
  intro pins s σ H xs us Q I r h
  obtain ⟨x,T,t,b,rfl,ty,e,q⟩:=h
  cases r with
  | cons rx r2 =>
    cases r2 with
    | cons ry r3 =>
      cases r3
      cases (show _ = Value.type T from ry)
      exact isinst_ok I rx ty e fun tk=>⟨.bl b,H,I.tok tk,rfl,q⟩
end
inductive EqI (K:PySem.W.Frag) (H:Hp):V→V→Bool→Prop where
  | flat {x y:V} (fx:flatV x = true) (fy:flatV y = true):EqI K H x y (eqV x y)
  | same (a:Addr):EqI K H (.ref a) (.ref a) true
  | tup {a b:Addr} {xs ys:List V} (ha:SqT K H a xs) (hb:SqT K H b ys) (fx:xs.all flatV = true) (fy:ys.all flatV = true):EqI K H (.ref a) (.ref b) (decide (xs.length = ys.length) && (List.zipWith eqV xs ys).all id)
theorem eqV_refl:∀ {x:V},flatV x = true→eqV x x = true
  | .non,_=>rfl
  | .bl b,_=>by simp [eqV]
  | .int i,_=>by simp [eqV]
  | .str z,_=>by simp [eqV]
theorem eqAll_refl:∀ {xs:List V},xs.all flatV = true→(List.zipWith eqV xs xs).all id = true
  | [],_=>rfl
  | x :: xs,h=>by
    rw [List.all_cons,Bool.and_eq_true] at h
    rw [List.zipWith_cons_cons,List.all_cons,eqAll_refl h.2,Bool.and_true]
    exact eqV_refl h.1
theorem all_range_zip {f:Nat→Bool} : ∀ {xs ys:List V},(∀ j x y,xs[j]? = some x→ys[j]? = some y→f j = eqV x y)→(List.range (min xs.length ys.length)).all f = (List.zipWith eqV xs ys).all id
  | [],ys,_=>by simp
  | x :: xs,[],_=>by simp
  | x :: xs,y :: ys,h=>by
    have ih:=all_range_zip (f:=fun j=>f (j + 1)) (xs:=xs) (ys:=ys) fun j a b e1 e2=>h (j + 1) a b (by simpa using e1) (by simpa using e2)
    have e0:=h 0 x y rfl rfl
    have em:min (x :: xs).length (y :: ys).length = min xs.length ys.length + 1:=by simp only [List.length_cons]; omega
    rw [em,List.range_succ_eq_map,List.all_cons,List.zipWith_cons_cons,List.all_cons,List.all_map,e0]
    show (eqV x y && (List.range (min xs.length ys.length)).all (fun j=>f (j + 1))) = _
    rw [ih]
    rfl
section
variable {X:Cx} {pins:List (Addr × Obj)} {σ:St} {H:Hp} {s:Shared}
theorem EqI.at {A:Around} {x y:V} {u v:Value} {b:Bool} (e:EqI X.K H x y b) (I:Inv X pins σ H s) (hu:A.units + 1 < cLine) (rx:RelV x u) (ry:RelV y v):SeqAt.EqAt A s u v b:=by
  cases e with
  | flat fx fy=>exact eqAt_V rx ry fx fy
  | same a =>
    cases (show u = Value.ref a from rx)
    cases (show v = Value.ref a from ry)
    exact SeqAt.EqAt.same _
  | @tup a b xs ys ha hb fx fy =>
    cases (show u = Value.ref a from rx)
    cases (show v = Value.ref b from ry)
    by_cases z:a = b
    · subst z
      have e:=I.tuple_inj ha hb
      subst e
      rw [eqAll_refl fx,decide_eq_true rfl]
      exact SeqAt.EqAt.same _
    · obtain ⟨its,r,p,_⟩:=I.tuple ha
      obtain ⟨its',r',p',_⟩:=I.tuple hb
      have l1:=r.length
      have l2:=r'.length
      have h0:=SeqAt.RcAt.tuples (A:=A) (e:=fun j=>match its[j]?,xs[j]?,ys[j]? with | _,some x,some y=>eqV x y | _,_,_=>false) (show s.heap.IsTuple a its.toArray from p) (show s.heap.IsTuple b its'.toArray from p') (by omega) (fun j h1 h2=>by
        have j1:j < its.length:=by simpa using h1
        have j2:j < its'.length:=by simpa using h2
        have x1:xs[j]? = some xs[j]:=List.getElem?_eq_getElem (by omega)
        have y1:ys[j]? = some ys[j]:=List.getElem?_eq_getElem (by omega)
        obtain ⟨u1,q1,r1⟩:=r.get x1
        obtain ⟨u2,q2,r2⟩:=r'.get y1
        have eu:its.toArray[j] = u1:=by
          have:=List.getElem?_eq_getElem j1
          rw [this] at q1; simpa using Option.some.inj q1
        have ev:its'.toArray[j] = u2:=by
          have:=List.getElem?_eq_getElem j2
          rw [this] at q2; simpa using Option.some.inj q2
        rw [eu,ev]
        rw [x1,y1]
        have f1:flatV xs[j] = true:=List.all_eq_true.mp fx _ (List.getElem_mem _)
        have f2:flatV ys[j] = true:=List.all_eq_true.mp fy _ (List.getElem_mem _)
        exact eqAt_V r1 r2 f1 f2)
      have h1:=SeqAt.EqAt.of_refs z h0
      have e1:((List.range (min its.toArray.size its'.toArray.size)).all fun j=>match its[j]?,xs[j]?,ys[j]? with | _,some x,some y=>eqV x y | _,_,_=>false) = (List.zipWith eqV xs ys).all id:=by
        have es:min its.toArray.size its'.toArray.size = min xs.length ys.length:=by simp only [List.size_toArray]; omega
        rw [es]
        exact all_range_zip fun j x y q1 q2=>by rw [q1,q2]
      rw [e1] at h1
      have e2:(its.toArray.size == its'.toArray.size) = decide (xs.length = ys.length):=by
        simp only [List.size_toArray,← l1,← l2]
        exact Bool.beq_eq_decide_eq _ _
      rw [e2,Bool.and_comm] at h1
      exact h1
end
def rEqL (K:PySem.W.Frag) (neg:Bool):R2:=fun x y H Q=>∃ a b xs ys,x = .ref a∧y = .ref b∧SqL K H a xs∧SqL K H b ys ∧
  ((xs.length ≠ ys.length∧Q (.bl neg) H)∨(xs.length = ys.length∧∃ f:Nat→Bool,(∀ j x y,xs[j]? = some x→ys[j]? = some y→EqI K H x y (f j))∧Q (.bl (if neg then !(List.range xs.length).all f else (List.range xs.length).all f)) H))
section
variable {X:Cx}
theorem eqs_at {pins:List (Addr × Obj)} {σ:St} {H:Hp} {s:Shared} {A:Around} {xs ys:List V} {its its' : List Value} {f:Nat→Bool} (I:Inv X pins σ H s) (hu:A.units + 1 < cLine) (r:Vals xs its) (r' : Vals ys its')
    (hf:∀ j x y,xs[j]? = some x→ys[j]? = some y→EqI X.K H x y (f j)):∀ j (h1:j < its.toArray.size) (h2:j < its'.toArray.size),SeqAt.EqAt A s its.toArray[j] its'.toArray[j] (f j):=fun j h1 h2=>by
  have j1:j < its.length:=by simpa using h1
  have j2:j < its'.length:=by simpa using h2
  have l1:=r.length
  have l2:=r'.length
  have x1:xs[j]? = some xs[j]:=List.getElem?_eq_getElem (by omega)
  have y1:ys[j]? = some ys[j]:=List.getElem?_eq_getElem (by omega)
  obtain ⟨u1,q1,r1⟩:=r.get x1
  obtain ⟨u2,q2,r2⟩:=r'.get y1
  have eu:its.toArray[j] = u1:=by
    have:=List.getElem?_eq_getElem j1
    rw [this] at q1; simpa using Option.some.inj q1
  have ev:its'.toArray[j] = u2:=by
    have:=List.getElem?_eq_getElem j2
    rw [this] at q2; simpa using Option.some.inj q2
  rw [eu,ev]
  exact (hf j _ _ x1 y1).at I hu r1 r2
theorem op_neL {k:Nat} (hr:Room k X.A):OpR X (compareOp .NotEq) (rEqL X.K true):=by
  intro pins s σ H x y v u Q I rx ry h
  obtain ⟨a,b,xs,ys,rfl,rfl,ha,hb,h⟩:=h
  cases (show v = Value.ref a from rx)
  cases (show u = Value.ref b from ry)
  obtain ⟨its,r,p,_⟩:=I.list ha
  obtain ⟨its',r',p',_⟩:=I.list hb
  have l1:=r.length
  have l2:=r'.length
  have hu:=hr.units
  rcases h with ⟨hn,q⟩ | ⟨hl,f,hf,q⟩
  · refine SeqAt.RcNeAt.lists_lengths p.isList p'.isList (by simp only [List.size_toArray,bne_iff_ne,ne_eq]; omega) (by omega) X.prog X.w X.xe _ ⟨.bl true,H,I,rfl,q⟩
  · refine SeqAt.RcNeAt.lists (e:=f) p.isList p'.isList (by simp only [List.size_toArray]; omega) (by omega) (eqs_at I (by show X.A.units + 1 + 1 < cLine; omega) r r' hf) X.prog X.w X.xe _ ⟨.bl _,H,I,rfl,?_⟩
    rw [show its.toArray.size = xs.length by simp only [List.size_toArray]; omega]
    exact q
end
def SameT (H H' : Hp):Prop:=∀ b xs,H b = some (.tup xs)→H' b = some (.tup xs)
theorem Same.tups {H H' : Hp} (h:Same H H'):SameT H H':=fun b xs e=>h b _ e
theorem SameT.trans {H H1 H2:Hp} (a:SameT H H1) (b:SameT H1 H2):SameT H H2:=fun c xs e=>b c xs (a c xs e)
theorem sameT_new {H:Hp} {p:Addr} {o:HO} (h:H p = none):SameT H (upd H p o):=fun b xs e=>by rw [upd_ne (ne_of_none e h)]; exact e
theorem sameT_lst {H:Hp} {p:Addr} {o:HO} {ys:List V} (h:H p = some (.lst ys)):SameT H (upd H p o):=fun b xs e=>by rw [upd_ne (ne_of e h (by intro z; cases z))]; exact e
theorem same_new {H:Hp} {p:Addr} (h:H p = none) (o:HO):Same H (upd H p o):=fun b u q=>by rw [upd_ne (ne_of_none q h)]; exact q
theorem Same.upd {H H' : Hp} {p:Addr} {o:HO} (s:Same H H') (h:H p = none):Same H (upd H' p o):=fun b u q=>by rw [upd_ne (ne_of_none q h)]; exact s b u q
def PL (H:Hp):List V→List (Int × Int)→Prop:=Paired fun x p=>∃ r,x = .ref r∧H r = some (.tup [.int p.1,.int p.2])
theorem PL.mono {H H' : Hp} {xs:List V} {ps:List (Int × Int)} (h:PL H xs ps) (s:SameT H H'):PL H' xs ps:=Paired.mapP h fun _ _ ⟨r,e,z⟩=>⟨r,e,s r _ z⟩
theorem PL.get {H:Hp} : ∀ {xs:List V} {ps:List (Int × Int)} {i:Nat} {x:V},PL H xs ps→xs[i]? = some x→∃ p r,ps[i]? = some p∧x = .ref r∧H r = some (.tup [.int p.1,.int p.2])
  | _,_,_,_,.nil,e=>by simp at e
  | _,_,0,_,.cons (b:=b) ⟨r,e1,z⟩ _,e=>by simp at e; subst e; exact ⟨b,r,rfl,e1,z⟩
  | _,_,i + 1,x,.cons _ t,e=>by
    obtain ⟨p,r,q⟩:=PL.get (i:=i) (x:=x) t (by simpa using e)
    exact ⟨p,r,by simpa using q.1,q.2⟩
theorem PL.length {H:Hp} {xs:List V} {ps:List (Int × Int)} (h:PL H xs ps):xs.length = ps.length:=Paired.length h
theorem PL.snoc {H:Hp} {xs:List V} {ps:List (Int × Int)} {r:Addr} {a b:Int} (h:PL H xs ps) (e:H r = some (.tup [.int a,.int b])):PL H (xs ++ [.ref r]) (ps ++ [(a,b)]):=Paired.snoc h ⟨r,rfl,e⟩
theorem PL.app {H:Hp} {xs ys:List V} {ps qs:List (Int × Int)} (h:PL H xs ps) (h' : PL H ys qs):PL H (xs ++ ys) (ps ++ qs):=by
  induction h with
  | nil=>exact h'
  | cons r t ih=>exact .cons r ih
abbrev Tr:=Int × Int × Int
def TL (H:Hp):List V→List Tr→Prop:=Paired fun x t=>∃ r,x = .ref r∧H r = some (.tup [.int t.1,.int t.2.1,.int t.2.2])
theorem dec_t {p:Prop} [Decidable p] (h:decide p = true):p:=of_decide_eq_true h
theorem dec_f {p:Prop} [Decidable p] (h:¬ decide p = true):¬ p:=fun e=>h (decide_eq_true e)
end L2
namespace L2
open PySem PySem.Spec PyProof.Rows
theorem ix_listK {X:Cx} {K:PySem.W.Frag} (h:X.K = K):IxR X (rIxL K):=h ▸ ix_list
theorem ix_tupK {X:Cx} {K:PySem.W.Frag} (h:X.K = K):IxR X (rIxT K):=h ▸ ix_tup
def cmpCx (X:Cx) (N:List Str) (scope:Scope) (cl:List (Str × Addr)) (fp:List Addr) (C:Addr) (s2:Shared) (H2:Hp):Cx :=
  { prog:=X.prog,w:=X.w,K:=X.K,mg:=X.mg,base:=X.base,A:=X.A,N:=N,s₀:=s2,H₀:=H2,env:=compEnvC scope cl C X.env,outer:=X.stack,stack:=X.stack,ex:=fp,fn:=fun _=>false,calm:=X.calm,pn:=[],xe:=fun _ _=>False }
def PIf (X:Cx) (ifs:List Expr) (t:TT):Prop :=
  ∀ (pins:List (Addr × Obj)) (s:Shared) (σ:St) (H:Hp) (Q:Bool→Hp→Prop),Inv X pins σ H s→t σ H Q →
    wpAny (model X.prog X.w) X.A (forIn ifs true fun c r=>if r = true then do let ok ← isTrue c X.env (eval c X.env); pure (ForInStep.yield ok) else pure (ForInStep.yield r)) (TP X pins σ Q) X.xe s
def tYes:TT:=fun _ H Q=>Q true H
theorem pif_nil {X:Cx} : PIf X [] tYes:=fun _ _ _ H _ I h=>wpAny_tests_nil ⟨H,I,h⟩
theorem pif_one {X:Cx} {c:Expr} {t:TT} (h:PT X c t):PIf X [c] t:=fun pins s σ H Q I q=>wpAny_tests_one (h pins s σ H Q I q)
structure CmpOk (X:Cx) (N:List Str) (fr:List Nat) (scope:Scope) (cl:List (Str × Addr)) (x:Str):Prop where
  clos:closureFor scope X.env = pure cl
  kind:scope.kind = .function
  nocell:∀ y ∈ scope.names,y.2 ≠ .cell
  names:∀ y ∈ scope.names,y.2 = .local→scope.names.lookup y.1 = some .local
  hx:scope.names.lookup x = some .local
  nd:N.Nodup
  n0:N[0]? = some x
  len:N.length = fr.length + 1
  sub:∀ (i:Nat) (y:Str),N[i + 1]? = some y→∃ j,fr[i]? = some j∧X.N[j]? = some y∧(X.env.kindOf y = some .cell∨X.env.kindOf y = some .free)∧((relabel scope X.env).names.lookup y = some .cell∨(relabel scope X.env).names.lookup y = some .free)
  cells:∀ y c,cl.lookup y = some c→X.env.cells.lookup y = some c
  has:∀ y,((relabel scope X.env).names.lookup y = some .cell∨(relabel scope X.env).names.lookup y = some .free)→∃ c,cl.lookup y = some c
theorem cmpOk_plain {X:Cx} {scope:Scope} {x:Str} (kind:scope.kind = .function) (nofree:∀ y ∈ scope.names,y.2 ≠ .free) (nocell:∀ y ∈ scope.names,y.2 ≠ .cell)
    (names:∀ y ∈ scope.names,y.2 = .local→scope.names.lookup y.1 = some .local) (hx:scope.names.lookup x = some .local):CmpOk X [x] [] scope [] x:=by
  have er:(relabel scope X.env).names = scope.names:=map_eq_self fun y hy=>by
    have z:(y.2 == NameKind.free) = false:=by simpa using nofree y hy
    simp [z]
  have no:∀ y,¬ ((relabel scope X.env).names.lookup y = some .cell∨(relabel scope X.env).names.lookup y = some .free):=fun y h=>by
    rw [er] at h
    rcases h with h | h
    · exact nocell _ (PySem.mem_of_lookup h) rfl
    · exact nofree _ (PySem.mem_of_lookup h) rfl
  exact ⟨closureFor_none nofree,kind,nocell,names,hx,by simp,rfl,rfl,fun i y e=>by simp at e,(fun y c e=>by cases e),fun y h=>absurd h (no y)⟩
theorem cmpOk_free {X:Cx} {N:List Str} {fr:List Nat} {scope:Scope} {cl:List (Str × Addr)} {x:Str} (clos:closureFor scope X.env = pure cl) (kind:scope.kind = .function) (nocell:∀ y ∈ scope.names,y.2 ≠ .cell)
    (names:∀ y ∈ scope.names,y.2 = .local→scope.names.lookup y.1 = some .local) (hx:scope.names.lookup x = some .local) (nd:N.Nodup) (n0:N[0]? = some x) (len:N.length = fr.length + 1)
    (sub:((List.range fr.length).all fun i=>match N[i + 1]?,fr[i]? with | some y,some j=>(X.N[j]? == some y) && ((X.env.kindOf y == some .cell) && ((relabel scope X.env).names.lookup y == some .cell)) | _,_=>false) = true)
    (cells:∀ p ∈ cl,X.env.cells.lookup p.1 = some p.2) (has:((relabel scope X.env).names.all fun p=>(p.2 != .cell && p.2 != .free) || (cl.lookup p.1).isSome) = true):CmpOk X N fr scope cl x:=by
  refine ⟨clos,kind,nocell,names,hx,nd,n0,len,fun i y e=>?_,fun y c e=>cells _ (PySem.mem_of_lookup e),fun y h=>?_⟩
  · have hi:i < fr.length:=by have:=(List.getElem?_eq_some_iff.mp e).1; omega
    have z:=List.all_eq_true.mp sub i (List.mem_range.mpr hi)
    rw [e,List.getElem?_eq_getElem hi] at z
    simp only [Bool.and_eq_true,beq_iff_eq] at z
    exact ⟨_,List.getElem?_eq_getElem hi,z.1,.inl z.2.1,.inl z.2.2⟩
  · have look:∀ k,(relabel scope X.env).names.lookup y = some k→(k = .cell∨k = .free)→∃ c,cl.lookup y = some c:=fun k e hk=>by
      have z:=List.all_eq_true.mp has _ (PySem.mem_of_lookup e)
      rcases hk with rfl | rfl
      · exact Option.isSome_iff_exists.mp (by simpa using z)
      · exact Option.isSome_iff_exists.mp (by simpa using z)
    rcases h with h | h
    · exact look _ h (.inl rfl)
    · exact look _ h (.inr rfl)
def cmpSt (σ:St) (fr:List Nat) (x:Option V):St:=x :: fr.map fun j=>(σ[j]?).join
def CompAt (J:It) (fr:List Nat) (tt:TT) (te:TE) (σ:St) (Q:VK) (H1:Hp):Prop:=∀ D,H1 D = none→∃ W:Nat→Nat→Hp→Prop,(∃ m,W 0 m (upd H1 D (.lst [])))∧∀ i m H,W i m H →
  (J.stop i H∧Q (.ref D) H)∨(J.go i H∧∀ x H',J.yld i H x H'→tt (cmpSt σ fr (some x)) H' fun b H2=>if b = true then te (cmpSt σ fr (some x)) H2 fun y H3=>∃ ys,H3 D = some (.lst ys)∧ys.length < sizeLine∧∃ m',m' < m∧W (i + 1) m' (upd H3 D (.lst (ys ++ [y])))
    else ∃ m',m' < m∧W (i + 1) m' H2)
def tComp (wi:TI) (fr:List Nat) (tt:TT) (te:TE):TE:=fun σ H Q=>wi σ H fun J H1=>CompAt J fr tt te σ Q H1
section
variable {prog:Program} {w:World} {A:Around} {R:Result→Shared→Prop} {s:Shared}
theorem comp_turns {elt target iter:Expr} {ifs:List Expr} {scope:Scope} {pos:Pos} {it acc:Value} {env:Env} (J:Nat→Shared→Prop)
    (turn:∀ n s,J n s→wpAny (model prog w) A (pyNext it) (fun r s1=>match r with
      | none=>R (.ok .next) s1
      | some v=>wpAny (model prog w) A (letOwnedTupleGo target it v) (fun _ s2=>wpAny (model prog w) A (assign target env v) (fun _ s3 =>
          wpAny (model prog w) A (forIn ifs true fun c r=>if r = true then do let ok ← isTrue c env (eval c env); pure (ForInStep.yield ok) else pure (ForInStep.yield r)) (fun ok s4 =>
            if ok = true then wpAny (model prog w) A (eval elt env) (fun y s5=>wpAny (model prog w) A (call (.builtin "list.append") [acc,y]) (fun _ s6=>∃ m,m < n∧J m s6) (fun _ _=>False) s5) (fun _ _=>False) s4
            else ∃ m,m < n∧J m s4) (fun _ _=>False) s3) (fun _ _=>False) s2) (fun _ _=>False) s1) (fun _ _=>False) s)
    (n:Nat) (h:J n s):codeAny (model prog w) A (.compLoop (.ListComp elt [⟨target,iter,ifs,0⟩] scope pos) 0 it acc env) R s:=by
  refine codeAny_loop rfl J (fun n s hJ=>?_) n h
  show wpAny _ A ((compTurn (.ListComp elt [⟨target,iter,ifs,0⟩] scope pos) 0 it acc env).onRaise (fun x=>do noteFrame x env; theTreesLotGoes x)) _ _ s
  refine wpAny_noted ?_
  rw [compTurn_list]
  refine wpAny_bind (wpAny_standAt (wpAny_bind (wpAny_mono (turn n s hJ) (fun r s1 h1=>?_) fun _ _ z=>z.elim)))
  cases r with
  | none=>exact wpAny_pure h1
  | some v =>
    refine wpAny_bind (wpAny_mono h1 (fun _ s2 h2=>?_) fun _ _ z=>z.elim)
    refine wpAny_bind (wpAny_mono h2 (fun _ s3 h3=>wpAny_bind (wpAny_mono h3 (fun ok s4 h4=>?_) fun _ _ z=>z.elim)) fun _ _ z=>z.elim)
    cases ok with
    | false=>exact wpAny_pure ⟨rfl,h4⟩
    | true=>exact wpAny_bind (wpAny_bind (wpAny_mono h4 (fun y s5 h5=>wpAny_bind (wpAny_mono h5 (fun _ s6 h6=>wpAny_pure (wpAny_pure ⟨rfl,h6⟩)) fun _ _ z=>z.elim)) fun _ _ z=>z.elim))
end
section
variable {X:Cx} {elt iter:Expr} {ifs:List Expr} {x:Str} {px pos:Pos} {scope:Scope} {cl:List (Str × Addr)} {N:List Str} {fr:List Nat} {tt:TT} {te:TE}
theorem comp_core {pins:List (Addr × Obj)} {σ:St} {s2:Shared} {H2:Hp} {it:Addr} {fp:List Addr} {tn:Nat→Heap→Prop} {J:It} {Q:VK} {E:Value→Shared→Prop} {RR:Value→Addr→Result→Shared→Prop}
    (O:CmpOk X N fr scope cl x) (hc:X.calm = true) (I2:Inv X pins σ H2 s2) (T:Turn X.prog X.w X.K (.Name x px) J fp it tn) (st2:tn 0 s2.heap) (f2:∀ b ∈ fp,FpOk X pins H2 b)
    (ht:∀ fp C s H,PIf (cmpCx X N scope cl fp C s H) ifs tt) (he:∀ fp C s H,PE (cmpCx X N scope cl fp C s H) elt te)
    (hW:CompAt J fr tt te σ Q H2)
    (fin:∀ D C s' H',s2.heap.objs.size ≤ C→H' C = none→(∃ m,s'.heap.Ns C m)→Inv X pins σ H' s'→Q (.ref D) H'→RR (.ref D) C (.ok .next) s') :
    wpAny (model X.prog X.w) X.A (newList []) (fun acc s3=>wpAny (model X.prog X.w) X.A (newFunctionEnv scope X.env.globals cl [] X.env.qual none .none (some X.env)) (fun cenv s4 =>
      codeAny (model X.prog X.w) X.A (.compStart (.ListComp elt [⟨.Name x px,iter,ifs,0⟩] scope pos) 0 (.ref it) acc { cenv with scope:=relabel scope X.env }) (RR acc cenv.locals) s4) E s3) E s2:=by
  refine wpAny_newObj_type (wpAny_newFunctionEnv O.nocell (by intro y hy; simp at hy) (fun h1 hns hsb=>?_) O.kind)
  dsimp only at hns hsb ⊢
  generalize hG:s2.heap.push { cls:=.type "list",dict:=none,data:=.seq ([]:List Value).toArray } = G at hns hsb ⊢
  have hC:G.objs.size = s2.heap.objs.size + 1:=by rw [← hG,Heap.size_push]
  have old:∀ b o,s2.heap.get? b = some o→h1.get? b = some o:=fun b o e=>hsb.extBut b o (Nat.ne_of_lt (by rw [hC]; exact Nat.lt_succ_of_lt (Heap.lt_size e))) (Heap.get?_push_of_some _ (hG ▸ Heap.get?_push_of_some _ e))
  have hacc:h1.get? s2.heap.objs.size = some { cls:=.type "list",data:=.seq ([]:List Value).toArray 0 }:=hsb.extBut _ _ (Nat.ne_of_lt (by rw [hC]; exact Nat.lt_succ_self _)) (Heap.get?_push_of_some _ (hG ▸ Heap.get?_push_size _ rfl))
  have hD:H2 s2.heap.objs.size = none:=I2.fresh
  have okX:(cmpCx X N scope cl fp G.objs.size s2 H2).Ok:=by
    refine ⟨I2.ok.mod,O.kind,I2.ok.glob,I2.ok.blt,by show s2.heap.objs.size ≤ G.objs.size; rw [hC]; exact Nat.le_succ _,fun y z c e1 e2=>I2.ok.inj y z c (O.cells y c e1) (O.cells z c e2),fun y hy=>O.has y hy,fun y c z=>absurd (show false = true from z) Bool.false_ne_true,I2.ok.hd,I2.ok.frames,.inl rfl,
      fun b hb=>⟨?_,fun y c e=>(f2 b hb).2.2.2.2.1 y c (O.cells y c e)⟩,I2.bs,Nat.le_trans I2.ok.bsz I2.sz,fun b o e hb=>?_,fun b hb z=>?_,I2.stack,I2.stkFree⟩
    · obtain ⟨o,e,_⟩:=T.obj _ _ st2 b hb
      show b ≠ G.objs.size
      exact Nat.ne_of_lt (by rw [hC]; exact Nat.lt_succ_of_lt (Heap.lt_size e))
    · rcases (f2 b hb).2.2.2.1 with z | z
      · exact I2.ok.noex b o e z
      · exact absurd (Nat.lt_of_lt_of_le (Heap.lt_size e) (Nat.le_trans I2.ok.bsz z)) (Nat.lt_irrefl _)
    · rcases List.mem_cons.mp (I2.stkSub b z) with z | z
      · exact (f2 b hb).2.1 z
      · exact (f2 b hb).2.2.1 z
  have statX:∀ {H' : Hp},(∀ b ∈ fp,H' b = none)→∀ b ∈ fp,FpOk (cmpCx X N scope cl fp G.objs.size s2 H2) [] H' b:=fun hn b hb =>
    ⟨hn b hb,(okX.exf b hb).1,okX.exfs b hb,.inl hb,(okX.exf b hb).2,fun p hp=>absurd (show p ∈ ([]:List (Addr × Obj)) from hp) (by simp)⟩
  have I' : Inv (cmpCx X N scope cl fp G.objs.size s2 H2) [] (cmpSt σ fr none) (upd H2 s2.heap.objs.size (.lst [])) { s2 with heap:=h1,toks:=s2.toks + ([]:List (Str × Value)).length }:=by
    refine ⟨okX,rfl,I2.bare,Un.laid old (Nat.le_refl _) hD,⟨_,hns,fun i y v e1 e2 e3=>?_⟩,fun y c e=>?_,?_,fun y c e=>?_,fun p hp=>absurd (show p ∈ ([]:List (Addr × Obj)) from hp) (by simp),I2.hok.laid old (Nat.le_refl _) ⟨Nat.zero_le _,[],0,.nil,hacc⟩,?_⟩
    · cases i with
      | zero=>cases e2
      | succ i =>
        obtain ⟨j,q1,q2,q3,q4⟩:=O.sub i y e1
        have e2' : (σ[j]?).join = some v:=by
          have:(fr.map fun j=>(σ[j]?).join)[i]? = some (some v):=e2
          rw [List.getElem?_map,q1] at this
          exact Option.some.inj this
        have e4:σ[j]? = some (some v):=by
          cases z:σ[j]? with
          | none=>rw [z] at e2'; cases e2'
          | some t=>rw [z] at e2'; exact congrArg some e2'
        obtain ⟨m,_,hl⟩:=I2.loc
        have vis:Vis X.env.scope y:=.inr q3
        obtain ⟨u,r,l⟩:=hl j y v q2 e4 vis
        refine ⟨u,r,.inr ⟨q4,?_⟩⟩
        obtain ⟨c',hc'⟩:=O.has y q4
        rcases l with ⟨k,_⟩ | ⟨_,c,ec,ic⟩
        · rcases q3 with z | z
          · rw [z] at k; cases k
          · rw [z] at k; cases k
        · have:=O.cells y c' hc'
          have e' : c = c':=Option.some.inj (ec.symm.trans this)
          obtain ⟨o,ho,hd⟩:=ic
          rw [e'] at ho
          exact ⟨c',hc',o,old c' o ho,hd⟩
    · obtain ⟨v,o,ho,hd⟩:=I2.cell y c (O.cells y c e)
      exact ⟨v,o,old c o ho,hd⟩
    · show upd H2 s2.heap.objs.size (.lst []) G.objs.size = none
      rw [upd_ne (Nat.ne_of_gt (by rw [hC]; exact Nat.lt_succ_self _))]
      exact I2.hok.fresh (by rw [hC]; exact Nat.le_succ _)
    · obtain ⟨v,o,ho,hd⟩:=I2.cell y c (O.cells y c e)
      rw [upd_ne (Nat.ne_of_lt (Heap.lt_size ho))]
      exact I2.freeC y c (O.cells y c e)
    · show (cmpSt σ fr none).length = N.length
      rw [O.len]; simp [cmpSt]
  have st1:tn 0 h1:=T.keep _ _ _ st2 fun b hb o e=>old b o e
  have loop:∀ s3:Shared,s3 = { s2 with heap:=h1,toks:=s2.toks + ([]:List (Str × Value)).length } →
      codeAny (model X.prog X.w) X.A (.compLoop (.ListComp elt [⟨.Name x px,iter,ifs,0⟩] scope pos) 0 (.ref it) (.ref s2.heap.objs.size) (compEnvC scope cl G.objs.size X.env)) (RR (.ref s2.heap.objs.size) G.objs.size) s3:=by
    rintro s3 rfl
    obtain ⟨W,⟨m0,w0⟩,turn⟩:=hW _ hD
    refine comp_turns (fun n s'=>∃ i t H',Inv (cmpCx X N scope cl fp G.objs.size s2 H2) [] (cmpSt σ fr t) H' s'∧tn i s'.heap∧(∀ b ∈ fp,H' b = none)∧W i n H') ?_ m0
      ⟨0,none,_,I',st1,fun b hb=>by
        rw [upd_ne (by obtain ⟨o,e,_⟩:=T.obj _ _ st2 b hb; exact Nat.ne_of_lt (Heap.lt_size e))]
        exact (f2 b hb).1,w0⟩
    rintro n s' ⟨i,t,H',I3,st3,fr3,w3⟩
    rcases turn i n H' w3 with ⟨stop,qn⟩ | ⟨go,step⟩
    · refine thn (T.done (cmpCx X N scope cl fp G.objs.size s2 H2) rfl rfl rfl hc i [] s' _ H' _ I3 (statX fr3) st3 stop) fun r s4 ⟨hr,I4⟩=>?_
      subst hr
      obtain ⟨m,hm,_⟩:=I4.loc
      refine fin _ _ s4 H' (by rw [hC]; exact Nat.le_succ _) I4.free ⟨m,hm⟩ (I2.call' (ch:=fp) I4.os I4.base I4.hok I4.bare fun b hb=>?_) qn
      exact ⟨(f2 b hb).2.2.2.1,(f2 b hb).2.1,(f2 b hb).2.2.2.2.1,(f2 b hb).2.2.2.2.2⟩
    · refine thn (T.item (cmpCx X N scope cl fp G.objs.size s2 H2) rfl rfl rfl hc i [] s' _ H' _ I3 (statX fr3) st3 go) fun r s4 ⟨u,hr,h4⟩=>?_
      subst hr
      refine thn h4 fun _ s5 ⟨y,H5,I5,r5,y5,st5,fr5⟩=>?_
      have I5':=I5.pinned (statX fr5) (T.obj _ _ st5)
      have lx:(cmpCx X N scope cl fp G.objs.size s2 H2).env.scope.names.lookup x = some .local:=lookup_relabel_local O.hx
      refine thn (pg_name (X:=cmpCx X N scope cl fp G.objs.size s2 H2) (i:=0) O.nd O.n0 (.inl lx) (.inr lx) _ s5 _ H5 y u (fun σ' H'=>σ' = cmpSt σ fr (some y)∧H' = H5) I5' r5 ⟨rfl,rfl⟩) fun _ s6 ⟨σ6,H6,I6,e6,e6'⟩=>?_
      subst e6; subst e6'
      have again:∀ {σ7:St} {H7:Hp} {s7:Shared} {m' : Nat},σ7 = cmpSt σ fr (some y)→Inv (cmpCx X N scope cl fp G.objs.size s2 H2) ([] ++ pinsAt fp s5.heap) σ7 H7 s7→m' < n→W (i + 1) m' H7 →
          ∃ m,m < n∧∃ i t H',Inv (cmpCx X N scope cl fp G.objs.size s2 H2) [] (cmpSt σ fr t) H' s7∧tn i s7.heap∧(∀ b ∈ fp,H' b = none)∧W i m H':=fun {σ7 H7 s7 m'} e7 I7 hm w7=>by
        subst e7
        refine ⟨m',hm,i + 1,some y,H7,I7.unpinned,T.keep _ _ _ st5 fun b hb o e=>(I7.pin (b,o) (List.mem_append_right _ (List.mem_append_right _ (mem_pinsAt hb e)))).1,fun b hb=>?_,w7⟩
        obtain ⟨o,e,d⟩:=T.obj _ _ st5 b hb
        exact (I7.pin (b,o) (List.mem_append_right _ (List.mem_append_right _ (mem_pinsAt hb e)))).2.1
      refine thn (ht fp G.objs.size s2 H2 _ s6 _ H6 _ I6 (step y H6 y5)) fun ok s7 ⟨H7,I7,q7⟩=>?_
      cases ok with
      | false =>
        rw [if_neg Bool.false_ne_true] at q7 ⊢
        obtain ⟨m',hm,w7⟩:=q7
        exact again rfl I7 hm w7
      | true =>
        rw [if_pos rfl] at q7 ⊢
        refine thn (he fp G.objs.size s2 H2 _ s7 _ H7 _ I7 q7) fun u8 s8 ⟨v8,H8,I8,r8,ys,hys,hlen,m',hm,w8⟩=>?_
        refine thn (mt_append (X:=cmpCx X N scope cl fp G.objs.size s2 H2) _ s8 _ H8 (.ref s2.heap.objs.size) [v8] _ [u8] (fun _ H9=>W (i + 1) m' H9) I8 rfl (.cons r8 .nil) ⟨_,ys,v8,rfl,rfl,hys,hlen,w8⟩) fun _ s9 ⟨_,H9,I9,_,w9⟩=>?_
        exact again rfl I9 hm w9
  exact codeAny_compStart_list (loop _ rfl) (T.self _ 0 _ _ _ st1 (loop _ rfl))
theorem Inv.left {pins:List (Addr × Obj)} {σ σ2:St} {s2 s' : Shared} {H2 H' : Hp} {C:Addr} {h' : Heap} (I2:Inv X pins σ2 H2 s2) (I' : Inv X pins σ H' s') (hC:s2.heap.objs.size ≤ C) (hn:H' C = none) (hs:Heap.SameBut C s'.heap h'):Inv X pins σ H' { s' with heap:=h' }:=by
  refine I'.turned (t':=s'.toks) (it:=C) (fun b o hb e=>(hs.2 b hb).trans e) hn (Nat.ne_of_gt (Nat.lt_of_lt_of_le I2.lt hC)) (.inr (Nat.le_trans I2.sz hC)) (fun y c e=>?_) fun p hp=>?_
  · obtain ⟨v,o,ho,_⟩:=I2.cell y c e
    exact Nat.ne_of_lt (Nat.lt_of_lt_of_le (Heap.lt_size ho) hC)
  · exact Nat.ne_of_lt (Nat.lt_of_lt_of_le (Heap.lt_size (I2.pin p hp).1) hC)
theorem pe_comp {wi:TI} (hi:PI X (.Name x px) iter wi) (O:CmpOk X N fr scope cl x) (hc:X.calm = true) (ht:∀ fp C s H,PIf (cmpCx X N scope cl fp C s H) ifs tt) (he:∀ fp C s H,PE (cmpCx X N scope cl fp C s H) elt te)
    (hs:∀ v,foldedSetIterable iter X.env v = pure v:=by intro _; rfl):PE X (.ListComp elt [⟨.Name x px,iter,ifs,0⟩] scope pos) (tComp wi fr tt te):=by
  intro pins s σ H Q I h
  rw [eval_ListComp]
  refine wpAny_comprehension_free (use:=none) rfl hs O.clos O.kind O.names (thn (hi pins s σ H _ I h) fun v s1 h1=>thn h1 fun itv s2 h2=>?_)
  obtain ⟨it,fp,tn,J,H2,e,I2,T,st2,f2,hW⟩:=h2
  subst e
  refine comp_core (RR:=fun acc C=>compPost (model X.prog X.w) X.A X.xe none (EP X pins σ Q) acc C) O hc I2 T st2 f2 ht he hW fun D C s' H' hC hn ⟨m,hm⟩ I' q=>?_
  exact ⟨m,hm,fun h' hs'=>⟨.ref D,H',I2.left I' hC hn hs',rfl,q⟩⟩
theorem ps_comp {wi:TI} {i:Nat} {y:Str} {py spos:Pos} (hN:X.N.Nodup) (hy:X.N[i]? = some y) (hl:Loc X.env.scope y) (hi:PI X (.Name x px) iter wi) (O:CmpOk X N fr scope cl x) (hc:X.calm = true)
    (ht:∀ fp C s H,PIf (cmpCx X N scope cl fp C s H) ifs tt) (he:∀ fp C s H,PE (cmpCx X N scope cl fp C s H) elt te) (hs:∀ v,foldedSetIterable iter X.env v = pure v:=by intro _; rfl)
    (hsw:swapsWith (.ListComp elt [⟨.Name x px,iter,ifs,0⟩] scope pos) (some (.Name y py)) spos.line X.env = pure true:=by rfl) (hf:X.fn y = true∨X.env.scope.names.lookup y = some .local:=by first | exact .inl rfl | exact .inr rfl | assumption) :
    PS X (.Assign [.Name y py] (.ListComp elt [⟨.Name x px,iter,ifs,0⟩] scope pos) spos) (tAsg (tComp wi fr tt te) (gName i)):=by
  intro pins s σ H D0 I h
  rw [exec_Assign_Name_used _ _ _ _ hsw]
  refine wpAny_bind (wpAny_standAt (wpAny_bind ?_))
  show wpAny _ X.A (do let _ ← comprehension (.ListComp elt [⟨.Name x px,iter,ifs,0⟩] scope pos) scope X.env _ (newList []) false (eval iter X.env) (some (assign (.Name y py) X.env))) _ _ s
  refine wpAny_bind (wpAny_mono (wpAny_comprehension_free (use:=some (assign (.Name y py) X.env)) (Q:=fun _ s'=>SP X pins D0 .next s') rfl hs O.clos O.kind O.names (thn (hi pins s σ H _ I h) fun v s1 h1=>thn h1 fun itv s2 h2=>?_)) (fun _ s' hq=>wpAny_pure (wpAny_pure hq)) fun _ _ z=>z)
  obtain ⟨it,fp,tn,J,H2,e,I2,T,st2,f2,hW⟩:=h2
  subst e
  refine comp_core (Q:=fun v H1=>gName i v σ H1 D0.nx) (RR:=fun acc C=>compPost (model X.prog X.w) X.A X.xe (some (assign (.Name y py) X.env)) (fun _ s'=>SP X pins D0 .next s') acc C) O hc I2 T st2 f2 ht he hW fun D C s' H' hC hn ⟨m,hm⟩ I' q=>?_
  show wpAny _ X.A (assign (.Name y py) X.env (.ref D)) _ _ s'
  refine wpAny_assign_Name (store_ok2 I' hN hy hl (v:=.ref D) rfl (fun s3 I3 ⟨a,hsa,ha⟩=>?_) hf)
  have hCa:C ≠ a:=by
    rcases ha with z | z
    · rw [z]; exact Nat.ne_of_gt (Nat.lt_of_lt_of_le I2.lt hC)
    · obtain ⟨v,o,ho,_⟩:=I2.cell y a z
      exact Nat.ne_of_gt (Nat.lt_of_lt_of_le (Heap.lt_size ho) hC)
  exact ⟨m,hm.sameBut hsa hCa,fun h' hs'=>⟨_,H',I2.left I3 hC hn hs',q⟩⟩
def CNext (Pv:Addr→Nat→List V→Hp→Prop) (D:Addr) (i n:Nat) (H2:Hp):Prop:=∃ m',m' < n - i∧m' = n - (i + 1)∧i + 1 ≤ n∧∃ zs,Pv D (i + 1) zs H2
def CYes (Pv:Addr→Nat→List V→Hp→Prop) (D:Addr) (i n:Nat):VK:=fun y H3=>∃ ys,H3 D = some (.lst ys)∧ys.length < sizeLine∧CNext Pv D i n (upd H3 D (.lst (ys ++ [y])))
theorem CNext.mk {Pv:Addr→Nat→List V→Hp→Prop} {D:Addr} {i n:Nat} {H2:Hp} {zs:List V} (hi:i < n) (h:Pv D (i + 1) zs H2):CNext Pv D i n H2:=⟨n - (i + 1),by omega,rfl,hi,zs,h⟩
theorem CYes.mk {Pv:Addr→Nat→List V→Hp→Prop} {D:Addr} {i n:Nat} {H3:Hp} {ys:List V} {y:V} (hi:i < n) (e:H3 D = some (.lst ys)) (hl:ys.length < sizeLine) (h:Pv D (i + 1) (ys ++ [y]) (upd H3 D (.lst (ys ++ [y])))):CYes Pv D i n y H3:=⟨ys,e,hl,.mk hi h⟩
theorem comp_list {K:PySem.W.Frag} {a:Addr} {xs:List V} {σ:St} {H1:Hp} {Q:VK} (Pv:Addr→Nat→List V→Hp→Prop) (h0:∀ D,H1 D = none→Pv D 0 [] (upd H1 D (.lst [])))
    (hk:∀ D i ys H,H1 D = none→i ≤ xs.length→Pv D i ys H→SqL K H a xs)
    (hs:∀ D i x ys H,H1 D = none→xs[i]? = some x→Pv D i ys H→tt (cmpSt σ fr (some x)) H fun b H2=>if b = true then te (cmpSt σ fr (some x)) H2 (CYes Pv D i xs.length) else CNext Pv D i xs.length H2)
    (hd:∀ D ys H,H1 D = none→Pv D xs.length ys H→Q (.ref D) H):CompAt (Itl K a) fr tt te σ Q H1:=by
  intro D hD
  refine ⟨fun i m H=>m = xs.length - i∧i ≤ xs.length∧∃ ys,Pv D i ys H,⟨_,rfl,Nat.zero_le _,[],h0 D hD⟩,?_⟩
  rintro i m H ⟨rfl,hi,ys,p⟩
  have q:=hk D i ys H hD hi p
  by_cases hlt:i < xs.length
  · refine .inr ⟨⟨xs,xs[i],q,by simp [hlt]⟩,fun x H' y=>?_⟩
    obtain ⟨e,y⟩:=y
    subst e
    exact hs D i x ys _ hD (y xs q) p
  · have e:i = xs.length:=by omega
    subst e
    exact .inl ⟨⟨xs,q,Nat.le_refl _⟩,hd D ys H hD p⟩
end
end L2
namespace L2
open PySem PySem.Spec PyProof.Rows
structure CmpOkG (X:Cx) (N:List Str) (k:Nat) (fr:List Nat) (scope:Scope) (cl:List (Str × Addr)):Prop where
  clos:closureFor scope X.env = pure cl
  kind:scope.kind = .function
  nocell:∀ y ∈ scope.names,y.2 ≠ .cell
  names:∀ y ∈ scope.names,y.2 = .local→scope.names.lookup y.1 = some .local
  len:N.length = k + fr.length
  sub:∀ (i:Nat) (y:Str),N[k + i]? = some y→∃ j,fr[i]? = some j∧X.N[j]? = some y∧(X.env.kindOf y = some .cell∨X.env.kindOf y = some .free)∧((relabel scope X.env).names.lookup y = some .cell∨(relabel scope X.env).names.lookup y = some .free)
  cells:∀ y c,cl.lookup y = some c→X.env.cells.lookup y = some c
  has:∀ y,((relabel scope X.env).names.lookup y = some .cell∨(relabel scope X.env).names.lookup y = some .free)→∃ c,cl.lookup y = some c
theorem cmpOkG_plain {X:Cx} {N:List Str} {k:Nat} {scope:Scope} (len:N.length = k) (kind:scope.kind = .function) (nofree:∀ y ∈ scope.names,y.2 ≠ .free) (nocell:∀ y ∈ scope.names,y.2 ≠ .cell)
    (names:∀ y ∈ scope.names,y.2 = .local→scope.names.lookup y.1 = some .local):CmpOkG X N k [] scope []:=by
  have er:(relabel scope X.env).names = scope.names:=map_eq_self fun y hy=>by
    have z:(y.2 == NameKind.free) = false:=by simpa using nofree y hy
    simp [z]
  have no:∀ y,¬ ((relabel scope X.env).names.lookup y = some .cell∨(relabel scope X.env).names.lookup y = some .free):=fun y h=>by
    rw [er] at h
    rcases h with h | h
    · exact nocell _ (PySem.mem_of_lookup h) rfl
    · exact nofree _ (PySem.mem_of_lookup h) rfl
  refine ⟨closureFor_none nofree,kind,nocell,names,by rw [len]; rfl,fun i y e=>?_,(fun y c e=>by cases e),fun y h=>absurd h (no y)⟩
  have:=(List.getElem?_eq_some_iff.mp e).1
  omega
def cmpStG (σ:St) (fr:List Nat) (ts:St):St:=ts ++ fr.map fun j=>(σ[j]?).join
def CompAtG (J:It) (gt:TG) (k:Nat) (fr:List Nat) (tt:TT) (te:TE) (σ:St) (Q:VK) (H1:Hp):Prop:=∀ D,H1 D = none→∃ W:Nat→Nat→Hp→Prop,(∃ m,W 0 m (upd H1 D (.lst [])))∧∀ i m H,W i m H →
  (J.stop i H∧Q (.ref D) H)∨(J.go i H∧∀ x H',J.yld i H x H'→∀ ts:St,ts.length = k→gt x (cmpStG σ fr ts) H' fun σ2 H2=>(∃ ts2:St,ts2.length = k∧σ2 = cmpStG σ fr ts2)∧tt σ2 H2 fun b H3=>if b = true then te σ2 H3 fun y H4=>∃ ys,H4 D = some (.lst ys)∧ys.length < sizeLine∧∃ m',m' < m∧W (i + 1) m' (upd H4 D (.lst (ys ++ [y])))
    else ∃ m',m' < m∧W (i + 1) m' H3)
def tCompG (wi:TI) (gt:TG) (k:Nat) (fr:List Nat) (tt:TT) (te:TE):TE:=fun σ H Q=>wi σ H fun J H1=>CompAtG J gt k fr tt te σ Q H1
section
variable {X:Cx} {elt iter tg:Expr} {ifs:List Expr} {pos:Pos} {scope:Scope} {cl:List (Str × Addr)} {N:List Str} {k:Nat} {fr:List Nat} {gt:TG} {tt:TT} {te:TE}
theorem comp_coreG {pins:List (Addr × Obj)} {σ:St} {s2:Shared} {H2:Hp} {it:Addr} {fp:List Addr} {tn:Nat→Heap→Prop} {J:It} {Q:VK} {E:Value→Shared→Prop} {RR:Value→Addr→Result→Shared→Prop}
    (O:CmpOkG X N k fr scope cl) (hc:X.calm = true) (I2:Inv X pins σ H2 s2) (T:Turn X.prog X.w X.K tg J fp it tn) (st2:tn 0 s2.heap) (f2:∀ b ∈ fp,FpOk X pins H2 b)
    (ht:∀ fp C s H,PIf (cmpCx X N scope cl fp C s H) ifs tt) (he:∀ fp C s H,PE (cmpCx X N scope cl fp C s H) elt te)
    (hg:∀ fp C s H,PG (cmpCx X N scope cl fp C s H) tg gt) (hW:CompAtG J gt k fr tt te σ Q H2)
    (fin:∀ D C s' H',s2.heap.objs.size ≤ C→H' C = none→(∃ m,s'.heap.Ns C m)→Inv X pins σ H' s'→Q (.ref D) H'→RR (.ref D) C (.ok .next) s') :
    wpAny (model X.prog X.w) X.A (newList []) (fun acc s3=>wpAny (model X.prog X.w) X.A (newFunctionEnv scope X.env.globals cl [] X.env.qual none .none (some X.env)) (fun cenv s4 =>
      codeAny (model X.prog X.w) X.A (.compStart (.ListComp elt [⟨tg,iter,ifs,0⟩] scope pos) 0 (.ref it) acc { cenv with scope:=relabel scope X.env }) (RR acc cenv.locals) s4) E s3) E s2:=by
  refine wpAny_newObj_type (wpAny_newFunctionEnv O.nocell (by intro y hy; simp at hy) (fun h1 hns hsb=>?_) O.kind)
  dsimp only at hns hsb ⊢
  generalize hG:s2.heap.push { cls:=.type "list",dict:=none,data:=.seq ([]:List Value).toArray } = G at hns hsb ⊢
  have hC:G.objs.size = s2.heap.objs.size + 1:=by rw [← hG,Heap.size_push]
  have old:∀ b o,s2.heap.get? b = some o→h1.get? b = some o:=fun b o e=>hsb.extBut b o (Nat.ne_of_lt (by rw [hC]; exact Nat.lt_succ_of_lt (Heap.lt_size e))) (Heap.get?_push_of_some _ (hG ▸ Heap.get?_push_of_some _ e))
  have hacc:h1.get? s2.heap.objs.size = some { cls:=.type "list",data:=.seq ([]:List Value).toArray 0 }:=hsb.extBut _ _ (Nat.ne_of_lt (by rw [hC]; exact Nat.lt_succ_self _)) (Heap.get?_push_of_some _ (hG ▸ Heap.get?_push_size _ rfl))
  have hD:H2 s2.heap.objs.size = none:=I2.fresh
  have okX:(cmpCx X N scope cl fp G.objs.size s2 H2).Ok:=by
    refine ⟨I2.ok.mod,O.kind,I2.ok.glob,I2.ok.blt,by show s2.heap.objs.size ≤ G.objs.size; rw [hC]; exact Nat.le_succ _,fun y z c e1 e2=>I2.ok.inj y z c (O.cells y c e1) (O.cells z c e2),fun y hy=>O.has y hy,fun y c z=>absurd (show false = true from z) Bool.false_ne_true,I2.ok.hd,I2.ok.frames,.inl rfl,
      fun b hb=>⟨?_,fun y c e=>(f2 b hb).2.2.2.2.1 y c (O.cells y c e)⟩,I2.bs,Nat.le_trans I2.ok.bsz I2.sz,fun b o e hb=>?_,fun b hb z=>?_,I2.stack,I2.stkFree⟩
    · obtain ⟨o,e,_⟩:=T.obj _ _ st2 b hb
      show b ≠ G.objs.size
      exact Nat.ne_of_lt (by rw [hC]; exact Nat.lt_succ_of_lt (Heap.lt_size e))
    · rcases (f2 b hb).2.2.2.1 with z | z
      · exact I2.ok.noex b o e z
      · exact absurd (Nat.lt_of_lt_of_le (Heap.lt_size e) (Nat.le_trans I2.ok.bsz z)) (Nat.lt_irrefl _)
    · rcases List.mem_cons.mp (I2.stkSub b z) with z | z
      · exact (f2 b hb).2.1 z
      · exact (f2 b hb).2.2.1 z
  have statX:∀ {H' : Hp},(∀ b ∈ fp,H' b = none)→∀ b ∈ fp,FpOk (cmpCx X N scope cl fp G.objs.size s2 H2) [] H' b:=fun hn b hb =>
    ⟨hn b hb,(okX.exf b hb).1,okX.exfs b hb,.inl hb,(okX.exf b hb).2,fun p hp=>absurd (show p ∈ ([]:List (Addr × Obj)) from hp) (by simp)⟩
  have I' : Inv (cmpCx X N scope cl fp G.objs.size s2 H2) [] (cmpStG σ fr (List.replicate k none)) (upd H2 s2.heap.objs.size (.lst [])) { s2 with heap:=h1,toks:=s2.toks + ([]:List (Str × Value)).length }:=by
    refine ⟨okX,rfl,I2.bare,Un.laid old (Nat.le_refl _) hD,⟨_,hns,fun i y v e1 e2 e3=>?_⟩,fun y c e=>?_,?_,fun y c e=>?_,fun p hp=>absurd (show p ∈ ([]:List (Addr × Obj)) from hp) (by simp),I2.hok.laid old (Nat.le_refl _) ⟨Nat.zero_le _,[],0,.nil,hacc⟩,?_⟩
    · by_cases hik:i < k
      · have e2' : (List.replicate k none ++ fr.map fun j=>(σ[j]?).join)[i]? = some (some v):=e2
        rw [List.getElem?_append_left (by rw [List.length_replicate]; exact hik),List.getElem?_replicate,if_pos hik] at e2'
        cases e2'
      · obtain ⟨j,q1,q2,q3,q4⟩:=O.sub (i - k) y (by rw [show k + (i - k) = i by omega]; exact e1)
        have e2' : (σ[j]?).join = some v:=by
          have:(List.replicate k none ++ fr.map fun j=>(σ[j]?).join)[i]? = some (some v):=e2
          rw [List.getElem?_append_right (by rw [List.length_replicate]; omega),List.length_replicate,List.getElem?_map,q1] at this
          exact Option.some.inj this
        have e4:σ[j]? = some (some v):=by
          cases z:σ[j]? with
          | none=>rw [z] at e2'; cases e2'
          | some t=>rw [z] at e2'; exact congrArg some e2'
        obtain ⟨m,_,hl⟩:=I2.loc
        have vis:Vis X.env.scope y:=.inr q3
        obtain ⟨u,r,l⟩:=hl j y v q2 e4 vis
        refine ⟨u,r,.inr ⟨q4,?_⟩⟩
        obtain ⟨c',hc'⟩:=O.has y q4
        rcases l with ⟨k,_⟩ | ⟨_,c,ec,ic⟩
        · rcases q3 with z | z
          · rw [z] at k; cases k
          · rw [z] at k; cases k
        · have:=O.cells y c' hc'
          have e' : c = c':=Option.some.inj (ec.symm.trans this)
          obtain ⟨o,ho,hd⟩:=ic
          rw [e'] at ho
          exact ⟨c',hc',o,old c' o ho,hd⟩
    · obtain ⟨v,o,ho,hd⟩:=I2.cell y c (O.cells y c e)
      exact ⟨v,o,old c o ho,hd⟩
    · show upd H2 s2.heap.objs.size (.lst []) G.objs.size = none
      rw [upd_ne (Nat.ne_of_gt (by rw [hC]; exact Nat.lt_succ_self _))]
      exact I2.hok.fresh (by rw [hC]; exact Nat.le_succ _)
    · obtain ⟨v,o,ho,hd⟩:=I2.cell y c (O.cells y c e)
      rw [upd_ne (Nat.ne_of_lt (Heap.lt_size ho))]
      exact I2.freeC y c (O.cells y c e)
    · show (cmpStG σ fr (List.replicate k none)).length = N.length
      rw [O.len]; simp [cmpStG]
  have st1:tn 0 h1:=T.keep _ _ _ st2 fun b hb o e=>old b o e
  have loop:∀ s3:Shared,s3 = { s2 with heap:=h1,toks:=s2.toks + ([]:List (Str × Value)).length } →
      codeAny (model X.prog X.w) X.A (.compLoop (.ListComp elt [⟨tg,iter,ifs,0⟩] scope pos) 0 (.ref it) (.ref s2.heap.objs.size) (compEnvC scope cl G.objs.size X.env)) (RR (.ref s2.heap.objs.size) G.objs.size) s3:=by
    rintro s3 rfl
    obtain ⟨W,⟨m0,w0⟩,turn⟩:=hW _ hD
    refine comp_turns (fun n s'=>∃ i ts H',ts.length = k∧Inv (cmpCx X N scope cl fp G.objs.size s2 H2) [] (cmpStG σ fr ts) H' s'∧tn i s'.heap∧(∀ b ∈ fp,H' b = none)∧W i n H') ?_ m0
      ⟨0,List.replicate k none,_,List.length_replicate,I',st1,fun b hb=>by
        rw [upd_ne (by obtain ⟨o,e,_⟩:=T.obj _ _ st2 b hb; exact Nat.ne_of_lt (Heap.lt_size e))]
        exact (f2 b hb).1,w0⟩
    rintro n s' ⟨i,ts,H',hts,I3,st3,fr3,w3⟩
    rcases turn i n H' w3 with ⟨stop,qn⟩ | ⟨go,step⟩
    · refine thn (T.done (cmpCx X N scope cl fp G.objs.size s2 H2) rfl rfl rfl hc i [] s' _ H' _ I3 (statX fr3) st3 stop) fun r s4 ⟨hr,I4⟩=>?_
      subst hr
      obtain ⟨m,hm,_⟩:=I4.loc
      refine fin _ _ s4 H' (by rw [hC]; exact Nat.le_succ _) I4.free ⟨m,hm⟩ (I2.call' (ch:=fp) I4.os I4.base I4.hok I4.bare fun b hb=>?_) qn
      exact ⟨(f2 b hb).2.2.2.1,(f2 b hb).2.1,(f2 b hb).2.2.2.2.1,(f2 b hb).2.2.2.2.2⟩
    · refine thn (T.item (cmpCx X N scope cl fp G.objs.size s2 H2) rfl rfl rfl hc i [] s' _ H' _ I3 (statX fr3) st3 go) fun r s4 ⟨u,hr,h4⟩=>?_
      subst hr
      refine thn h4 fun _ s5 ⟨y,H5,I5,r5,y5,st5,fr5⟩=>?_
      have I5':=I5.pinned (statX fr5) (T.obj _ _ st5)
      refine thn (hg fp G.objs.size s2 H2 _ s5 _ H5 y u _ I5' r5 (step y H5 y5 ts hts)) fun _ s6 ⟨σ6,H6,I6,⟨ts6,hts6,e6⟩,q6⟩=>?_
      subst e6
      have again:∀ {σ7:St} {H7:Hp} {s7:Shared} {m' : Nat},σ7 = cmpStG σ fr ts6→Inv (cmpCx X N scope cl fp G.objs.size s2 H2) ([] ++ pinsAt fp s5.heap) σ7 H7 s7→m' < n→W (i + 1) m' H7 →
          ∃ m,m < n∧∃ i ts H',ts.length = k∧Inv (cmpCx X N scope cl fp G.objs.size s2 H2) [] (cmpStG σ fr ts) H' s7∧tn i s7.heap∧(∀ b ∈ fp,H' b = none)∧W i m H':=fun {σ7 H7 s7 m'} e7 I7 hm w7=>by
        subst e7
        refine ⟨m',hm,i + 1,ts6,H7,hts6,I7.unpinned,T.keep _ _ _ st5 fun b hb o e=>(I7.pin (b,o) (List.mem_append_right _ (List.mem_append_right _ (mem_pinsAt hb e)))).1,fun b hb=>?_,w7⟩
        obtain ⟨o,e,d⟩:=T.obj _ _ st5 b hb
        exact (I7.pin (b,o) (List.mem_append_right _ (List.mem_append_right _ (mem_pinsAt hb e)))).2.1
      refine thn (ht fp G.objs.size s2 H2 _ s6 _ H6 _ I6 q6) fun ok s7 ⟨H7,I7,q7⟩=>?_
      cases ok with
      | false =>
        rw [if_neg Bool.false_ne_true] at q7 ⊢
        obtain ⟨m',hm,w7⟩:=q7
        exact again rfl I7 hm w7
      | true =>
        rw [if_pos rfl] at q7 ⊢
        refine thn (he fp G.objs.size s2 H2 _ s7 _ H7 _ I7 q7) fun u8 s8 ⟨v8,H8,I8,r8,ys,hys,hlen,m',hm,w8⟩=>?_
        refine thn (mt_append (X:=cmpCx X N scope cl fp G.objs.size s2 H2) _ s8 _ H8 (.ref s2.heap.objs.size) [v8] _ [u8] (fun _ H9=>W (i + 1) m' H9) I8 rfl (.cons r8 .nil) ⟨_,ys,v8,rfl,rfl,hys,hlen,w8⟩) fun _ s9 ⟨_,H9,I9,_,w9⟩=>?_
        exact again rfl I9 hm w9
  exact codeAny_compStart_list (loop _ rfl) (T.self _ 0 _ _ _ st1 (loop _ rfl))
theorem pe_compG {wi:TI} (hi:PI X tg iter wi) (O:CmpOkG X N k fr scope cl) (hc:X.calm = true) (hg:∀ fp C s H,PG (cmpCx X N scope cl fp C s H) tg gt) (ht:∀ fp C s H,PIf (cmpCx X N scope cl fp C s H) ifs tt) (he:∀ fp C s H,PE (cmpCx X N scope cl fp C s H) elt te)
    (hs:∀ v,foldedSetIterable iter X.env v = pure v:=by intro _; rfl):PE X (.ListComp elt [⟨tg,iter,ifs,0⟩] scope pos) (tCompG wi gt k fr tt te):=by
  intro pins s σ H Q I h
  rw [eval_ListComp]
  refine wpAny_comprehension_free (use:=none) rfl hs O.clos O.kind O.names (thn (hi pins s σ H _ I h) fun v s1 h1=>thn h1 fun itv s2 h2=>?_)
  obtain ⟨it,fp,tn,J,H2,e,I2,T,st2,f2,hW⟩:=h2
  subst e
  refine comp_coreG (RR:=fun acc C=>compPost (model X.prog X.w) X.A X.xe none (EP X pins σ Q) acc C) O hc I2 T st2 f2 ht he hg hW fun D C s' H' hC hn ⟨m,hm⟩ I' q=>?_
  exact ⟨m,hm,fun h' hs'=>⟨.ref D,H',I2.left I' hC hn hs',rfl,q⟩⟩
theorem compG_list {K:PySem.W.Frag} {a:Addr} {xs:List V} {σ:St} {H1:Hp} {Q:VK} (Pv:Addr→Nat→List V→Hp→Prop) (h0:∀ D,H1 D = none→Pv D 0 [] (upd H1 D (.lst [])))
    (hk:∀ D i ys H,H1 D = none→i ≤ xs.length→Pv D i ys H→SqL K H a xs)
    (hs:∀ D i x ys H,H1 D = none→xs[i]? = some x→Pv D i ys H→∀ ts:St,ts.length = k→gt x (cmpStG σ fr ts) H fun σ2 H2=>(∃ ts2:St,ts2.length = k∧σ2 = cmpStG σ fr ts2)∧tt σ2 H2 fun b H3=>if b = true then te σ2 H3 (CYes Pv D i xs.length) else CNext Pv D i xs.length H3)
    (hd:∀ D ys H,H1 D = none→Pv D xs.length ys H→Q (.ref D) H):CompAtG (Itl K a) gt k fr tt te σ Q H1:=by
  intro D hD
  refine ⟨fun i m H=>m = xs.length - i∧i ≤ xs.length∧∃ ys,Pv D i ys H,⟨_,rfl,Nat.zero_le _,[],h0 D hD⟩,?_⟩
  rintro i m H ⟨rfl,hi,ys,p⟩
  have q:=hk D i ys H hD hi p
  by_cases hlt:i < xs.length
  · refine .inr ⟨⟨xs,xs[i],q,by simp [hlt]⟩,fun x H' y=>?_⟩
    obtain ⟨e,y⟩:=y
    subst e
    exact hs D i x ys _ hD (y xs q) p
  · have e:i = xs.length:=by omega
    subst e
    exact .inl ⟨⟨xs,q,Nat.le_refl _⟩,hd D ys H hD p⟩
end
theorem gTupK {X:Cx} {K:PySem.W.Frag} {es:List Expr} {k:Nat} {t:TGs} {n:Nat} {pos:Pos} (hK:X.K = K) (hc:X.calm = true) (h:PGs X es t) (hn:(assignEach es X.env).length = n:=by rfl) (hst:(assignEach es X.env).findIdx? (·.1) = none:=by rfl):PG X (.Tuple es k pos) (gTup K n t):=hK ▸ pg_tup hc h hn hst
end L2
namespace Srt
open PySem PySem.W PyProof.Rows
def Ok (n:Nat) (lt:Nat→Nat→Bool) {α:Type} : KasT α→(α→Prop)→Prop
  | .ret a,Q=>Q a
  | .ask i j k,Q=>i < n∧j < n∧Ok n lt (k (lt i j)) Q
section
variable {n:Nat} {lt:Nat→Nat→Bool}
abbrev g (p:Array Nat) (i:Nat):Nat:=p.getD i 0
def Bd (n:Nat) (p:Array Nat):Prop:=0 < n∧∀ i,g p i < n
def Up (lt:Nat→Nat→Bool) (p:Array Nat) (k:Nat):Prop:=∀ i j,i ≤ j→j < k→lt (g p j) (g p i) = false
def Dn (lt:Nat→Nat→Bool) (p:Array Nat) (k:Nat):Prop:=∀ i j,i ≤ j→j < k→lt (g p i) (g p j) = false
structure Ord (lt:Nat→Nat→Bool):Prop where
  tr:∀ a b c,lt b a = false→lt c b = false→lt c a = false
  as:∀ a b,lt a b = true→lt b a = false
def Eqs (lt:Nat→Nat→Bool) (p:Array Nat) (a b:Nat):Prop:=∀ i j,a ≤ i→i < b→a ≤ j→j < b→lt (g p i) (g p j) = false
end
end Srt
namespace L2
open PySem PySem.Spec PySem.W PyProof.Rows
def ltP (p q:Int × Int):Bool:=decide (p.1 < q.1) || (decide (p.1 = q.1) && decide (p.2 < q.2))
section
variable {prog:Program} {w:World} {A:Around} {E:Value→Shared→Prop} {s:Shared}
end
section
variable {X:Cx}
end
end L2
namespace L2
structure BothI (S A B A0 B0:List Pr):Prop where
  ap:Apart S
  aA:Apart A
  aB:Apart B
  mem:∀ n,(inP A0 n && inP B0 n) = (inP S n || (inP A n && inP B n))
  gap:∀ s ∈ S,(∀ p ∈ A,s.2 + 2 ≤ p.1)∨(∀ p ∈ B,s.2 + 2 ≤ p.1)
structure GapI (F T:List Pr) (lo hi st:Int):Prop where
  ap:Apart F
  lt:∀ s ∈ F,s.2 + 2 ≤ st
  rng:∀ s ∈ F,lo ≤ s.1∧s.2 ≤ hi
  tk:∀ p ∈ T,p.2 < st
  fr:st = lo∨∃ p ∈ T,st = p.2 + 1
  ge:lo ≤ st
  mem:∀ n,lo ≤ n→n ≤ hi→n < st→inP F n = !inP T n
end L2
namespace L2
structure Walk (ts:List (Int × Int × Int)):Prop where
  le:∀ t ∈ ts,t.1 ≤ t.2.1
  nx:∀ (i:Nat) a b,ts[i]? = some a→ts[i + 1]? = some b→b.1 = a.2.1 + 1
def pcs (msk:Int→Bool) (ts:List (Int × Int × Int)) (n:Int):Bool:=ts.any fun t=>inR n (t.1,t.2.1) && msk t.2.2
structure RunI (R:List Pr) (ts:List (Int × Int × Int)) (msk:Int→Bool) (i:Nat) (at_:Int):Prop where
  ap:Apart R
  mem:∀ n,inP R n = pcs msk (ts.take i) n
  lt:∀ r ∈ R,r.2 < at_
  few:2 * R.length ≤ i∨(2 * R.length ≤ i + 1∧∃ R' l,R = R' ++ [l]∧l.2 = at_ - 1)
section
variable {R:List Pr} {ts:List (Int × Int × Int)} {msk:Int→Bool} {i:Nat} {at_:Int} {t:Int × Int × Int}
end
end L2
namespace L2
def ends (R:List Pr):List Int:=R.flatMap fun p=>[p.1,p.2 + 1]
end L2
namespace L2
def cnt:List Pr→Int
  | []=>0
  | p :: R=>(p.2 - p.1 + 1) + cnt R
def b2 (b:Bool):Int:=if b = true then 1 else 0
def num (f:Int→Bool) (a:Int):Nat→Int
  | 0=>0
  | k + 1=>num f a k + b2 (f (a + k))
end L2
namespace L2
open PySem PySem.Spec PyProof.Rows
section
variable {X:Cx}
end
section
variable {prog:Program} {w:World} {A:Around} {E:Value→Shared→Prop} {s:Shared}
end
section
variable {X:Cx}
end
end L2
namespace L2
theorem sorted_uniq:∀ {A B:List Int},A.Pairwise (· < ·)→B.Pairwise (· < ·)→(∀ c,c ∈ A↔c ∈ B)→A = B
  | [],[],_,_,_=>rfl
  | [],b :: B,_,_,h=>by have:=(h b).mpr (.head _); cases this
  | a :: A,[],_,_,h=>by have:=(h a).mp (.head _); cases this
  | a :: A,b :: B,hA,hB,h=>by
    obtain ⟨a1,a2⟩:=List.pairwise_cons.mp hA
    obtain ⟨b1,b2⟩:=List.pairwise_cons.mp hB
    have e:a = b:=by
      rcases List.mem_cons.mp ((h a).mp (.head _)) with e | e
      · exact e
      · rcases List.mem_cons.mp ((h b).mpr (.head _)) with e' | e'
        · exact e'.symm
        · have:=a1 b e'; have:=b1 a e; omega
    subst e
    congr 1
    refine sorted_uniq a2 b2 fun c=>⟨fun hc=>?_,fun hc=>?_⟩
    · rcases List.mem_cons.mp ((h c).mp (.tail _ hc)) with e | e
      · have:=a1 c hc; omega
      · exact e
    · rcases List.mem_cons.mp ((h c).mpr (.tail _ hc)) with e | e
      · have:=b1 c hc; omega
      · exact e
def NeS (W:List (Int × Int × Int)):Prop:=∀ (j:Nat) a b,W[j]? = some a→W[j + 1]? = some b→a.2.2 ≠ b.2.2
structure StepI (G ts:List (Int × Int × Int)) (i:Nat):Prop where
  walk:Walk G
  ne:NeS G
  pcs:∀ msk n,pcs msk G n = L2.pcs msk (ts.take i) n
  hd:∀ t,ts[0]? = some t→0 < i→∃ g,G[0]? = some g∧g.1 = t.1
  lst:∀ t,ts[i - 1]? = some t→0 < i→∃ G' g,G = G' ++ [g]∧g.2.1 = t.2.1∧g.2.2 = t.2.2
  len:G.length ≤ i
  stt:∀ g ∈ G,∃ t ∈ ts,g.2.2 = t.2.2
section
variable {G ts:List (Int × Int × Int)} {i:Nat} {t:Int × Int × Int}
end
end L2
namespace L2
open PySem PySem.Spec PyProof.Rows
def Its (z:Str):It:=⟨fun i _=>i < z.cps.size,fun i H x H'=>H' = H∧∃ c,z.cps[i]? = some c∧x = .str ⟨#[c]⟩,fun i _=>z.cps.size ≤ i⟩
section
variable {X:Cx} {tg:Expr}
def iStr (tl:TE):PySem.W.Frag→St→Hp→(It→Hp→Prop)→Prop:=fun _ σ H R=>tl σ H fun x H1=>∃ z,x = .str z∧R (Its z) H1
end
section
variable {X:Cx}
def rJoin (K:PySem.W.Frag):V→List V→Hp→VK→Prop:=fun x vs H Q=>∃ (z:Str) (a:Addr) (ys:List Str),x = .str z∧vs = [.ref a]∧SqL K H a (ys.map V.str)∧z.length ≤ 64∧(ys.map (·.length)).sum + ys.length * 64 ≤ 16777216∧Q (.str (Txt.join z ys)) H
theorem pe_gl {x:Str} {v:V} {pos:Pos} (hg:Gl X x) (h:∃ u,X.mg x = some u∧RelV v u) (hd:(x == ("__debug__" : Str)) = false:=by decide):PE X (.Name x pos) (tC v):=by
  obtain ⟨_,m,r⟩:=h
  exact pe_glob hg m r hd
end
def sg (g:Str) (c:Nat):Bool:=!(Builtin.Str.occurrences g ⟨#[c]⟩ 0 g.length 1).isEmpty
def allIn (z g:Str):Bool:=z.cps.toList.all (sg g)
end L2
namespace L2
open PySem PySem.Spec PyProof.Rows PySem.NumText
section
variable {X:Cx}
def rSlS:V→Option Int→Option Int→Hp→VK→Prop:=fun x lo hi H Q=>∃ z,x = .str z∧z.length ≤ sizeLine∧Q (.str (Txt.slice z lo hi)) H
def rStarts:V→List V→Hp→VK→Prop:=fun x vs H Q=>∃ z y:Str,x = .str z∧vs = [.str y]∧Q (.bl (Txt.startswith z y)) H
end
structure Figs (cs:List Nat):Prop where
  all:AllDigits cs
  one:cs.length = 1∨∃ c r,cs = c :: r∧49 ≤ c
def numCs (n:Int) (cs:List Nat):List Nat:=if n < 0 then 45 :: cs else cs
end L2
namespace L2
open PySem PySem.Spec PyProof.Rows PySem.W
theorem op_mulO {X:Cx} : OpR X (binaryOp .Mult) (rI IntMulOk fun i j=>.int (i * j)):=opI fun _ _ _ _ _ _ _ hc q=>mul_int q hc
end L2
namespace L2
open PySem PySem.Spec PyProof.Rows
def ExcT (h:Heap) (e T:Addr) (cls a0:Value):Prop :=
  ∃ oe vs oT ts,h.get? e = some oe∧(oe.cls = cls∧vs[0]? = some a0)∧oe.data = .fields vs∧vs[1]? = some (.ref T)∧T ≠ e∧h.get? T = some oT∧oT.data = .fields ts∧ts[3]? = some .none
structure Stp (F X:List Addr) (h h' : Heap):Prop where
  keep:∀ b o,b ∉ F→b ∉ X→h.get? b = some o→h'.get? b = some o
  slot:∀ b o,b ∈ F→h.get? b = some o→∃ sl,h'.get? b = some { o with slots:=sl }
section
variable {M:Model} {A:Around} {E:Value→Shared→Prop} {s:Shared} {base:Heap} {env:Env} {outer:List Env} {L e T:Addr} {oe:Obj} {vs:Array Value} {a0 cls:Value} {Q:Unit→Shared→Prop}
end
end L2
namespace L2
open PySem PySem.Spec PyProof.Rows
section
variable {P:Program} {w:World} {H H' : Hp} {h h' : Heap} {a:Addr} {o:HO} {F Y fs:List Addr}
end
def CX1 (P:Program) (w:World):CXT:=fun outer H s E ev s'=>∃ (e T C:Addr) (a0:Value) (H' : Hp),ev = .ref e∧s'.os = s.os∧AllBare s'.gens∧Un (frs outer) [] H H' s.heap s'.heap∧HOk P w H' s'.heap ∧
  ExcT s'.heap e T (.ref C) a0∧s.heap.get? e = none∧s.heap.get? T = none∧H' e = none∧H' T = none∧E (.ref C) none H'
structure NewAt (X:Cx) (pins:List (Addr × Obj)) (H:Hp) (b:Addr):Prop where
  ent:X.s₀.heap.get? b = none
  unt:H b = none
  loc:b ≠ X.env.locals
  cel:∀ x c,X.env.cells.lookup x = some c→c ≠ b
  pin:∀ p ∈ X.pn ++ pins,p.1 ≠ b
section
variable {X:Cx} {pins:List (Addr × Obj)} {σ:St} {H:Hp} {s:Shared} {h' : Heap} {e T:Addr}
end
structure ExcCls (K:PySem.W.Frag) (C:Addr):Prop where
  ex:∃ (bmB bmN:List Value) (newId B Bn nid initId inN:String),PySem.W.excIn K C bmB newId = true∧ExcBaseFacts Bn newId inN bmN∧bmB.contains (Value.type Bn) = true∧ExcBaseFacts B nid initId bmB
section
variable {P:Program} {w:World} {K:PySem.W.Frag} {mg:Str→Option Value} {base:Heap} {N:List Str} {qual:Str} {scope:Scope} {f:Addr} {cd:Value} {A:Around} {outer:List Env} {s0:Shared} {H0:Hp} {E:XK}
def tRaise (C:Addr) (E:XK) (t:TA):TS:=fun _ σ H=>t σ H fun vs H1=>vs.length ≤ sizeLine∧E (.ref C) none H1
end
end L2
namespace L2
open PySem PySem.Spec PyProof.Rows
def XP (X:Cx) (pins:List (Addr × Obj)) (σ:St) (EX:Addr→Hp→Prop) (ev:Value) (s' : Shared):Prop :=
  ∃ (e T C:Addr) (a0:Value) (H' : Hp),ev = .ref e∧Inv X pins σ H' s'∧ExcT s'.heap e T (.ref C) a0∧NewAt X pins H' e∧NewAt X pins H' T∧EX C H'
abbrev TX:=St→Hp→VK→(Addr→Hp→Prop)→Prop
def PEX (X:Cx) (e:Expr) (t:TX):Prop :=
  ∀ (pins:List (Addr × Obj)) (s:Shared) (σ:St) (H:Hp) (Q:VK) (EX:Addr→Hp→Prop),Inv X pins σ H s→t σ H Q EX→wpAny (model X.prog X.w) X.A (eval e X.env) (EP X pins σ Q) (XP X pins σ EX) s
def CalleeX (P:Program) (w:World) (K:PySem.W.Frag) (mg:Str→Option Value) (base:Heap) (k:Nat) (x:Str) (ps:List Str) (sp:Sp):Prop :=
  ∃ f fd,FnOk P w K mg base (CX1 P w) k f fd ps sp∧Binds K fd ps []∧PySem.W.keepIn K (.ref f) = true∧mg x = some (.ref f)
section
variable {X:Cx} {pins:List (Addr × Obj)} {σ:St} {H:Hp} {s s' : Shared}
end
section
variable {X:Cx} {k:Nat} {x:Str} {ps:List Str} {sp:Sp} {e:Expr} {es:List Expr} {t:TA} {p pos:Pos}
def tFnX (sp:Sp) (t:TA):TX:=fun σ H Q EX=>t σ H fun vs H1=>sp vs H1 Q fun cv _ H2=>∃ C,cv = .ref C∧EX C H2
abbrev TSX:=Ends→St→Hp→(Addr→Hp→Prop)→Prop
def PSX (X:Cx) (st:Stmt) (t:TSX):Prop :=
  ∀ (pins:List (Addr × Obj)) (s:Shared) (σ:St) (H:Hp) (D:Ends) (EX:Addr→Hp→Prop),Inv X pins σ H s→t D σ H EX→wpAny (model X.prog X.w) X.A (exec st X.env) (SP X pins D) (XP X pins σ EX) s
def tSetX (i:Nat) (te:TX):TSX:=fun D σ H EX=>te σ H (fun v H1=>D.nx (σ.set i (some v)) H1) EX
def tDropX (te:TX):TSX:=fun D σ H EX=>te σ H (fun _ H1=>D.nx σ H1) EX
end
def sfx (X:Cx) (e:Addr) (oe:Obj):Cx:={ X with A:=X.A.mark (some (.ref e)),calm:=false,pn:=(e,oe) :: X.pn,xe:=fun _ _=>False }
section
variable {X:Cx} {pins:List (Addr × Obj)} {σ:St} {H:Hp} {s s' : Shared} {e:Addr} {oe:Obj}
end
section
variable {X:Cx} {pins:List (Addr × Obj)} {σ:St} {H:Hp} {s:Shared}
end
def tTry (i:Nat) (B:Addr) (K:PySem.W.Frag) (G:Addr→Prop) (tb:TSX) (ts:Addr→Addr→TS):TS:=fun D σ H=>tb D σ H fun C H1=>PySem.W.exmOne K (.ref C) (.ref B) = some true∧G C ∧
  ∀ e,ts C e { nx:=fun σ' H'=>D.nx (σ'.set i none) H',rt:=D.rt,bk:=fun σ' H'=>D.bk (σ'.set i none) H',ct:=fun σ' H'=>D.ct (σ'.set i none) H' } (σ.set i (some (.ref e))) H1
section
variable {X:Cx} {st b₀:Stmt} {su:List Stmt} {tb:TSX} {ts:Addr→Addr→TS} {Tn n:Str} {B:Addr} {i:Nat} {np hpos pos:Pos}
end
end L2
namespace L2
open PySem PySem.Spec PyProof.Rows
structure ExcLook (K:PySem.W.Frag) (C:Addr):Prop where
  ga:PySem.W.findIn K (.ref C) "__getattribute__" = some (some (.builtin "BaseException.__getattribute__"))
  hk:PySem.W.findIn K (.ref C) "__getattr__" = some none
  cl:PySem.W.findIn K (.ref C) "__class__" = some (some (.builtin "object.__class__"))
  gt:PySem.W.specialIn K (.builtin "object.__class__") "__get__" = some (some (.builtin "getset_descriptor.__get__"))
  tk:PySem.W.takesIn K (.builtin "object.__class__") = some true
  ob:PySem.W.mroIn K C (.type "object") = some true
  be:PySem.W.mroIn K C (.type "BaseException") = some true
  me:PySem.W.kitCls K (.ref C) (.ref C) = some true
section
variable {prog:Program} {w:World} {A:Around} {E:Value→Shared→Prop} {s:Shared} {K:PySem.W.Frag} {e C:Addr} {oe:Obj}
end
section
variable {X:Cx} {e C:Addr} {oe:Obj}
end
end L2
namespace L2
open PySem PySem.Spec PyProof.Rows
section
variable {X:Cx}
def tFr (c:Str) (ta:TE):TE:=fun σ H Q=>ta σ H fun x H1=>∃ z:Str,x = .str z∧z.length ≤ 1000∧(∀ n ∈ z.cps.toList,n < 16 ^ 8)∧c.length ≤ 1000∧∀ z2:Str,Q (.str z2) H1
def rFind:V→List V→Hp→VK→Prop:=fun x vs H Q=>∃ z y:Str,x = .str z∧vs = [.str y]∧Q (.int (Txt.find z y)) H
end
end L2
namespace L2
open PySem PySem.Spec PyProof.Rows
def MCallee (CX:CXT) (P:Program) (w:World) (K:PySem.W.Frag) (mg:Str→Option Value) (base:Heap) (k:Nat) (C:Addr) (m:Str) (ps:List Str) (sp:Sp):Prop :=
  ∃ f fd,Meth K C m f∧FnOk P w K mg base CX k f fd ps sp∧Binds K fd ps []
def MkCallee (CX:CXT) (P:Program) (w:World) (K:PySem.W.Frag) (mg:Str→Option Value) (base:Heap) (k:Nat) (x:Str) (C:Addr) (ps:List Str) (sp:Sp):Prop :=
  ∃ f fd,Mk K C f∧FnOk P w K mg base CX k f fd ps sp∧Binds K fd ps []∧mg x = some (.ref C)
structure BaseM (K:PySem.W.Frag) (B:Addr) (m:Str) (f:Addr):Prop where
  sp:PySem.W.specialIn K (.ref B) "__getattribute__" = some (some (.builtin "type.__getattribute__"))
  rd:PySem.W.readsIn K B (.type "type") = true
  at_:PySem.W.findCls K (.ref B) (.type "type") m = some (.val (.ref f))
  kp:PySem.W.keepIn K (.ref f) = true
def BCallee (CX:CXT) (P:Program) (w:World) (K:PySem.W.Frag) (mg:Str→Option Value) (base:Heap) (k:Nat) (x:Str) (m:Str) (ps:List Str) (sp:Sp):Prop :=
  ∃ f fd B,BaseM K B m f∧FnOk P w K mg base CX k f fd ps sp∧Binds K fd ps []∧mg x = some (.ref B)
section
variable {CX:CXT} {P:Program} {w:World} {K:PySem.W.Frag} {mg:Str→Option Value} {base:Heap} {j k:Nat} {C:Addr} {x m:Str} {ps:List Str} {sp:Sp}
end
def tMt (C:Addr) (m:Str) (sp:Sp) (ta:TE) (t:TA):TE:=fun σ H Q=>ta σ H fun x H1=>∃ a dx fs,x = .ref a∧H1 a = some (.ins C dx fs)∧fs.lookup m = none∧t σ H1 fun vs H2=>sp (x :: vs) H2 Q E0
def tMk (C:Addr) (sp:Sp) (t:TA):TE:=fun σ H Q=>t σ H fun vs H1=>∀ x dx,H1 x = none→H1 dx = none→dx ≠ x →
  sp (.ref x :: vs) (upd (upd H1 dx (.own x)) x (.ins C dx [])) (fun v H2=>v = .non∧Q (.ref x) H2) E0
def tMtX (C:Addr) (m:Str) (sp:Sp) (ta:TE) (t:TA):TX:=fun σ H Q EX=>ta σ H fun x H1=>∃ a dx fs,x = .ref a∧H1 a = some (.ins C dx fs)∧fs.lookup m = none∧t σ H1 fun vs H2=>sp (x :: vs) H2 Q fun cv _ H3=>∃ C',cv = .ref C'∧EX C' H3
def tMkX (C:Addr) (sp:Sp) (t:TA):TX:=fun σ H Q EX=>t σ H fun vs H1=>∀ x dx,H1 x = none→H1 dx = none→dx ≠ x →
  sp (.ref x :: vs) (upd (upd H1 dx (.own x)) x (.ins C dx [])) (fun v H2=>v = .non∧Q (.ref x) H2) fun cv _ H3=>∃ C',cv = .ref C'∧EX C' H3
section
variable {X:Cx} {CX:CXT} {k:Nat} {f C:Addr} {fd:FuncData} {ps:List Str} {sp:Sp} {x m:Str} {p np pos apos:Pos} {e o:Expr} {es:List Expr} {ta:TE} {t:TA}
end
inductive Shw:V→Prop where
  | non:Shw .non
  | bl (b:Bool):Shw (.bl b)
  | int {i:Int} (h:i.natAbs < 10 ^ 60):Shw (.int i)
  | str {z:Str} (h:z.length ≤ 1000) (k:∀ n ∈ z.cps.toList,n < 16 ^ 8):Shw (.str z)
section
variable {X:Cx}
def tFrV (c:Str) (ta:TE):TE:=fun σ H Q=>ta σ H fun x H1=>Shw x∧c.length ≤ 1000∧∀ z2:Str,Q (.str z2) H1
end
def rEqT (K:PySem.W.Frag) (neg:Bool):R2:=fun x y H Q=>∃ a b xs ys,x = .ref a∧y = .ref b∧SqT K H a xs∧SqT K H b ys ∧
  ∃ f:Nat→Bool,(∀ j x y,xs[j]? = some x→ys[j]? = some y→EqI K H x y (f j))∧Q (.bl (if neg then !((List.range (min xs.length ys.length)).all f && xs.length == ys.length) else (List.range (min xs.length ys.length)).all f && xs.length == ys.length)) H
section
variable {X:Cx}
end
end L2
namespace L2
open PySem PySem.Spec PyProof.Rows
section
variable {X:Cx}
def rCatS (K:PySem.W.Frag):R2:=fun x y H Q=>∃ l b xs zs,x = .ref l∧y = .ref b∧SqL K H l xs∧SqL K H b zs∧xs.length + zs.length ≤ sizeLine∧∀ p,H p = none→Q (.ref p) (upd H p (.lst (xs ++ zs)))
end
end L2
namespace L2
open PySem PySem.Spec PyProof.Rows
theorem FnOk.no {P:Program} {w:World} {K:PySem.W.Frag} {mg:Str→Option Value} {base:Heap} {CX:CXT} {k:Nat} {f:Addr} {fd:FuncData} {ps:List Str} {sp:Sp} (h:∀ vs H Q E,¬ sp vs H Q E):FnOk P w K mg base CX k f fd ps sp :=
  ⟨fun vs H Q E q=>(h vs H Q E q).elim,fun _ _ _ H _ _ vs Q E _ _ _ _ q=>(h vs H Q E q).elim⟩
end L2
namespace L2
open PySem PySem.Spec PyProof.Rows
end L2
namespace L2
open PySem
set_option maxRecDepth 100000
inductive DEq (K:PySem.W.Frag) (H:Hp):Nat→V→V→Bool→Prop where
  | flat {n:Nat} {x y:V} (fx:flatV x = true) (fy:flatV y = true):DEq K H n x y (eqV x y)
  | same {n:Nat} (a:Addr):DEq K H n (.ref a) (.ref a) true
  | lst {n:Nat} {a b:Addr} {xs ys:List V} {f:Nat→Bool} (ne:a ≠ b) (ha:SqL K H a xs) (hb:SqL K H b ys) (hl:xs.length = ys.length) (h:∀ (j:Nat) (x y:V),xs[j]? = some x→ys[j]? = some y→DEq K H n x y (f j)):DEq K H (n + 1) (.ref a) (.ref b) ((List.range xs.length).all f)
  | lst_ne {n:Nat} {a b:Addr} {xs ys:List V} (ne:a ≠ b) (ha:SqL K H a xs) (hb:SqL K H b ys) (hl:xs.length ≠ ys.length):DEq K H (n + 1) (.ref a) (.ref b) false
  | tup {n:Nat} {a b:Addr} {xs ys:List V} {f:Nat→Bool} (ne:a ≠ b) (ha:SqT K H a xs) (hb:SqT K H b ys) (h:∀ (j:Nat) (x y:V),xs[j]? = some x→ys[j]? = some y→DEq K H n x y (f j)):DEq K H (n + 1) (.ref a) (.ref b) ((List.range (min xs.length ys.length)).all f && xs.length == ys.length)
theorem DEq.mono {K:PySem.W.Frag} {H:Hp} {n m:Nat} {x y:V} {b:Bool} (e:DEq K H n x y b) (h:n ≤ m):DEq K H m x y b:=by
  induction e generalizing m with
  | flat fx fy=>exact .flat fx fy
  | same a=>exact .same a
  | lst ne ha hb hl _ ih =>
    obtain ⟨m,rfl⟩:∃ k,m = k + 1:=⟨m - 1,by omega⟩
    exact .lst ne ha hb hl fun j x y e1 e2=>ih j x y e1 e2 (by omega)
  | lst_ne ne ha hb hl =>
    obtain ⟨m,rfl⟩:∃ k,m = k + 1:=⟨m - 1,by omega⟩
    exact .lst_ne ne ha hb hl
  | tup ne ha hb _ ih =>
    obtain ⟨m,rfl⟩:∃ k,m = k + 1:=⟨m - 1,by omega⟩
    exact .tup ne ha hb fun j x y e1 e2=>ih j x y e1 e2 (by omega)
theorem its_at {xs:List V} {its:List Value} (r:Vals xs its) {j:Nat} (h:j < its.toArray.size):∃ x,xs[j]? = some x∧RelV x its.toArray[j]:=by
  have j1:j < its.length:=by simpa using h
  have l1:=r.length
  have x1:xs[j]? = some xs[j]:=List.getElem?_eq_getElem (by omega)
  obtain ⟨u1,q1,r1⟩:=r.get x1
  have eu:its.toArray[j] = u1:=by
    have:=List.getElem?_eq_getElem j1
    rw [this] at q1; simpa using Option.some.inj q1
  exact ⟨xs[j],x1,eu ▸ r1⟩
section
variable {X:Cx} {pins:List (Addr × Obj)} {σ:St} {H:Hp} {s:Shared}
theorem DEq.at {n:Nat} {x y:V} {b:Bool} (e:DEq X.K H n x y b) (I:Inv X pins σ H s):∀ {A:Around} {u v:Value},A.units + n < cLine→RelV x u→RelV y v→SeqAt.EqAt A s u v b:=by
  induction e with
  | flat fx fy=>intro A u v hu rx ry; exact eqAt_V rx ry fx fy
  | same a =>
    intro A u v hu rx ry
    cases (show u = Value.ref a from rx)
    cases (show v = Value.ref a from ry)
    exact SeqAt.EqAt.same _
  | @lst n a b xs ys f ne ha hb hl h ih =>
    intro A u v hu rx ry
    cases (show u = Value.ref a from rx)
    cases (show v = Value.ref b from ry)
    obtain ⟨its,r,p,_⟩:=I.list ha
    obtain ⟨its',r',p',_⟩:=I.list hb
    have l1:=r.length
    have l2:=r'.length
    have h0:=SeqAt.RcAt.lists (A:=A) (e:=f) p.isList p'.isList (by simp only [List.size_toArray]; omega) (by omega) (fun j h1 h2=>by
      obtain ⟨x,e1,q1⟩:=its_at r h1
      obtain ⟨y,e2,q2⟩:=its_at r' h2
      exact ih j x y e1 e2 (by show A.units + 1 + n < cLine; omega) q1 q2)
    rw [show its.toArray.size = xs.length by simp only [List.size_toArray]; omega] at h0
    exact SeqAt.EqAt.of_refs ne h0
  | @lst_ne n a b xs ys ne ha hb hl =>
    intro A u v hu rx ry
    cases (show u = Value.ref a from rx)
    cases (show v = Value.ref b from ry)
    obtain ⟨its,r,p,_⟩:=I.list ha
    obtain ⟨its',r',p',_⟩:=I.list hb
    have l1:=r.length
    have l2:=r'.length
    exact SeqAt.EqAt.of_refs ne (SeqAt.RcAt.lists_lengths p.isList p'.isList (by simp only [List.size_toArray,bne_iff_ne,ne_eq]; omega) (by omega))
  | @tup n a b xs ys f ne ha hb h ih =>
    intro A u v hu rx ry
    cases (show u = Value.ref a from rx)
    cases (show v = Value.ref b from ry)
    obtain ⟨its,r,p,_⟩:=I.tuple ha
    obtain ⟨its',r',p',_⟩:=I.tuple hb
    have l1:=r.length
    have l2:=r'.length
    have h0:=SeqAt.RcAt.tuples (A:=A) (e:=f) (show s.heap.IsTuple a its.toArray from p) (show s.heap.IsTuple b its'.toArray from p') (by omega) (fun j h1 h2=>by
      obtain ⟨x,e1,q1⟩:=its_at r h1
      obtain ⟨y,e2,q2⟩:=its_at r' h2
      exact ih j x y e1 e2 (by show A.units + 1 + n < cLine; omega) q1 q2)
    rw [show its.toArray.size = xs.length by simp only [List.size_toArray]; omega,show its'.toArray.size = ys.length by simp only [List.size_toArray]; omega] at h0
    exact SeqAt.EqAt.of_refs ne h0
end
def rEqDL (K:PySem.W.Frag) (neg:Bool):R2:=fun x y H Q=>∃ a b xs ys,x = .ref a∧y = .ref b∧SqL K H a xs∧SqL K H b ys ∧
  ((xs.length ≠ ys.length∧Q (.bl neg) H)∨(xs.length = ys.length∧∃ f:Nat→Bool,(∀ (j:Nat) (x y:V),xs[j]? = some x→ys[j]? = some y→DEq K H 60 x y (f j))∧Q (.bl (if neg then !(List.range xs.length).all f else (List.range xs.length).all f)) H))
def rEqDT (K:PySem.W.Frag) (neg:Bool):R2:=fun x y H Q=>∃ a b xs ys,x = .ref a∧y = .ref b∧SqT K H a xs∧SqT K H b ys ∧
  ∃ f:Nat→Bool,(∀ (j:Nat) (x y:V),xs[j]? = some x→ys[j]? = some y→DEq K H 60 x y (f j))∧Q (.bl (if neg then !((List.range (min xs.length ys.length)).all f && xs.length == ys.length) else (List.range (min xs.length ys.length)).all f && xs.length == ys.length)) H
section
variable {X:Cx}
theorem deep_at {pins:List (Addr × Obj)} {σ:St} {H:Hp} {s:Shared} {A:Around} {xs ys:List V} {its its' : List Value} {f:Nat→Bool} (I:Inv X pins σ H s) (hu:A.units + 60 < cLine) (r:Vals xs its) (r' : Vals ys its')
    (hf:∀ (j:Nat) (x y:V),xs[j]? = some x→ys[j]? = some y→DEq X.K H 60 x y (f j)):∀ j (h1:j < its.toArray.size) (h2:j < its'.toArray.size),SeqAt.EqAt A s its.toArray[j] its'.toArray[j] (f j):=fun j h1 h2=>by
  obtain ⟨x,e1,q1⟩:=its_at r h1
  obtain ⟨y,e2,q2⟩:=its_at r' h2
  exact (hf j x y e1 e2).at I hu q1 q2
theorem op_eqDL {k:Nat} (hr:Room k X.A):OpR X (compareOp .Eq) (rEqDL X.K false):=by
  intro pins s σ H x y v u Q I rx ry h
  obtain ⟨a,b,xs,ys,rfl,rfl,ha,hb,h⟩:=h
  cases (show v = Value.ref a from rx)
  cases (show u = Value.ref b from ry)
  obtain ⟨its,r,p,_⟩:=I.list ha
  obtain ⟨its',r',p',_⟩:=I.list hb
  have l1:=r.length
  have l2:=r'.length
  have hu:=hr.units
  rcases h with ⟨hn,q⟩ | ⟨hl,f,hf,q⟩
  · refine SeqAt.eq_list_lengthsAt p.isList p'.isList (by simp only [List.size_toArray,bne_iff_ne,ne_eq]; omega) (by omega) ⟨.bl false,H,I,rfl,q⟩
  · refine SeqAt.eq_listAt (e:=f) p.isList p'.isList (by simp only [List.size_toArray]; omega) (by omega) (deep_at I (by show X.A.units + 1 + 60 < cLine; omega) r r' hf) ⟨.bl _,H,I,rfl,?_⟩
    rw [show its.toArray.size = xs.length by simp only [List.size_toArray]; omega]
    exact q
theorem op_neDL {k:Nat} (hr:Room k X.A):OpR X (compareOp .NotEq) (rEqDL X.K true):=by
  intro pins s σ H x y v u Q I rx ry h
  obtain ⟨a,b,xs,ys,rfl,rfl,ha,hb,h⟩:=h
  cases (show v = Value.ref a from rx)
  cases (show u = Value.ref b from ry)
  obtain ⟨its,r,p,_⟩:=I.list ha
  obtain ⟨its',r',p',_⟩:=I.list hb
  have l1:=r.length
  have l2:=r'.length
  have hu:=hr.units
  rcases h with ⟨hn,q⟩ | ⟨hl,f,hf,q⟩
  · refine SeqAt.RcNeAt.lists_lengths p.isList p'.isList (by simp only [List.size_toArray,bne_iff_ne,ne_eq]; omega) (by omega) X.prog X.w X.xe _ ⟨.bl true,H,I,rfl,q⟩
  · refine SeqAt.RcNeAt.lists (e:=f) p.isList p'.isList (by simp only [List.size_toArray]; omega) (by omega) (deep_at I (by show X.A.units + 1 + 60 < cLine; omega) r r' hf) X.prog X.w X.xe _ ⟨.bl _,H,I,rfl,?_⟩
    rw [show its.toArray.size = xs.length by simp only [List.size_toArray]; omega]
    exact q
theorem op_eqDT {k:Nat} (hr:Room k X.A):OpR X (compareOp .Eq) (rEqDT X.K false):=by
  intro pins s σ H x y v u Q I rx ry h
  obtain ⟨a,b,xs,ys,rfl,rfl,ha,hb,f,hf,q⟩:=h
  cases (show v = Value.ref a from rx)
  cases (show u = Value.ref b from ry)
  obtain ⟨its,r,p,_⟩:=I.tuple ha
  obtain ⟨its',r',p',_⟩:=I.tuple hb
  have l1:=r.length
  have l2:=r'.length
  have hu:=hr.units
  refine SeqAt.eq_tupleAt (e:=f) (show s.heap.IsTuple a its.toArray from p) (show s.heap.IsTuple b its'.toArray from p') (by omega) (deep_at I (by show X.A.units + 1 + 60 < cLine; omega) r r' hf) ⟨.bl _,H,I,rfl,?_⟩
  simp only [List.size_toArray]
  rw [← l1,← l2]
  exact q
theorem op_neDT {k:Nat} (hr:Room k X.A):OpR X (compareOp .NotEq) (rEqDT X.K true):=by
  intro pins s σ H x y v u Q I rx ry h
  obtain ⟨a,b,xs,ys,rfl,rfl,ha,hb,f,hf,q⟩:=h
  cases (show v = Value.ref a from rx)
  cases (show u = Value.ref b from ry)
  obtain ⟨its,r,p,_⟩:=I.tuple ha
  obtain ⟨its',r',p',_⟩:=I.tuple hb
  have l1:=r.length
  have l2:=r'.length
  have hu:=hr.units
  refine SeqAt.RcNeAt.tuples (e:=f) (show s.heap.IsTuple a its.toArray from p) (show s.heap.IsTuple b its'.toArray from p') (by omega) (deep_at I (by show X.A.units + 1 + 60 < cLine; omega) r r' hf) X.prog X.w X.xe _ ⟨.bl _,H,I,rfl,?_⟩
  simp only [List.size_toArray]
  rw [← l1,← l2]
  exact q
end
end L2
namespace L2
open PySem PySem.Spec PyProof.Rows
set_option maxRecDepth 100000
section
variable {X:Cx} {tg:Expr}
theorem pi_seq {l:Expr} {tl:TE} (hl:PE X l tl):PI X tg l (fun σ H R=>iList X.K tl σ H R∨iTup X.K tl σ H R):=by
  intro pins s σ H R I h
  rcases h with h | h
  · exact pi_list hl pins s σ H R I h
  · exact pi_tup hl pins s σ H R I h
def rCatT0 (K:PySem.W.Frag):R2:=fun x y H Q=>∃ a b xs ys,x = .ref a∧y = .ref b∧SqT K H a xs∧SqT K H b ys∧xs.length + ys.length ≤ sizeLine ∧
  (xs = []→Q (.ref b) H)∧(xs ≠ []→ys = []→Q (.ref a) H)∧(xs ≠ []→ys ≠ []→∀ p,H p = none→Q (.ref p) (upd H p (.tup (xs ++ ys))))
theorem op_catT0:OpR X (binaryOp .Add) (rCatT0 X.K):=by
  intro pins s σ H x y v u Q I rx ry h
  obtain ⟨a,b,xs,ys,rfl,rfl,ha,hb,hz,q0,q1,q2⟩:=h
  by_cases hx:xs = []
  · cases rx
    cases ry
    obtain ⟨its,r1,p1,_⟩:=I.tuple ha
    obtain ⟨its2,r2,p2,_⟩:=I.tuple hb
    have hv:its = []:=r1.nil_iff.mpr hx
    obtain ⟨⟨cls,dd,data,sl⟩,ho,hc,n,hd⟩:=id p1
    obtain ⟨⟨cls2,dd2,data2,sl2⟩,ho2,hc2,n2,hd2⟩:=id p2
    simp only at hc hd hc2 hd2
    subst hc hd hc2 hd2
    exact concat_meets ⟨_,ho,rfl⟩ ⟨_,ho2,rfl⟩ noFill_tuple_add seq_tuple_add PySem.F.slot_tuple_add PySem.F.entry_tuple_add (PySem.F.args_tuple_add_2 _ _)
      (tuple_addW0 a b its.toArray its2.toArray n n2 dd dd2 sl sl2 (by simp [hv])) ⟨ho,ho2,⟨.ref b,H,I,rfl,q0 hx⟩⟩
  · exact op_catT pins s σ H (.ref a) (.ref b) v u Q I rx ry ⟨a,b,xs,ys,rfl,rfl,ha,hb,hx,hz,q1 hx,q2 hx⟩
end
end L2
namespace HT
open PySem PyProof.Rows
section
open PySem.SeqAt
open PySem.AutoSeq1 (wpAny_loadPart')
open PySem.MeetsSeq PySem.MeetsSeq2 PySem.MeetsSeq3
end
end HT
namespace L2
open PySem PySem.Spec PyProof.Rows
section
variable {X:Cx}
def rLtL (K:PySem.W.Frag):R2:=fun x y H Q=>∃ a b ns ms,x = .ref a∧y = .ref b∧SqL K H a (ns.map V.int)∧SqL K H b (ms.map V.int)∧Q (.bl (HT.lexLt ns ms)) H
end
end L2
namespace HT
open PySem PyProof.Rows
section
open PySem.SeqAt
open PySem.AutoSeq1 (wpAny_loadPart')
open PySem.MeetsSeq PySem.MeetsSeq2 PySem.MeetsSeq3
theorem tuple_lt_at (l b:Addr) (items items2:Array Value) (n n2:Nat) (dd dd2:Option Addr) (sl sl2:Array (Option Value)) (j:Nat) (x0 y0:Value) (r:Bool) (hx0:items.toList[j]? = some x0) (hy0:items2.toList[j]? = some y0) :
    Meets (Builtin.«tuple.__lt__» ⟨[.ref l,.ref b],[]⟩)
      (fun A R s=>s.heap.get? l = some { cls:=.type "tuple",dict:=dd,data:=.seq items n,slots:=sl }∧s.heap.get? b = some { cls:=.type "tuple",dict:=dd2,data:=.seq items2 n2,slots:=sl2 } ∧
        (∀ i x y,i < j→items.toList[i]? = some x→items2.toList[i]? = some y→EqAt A.in1 s x y true)∧EqAt A.in1 s x0 y0 false∧(∀ (prog:Program) (w:World) (Q E:Value→Shared→Prop),Q (.bool r) s→wpAny (model prog w) A.in1 (richCompare .Lt x0 y0) Q E s) ∧
        R (.ok (.ret (.bool r))) s) :=
  .of_wp fun prog w A R s h=>by
    obtain ⟨hp,g,d,tk,os⟩:=s; obtain ⟨hl,hb,heq,hne,hrc,h⟩:=h
    have f2:=AutoSeq1.sub_tuple_tuple
    wp_walk using wpAny_loadPart' hl,wpAny_loadPart' hb,wpAny_forIn_list _ (fun rest b s'=>b.1 = none∧s' = ⟨hp,g,d,tk,os⟩∧∃ k,k ≤ j∧rest = (items.toList.zip items2.toList).drop k) _
    case turn =>
      rintro ⟨x,y⟩ rest b s' ⟨hb',rfl,k,hk,hz⟩
      have ek:(items.toList.zip items2.toList)[k]? = some (x,y):=by
        have:=congrArg (fun l=>l[0]?) hz
        simp only [List.getElem?_cons_zero,List.getElem?_drop,Nat.add_zero] at this
        exact this.symm
      have hrest:rest = (items.toList.zip items2.toList).drop (k + 1):=by
        have:=congrArg List.tail hz
        rw [List.tail_cons,List.tail_drop] at this
        exact this
      rw [List.getElem?_zip_eq_some] at ek
      by_cases hkj:k = j
      · subst hkj
        rw [hx0,hy0] at ek
        obtain ⟨e1,e2⟩:=ek
        cases e1
        cases e2
        refine wpAny_bind (hne prog w _ _ ?_)
        have hri:=hrc prog w
        wp_walk using hri
        exact ⟨_,rfl,by simpa using h⟩
      · refine wpAny_bind (heq k x y (by omega) ek.1 ek.2 prog w _ _ ?_)
        wp_walk
        exact ⟨rfl,rfl,k + 1,by omega,hrest⟩
    case fin =>
      rintro ⟨b1,b2⟩ s' ⟨hb',rfl,k,hk,hz⟩
      have h1:=(List.getElem?_eq_some_iff.mp hx0).1
      have h2:=(List.getElem?_eq_some_iff.mp hy0).1
      have h3:=congrArg List.length hz
      rw [List.length_drop,List.length_zip,List.length_nil] at h3
      omega
    case h =>
      exact ⟨rfl,rfl,0,Nat.zero_le _,rfl⟩
end
end HT
namespace L2
open PySem PySem.Spec PyProof.Rows
section
variable {X:Cx}
def rLtP (K:PySem.W.Frag):R2:=fun x y H Q=>∃ (a b:Addr) (xs ys:List V) (j:Nat) (t u:Addr) (ns ms:List Int),x = .ref a∧y = .ref b∧SqT K H a xs∧SqT K H b ys∧(∀ i x y,i < j→xs[i]? = some x→ys[i]? = some y→DEq K H 60 x y true)∧xs[j]? = some (.ref t)∧ys[j]? = some (.ref u) ∧
  DEq K H 60 (.ref t) (.ref u) false∧SqT K H t (ns.map V.int)∧SqT K H u (ms.map V.int)∧Q (.bl (HT.lexLt ns ms)) H
theorem op_ltP {k:Nat} (hr:Room k X.A):OpR X (compareOp .Lt) (rLtP X.K):=by
  intro pins s σ H x y v u Q I rx ry h
  obtain ⟨a,b,xs,ys,j,t,t',ns,ms,rfl,rfl,ha,hb,heq,ex,ey,hne,ht,ht',q⟩:=h
  cases rx
  cases ry
  obtain ⟨its,r1,p1,_⟩:=I.tuple ha
  obtain ⟨its2,r2,p2,_⟩:=I.tuple hb
  obtain ⟨jts,r3,p3,_⟩:=I.tuple ht
  obtain ⟨jts2,r4,p4,_⟩:=I.tuple ht'
  have hu:=hr.units
  have i3:IntsAre jts.toArray.toList ns:=intsAre_of r3
  have i4:IntsAre jts2.toArray.toList ms:=intsAre_of r4
  obtain ⟨⟨cls,dd,data,sl⟩,ho,hc,n,hd⟩:=id p1
  obtain ⟨⟨cls2,dd2,data2,sl2⟩,ho2,hc2,n2,hd2⟩:=id p2
  simp only at hc hd hc2 hd2
  subst hc hd hc2 hd2
  obtain ⟨u0,g1,w1⟩:=r1.get ex
  obtain ⟨u1,g2,w2⟩:=r2.get ey
  cases (show u0 = Value.ref t from w1)
  cases (show u1 = Value.ref t' from w2)
  refine richCompare_meets_room (op:=.Lt) ⟨_,ho,rfl⟩ ⟨_,ho2,rfl⟩ PySem.F.slot_tuple_lt PySem.F.entry_tuple_lt (PySem.F.args_tuple_lt_2 _ _) (HT.tuple_lt_at a b its.toArray its2.toArray n n2 dd dd2 sl sl2 j (.ref t) (.ref t') (HT.lexLt ns ms) (by simpa using g1) (by simpa using g2))
    ⟨ho,ho2,fun i x' y' hi e1 e2=>?_,hne.at I ?_ rfl rfl,fun prog w Q E hQ=>HT.lt_tupInts p3 p4 i3 i4 ?_ hQ,show Value.bool (HT.lexLt ns ms) ≠ Value.notImplemented∧_ from ⟨(fun x=>nomatch x),⟨.bl (HT.lexLt ns ms),H,I,rfl,q⟩⟩⟩ (by omega)
  · have h1:=(List.getElem?_eq_some_iff.mp e1).1
    have h2:=(List.getElem?_eq_some_iff.mp e2).1
    obtain ⟨z1,q1,q2⟩:=its_at r1 (j:=i) (by simpa using h1)
    obtain ⟨z2,q3,q4⟩:=its_at r2 (j:=i) (by simpa using h2)
    have h3:its.toArray[i]'(by simpa using h1) = x':=by
      have:=(List.getElem?_eq_some_iff.mp e1).2
      simpa using this
    have h4:its2.toArray[i]'(by simpa using h2) = y':=by
      have:=(List.getElem?_eq_some_iff.mp e2).2
      simpa using this
    rw [h3] at q2
    rw [h4] at q4
    refine (heq i z1 z2 hi q1 q3).at I ?_ q2 q4
    show _ + 60 < cLine
    simp only [Around.in1_units]
    first | omega | (show X.A.units + 1 + 1 + 60 < cLine; omega) | skip
  · show _ + 60 < cLine
    simp only [Around.in1_units]
    first | omega | (show X.A.units + 1 + 1 + 60 < cLine; omega) | skip
  · simp only [Around.in1_units]
    first | omega | (show X.A.units + 1 + 1 < cLine; omega) | skip
end
end L2
namespace L2
open PySem PySem.Spec PyProof.Rows
section
variable {κ:Type} [DecidableEq κ]
def cntK (ks:List κ):Nat→Nat
  | 0=>0
  | i + 1=>match ks[i]? with
    | some k=>if k ∈ ks.take i then cntK ks i else cntK ks i + 1
    | none=>cntK ks i
variable {prog:Program} {w:World} {A:Around} {E:Value→Shared→Prop} {s:Shared} {knd:KeyKind prog w κ}
abbrev newS (led:Bool):Obj:={ cls:=.type "set",dict:=none,data:=.set #[] 0 (.fresh 0 0 led) }
def Filled (knd:KeyKind prog w κ) (s:Shared) (ks:List κ) (h' : Heap):Prop :=
  h'.SetOf knd s.heap.objs.size (fun k=>decide (k ∈ ks)) (cntK ks ks.length)∧∀ b o,b < s.heap.objs.size→s.heap.get? b = some o→h'.get? b = some o
end
def SetO (P:Program) (w:World) (a:Addr) (zs:List Str):HO:=.ext fun h=>h.SetOf (strKind P w) a (fun z=>decide (z ∈ zs)) (cntK zs zs.length)
section
variable {X:Cx}
end
end L2
namespace L2
open PySem
def Asc (xs:Array Nat):Prop:=xs.toList.Pairwise (· < ·)
theorem Asc.lt {xs:Array Nat} (h:Asc xs) {i j:Nat} (hij:i < j) (hj:j < xs.size):xs[i] < xs[j]:=by
  have:=List.pairwise_iff_getElem.mp h i j (by simp; omega) (by simpa using hj) hij
  simpa using this
theorem below_go {xs:Array Nat} (h:Asc xs) (j:Nat):∀ (fuel lo hi:Nat),lo ≤ hi→hi ≤ xs.size→hi - lo ≤ fuel →
    (∀ (i:Nat) (hi' : i < xs.size),i < lo→xs[i] < j)→(∀ (i:Nat) (hi' : i < xs.size),hi ≤ i→j ≤ xs[i]) →
    SetTable.below.go xs j fuel lo hi ≤ xs.size∧(∀ (i:Nat) (hi' : i < xs.size),i < SetTable.below.go xs j fuel lo hi→xs[i] < j)∧(∀ (i:Nat) (hi' : i < xs.size),SetTable.below.go xs j fuel lo hi ≤ i→j ≤ xs[i]):=by
  intro fuel
  induction fuel with
  | zero =>
    intro lo hi h1 h2 h3 h4 h5
    have e:lo = hi:=by omega
    subst e
    exact ⟨by unfold SetTable.below.go; exact h2,by unfold SetTable.below.go; exact h4,by unfold SetTable.below.go; exact h5⟩
  | succ fuel ih =>
    intro lo hi h1 h2 h3 h4 h5
    unfold SetTable.below.go
    by_cases c:lo < hi
    · rw [if_pos c]
      have hm:(lo + hi) / 2 < xs.size:=by omega
      have eg:xs.getD ((lo + hi) / 2) j = xs[(lo + hi) / 2]:=by simp [Array.getD,hm]
      dsimp only
      rw [eg]
      by_cases c2:xs[(lo + hi) / 2] < j
      · rw [if_pos c2]
        refine ih _ _ (by omega) h2 (by omega) (fun i hi' hlt=>?_) h5
        by_cases e:i = (lo + hi) / 2
        · subst e; exact c2
        · exact Nat.lt_trans (h.lt (by omega) hm) c2
      · rw [if_neg c2]
        refine ih _ _ (by omega) (by omega) (by omega) h4 fun i hi' hle=>?_
        by_cases e:i = (lo + hi) / 2
        · subst e; omega
        · exact Nat.le_trans (Nat.le_of_not_lt c2) (Nat.le_of_lt (h.lt (by omega) hi'))
    · rw [if_neg c]
      have e:lo = hi:=by omega
      subst e
      exact ⟨h2,h4,h5⟩
theorem below_spec {xs:Array Nat} (h:Asc xs) (j:Nat):SetTable.below xs j ≤ xs.size∧(∀ (i:Nat) (hi:i < xs.size),i < SetTable.below xs j→xs[i] < j)∧(∀ (i:Nat) (hi:i < xs.size),SetTable.below xs j ≤ i→j ≤ xs[i]) :=
  below_go h j xs.size 0 xs.size (Nat.zero_le _) (Nat.le_refl _) (by omega) (fun _ _ z=>absurd z (by omega)) (fun i hi z=>absurd z (by omega))
theorem below_next {xs:Array Nat} (h:Asc xs) {i:Nat} (hi:i < xs.size):SetTable.below xs (xs[i] + 1) = i + 1:=by
  obtain ⟨b1,b2,b3⟩:=below_spec h (xs[i] + 1)
  have c1:¬ SetTable.below xs (xs[i] + 1) ≤ i:=fun z=>absurd (b3 i hi z) (by omega)
  have c2:¬ i + 1 < SetTable.below xs (xs[i] + 1):=fun z=>by
    have:=b2 (i + 1) (by omega) z
    have:=h.lt (show i < i + 1 by omega) (show i + 1 < xs.size by omega)
    omega
  omega
theorem below_first {xs:Array Nat} (h:Asc xs):SetTable.below xs 0 = 0:=by
  obtain ⟨b1,b2,b3⟩:=below_spec h 0
  by_cases z:SetTable.below xs 0 = 0
  · exact z
  · exact absurd (b2 0 (by omega) (by omega)) (by omega)
theorem asc_insert {xs:Array Nat} (h:Asc xs) {j:Nat} (hn:xs[SetTable.below xs j]? ≠ some j):Asc (SetTable.insertAt xs (SetTable.below xs j) j):=by
  obtain ⟨b1,b2,b3⟩:=below_spec h j
  unfold Asc
  rw [SetTable.toList_insertAt,List.pairwise_append]
  refine ⟨h.sublist (List.take_sublist _ _),List.pairwise_cons.mpr ⟨fun b hb=>?_,h.sublist (List.drop_sublist _ _)⟩,fun a ha b hb=>?_⟩
  · obtain ⟨k,hk,rfl⟩:=List.mem_iff_getElem.mp hb
    have hk' : SetTable.below xs j + k < xs.size:=by simp at hk; omega
    have z:=b3 _ hk' (by omega)
    have e:(xs.toList.drop (SetTable.below xs j))[k] = xs[SetTable.below xs j + k]:=by simp
    rw [e]
    by_cases q:j = xs[SetTable.below xs j + k]
    · exfalso
      by_cases k0:k = 0
      · subst k0
        refine hn ?_
        rw [Array.getElem?_eq_getElem (by omega)]
        simpa using q.symm
      · have l1:=b3 _ (show SetTable.below xs j < xs.size by omega) (Nat.le_refl _)
        have l2:=h.lt (show SetTable.below xs j < SetTable.below xs j + k by omega) hk'
        omega
    · omega
  · have la:a < j:=by
      obtain ⟨k,hk,rfl⟩:=List.mem_iff_getElem.mp ha
      have hk' : k < SetTable.below xs j∧k < xs.size:=by simp at hk; omega
      have:=b2 k hk'.2 hk'.1
      simpa using this
    rcases List.mem_cons.mp hb with rfl | hb
    · exact la
    · obtain ⟨k,hk,rfl⟩:=List.mem_iff_getElem.mp hb
      have hk' : SetTable.below xs j + k < xs.size:=by simp at hk; omega
      have z:=b3 _ hk' (by omega)
      have e:(xs.toList.drop (SetTable.below xs j))[k] = xs[SetTable.below xs j + k]:=by simp
      rw [e]; omega
def NotAt (t:SetTable) (j:Nat):Prop:=t.place[SetTable.below t.place j]? ≠ some j
theorem slot_empty {t:SetTable} {j:Nat} (h:t.slot j = .empty∨t.slot j = .dummy):NotAt t j:=by
  intro e
  have:t.slot j = .live (SetTable.below t.place j):=by
    unfold SetTable.slot
    simp [e]
  rw [this] at h
  rcases h with h | h <;> cases h
theorem probe_free (t:SetTable) (f:Nat→Int) (h:Int):∀ (fuel:Nat) (p:SetTable.Probe),(∀ d,p.dummy = some d→NotAt t d)→∀ j dm,SetTable.probe.go t f h fuel p = some (.empty j dm)→NotAt t j∧∀ d,dm = some d→NotAt t d:=by
  intro fuel
  induction fuel with
  | zero=>intro p _ j dm e; unfold SetTable.probe.go at e; cases e
  | succ fuel ih =>
    intro p hp j dm e
    unfold SetTable.probe.go at e
    have adv:∀ q:SetTable.Probe,(t.advance q).dummy = q.dummy:=fun q=>by
      unfold SetTable.advance
      split <;> rfl
    split at e
    · rename_i he
      injection e with e; injection e with e1 e2
      subst e1 e2
      exact ⟨slot_empty (.inl he),hp⟩
    · rename_i he
      refine ih _ (fun d hd=>?_) j dm e
      rw [adv] at hd
      injection hd with hd
      subst hd
      exact slot_empty (.inr he)
    · split at e
      · injection e with e; cases e
      · refine ih _ (fun d hd=>hp d ?_) j dm e
        rw [adv] at hd
        exact hd
theorem freeSlot_free {t:SetTable} {h:Int} {j:Nat} {b:Bool} (e:t.freeSlot h = some (j,b)):NotAt t j:=by
  unfold SetTable.freeSlot at e
  split at e
  · rename_i j' dm he
    obtain ⟨a1,a2⟩:=probe_free t _ h _ _ (fun d hd=>by simp [SetTable.probeStart] at hd) _ _ he
    injection e with e; injection e with e1 e2
    subst e1
    cases dm with
    | none=>exact a1
    | some d=>exact a2 d rfl
  · cases e
theorem asc_range (n:Nat):Asc (Array.range n):=by
  unfold Asc
  rw [Array.toList_range]
  exact List.pairwise_lt_range
theorem standIn_asc (t:SetTable) (n:Nat):Asc (t.standIn n).place:=asc_range n
theorem layNew_asc {t:SetTable} (ha:Asc t.place) (es:Array (Int × Value)) (h:Int) (x:Value):Asc (layNew t es h x).2.1.place∧(layNew t es h x).2.1.led = t.led:=by
  unfold layNew
  split
  · rename_i slot wd e
    have hp:Asc (t.put slot).1.place:=asc_insert ha (freeSlot_free e)
    dsimp only
    unfold SetTable.orStandIn
    split
    · exact ⟨hp,rfl⟩
    · exact ⟨standIn_asc _ _,rfl⟩
  · exact ⟨standIn_asc _ _,rfl⟩
theorem live_sub (f:Nat→Option Nat):∀ l:List Nat,((l.filterMap fun j=>(f j).map (j,·)).map (·.1)).Sublist l
  | []=>by simp
  | j :: l=>by
    have ih:=live_sub f l
    rw [List.filterMap_cons]
    cases e:f j with
    | none=>exact ih.trans (List.sublist_cons_self _ _)
    | some v=>exact ih.cons_cons j
theorem relaid_asc {t t' : SetTable} {hs:Array Int} {n:Nat} {o:Array Nat} (e:t.relaid hs n = some (t',o)):Asc t'.place∧t'.led = t.led:=by
  unfold SetTable.relaid SetTable.laid at e
  cases hc:SetTable.layClean (SetTable.sizeAbove n - 1) hs with
  | none=>rw [hc] at e; cases e
  | some owner =>
    rw [hc] at e
    injection e with e; injection e with e1 e2
    subst e1
    exact ⟨List.pairwise_lt_range.sublist (live_sub _ _),rfl⟩
theorem relayAll_asc {t:SetTable} (ha:Asc t.place) (es:Array (Int × Value)) (n:Nat):Asc (relayAll t es n).2.1.place∧(relayAll t es n).2.1.led = t.led:=by
  unfold relayAll
  split
  · rename_i t' o e
    dsimp only
    split
    · exact relaid_asc e
    · exact ⟨standIn_asc _ _,rfl⟩
  · exact ⟨standIn_asc _ _,rfl⟩
theorem perm_eraseIdx {α:Type} : ∀ {l:List α} {i:Nat} {x:α},l[i]? = some x→(x :: l.eraseIdx i).Perm l
  | [],i,x,h=>by simp at h
  | a :: l,0,x,h=>by simp at h; subst h; exact .refl _
  | a :: l,i + 1,x,h=>by
    have ih:=perm_eraseIdx (l:=l) (i:=i) (x:=x) (by simpa using h)
    rw [List.eraseIdx_cons_succ]
    exact (List.Perm.swap _ _ _).trans (ih.cons a)
theorem pick_go {α:Type} (next:Nat→Nat):∀ (fuel k:Nat) (left:List α) (out:Array α),fuel = left.length→∃ l:List α,l.Perm left∧(pickOrder.go next fuel k left out).toList = out.toList ++ l:=by
  intro fuel
  induction fuel with
  | zero =>
    intro k left out e
    exact ⟨left,.refl _,by unfold pickOrder.go; rw [List.length_eq_zero_iff.mp e.symm]; simp⟩
  | succ fuel ih =>
    intro k left out e
    have hlt:next k % left.length < left.length:=Nat.mod_lt _ (by omega)
    have eg:left[next k % left.length]? = some left[next k % left.length]:=List.getElem?_eq_getElem hlt
    unfold pickOrder.go
    rw [eg]
    dsimp only
    obtain ⟨l,p,el⟩:=ih (k + 1) (left.eraseIdx (next k % left.length)) (out.push left[next k % left.length]) (by rw [List.length_eraseIdx_of_lt hlt]; omega)
    exact ⟨left[next k % left.length] :: l,(p.cons _).trans (perm_eraseIdx eg),by rw [el]; simp⟩
theorem pick_perm {α:Type} (next:Nat→Nat) (xs:Array α):(pickOrder next xs).toList.Perm xs.toList:=by
  obtain ⟨l,p,e⟩:=pick_go next xs.size 0 xs.toList #[] (by simp)
  have:(pickOrder next xs).toList = l:=by unfold pickOrder; rw [e]; simp
  rw [this]; exact p
def byTx (w:World):Bool:=w.params.followText "set-order"
end L2
namespace L2
open PySem PySem.Spec PyProof.Rows
def keyI:Value→Int
  | .int k _=>k
  | _=>0
structure Ents (es:Array (Int × Value)) (ks:List Int):Prop where
  ent:∀ e ∈ es.toList,e.1 = hashInt (keyI e.2)∧∃ u,e.2 = .int (keyI e.2) u
  nd:(es.toList.map fun e=>keyI e.2).Nodup
  mem:∀ k,k ∈ ks↔k ∈ es.toList.map fun e=>keyI e.2
theorem Ents.perm {es es' : Array (Int × Value)} {ks:List Int} (h:Ents es ks) (p:es'.toList.Perm es.toList):Ents es' ks :=
  ⟨fun e he=>h.ent e (p.mem_iff.mp he),(p.map _).nodup_iff.mpr h.nd,fun k=>(h.mem k).trans (p.map _).mem_iff.symm⟩
theorem Ents.push {es:Array (Int × Value)} {ks:List Int} {k:Int} {u:Tok} (h:Ents es ks) (hk:k ∉ ks):Ents (es.push (hashInt k,.int k u)) (ks ++ [k]):=by
  refine ⟨fun e he=>?_,?_,fun q=>?_⟩
  · rw [Array.toList_push] at he
    rcases List.mem_append.mp he with he | he
    · exact h.ent e he
    · rw [List.mem_singleton] at he; subst he; exact ⟨rfl,u,rfl⟩
  · rw [Array.toList_push,List.map_append,List.nodup_append]
    refine ⟨h.nd,by simp,fun a ha b hb=>?_⟩
    have eb:b = k:=by simpa [keyI] using hb
    subst eb
    exact fun e=>hk ((h.mem b).mpr (e ▸ ha))
  · rw [Array.toList_push,List.map_append,List.mem_append,List.mem_append,h.mem q]
    simp [keyI]
theorem Ents.again {es:Array (Int × Value)} {ks:List Int} {k:Int} (h:Ents es ks) (hk:k ∈ ks):Ents es (ks ++ [k]) :=
  ⟨h.ent,h.nd,fun q=>by
    rw [← h.mem q,List.mem_append,List.mem_singleton]
    exact ⟨fun z=>z.elim id fun z=>z ▸ hk,.inl⟩⟩
section
variable {prog:Program} {w:World} {A:Around} {E:Value→Shared→Prop} {s:Shared}
theorem Ents.elems {es:Array (Int × Value)} {ks:List Int} (h:Ents es ks):ElemsOf (intKind prog w) es.toList:=fun e he=>by
  obtain ⟨h1,u,h2⟩:=h.ent e he
  refine ⟨⟨keyI e.2,?_,h1⟩,?_⟩
  · rw [h2]; exact intKind_is _ _ _ _
  · rw [h2]; rfl
theorem Ents.found {es:Array (Int × Value)} {ks:List Int} (h:Ents es ks) {k:Int} {e:Int × Value} (he:e ∈ es.toList) (hk:(intKind prog w).is k e.2 = true):k ∈ ks:=by
  obtain ⟨_,u,h2⟩:=h.ent e he
  refine (h.mem k).mpr (List.mem_map.mpr ⟨e,he,?_⟩)
  exact (intKind prog w).inj e.2 _ _ (by rw [h2]; exact intKind_is _ _ _ _) hk
def SetWk (h:Heap) (a:Addr) (led:Bool) (ks:List Int) (n:Nat):Prop :=
  ∃ o es ep t,h.get? a = some o∧o.ExactSet∧o.data = .set es ep t∧Ents es ks∧es.size < scanBound∧t.fits es.size = true∧Asc t.place∧t.led = led∧es.size = n
theorem SetWk.stay {h h' : Heap} {a:Addr} {led:Bool} {ks:List Int} {n:Nat} (x:SetWk h a led ks n) (k:∀ o,h.get? a = some o→h'.get? a = some o):SetWk h' a led ks n:=by
  obtain ⟨o,es,ep,t,ho,r⟩:=x
  exact ⟨o,es,ep,t,k o ho,r⟩
theorem SetWk.store {h:Heap} {a:Addr} {o:Obj} {es:Array (Int × Value)} {ep:Nat} {t:SetTable} (ho:h.get? a = some o) (hex:o.ExactSet) (hd:o.data = .set es ep t)
    {es' : Array (Int × Value)} {t' : SetTable} {ks:List Int} (he:Ents es' ks) (hb:es'.size < scanBound) (hf:t'.fits es'.size = true) (ha:Asc t'.place) :
    (h.update a (Obj.putSet es' t')).get? a = some { o with data:=.set es' (ep + 1) t' }∧SetWk (h.update a (Obj.putSet es' t')) a t'.led ks es'.size:=by
  have hg:(h.update a (Obj.putSet es' t')).get? a = some { o with data:=.set es' (ep + 1) t' }:=by
    have:=Heap.get?_update_self (Obj.putSet es' t') ho (by rw [putSet_of es' t' hd]; rfl)
    rw [putSet_of es' t' hd] at this; exact this
  exact ⟨hg,_,es',ep + 1,t',hg,hex,rfl,he,hb,hf,ha,rfl,rfl⟩
theorem addTailW {g:Bool→Sem Unit} (hg:∀ (b:Bool) (s₁:Shared) (Q' : Unit→Shared→Prop),Q' () s₁→wpAny (model prog w) A (g b) Q' E s₁)
    {a:Addr} {o:Obj} {es:Array (Int × Value)} {ep:Nat} {t:SetTable} (ho:s.heap.get? a = some o) (hex:o.ExactSet) (hd:o.data = .set es ep t)
    {es1:Array (Int × Value)} {t2:SetTable} {ks:List Int} {led:Bool} (he1:Ents es1 ks)
    (hb1:es1.size < scanBound) (hf2:t2.fits es1.size = true) (ha2:Asc t2.place) (hl2:t2.led = led) {wasDummy:Bool} {R:Option Bool→Shared→Prop}
    (h:∀ h',Heap.SameBut a s.heap h'→SetWk h' a led ks es1.size→R (some true) { s with heap:=h' }) :
    wpAny (model prog w) A (do
        storeSet a es1 t2
        if (!wasDummy && t2.tooFull) = true then do
            g (relayAll t2 es1 (SetTable.grown es1.size)).2.2
            storeSet a (relayAll t2 es1 (SetTable.grown es1.size)).1 (relayAll t2 es1 (SetTable.grown es1.size)).2.1
            pure (some true)
          else pure (some true)) R E s:=by
  refine wpAny_bind (wpAny_storeSet_of ho hd ?_ (fits_of_scanBound hb1))
  obtain ⟨ho1,hS1⟩:=SetWk.store ho hex hd he1 hb1 hf2 ha2
  rw [hl2] at hS1
  have hsb1:=Heap.SameBut.update s.heap a (Obj.putSet es1 t2)
  split
  · have hp:=relayAll_perm t2 es1 (SetTable.grown es1.size)
    have hfr:=relayAll_fits t2 es1 (SetTable.grown es1.size)
    obtain ⟨har,hlr⟩:=relayAll_asc ha2 es1 (SetTable.grown es1.size)
    generalize hRl:relayAll t2 es1 (SetTable.grown es1.size) = Rl at hp hfr har hlr ⊢
    obtain ⟨es2,t3,gave2⟩:=Rl
    dsimp only at hp hfr har hlr ⊢
    have hsz:es2.size = es1.size:=by rw [← Array.length_toList,hp.length_eq,Array.length_toList]
    have hb2:es2.size < scanBound:=by rw [hsz]; exact hb1
    refine wpAny_bind (hg _ _ _ ?_)
    refine wpAny_bind (wpAny_storeSet_of ho1 rfl ?_ (fits_of_scanBound hb2))
    obtain ⟨_,hS2⟩:=SetWk.store ho1 hex rfl (he1.perm hp) hb2 hfr har
    rw [hsz,hlr,hl2] at hS2
    exact wpAny_pure (h _ (hsb1.trans (Heap.SameBut.update _ a _)) hS2)
  · exact wpAny_pure (h _ hsb1 hS1)
theorem addW {a:Addr} {led:Bool} {ks:List Int} {n:Nat} {k:Int} {u:Tok} {Q:Bool→Shared→Prop} (hS:SetWk s.heap a led ks n) (hroom:n + 1 < scanBound)
    (h:∀ h' n' b,Heap.SameBut a s.heap h'→n' ≤ n + 1→SetWk h' a led (ks ++ [k]) n'→Q b { s with heap:=h' }) :
    wpAny (model prog w) A (setAddHashed a (.int k u) ((intKind prog w).hash k)) Q E s:=by
  obtain ⟨o,es,ep,t,ho,hex,hd,hE,hb,hf,hA,hled,hn⟩:=hS
  have hkey:(intKind prog w).is k (.int k u) = true:=intKind_is _ _ _ _
  have hsc:(Value.int k u).scannable = true:=rfl
  have hel:=hE.elems (prog:=prog) (w:=w)
  have hb1:es.size + 1 < scanBound:=by rw [hn]; exact hroom
  unfold setAddHashed setAddHashedIn
  refine wpAny_holding (wpAny_bind (wpAny_setState_of ho hd hf ?_))
  dsimp only
  rw [byScan_of hsc hb hel]
  simp only [↓reduceIte]
  unfold setAddByScan
  refine wpAny_bind ?_
  refine wpAny_bind (wpAny_rule ?_)
  refine wpAny_bind (wpAny_setScan_of hkey ho hd hf hel ?_)
  cases hr:List.findIdx? (fun e=>(intKind prog w).is k e.2) es.toList with
  | some j =>
    dsimp only
    obtain ⟨hj,hpj,_⟩:=List.findIdx?_eq_some_iff_getElem.mp hr
    have hk:k ∈ ks:=hE.found (List.getElem_mem hj) hpj
    refine wpAny_pure (wpAny_pure ?_)
    have e:s = { s with heap:=s.heap }:=by cases s; rfl
    rw [e]
    exact h s.heap n false (Heap.SameBut.refl a s.heap) (Nat.le_succ _) ⟨o,es,ep,t,ho,hex,hd,hE.again hk,hb,hf,hA,hled,hn⟩
  | none =>
    dsimp only
    have hk:k ∉ ks:=fun z=>by
      obtain ⟨e,he,q⟩:=List.mem_map.mp ((hE.mem k).mp z)
      have:=List.findIdx?_eq_none_iff.mp hr e he
      obtain ⟨_,v,h2⟩:=hE.ent e he
      rw [h2] at this
      rw [← q] at this
      rw [intKind_is] at this
      exact Bool.noConfusion this
    have hgw:∀ (b:Bool) {s₁:Shared} {Q' : Unit→Shared→Prop},Q' () s₁→wpAny (model prog w) A (match b with | true=>rule "set.scan.the-table-gave-way" | false=>pure ()) Q' E s₁ :=
      fun b s₁ Q' hq=>by cases b <;> first | exact wpAny_pure hq | exact wpAny_rule hq
    have hperm:=layNew_perm t es ((intKind prog w).hash k) (.int k u)
    have hfits:=layNew_fits t es ((intKind prog w).hash k) (.int k u)
    obtain ⟨hA1,hl1⟩:=layNew_asc hA es ((intKind prog w).hash k) (.int k u)
    generalize hL:layNew t es ((intKind prog w).hash k) (.int k u) = L at hperm hfits hA1 hl1 ⊢
    obtain ⟨es1,t1,wasDummy,gave⟩:=L
    dsimp only at hperm hfits hA1 hl1 ⊢
    have hE1:Ents es1 (ks ++ [k]):=(hE.push (u:=u) hk).perm hperm
    have hsz1:es1.size = n + 1:=by rw [← Array.length_toList,hperm.length_eq,Array.length_toList,Array.size_push,hn]
    have hb1' : es1.size < scanBound:=by rw [hsz1]; exact hroom
    refine wpAny_bind (hgw _ ?_)
    have hend:∀ h',Heap.SameBut a s.heap h'→SetWk h' a led (ks ++ [k]) es1.size→Q true { s with heap:=h' }:=fun h' hsb hS'=>h h' _ true hsb (by omega) hS'
    split
    · refine wpAny_bind ?_
      rw [hashByValue_scannable 8 hsc]
      refine wpAny_pure ?_
      refine addTailW ?_ ho hex hd hE1 hb1' ?_ ?_ (led:=led) ?_ ?_
      · intro b s₁ Q' hq; cases b <;> first | exact wpAny_pure hq | exact wpAny_rule hq
      · split
        · exact hfits
        · exact SetTable.fits_plain_off hfits
      · split
        · exact hA1
        · exact hA1
      · split
        · exact hl1.trans hled
        · exact hl1.trans hled
      · intro h' hsb hS'; dsimp only; exact wpAny_pure (hend h' hsb hS')
    · refine wpAny_bind (wpAny_pure ?_)
      simp only [↓reduceIte]
      refine addTailW ?_ ho hex hd hE1 hb1' hfits hA1 (hl1.trans hled) ?_
      · intro b s₁ Q' hq; cases b <;> first | exact wpAny_pure hq | exact wpAny_rule hq
      · intro h' hsb hS'; dsimp only; exact wpAny_pure (hend h' hsb hS')
theorem code_new_W (a:Value) {Q₁:Value→Shared→Prop}
    (h:Q₁ (.ref s.heap.objs.size) { s with heap:=s.heap.push { cls:=.type "set",dict:=none,data:=.set #[] 0 (.fresh 0 0 (!byTx w)) } }) :
    codeAny (model prog w) A (.call (.builtin "set.__new__") ⟨[.type "set",a],[]⟩) (wants Q₁ E) s:=by
  refine codeAny_of_tree ?_
  show wpAny _ A.in1 (do checkBuiltinCall "set.__new__" ⟨[.type "set",a],[]⟩; again (.builtin "set.__new__" ⟨[.type "set",a],[]⟩)) _ _ s
  refine wpAny_bind (wpAny_of_eq (F.newCall_set_1 a) (wpAny_pure ⟨plainId_quiet F.plain_set_new _,codeAny_builtin F.entry_set_new ?_⟩))
  rw [Around.under_plainId F.plain_set_new _]
  unfold Builtin.«set.__new__» Builtin.Frozenset.newClass
  have hsub:=sub_set_self
  obtain ⟨hp,g,d,tk,os⟩:=s
  dsimp only
  wp_walk
  refine wpAny_askSetting (wpAny_pure ?_)
  dsimp only
  simp only [newObj]
  refine wpAny_bind (wpAny_alloc (wpAny_pure ?_))
  exact wpAny_pure h
theorem fill_W {R:Result→Shared→Prop} {I:Addr} {fp wr:List Addr} {G:Array GenState→Array GenState→Prop} {n:Nat} {P:Nat→Value→Prop} {St:Nat→Shared→Prop} (W:WalksS prog w A.in1 I fp wr G n P St) {a:Addr} (ha:a ∉ fp) {ks:List Int} {led:Bool}
    (hv:∀ i v,P i v→∃ k u,ks[i]? = some k∧v = .int k u) (hb:n + 1 < scanBound):∀ (d i:Nat) (s:Shared) (m:Nat),n = i + d→m ≤ i→St i s→SetWk s.heap a led (ks.take i) m →
      (∀ s' m',Moved (a :: wr) G s s'→SetWk s'.heap a led (ks.take n) m'→m' ≤ n→R (.ok (.ret .none)) s')→codeAny (model prog w) A (.builtin "set.update.loop" ⟨[.ref a,.ref I],[]⟩) R s:=by
  have hw:a ∉ wr:=fun z=>ha (W.sub a z)
  intro d
  induction d with
  | zero =>
    intro i s m e hm st x fin
    rw [show n = i by omega] at W fin
    refine codeAny_builtin (R:=R) (A:=A) F.entry_set_update_loop ?_
    rw [Around.under_plainId (A:=A) F.plain_set_update_loop _]
    show wpAny (model prog w) A.in1 (pyNext (.ref I) >>= _) _ _ s
    exact wpAny_bind (W.done s _ _ st fun s' mv=>wpAny_pure (fin s' m (mv.mono fun b hb=>List.mem_cons_of_mem a hb) (x.stay fun o q=>mv.heap a o hw q) hm))
  | succ d ih =>
    intro i s m e hm st x fin
    refine codeAny_builtin (R:=R) (A:=A) F.entry_set_update_loop ?_
    rw [Around.under_plainId (A:=A) F.plain_set_update_loop _]
    show wpAny (model prog w) A.in1 (pyNext (.ref I) >>= _) _ _ s
    refine wpAny_bind (W.item i s _ _ (by omega) st fun v s1 p st1 mv=>?_)
    obtain ⟨k,u,ek,rfl⟩:=hv i v p
    have x1:=x.stay fun o q=>mv.heap a o hw q
    show wpAny (model prog w) A.in1 (holding [.int k u] (setAdd a (.int k u)) >>= _) _ _ s1
    refine wpAny_bind (wpAny_holding (show wpAny (model prog w) A.in1 (setAdd a (.int k u)) _ _ s1 from ?_))
    unfold setAdd
    refine wpAny_holding (wpAny_bind ((intKind prog w).pyHash (k:=k) (intKind_is _ _ _ _) ?_))
    refine addW (s:={ s1 with toks:=s1.toks + 1 }) x1 (by omega) fun h' n' _ sb hn' x2=>?_
    have et:ks.take (i + 1) = ks.take i ++ [k]:=by rw [List.take_add_one,ek]; rfl
    rw [← et] at x2
    refine wpAny_pure ⟨plainId_quiet F.plain_set_update_loop _,ih (i + 1) { s1 with heap:=h',toks:=s1.toks + 1 } n' (by omega) (by omega) (W.frame (i + 1) s1 h' (s1.toks + 1) st1 (Nat.le_succ _) fun b hbf o q=>(sb.2 b fun z=>ha (z ▸ hbf)).trans q) x2 fun s2 m2 mv2 x4 hm2=>?_⟩
    refine fin s2 m2 (Moved.trans W.gtrans ((mv.mono fun b hb=>List.mem_cons_of_mem a hb).then_heap (Nat.le_succ _) fun b o hbn q=>?_) mv2) x4 hm2
    exact (sb.2 b fun z=>hbn (z ▸ List.mem_cons_self)).trans q
theorem init_W {l:Addr} {items:Array Value} {ks:List Int} (hh:A.handled = none) (hl:s.heap.IsList l items) (hk:∀ (i:Nat) (v:Value),items[i]? = some v→∃ k u,ks[i]? = some k∧v = .int k u) (hn:ks.length = items.size) (hb:items.size + 1 < scanBound) :
    codeAny (model prog w) A (.call (.builtin "set.__init__") ⟨[.ref s.heap.objs.size,.ref l],[]⟩) (wants (fun r s2=>r = .none∧∃ h' tk m,s2 = { s with heap:=h',toks:=tk }∧SetWk h' s.heap.objs.size (!byTx w) ks m∧m ≤ ks.length∧∀ b o,b < s.heap.objs.size→s.heap.get? b = some o→h'.get? b = some o) E) { s with heap:=s.heap.push (newS (!byTx w)) }:=by
  have g0:(s.heap.push (newS (!byTx w))).get? s.heap.objs.size = some (newS (!byTx w)):=Heap.get?_push_size s.heap rfl
  have ty:Shared.TypeIs { s with heap:=s.heap.push (newS (!byTx w)) } (.ref s.heap.objs.size) "set" := ⟨newS (!byTx w),g0,rfl⟩
  refine codeAny_call_builtin F.called_set.init.plain F.entry_set_init (check_set_init_1 ty ?_)
  obtain ⟨⟨c1,c2,c3,c4⟩,ho,hc,m,hd⟩:=hl
  dsimp only at hc hd
  subst hc hd
  have g1:(s.heap.push (newS (!byTx w))).get? l = some { cls:=.type "list",dict:=c2,data:=.seq items m,slots:=c4 }:=Heap.get?_push_of_some _ ho
  have y1:=F.sub_list_set
  have y2:=F.sub_list_frozenset
  have y3:(Value.type "list" == Value.type "dict") = false:=by decide
  have l1:(s.heap.push (newS (!byTx w))).IsList l items:=⟨_,g1,rfl,m,rfl⟩
  have lt:l < s.heap.objs.size:=Heap.lt_size ho
  have s0:SetWk (s.heap.push (newS (!byTx w))) s.heap.objs.size (!byTx w) [] 0:=⟨_,#[],0,_,g0,⟨rfl,rfl,rfl⟩,rfl,⟨by simp,by simp,by simp⟩,by unfold scanBound; decide,rfl,List.Pairwise.nil,rfl,rfl⟩
  unfold Builtin.«set.__init__» Builtin.Frozenset.updateFrom noKeywords
  generalize hI:pyIter = it
  generalize hB:byTx w = bt at *
  wp_walk
  subst hI
  refine wpAny_pyIter_list l1 (wpAny_bind (wpAny_runValue ?_))
  have nl:l ≠ (s.heap.push (newS (!bt))).objs.size:=by rw [Heap.size_push]; exact Nat.ne_of_lt (Nat.lt_succ_of_lt lt)
  have nf:s.heap.objs.size ∉ [(s.heap.push (newS (!bt))).objs.size,l]:=by
    rw [Heap.size_push]
    intro z
    rcases List.mem_cons.mp z with z | z
    · exact absurd z (Nat.ne_of_lt (Nat.lt_succ_self _))
    · exact absurd (by simpa using z) (Nat.ne_of_gt lt)
  refine fill_W ((Walks.list (by simp [hh]) _ l nl items).toS) nf (ks:=ks) (led:=!bt) hk hb items.size 0 _ 0 (Nat.zero_add _).symm (Nat.le_refl _) ⟨⟨_,Heap.get?_push_size _ rfl,rfl,rfl⟩,l1.push _⟩ (s0.stay fun o q=>Heap.get?_push_of_some _ q) fun s' m' mv x hm'=>?_
  obtain ⟨h',g',d',t',o'⟩:=s'
  obtain rfl:g' = s.gens:=mv.gens
  obtain rfl:d' = s.drawn:=mv.drawn
  obtain rfl:o' = s.os:=mv.os
  refine wpAny_pure (show wpAny (model prog w) _ (ret Value.none) _ _ _ from wpAny_pure ⟨rfl,h',t',m',rfl,?_,by omega,fun b o hb' q=>?_⟩)
  · rw [← hn,List.take_length] at x
    exact x
  · refine mv.heap b o (fun z=>?_) (Heap.get?_push_of_some _ (Heap.get?_push_of_some _ q))
    rcases List.mem_cons.mp z with z | z
    · exact absurd z (Nat.ne_of_lt hb')
    · have z2:b = (s.heap.push (newS (!bt))).objs.size:=by simpa using z
      rw [Heap.size_push] at z2
      exact absurd z2 (Nat.ne_of_lt (Nat.lt_succ_of_lt hb'))
set_option maxRecDepth 100000 in
theorem call_setW {l:Addr} {items:Array Value} {ks:List Int} {Q:Value→Shared→Prop} (hh:A.handled = none) (hl:s.heap.IsList l items) (hk:∀ (i:Nat) (v:Value),items[i]? = some v→∃ k u,ks[i]? = some k∧v = .int k u) (hn:ks.length = items.size) (hb:items.size + 1 < scanBound)
    (h:∀ h' tk m,SetWk h' s.heap.objs.size (!byTx w) ks m→m ≤ ks.length→(∀ b o,b < s.heap.objs.size→s.heap.get? b = some o→h'.get? b = some o)→Q (.ref s.heap.objs.size) { s with heap:=h',toks:=tk }):wpAny (model prog w) A (call (.type "set") [.ref l]) Q E s:=by
  obtain ⟨c,tl,mro⟩:=F.called_set.mro
  have a1:=F.called_set.made
  have a2:=F.called_set.sub
  have a3:=F.called_set.notType
  have a4:=F.called_set.canCreate
  have a5:=F.typeCall_set_1 (.ref l)
  refine wpAny_call (codeAny_of_tree (show wpAny (model prog w) _ (callAny (.type "set") _) _ _ _ from wpAny_pure ⟨Code.quiet_builtin _ (by decide +kernel),codeAny_builtin F.entry_type_call ?_⟩))
  rw [Around.under_plain (A:=A) (weight_type_call_type "set" [.ref l] []) rfl]
  repeat (any_goals (first | assumption | wp_step))
  refine codeAny_mono (code_new_W (.ref l) (E:=E) (Q₁:=fun ob s1=>ob = .ref s.heap.objs.size∧s1 = { s with heap:=s.heap.push (newS (!byTx w)) }) ⟨rfl,rfl⟩) fun r s1 hr=>?_
  cases r with
  | error e=>exact hr
  | ok fl =>
    cases fl with
    | ret ob =>
      obtain ⟨rfl,rfl⟩:=hr
      have g0:(s.heap.push (newS (!byTx w))).get? s.heap.objs.size = some (newS (!byTx w)):=Heap.get?_push_size s.heap rfl
      have ty:Shared.TypeIs { s with heap:=s.heap.push (newS (!byTx w)) } (.ref s.heap.objs.size) "set" := ⟨newS (!byTx w),g0,rfl⟩
      have b1:=F.called_set.init.lookup
      have b2:=F.called_set.init.bind (.ref s.heap.objs.size)
      repeat (any_goals (first | assumption | wp_step))
      refine codeAny_mono (init_W (E:=E) (by simp [hh]) hl hk hn hb) fun r2 s2 hr2=>?_
      cases r2 with
      | error e=>exact hr2
      | ok f2 =>
        cases f2 with
        | ret r =>
          obtain ⟨rfl,h',tk,m,rfl,x,hm,kp⟩:=hr2
          repeat (any_goals (first | assumption | wp_step))
          exact h h' tk m x hm kp
        | _=>exact hr2.elim
    | _=>exact hr.elim
end
end L2
namespace L2
open PySem PySem.Spec PyProof.Rows
set_option maxRecDepth 100000
theorem slot_setit_next:Slot "set_iterator" "__next__" "set_iterator.__next__" :=
  .of (owner := "set_iterator") (n := "__next__") (by rw [typeLookup_type,builtinLookup_eq_fast]; kernel_rfl) (by decide +kernel) (by decide +kernel) (by decide +kernel)
    (by first | exact .inl (by decide +kernel) | exact .inr (by decide +kernel)) (by rw [isSubtype_type]; kernel_rfl)
theorem slot_setit_iter:Slot "set_iterator" "__iter__" "set_iterator.__iter__" :=
  .of (owner := "set_iterator") (n := "__iter__") (by rw [typeLookup_type,builtinLookup_eq_fast]; kernel_rfl) (by decide +kernel) (by decide +kernel) (by decide +kernel)
    (by first | exact .inl (by decide +kernel) | exact .inr (by decide +kernel)) (by rw [isSubtype_type]; kernel_rfl)
theorem entry_setit_next:entryFor table "set_iterator.__next__" = some Builtin.«set_iterator.__next__»:=entryFor_of_fast (by kernel_rfl)
theorem entry_setit_iter:entryFor table "set_iterator.__iter__" = some Builtin.«dict_keyiterator.__iter__» :=
  entryFor_alias (id' := "dict_keyiterator.__iter__") (by kernel_rfl) rfl (by decide +kernel) (by kernel_rfl)
theorem entry_set_iter:entryFor table "set.__iter__" = some Builtin.«frozenset.__iter__» :=
  entryFor_alias (id' := "frozenset.__iter__") (by kernel_rfl) rfl (by decide +kernel) (by kernel_rfl)
theorem args_setit_next (a:Value):argsOk "set_iterator.__next__" ⟨[a],[]⟩:=by unfold argsOk; kernel_rfl
theorem args_setit_iter (a:Value):argsOk "set_iterator.__iter__" ⟨[a],[]⟩:=by unfold argsOk; kernel_rfl
abbrev itObj (first:Value) (i:Int) (s:Value) (n ep:Nat):Obj:={ cls:=.type "set_iterator",data:=.fields #[first,.int i 0,s,.int n 0,.int ep 0] }
section
variable {prog:Program} {w:World} {A:Around} {E:Value→Shared→Prop} {s:Shared}
theorem wpAny_choose {src:Source} {n:Nat} {Q:Nat→Shared→Prop} (hn:n ≠ 0) (h:Q (w.draws src (s.drawn.get src) % n) { s with drawn:=s.drawn.bump src }) :
    wpAny (model prog w) A (choose src n) Q E s:=fun _ _ _=>⟨hn,h⟩
theorem drawOrder_perm {α:Type} : ∀ (n:Nat) (xs:List α) (s:Shared) {Q:List α→Shared→Prop},n = xs.length→(∀ ys d,ys.Perm xs→Q ys { s with drawn:=d })→wpAny (model prog w) A (drawOrder n xs) Q E s:=by
  intro n
  induction n with
  | zero =>
    intro xs s Q e h
    have:xs = []:=List.length_eq_zero_iff.mp e.symm
    subst this
    unfold drawOrder
    exact wpAny_pure (h [] s.drawn (.refl _))
  | succ n ih =>
    intro xs s Q e h
    cases xs with
    | nil=>simp at e
    | cons x r =>
      unfold drawOrder
      refine wpAny_bind (wpAny_choose (by simp) ?_)
      generalize hi:w.draws Source.order (s.drawn.get Source.order) % (x :: r).length = i
      have hlt:i < (x :: r).length:=by rw [← hi]; exact Nat.mod_lt _ (by simp)
      have eg:(x :: r)[i]? = some (x :: r)[i]:=List.getElem?_eq_getElem hlt
      rw [eg]
      try dsimp only
      refine wpAny_bind (ih _ _ (by rw [List.length_eraseIdx_of_lt hlt]; omega) fun ys d p=>wpAny_pure ?_)
      exact h _ d ((p.cons _).trans (perm_eraseIdx eg))
theorem next_slot {I a:Addr} {slot i:Nat} {o:Obj} {es:Array (Int × Value)} {ep:Nat} {t:SetTable} {Q:Option Value→Shared→Prop}
    (hI:s.heap.get? I = some (itObj (.int slot 0) i (.ref a) es.size ep)) (ho:s.heap.get? a = some o) (hd:o.data = .set es ep t) (hf:t.fits es.size = true)
    {x:Value} {nx:Nat} (hN:∀ (Q' : Option (Value × Nat)→Shared→Prop) E',Q' (some (x,nx)) s→wpAny (model prog w) A.in1 (setNext a slot i ep) Q' E' s)
    (hQ:∀ h',h'.get? I = some (itObj (.int nx 0) ((i + 1:Nat):Int) (.ref a) es.size ep)→Heap.SameBut I s.heap h'→Q (some x) { s with heap:=h' }) :
    wpAny (model prog w) A (pyNext (.ref I)) Q E s:=by
  have hT:s.TypeIs (.ref I) "set_iterator" := ⟨_,hI,rfl⟩
  unfold pyNext
  refine wpAny_bind (wpAny_attempt (wpAny_callSpecial?_slot (name:=Str.ofString "__next__") hT slot_setit_next (wpAny_call_entry slot_setit_next hT entry_setit_next ?_ (args_setit_next _))))
  unfold Builtin.«set_iterator.__next__»
  refine wpAny_bind (m:=slotArgs "__next__" 0 _) (wpAny_pure ?_)
  refine wpAny_bind (wpAny_fieldsOf hI rfl ?_)
  try dsimp only
  refine wpAny_bind (wpAny_setEntries_of ho hd hf ?_)
  rw [if_neg (by simp)]
  try dsimp only
  simp only [Int.toNat_natCast]
  refine wpAny_bind (hN _ _ ?_)
  try dsimp only
  refine wpAny_bind (wpAny_setField_rec hI (by simp) fun h1 g1 sb1=>?_)
  refine wpAny_bind (wpAny_setField_rec (s:={ s with heap:=h1 }) g1 (by simp) fun h2 g2 sb2=>?_)
  refine wpAny_pure ⟨x,rfl,wpAny_pure (hQ h2 ?_ (sb1.trans sb2))⟩
  rw [g2]
  simp [itObj,rawInt]
theorem next_none {I a:Addr} {slot i:Nat} {o:Obj} {es:Array (Int × Value)} {ep:Nat} {t:SetTable} {Q:Option Value→Shared→Prop} (hh:A.handled = none)
    (hI:s.heap.get? I = some (itObj (.int slot 0) i (.ref a) es.size ep)) (ho:s.heap.get? a = some o) (hd:o.data = .set es ep t) (hf:t.fits es.size = true)
    (hN:∀ (Q' : Option (Value × Nat)→Shared→Prop) E',Q' none s→wpAny (model prog w) A.in1 (setNext a slot i ep) Q' E' s)
    (hQ:∀ h',Heap.ExtBut I s.heap h'→Q none { s with heap:=h' }) :
    wpAny (model prog w) A (pyNext (.ref I)) Q E s:=by
  have hT:s.TypeIs (.ref I) "set_iterator" := ⟨_,hI,rfl⟩
  unfold pyNext
  refine wpAny_bind (wpAny_attempt (wpAny_callSpecial?_slot (name:=Str.ofString "__next__") hT slot_setit_next (wpAny_call_entry slot_setit_next hT entry_setit_next ?_ (args_setit_next _))))
  unfold Builtin.«set_iterator.__next__»
  refine wpAny_bind (m:=slotArgs "__next__" 0 _) (wpAny_pure ?_)
  refine wpAny_bind (wpAny_fieldsOf hI rfl ?_)
  try dsimp only
  refine wpAny_bind (wpAny_setEntries_of ho hd hf ?_)
  rw [if_neg (by simp)]
  try dsimp only
  simp only [Int.toNat_natCast]
  refine wpAny_bind (hN _ _ ?_)
  try dsimp only
  refine wpAny_bind (wpAny_setField hI rfl (by simp) ?_)
  show wpAny _ _ (newExc (.type "StopIteration") [] >>= _) _ _ _
  refine wpAny_bind ?_
  simp only [newExc,newTuple]
  refine wpAny_bind (wpAny_newObj_type ?_ (by size_fits))
  refine wpAny_bind (m:=firstArgMember _ _) (wpAny_of_eq (a:=Value.none) (by first | rfl | (simp only [firstArgMember]; rfl)) ?_)
  refine wpAny_newObj_type ?_ (by size_fits)
  simp only [raiseNew]
  refine wpAny_bind (wpAny_handled ?_)
  rw [show A.in1.handled = none from hh]
  refine wpAny_bind (wpAny_pure (wpAny_throw ?_))
  refine wpAny_bind (wpAny_isInstance (T := "StopIteration") (b:=true) ⟨_,Heap.get?_push_size _ rfl,rfl⟩ isSubtype_stop ?_)
  exact wpAny_pure (hQ _ (((Heap.SameBut.update ..).extBut.push _).push _))
theorem next_drawn {I a tp:Addr} {i:Nat} {o:Obj} {es:Array (Int × Value)} {ep:Nat} {t:SetTable} {places:List Nat} {m:Nat} {to:Obj} {Q:Option Value→Shared→Prop}
    (hI:s.heap.get? I = some (itObj (.ref tp) i (.ref a) es.size ep)) (ht:s.heap.get? tp = some to) (htd:to.data = .seq (places.map fun (p:Nat)=>rawInt p).toArray m) (ho:s.heap.get? a = some o) (hd:o.data = .set es ep t) (hf:t.fits es.size = true)
    {p:Nat} (hp:places[i]? = some p) {e:Int × Value} (he:es[p]? = some e)
    (hQ:∀ h',h'.get? I = some (itObj (.ref tp) ((i + 1:Nat):Int) (.ref a) es.size ep)→Heap.SameBut I s.heap h'→Q (some e.2) { s with heap:=h' }) :
    wpAny (model prog w) A (pyNext (.ref I)) Q E s:=by
  have hT:s.TypeIs (.ref I) "set_iterator" := ⟨_,hI,rfl⟩
  unfold pyNext
  refine wpAny_bind (wpAny_attempt (wpAny_callSpecial?_slot (name:=Str.ofString "__next__") hT slot_setit_next (wpAny_call_entry slot_setit_next hT entry_setit_next ?_ (args_setit_next _))))
  unfold Builtin.«set_iterator.__next__»
  refine wpAny_bind (m:=slotArgs "__next__" 0 _) (wpAny_pure ?_)
  refine wpAny_bind (wpAny_fieldsOf hI rfl ?_)
  try dsimp only
  refine wpAny_bind (wpAny_setEntries_of ho hd hf ?_)
  rw [if_neg (by simp)]
  try dsimp only
  refine wpAny_bind (wpAny_seqItems ht htd ?_)
  try dsimp only
  have eg:(places.map fun (p:Nat)=>rawInt p).toArray[(i:Int).toNat]? = some (.int p 0):=by simp [hp,rawInt]
  rw [eg]
  try dsimp only
  unfold setNextDrawn
  refine wpAny_bind (wpAny_bind (wpAny_setState_of ho hd hf ?_))
  try dsimp only
  rw [if_neg (by simp)]
  refine wpAny_bind (wpAny_pure ?_)
  simp only [Int.toNat_natCast,he]
  refine wpAny_pure ?_
  refine wpAny_bind (wpAny_setField_rec hI (by simp) fun h1 g1 sb1=>?_)
  refine wpAny_pure ⟨e.2,rfl,wpAny_pure (hQ h1 ?_ sb1)⟩
  rw [g1]
  simp [itObj,rawInt]
theorem next_drawn_end {I a tp:Addr} {i:Nat} {o:Obj} {es:Array (Int × Value)} {ep:Nat} {t:SetTable} {places:List Nat} {m:Nat} {to:Obj} {Q:Option Value→Shared→Prop} (hh:A.handled = none)
    (hI:s.heap.get? I = some (itObj (.ref tp) i (.ref a) es.size ep)) (ht:s.heap.get? tp = some to) (htd:to.data = .seq (places.map fun (p:Nat)=>rawInt p).toArray m) (ho:s.heap.get? a = some o) (hd:o.data = .set es ep t) (hf:t.fits es.size = true)
    (hp:places[i]? = none) (hQ:∀ h',Heap.ExtBut I s.heap h'→Q none { s with heap:=h' }) :
    wpAny (model prog w) A (pyNext (.ref I)) Q E s:=by
  have hT:s.TypeIs (.ref I) "set_iterator" := ⟨_,hI,rfl⟩
  unfold pyNext
  refine wpAny_bind (wpAny_attempt (wpAny_callSpecial?_slot (name:=Str.ofString "__next__") hT slot_setit_next (wpAny_call_entry slot_setit_next hT entry_setit_next ?_ (args_setit_next _))))
  unfold Builtin.«set_iterator.__next__»
  refine wpAny_bind (m:=slotArgs "__next__" 0 _) (wpAny_pure ?_)
  refine wpAny_bind (wpAny_fieldsOf hI rfl ?_)
  try dsimp only
  refine wpAny_bind (wpAny_setEntries_of ho hd hf ?_)
  rw [if_neg (by simp)]
  try dsimp only
  refine wpAny_bind (wpAny_seqItems ht htd ?_)
  try dsimp only
  have eg:(places.map fun (p:Nat)=>rawInt p).toArray[(i:Int).toNat]? = none:=by simp at hp ⊢; exact hp
  rw [eg]
  try dsimp only
  refine wpAny_bind (wpAny_setField_rec hI (by simp) fun h1 g1 sb1=>?_)
  refine wpAny_bind (wpAny_setField (s:={ s with heap:=h1 }) g1 rfl (by simp) ?_)
  show wpAny _ _ (newExc (.type "StopIteration") [] >>= _) _ _ _
  refine wpAny_bind ?_
  simp only [newExc,newTuple]
  refine wpAny_bind (wpAny_newObj_type ?_ (by size_fits))
  refine wpAny_bind (m:=firstArgMember _ _) (wpAny_of_eq (a:=Value.none) (by first | rfl | (simp only [firstArgMember]; rfl)) ?_)
  refine wpAny_newObj_type ?_ (by size_fits)
  simp only [raiseNew]
  refine wpAny_bind (wpAny_handled ?_)
  rw [show A.in1.handled = none from hh]
  refine wpAny_bind (wpAny_pure (wpAny_throw ?_))
  refine wpAny_bind (wpAny_isInstance (T := "StopIteration") (b:=true) ⟨_,Heap.get?_push_size _ rfl,rfl⟩ isSubtype_stop ?_)
  exact wpAny_pure (hQ _ (((sb1.trans (Heap.SameBut.update ..)).extBut.push _).push _))
theorem self_setit {I:Addr} {first:Value} {i:Int} {v:Value} {n ep:Nat} {Q:Value→Shared→Prop} (hI:s.heap.get? I = some (itObj first i v n ep)) (h:Q (.ref I) s):wpAny (model prog w) A (pyIter (.ref I)) Q E s:=by
  have hT:s.TypeIs (.ref I) "set_iterator" := ⟨_,hI,rfl⟩
  refine wpAny_pyIter_slot hT slot_setit_iter (wpAny_call_entry slot_setit_iter hT entry_setit_iter ?_ (args_setit_iter _))
  show wpAny _ _ (ret (.ref I)) _ _ s
  exact wpAny_pure ⟨_,rfl, "set_iterator",_,hT,slot_setit_next.lookup,h⟩
theorem setNext_text {a:Addr} {o:Obj} {es:Array (Int × Value)} {ep:Nat} {t:SetTable} {slot i:Nat} (hb:byTx w = true) (ho:s.heap.get? a = some o) (hd:o.data = .set es ep t) (hf:t.fits es.size = true)
    {Q:Option (Value × Nat)→Shared→Prop} (h:Q (((pickOrder (w.params.setOrder a ep) es)[i]?).map fun e=>(e.2,slot)) s):wpAny (model prog w) A (setNext a slot i ep) Q E s:=by
  have hb' : ((Setting.mk prog w.params).params.followText "set-order") = true:=hb
  unfold setNext
  refine wpAny_bind (wpAny_setState_of ho hd hf ?_)
  try dsimp only
  unfold setsByText
  refine wpAny_bind (wpAny_bind (wpAny_askSetting (wpAny_pure ?_)))
  show wpAny _ _ (if (Setting.mk prog w.params).params.followText "set-order" = true then _ else _) _ _ _
  rw [if_pos hb',if_neg (by simp)]
  unfold setWalk
  refine wpAny_bind (wpAny_bind (wpAny_setState_of ho hd hf ?_))
  try dsimp only
  unfold setsByText
  refine wpAny_bind (wpAny_bind (wpAny_askSetting (wpAny_pure ?_)))
  show wpAny _ _ (if (Setting.mk prog w.params).params.followText "set-order" = true then _ else _) _ _ _
  rw [if_pos hb']
  refine wpAny_bind (wpAny_askSetting (wpAny_pure (wpAny_pure h)))
theorem setNext_place {a:Addr} {o:Obj} {es:Array (Int × Value)} {ep:Nat} {t:SetTable} {slot i:Nat} (hb:byTx w = false) (ho:s.heap.get? a = some o) (hd:o.data = .set es ep t) (hf:t.fits es.size = true) (hl:t.led = true) (hp:(!t.plain && decide (es.size > 1)) = false)
    {Q:Option (Value × Nat)→Shared→Prop} (h:Q (match es[SetTable.below t.place slot]?,t.place[SetTable.below t.place slot]? with | some (_,x),some j=>some (x,j + 1) | _,_=>none) s):wpAny (model prog w) A (setNext a slot i ep) Q E s:=by
  have hb' : ((Setting.mk prog w.params).params.followText "set-order") = false:=hb
  unfold setNext
  refine wpAny_bind (wpAny_setState_of ho hd hf ?_)
  try dsimp only
  unfold setsByText
  refine wpAny_bind (wpAny_bind (wpAny_askSetting (wpAny_pure ?_)))
  show wpAny _ _ (if (Setting.mk prog w.params).params.followText "set-order" = true then _ else _) _ _ _
  rw [if_neg (by rw [hb']; exact Bool.false_ne_true)]
  show wpAny _ _ (if (!t.plain && decide (es.size > 1)) = true then _ else _) _ _ _
  rw [if_neg (by rw [hp]; exact Bool.false_ne_true)]
  show wpAny _ _ ((if (!t.led && !es.isEmpty) = true then unsupported "set:maker-not-led" else pure ()) >>= _) _ _ _
  rw [hl,if_neg (by simp)]
  exact wpAny_bind (wpAny_pure (wpAny_pure h))
end
end L2
namespace L2
open PySem PySem.Spec PyProof.Rows
set_option maxRecDepth 100000
section
variable {prog:Program} {w:World} {A:Around} {E:Value→Shared→Prop} {s:Shared}
abbrev GSame:Array GenState→Array GenState→Prop:=fun g g'=>g' = g
theorem moved_but {I:Addr} {h' : Heap} (sb:Heap.SameBut I s.heap h'):Moved [I] GSame s { s with heap:=h' } :=
  ⟨fun b o hb e=>(sb.2 b fun z=>hb (z ▸ List.mem_cons_self)).trans e,rfl,rfl,rfl,Nat.le_refl _⟩
theorem moved_ext {I:Addr} {h' : Heap} (sb:Heap.ExtBut I s.heap h'):Moved [I] GSame s { s with heap:=h' } :=
  ⟨fun b o hb e=>sb b o (fun z=>hb (z ▸ List.mem_cons_self)) e,rfl,rfl,rfl,Nat.le_refl _⟩
theorem walks_slot (hh:A.handled = none) {I a:Addr} (hne:a ≠ I) {o:Obj} {es:Array (Int × Value)} {ep:Nat} {t:SetTable} (hd:o.data = .set es ep t) (hf:t.fits es.size = true) {ord:List Value} (hlen:ord.length = es.size) (sl:Nat→Nat)
    (hN:∀ (i:Nat) (x:Value) (s:Shared) (Q' : Option (Value × Nat)→Shared→Prop) E',s.heap.get? a = some o→ord[i]? = some x→Q' (some (x,sl (i + 1))) s→wpAny (model prog w) A.in1 (setNext a (sl i) i ep) Q' E' s)
    (hE:∀ (s:Shared) (Q' : Option (Value × Nat)→Shared→Prop) E',s.heap.get? a = some o→Q' none s→wpAny (model prog w) A.in1 (setNext a (sl es.size) es.size ep) Q' E' s) :
    WalksS prog w A I [I,a] [I] GSame es.size (fun i v=>ord[i]? = some v) (fun i s=>s.heap.get? I = some (itObj (.int (sl i) 0) i (.ref a) es.size ep)∧s.heap.get? a = some o) where
  sub:=fun b hb=>by simp at hb; simp [hb]
  grefl:=fun _=>rfl
  gtrans:=fun _ _ _ h1 h2=>h2.trans h1
  frame:=fun i s h' tk st _ k=>⟨k I (by simp) _ st.1,k a (by simp) _ st.2⟩
  item:=fun i s Q E hi st hQ=>by
    have ex:ord[i]? = some ord[i]:=List.getElem?_eq_getElem (by omega)
    refine next_slot st.1 st.2 hd hf (x:=ord[i]) (nx:=sl (i + 1)) (fun Q' E' q=>hN i _ s Q' E' st.2 ex q) fun h' g sb=>?_
    exact hQ _ _ ex ⟨g,(sb.2 a hne).trans st.2⟩ (moved_but sb)
  done:=fun s Q E st hQ=>next_none hh st.1 st.2 hd hf (fun Q' E' q=>hE s Q' E' st.2 q) fun h' eb=>hQ _ (moved_ext eb)
  self:=fun i s Q E st hQ=>self_setit st.1 hQ
theorem walks_drawn (hh:A.handled = none) {I a tp:Addr} (hne:a ≠ I) (hnt:tp ≠ I) {o to:Obj} {es:Array (Int × Value)} {ep m:Nat} {t:SetTable} (hd:o.data = .set es ep t) (hf:t.fits es.size = true) {places:List Nat} (htd:to.data = .seq (places.map fun (p:Nat)=>rawInt p).toArray m)
    (hpl:places.length = es.size) {ord:List Value} (hord:∀ (i:Nat),i < es.size→∃ p e,places[i]? = some p∧es[p]? = some e∧ord[i]? = some e.2) :
    WalksS prog w A I [I,a,tp] [I] GSame es.size (fun i v=>ord[i]? = some v) (fun i s=>s.heap.get? I = some (itObj (.ref tp) i (.ref a) es.size ep)∧s.heap.get? a = some o∧s.heap.get? tp = some to) where
  sub:=fun b hb=>by simp at hb; simp [hb]
  grefl:=fun _=>rfl
  gtrans:=fun _ _ _ h1 h2=>h2.trans h1
  frame:=fun i s h' tk st _ k=>⟨k I (by simp) _ st.1,k a (by simp) _ st.2.1,k tp (by simp) _ st.2.2⟩
  item:=fun i s Q E hi st hQ=>by
    obtain ⟨p,e,h1,h2,h3⟩:=hord i hi
    refine next_drawn st.1 st.2.2 htd st.2.1 hd hf h1 h2 fun h' g sb=>?_
    exact hQ _ _ h3 ⟨g,(sb.2 a hne).trans st.2.1,(sb.2 tp hnt).trans st.2.2⟩ (moved_but sb)
  done:=fun s Q E st hQ=>next_drawn_end hh st.1 st.2.2 htd st.2.1 hd hf (List.getElem?_eq_none (by omega)) fun h' eb=>hQ _ (moved_ext eb)
  self:=fun i s Q E st hQ=>self_setit st.1 hQ
theorem iter_set {a:Addr} {o:Obj} {es:Array (Int × Value)} {ep:Nat} {t:SetTable} {Q:Value→Shared→Prop} (ho:s.heap.get? a = some o) (hex:o.ExactSet) (hd:o.data = .set es ep t) (hb:es.size < scanBound) (hf:t.fits es.size = true) (ha:Asc t.place) (hl:t.led = !byTx w)
    (h:∀ (I:Addr) (h' : Heap) (d:Drawn) (ord:List Value) (fp:List Addr) (St:Nat→Shared→Prop),(∀ b u,s.heap.get? b = some u→h'.get? b = some u)→ord.Perm (es.toList.map (·.2)) →
      (∀ A' : Around,A'.handled = none→WalksS prog w A' I fp [I] GSame es.size (fun i v=>ord[i]? = some v) St)→St 0 { s with heap:=h',drawn:=d }→s.heap.objs.size ≤ I→(∀ b ∈ fp,b = a∨s.heap.objs.size ≤ b)→Q (.ref I) { s with heap:=h',drawn:=d }) :
    wpAny (model prog w) A (pyIter (.ref a)) Q E s:=by
  have hT:s.TypeIs (.ref a) "set" := ⟨o,ho,hex.1⟩
  have la:a < s.heap.objs.size:=Heap.lt_size ho
  refine wpAny_pyIter_slot hT F.slot_set_iter (wpAny_call_entry F.slot_set_iter hT entry_set_iter ?_ (F.args_set_iter_1 _))
  unfold Builtin.«frozenset.__iter__» Builtin.Frozenset.slot0
  refine wpAny_bind (wpAny_bind (m:=slotArgs "__iter__" 0 _) (wpAny_pure ?_))
  unfold Builtin.Frozenset.addrOf
  refine wpAny_pure ?_
  unfold Builtin.Frozenset.sizeOf
  refine wpAny_bind (wpAny_bind (wpAny_setEntries_of ho hd hf (wpAny_pure ?_)))
  unfold setDrawn
  refine wpAny_bind (wpAny_bind (wpAny_setState_of ho hd hf ?_))
  try dsimp only
  unfold setsByText
  refine wpAny_bind (wpAny_bind (wpAny_askSetting (wpAny_pure ?_)))
  refine wpAny_pure ?_
  show wpAny _ _ (if (!byTx w && (!t.plain && decide (es.size > 1))) = true then _ else _) _ _ _
  have hsz:es.toList.length = es.size:=Array.length_toList
  by_cases c:(!byTx w && (!t.plain && decide (es.size > 1))) = true
  · rw [if_pos c]
    refine wpAny_bind (drawOrder_perm es.size (List.range es.size) s (by simp) fun ys d p=>?_)
    refine wpAny_bind (wpAny_newTuple ?_ ?_)
    rotate_left
    · rw [List.length_map,p.length_eq,List.length_range]; unfold scanBound at hb; unfold sizeLine; omega
    generalize hto:({ cls:=.type "tuple",data:=.seq (ys.map fun (i:Nat)=>rawInt i).toArray } : Obj) = to
    have gt:(s.heap.push to).get? s.heap.objs.size = some to:=by rw [← hto]; exact Heap.get?_push_size _ rfl
    have ga:(s.heap.push to).get? a = some o:=Heap.get?_push_of_some _ ho
    refine wpAny_bind (m:=setEpoch a) (wpAny_setEpoch_of (s:={ s with heap:=s.heap.push to,drawn:=d }) ga hd hf ?_)
    refine wpAny_bind (wpAny_newObj_type ?_ (by size_fits))
    have hI:((s.heap.push to).push (itObj (.ref s.heap.objs.size) (0:Nat) (.ref a) es.size ep)).get? (s.heap.push to).objs.size = some (itObj (.ref s.heap.objs.size) (0:Nat) (.ref a) es.size ep):=Heap.get?_push_size _ rfl
    refine wpAny_pure ⟨_,rfl, "set_iterator",_,⟨_,hI,rfl⟩,slot_setit_next.lookup,?_⟩
    have hp:∀ i,i < es.size→∃ p e,ys[i]? = some p∧es[p]? = some e∧(ys.map fun p=>(es[p]?.map (·.2)).getD .none)[i]? = some e.2:=fun i hi=>by
      have hi' : i < ys.length:=by rw [p.length_eq,List.length_range]; exact hi
      have e1:ys[i]? = some ys[i]:=List.getElem?_eq_getElem hi'
      have lt:ys[i] < es.size:=List.mem_range.mp (p.mem_iff.mp (List.getElem_mem hi'))
      have e2:es[ys[i]]? = some es[ys[i]]:=Array.getElem?_eq_getElem lt
      exact ⟨ys[i],es[ys[i]],e1,e2,by rw [List.getElem?_map,e1]; simp [e2]⟩
    have hperm:(ys.map fun p=>(es[p]?.map (·.2)).getD Value.none).Perm (es.toList.map (·.2)):=by
      refine (p.map _).trans (List.Perm.of_eq ?_)
      apply List.ext_getElem
      · simp
      · intro i h1 h2
        simp at h1
        simp [h1]
    refine h _ _ d _ [(s.heap.push to).objs.size,a,s.heap.objs.size] _ (fun b u e=>Heap.get?_push_of_some _ (Heap.get?_push_of_some _ e)) hperm
      (fun A' hA=>walks_drawn hA (places:=ys) (to:=to) (m:=0) (by rw [Heap.size_push]; exact Nat.ne_of_lt (Nat.lt_succ_of_lt la)) (by rw [Heap.size_push]; exact Nat.ne_of_lt (Nat.lt_succ_self _)) hd hf (by rw [← hto]) (by rw [p.length_eq,List.length_range]) hp)
      ⟨hI,Heap.get?_push_of_some _ ga,Heap.get?_push_of_some _ gt⟩ (by rw [Heap.size_push]; exact Nat.le_succ _) fun b hb=>?_
    rcases List.mem_cons.mp hb with rfl | hb
    · exact .inr (by rw [Heap.size_push]; exact Nat.le_succ _)
    · rcases List.mem_cons.mp hb with rfl | hb
      · exact .inl rfl
      · have:b = s.heap.objs.size:=by simpa using hb
        exact .inr (by rw [this]; exact Nat.le_refl _)
  · rw [if_neg c]
    refine wpAny_bind (wpAny_pure ?_)
    refine wpAny_bind (m:=setEpoch a) (wpAny_setEpoch_of ho hd hf ?_)
    refine wpAny_bind (wpAny_newObj_type ?_ (by size_fits))
    have hI:(s.heap.push (itObj (.int (0:Nat) 0) (0:Nat) (.ref a) es.size ep)).get? s.heap.objs.size = some (itObj (.int (0:Nat) 0) (0:Nat) (.ref a) es.size ep):=Heap.get?_push_size _ rfl
    refine wpAny_pure ⟨_,rfl, "set_iterator",_,⟨_,hI,rfl⟩,slot_setit_next.lookup,?_⟩
    have ne:a ≠ s.heap.objs.size:=Nat.ne_of_lt la
    have fpa:∀ b ∈ [s.heap.objs.size,a],b = a∨s.heap.objs.size ≤ b:=fun b hb=>by
      rcases List.mem_cons.mp hb with rfl | hb
      · exact .inr (Nat.le_refl _)
      · exact .inl (by simpa using hb)
    cases hbt:byTx w with
    | true =>
      have pp:=pick_perm (w.params.setOrder a ep) es
      have hlen:((pickOrder (w.params.setOrder a ep) es).toList.map (·.2)).length = es.size:=by rw [List.length_map,pp.length_eq,hsz]
      refine h _ _ s.drawn ((pickOrder (w.params.setOrder a ep) es).toList.map (·.2)) [s.heap.objs.size,a] _ (fun b u e=>Heap.get?_push_of_some _ e) (pp.map _)
        (fun A' hA=>walks_slot hA ne hd hf hlen (fun _=>0) (fun i x s' Q' E' g ex q=>setNext_text hbt g hd hf ?_) fun s' Q' E' g q=>setNext_text hbt g hd hf ?_) ⟨hI,Heap.get?_push_of_some _ ho⟩ (Nat.le_refl _) fpa
      · rw [List.getElem?_map,Array.getElem?_toList] at ex
        cases e:(pickOrder (w.params.setOrder a ep) es)[i]? with
        | none=>rw [e] at ex; cases ex
        | some z=>rw [e] at ex; injection ex with ex; subst ex; exact q
      · have e:(pickOrder (w.params.setOrder a ep) es)[es.size]? = none:=by
          rw [← Array.getElem?_toList]
          exact List.getElem?_eq_none (by rw [List.length_map] at hlen; omega)
        rw [e]; exact q
    | false =>
      have hl' : t.led = true:=by rw [hl,hbt]; rfl
      have hp:(!t.plain && decide (es.size > 1)) = false:=by
        rw [hbt] at c
        simpa using c
      have hps:t.place.size = es.size:=by
        have:=hf
        simp only [SetTable.fits,Bool.and_eq_true,beq_iff_eq] at this
        exact this.1
      have bel:∀ i,i ≤ es.size→SetTable.below t.place (match i with | 0=>0 | k + 1=>t.place.getD k 0 + 1) = i:=fun i hi=>by
        cases i with
        | zero=>exact below_first ha
        | succ k =>
          have hk:k < t.place.size:=by omega
          have eg:t.place.getD k 0 = t.place[k]:=by simp [Array.getD,hk]
          show SetTable.below t.place (t.place.getD k 0 + 1) = k + 1
          rw [eg]; exact below_next ha hk
      refine h _ _ s.drawn (es.toList.map (·.2)) [s.heap.objs.size,a] _ (fun b u e=>Heap.get?_push_of_some _ e) (.refl _)
        (fun A' hA=>walks_slot hA ne hd hf (by rw [List.length_map,hsz]) (fun i=>match i with | 0=>0 | k + 1=>t.place.getD k 0 + 1) (fun i x s' Q' E' g ex q=>setNext_place hbt g hd hf hl' hp ?_) fun s' Q' E' g q=>setNext_place hbt g hd hf hl' hp ?_) ⟨hI,Heap.get?_push_of_some _ ho⟩ (Nat.le_refl _) fpa
      · have hi:i < es.size:=by
          obtain ⟨z,_⟩:=List.getElem?_eq_some_iff.mp ex
          rw [List.length_map,hsz] at z; exact z
        rw [bel i (Nat.le_of_lt hi)]
        have e1:es[i]? = some es[i]:=Array.getElem?_eq_getElem hi
        have e2:t.place[i]? = some t.place[i]:=Array.getElem?_eq_getElem (by omega)
        have e3:x = es[i].2:=by
          rw [List.getElem?_map,Array.getElem?_toList,e1] at ex
          injection ex with ex; exact ex.symm
        rw [e1,e2]
        have e4:t.place.getD i 0 = t.place[i]:=by simp [Array.getD,show i < t.place.size by omega]
        subst e3
        have q2:Q' (some (es[i].2,t.place.getD i 0 + 1)) s':=q
        rw [e4] at q2
        exact q2
      · rw [bel es.size (Nat.le_refl _)]
        have e1:es[es.size]? = none:=Array.getElem?_eq_none (Nat.le_refl _)
        rw [e1]; exact q
end
end L2
namespace L2
open PySem PySem.Spec PyProof.Rows
set_option maxRecDepth 100000
section
variable {prog:Program} {w:World} {A:Around} {E:Value→Shared→Prop} {s:Shared}
theorem items_ord {ord:List Value} {acc:Array Value} {n:Nat} (h:ItemsOf (fun i v=>ord[i]? = some v) acc n) (hn:ord.length = n):acc.toList = ord:=by
  apply List.ext_getElem
  · rw [Array.length_toList,h.1,hn]
  · intro i h1 h2
    have e:ord[i]? = some acc[i]:=h.2 i acc[i] (Array.getElem?_eq_getElem (by simpa using h1))
    rw [List.getElem?_eq_getElem h2] at e
    injection e with e
    simpa using e.symm
theorem collect_set {a:Addr} {o:Obj} {es:Array (Int × Value)} {ep:Nat} {t:SetTable} {Q:List Value→Shared→Prop} (hh:A.handled = none) (ho:s.heap.get? a = some o) (hex:o.ExactSet) (hd:o.data = .set es ep t) (hb:es.size < scanBound) (hf:t.fits es.size = true) (ha:Asc t.place) (hl:t.led = !byTx w)
    (h:∀ (ord:List Value) (s' : Shared),ord.Perm (es.toList.map (·.2))→(∀ b u,s.heap.get? b = some u→s'.heap.get? b = some u)→s'.gens = s.gens→s'.os = s.os→s.heap.objs.size < s'.heap.objs.size→Q ord s') :
    wpAny (model prog w) A (collect (.ref a)) Q E s:=by
  have la:a < s.heap.objs.size:=Heap.lt_size ho
  unfold collect
  refine wpAny_bind (wpAny_runValue (codeAny_builtin F.entry_proto_collect ?_))
  rw [Around.under_plainId F.plain_proto_collect _]
  show wpAny _ A.in1 (newList [] >>= fun l=>again (.builtin "list.__iadd__" ⟨[l,.ref a],[]⟩)) _ _ s
  refine wpAny_bind (wpAny_newObj_type ?_)
  refine wpAny_pure ⟨plainId_quiet F.plain_list_iadd _,codeAny_builtin F.entry_list_iadd ?_⟩
  rw [Around.under_plainId F.plain_list_iadd _]
  generalize hlo:({ cls:=.type "list",data:=.seq ([]:List Value).toArray } : Obj) = lo
  have g1:(s.heap.push lo).get? a = some o:=Heap.get?_push_of_some _ ho
  have gS:(s.heap.push lo).get? s.heap.objs.size = some lo:=by rw [← hlo]; exact Heap.get?_push_size _ rfl
  have hT1:Shared.TypeIs { s with heap:=s.heap.push lo } (.ref a) "set" := ⟨o,g1,hex.1⟩
  show wpAny _ A.in1 (Builtin.List.listExtendWith (.ref s.heap.objs.size) (.ref a) (.ref s.heap.objs.size)) _ _ _
  unfold Builtin.List.listExtendWith
  refine wpAny_bind (wpAny_typeOf hT1 ?_)
  have h1:Builtin.List.listSameRef (.ref s.heap.objs.size) (.ref a) = false:=by simp [Builtin.List.listSameRef]; exact Nat.ne_of_gt la
  have h2:(Value.type "set" == Value.type "list") = false:=by decide
  have h3:(Value.type "set" == Value.type "tuple") = false:=by decide
  simp only [h1,h2,h3,Bool.or_false,Bool.false_eq_true,if_false]
  refine wpAny_bind (iter_set (s:={ s with heap:=s.heap.push lo }) g1 hex hd hb hf ha hl fun I h' d ord fp St kp pm W st hI hfp=>?_)
  have g2:h'.get? a = some o:=kp a o g1
  have hT2:Shared.TypeIs { s with heap:=h',drawn:=d } (.ref a) "set" := ⟨o,g2,hex.1⟩
  refine wpAny_bind (wpAny_holding ?_)
  unfold Builtin.List.listLengthHint
  refine wpAny_bind (wpAny_specialOf hT2 F.slot_set_len.lookup ?_)
  (generalize hid:("set.__len__" : String) = id0; (fail_if_success (clear hid id0)); wp_delta; rw [show splitId id0 = some ("set", "__len__") from by subst hid; decide +kernel]; subst hid)
  refine wpAny_bind (wpAny_isInstance (b:=true) hT2 sub_set_self ?_)
  refine wpAny_bind (wpAny_typeOf hT2 ?_)
  refine wpAny_pure ?_
  show wpAny _ A.in1 (rule "list.extend.makes-room" >>= fun _=>Builtin.List.listTouch (.ref s.heap.objs.size) >>= fun _ =>
    again (.builtin "list.extend.loop" ⟨[.ref s.heap.objs.size,.ref I,.ref s.heap.objs.size],[]⟩)) _ _ _
  refine wpAny_bind (wpAny_rule ?_)
  have hS₁:h'.get? s.heap.objs.size = some lo:=kp _ _ gS
  rw [← hlo] at hS₁
  refine wpAny_bind ?_
  show wpAny _ A.in1 (updateSeq s.heap.objs.size (·.push .none) >>= fun _=>updateSeq s.heap.objs.size (·.pop)) _ _ _
  refine wpAny_bind (wpAny_updateSeq hS₁ rfl ?_)
  have hS₂:=Heap.get?_update_self (Obj.mapSeq (·.push Value.none)) hS₁ rfl
  refine wpAny_updateSeq hS₂ rfl ?_
  have hS₃:=Heap.get?_update_self (Obj.mapSeq (·.pop)) hS₂ rfl
  have oth:∀ b u,b ≠ s.heap.objs.size→h'.get? b = some u →
      ((h'.update s.heap.objs.size (Obj.mapSeq (·.push Value.none))).update s.heap.objs.size (Obj.mapSeq (·.pop))).get? b = some u :=
    fun b u hb e=>(Heap.get?_update_other _ _ (Ne.symm hb)).trans ((Heap.get?_update_other _ _ (Ne.symm hb)).trans e)
  have sz1:(s.heap.push lo).objs.size = s.heap.objs.size + 1:=Heap.size_push ..
  have hSf:s.heap.objs.size ∉ fp:=fun hm=>by
    rcases hfp _ hm with z | z
    · exact Nat.ne_of_gt la z
    · have z' : (s.heap.push lo).objs.size ≤ s.heap.objs.size:=z
      rw [sz1] at z'; exact Nat.not_succ_le_self _ z'
  have hW:=W A.in1 (by simp [hh])
  have hlen:ord.length = es.size:=by rw [pm.length_eq,List.length_map,Array.length_toList]
  have st':=hW.frame 0 ({ s with heap:=h',drawn:=d } : Shared) ((h'.update s.heap.objs.size (Obj.mapSeq (·.push Value.none))).update s.heap.objs.size (Obj.mapSeq (·.pop))) s.toks st (Nat.le_refl _) fun b hb' o' e=>oth b o' (fun z=>hSf (z ▸ hb')) e
  refine wpAny_pure ⟨plainId_quiet F.plain_extend_loop _,codeAny_extend_loopS hW (by unfold scanBound at hb; unfold sizeLine; omega) _ hSf _ es.size 0 _ _ _ rfl (Nat.zero_le _)
    st' hS₃ (ItemsOf.nil _) fun s' acc' c' hm hS' hacc=>?_⟩
  show wpAny _ A (load s.heap.objs.size >>= _) _ _ s'
  refine wpAny_bind (wpAny_load hS' ?_)
  refine wpAny_pure ?_
  rw [items_ord hacc hlen]
  refine h ord s' pm (fun b u e=>?_) hm.gens hm.os (Heap.lt_size hS')
  have hb' : b < s.heap.objs.size:=Heap.lt_size e
  refine hm.heap b u (fun z=>?_) (oth b u (Nat.ne_of_lt hb') (kp b u (Heap.get?_push_of_some _ e)))
  rcases List.mem_cons.mp z with z | z
  · exact Nat.ne_of_lt hb' z
  · have z2:b = I:=by simpa using z
    have z3:(s.heap.push lo).objs.size ≤ I:=hI
    rw [sz1,← z2] at z3
    exact Nat.lt_irrefl _ (Nat.lt_of_lt_of_le hb' (Nat.le_of_succ_le z3))
end
end L2
namespace L2
open PySem PySem.Spec PyProof.Rows
def ExcF (h:Heap) (e T:Addr) (cls a0 fl:Value):Prop :=
  ∃ oe vs oT ts,h.get? e = some oe∧(oe.cls = cls∧vs[0]? = some a0)∧oe.data = .fields vs∧vs[1]? = some (.ref T)∧T ≠ e∧h.get? T = some oT∧oT.data = .fields ts∧ts[3]? = some fl
inductive ExcS (h:Heap) (L e:Addr) (cls a0:Value):List Addr→Prop where
  | fresh {oe:Obj} {vs:Array Value} (he:h.get? e = some oe) (hc:oe.cls = cls) (hd:oe.data = .fields vs) (h1:vs[1]? = some Value.none) (h0:vs[0]? = some a0):ExcS h L e cls a0 []
  | fly {T:Addr} (x:ExcF h e T cls a0 .none):ExcS h L e cls a0 [T]
  | held {T:Addr} (x:ExcF h e T cls a0 (rawInt L)):ExcS h L e cls a0 [T]
section
variable {M:Model} {A:Around} {E:Value→Shared→Prop} {s:Shared} {base:Heap} {env:Env} {outer:List Env} {L e T:Addr} {a0 cls fl:Value} {Q:Unit→Shared→Prop} {Ts:List Addr}
end
section
variable {X:Cx} {pins:List (Addr × Obj)} {σ:St} {H:Hp} {s:Shared} {h' : Heap} {Y:List Addr}
end
def XEof (X:Cx) (L:Addr) (E:XK):Value→Shared→Prop:=fun ev s'=>∃ (e C:Addr) (a0:Value) (Ts:List Addr) (pins:List (Addr × Obj)) (σ:St) (H' : Hp),ev = .ref e∧Inv X pins σ H' s'∧ExcS s'.heap L e (.ref C) a0 Ts∧(∀ b ∈ e :: Ts,NewAt X pins H' b)∧E (.ref C) none H'
section
variable {P:Program} {w:World} {K:PySem.W.Frag} {mg:Str→Option Value} {base:Heap} {N:List Str} {qual:Str} {scope:Scope} {f:Addr} {cd:Value} {A:Around} {outer:List Env} {s0:Shared} {H0:Hp} {E:XK}
abbrev cxE (P:Program) (w:World) (K:PySem.W.Frag) (mg:Str→Option Value) (base:Heap) (N:List Str) (qual:Str) (scope:Scope) (f:Addr) (cd:Value) (A:Around) (outer:List Env) (s0:Shared) (H0:Hp) (E:XK):Cx :=
  (cxOf (CX1 P w) P w K mg base N qual scope f cd A outer s0 H0 E).wish (XEof (cxOf (CX1 P w) P w K mg base N qual scope f cd A outer s0 H0 E) s0.heap.objs.size E)
end
end L2
namespace L2
open PySem PySem.Spec PyProof.Rows
section
variable {X:Cx}
def rIndex (K:PySem.W.Frag):V→List V→Hp→VK→Prop:=fun x vs H Q=>∃ (p:Addr) (xs:List V) (y z:V) (j:Nat),x = .ref p∧vs = [y]∧SqL K H p xs∧flatV y = true∧xs.all flatV = true∧xs[j]? = some z∧eqV z y = true∧(∀ (m:Nat) (u:V),m < j→xs[m]? = some u→eqV u y = false)∧Q (.int j) H
end
def tFnE (sp:Sp) (E:XK) (t:TA):TE:=fun σ H Q=>t σ H fun vs H1=>sp vs H1 Q E
def tMtE (C:Addr) (m:Str) (sp:Sp) (E:XK) (ta:TE) (t:TA):TE:=fun σ H Q=>ta σ H fun x H1=>∃ a dx fs,x = .ref a∧H1 a = some (.ins C dx fs)∧fs.lookup m = none∧t σ H1 fun vs H2=>sp (x :: vs) H2 Q E
def tMkE (C:Addr) (sp:Sp) (E:XK) (t:TA):TE:=fun σ H Q=>t σ H fun vs H1=>∀ x dx,H1 x = none→H1 dx = none→dx ≠ x →
  sp (.ref x :: vs) (upd (upd H1 dx (.own x)) x (.ins C dx [])) (fun v H2=>v = .non∧Q (.ref x) H2) E
section
variable {X:Cx} {k:Nat} {f C:Addr} {fd:FuncData} {ps:List Str} {sp:Sp} {x m:Str} {p np pos apos:Pos} {e o:Expr} {es:List Expr} {ta:TE} {t:TA} {E:XK}
end
end L2
namespace L2
open PySem PySem.Spec PyProof.Rows
section
variable {X:Cx}
end
def SetI (P:Program) (w:World) (a:Addr) (ns:List Int):HO:=.ext fun h=>h.SetOf (intKind P w) a (fun z=>decide (z ∈ ns)) (cntK ns ns.length)
section
variable {X:Cx}
end
end L2
namespace L2
open PySem PySem.Spec PyProof.Rows
section
variable {X:Cx}
def rUpper:V→List V→Hp→VK→Prop:=fun x vs H Q=>∃ z:Str,x = .str z∧vs = []∧z.length ≤ 1000∧Q (.str (Txt.upper z)) H
end
end L2
namespace L2
open PySem PySem.Spec PyProof.Rows
def TyG (K:PySem.W.Frag) (H:Hp) (x:V) (t:Value):Prop:=TyOf K H x t∨∃ a ys,x = .ref a∧SqT K H a ys∧t = .type "tuple"
inductive ClV:V→Value→Prop where
  | ty (T:String):ClV (.ty T) (.type T)
  | ref (C:Addr):ClV (.ref C) (.ref C)
section
variable {X:Cx}
end
structure InsT (K:PySem.W.Frag) (C:Addr):Prop where
  cl:Cls K C
  ha:PySem.W.findIn K (.ref C) "__class__" = some (some (.builtin "object.__class__"))
  hn:PySem.W.specialIn K (.builtin "object.__class__") "__get__" = some (some (.builtin "getset_descriptor.__get__"))
  tk:PySem.W.takesIn K (.builtin "object.__class__") = some true
  hm:PySem.W.mroIn K C (.type "object") = some true
def PolM (CX:CXT) (P:Program) (w:World) (K:PySem.W.Frag) (mg:Str→Option Value) (base:Heap) (k:Nat) (m:Str) (ps:List Str) (cs:List (Addr × Sp)):Prop :=
  ∀ p ∈ cs,MCallee CX P w K mg base k p.1 m ps p.2∧Cls K p.1
section
variable {CX:CXT} {P:Program} {w:World} {K:PySem.W.Frag} {mg:Str→Option Value} {base:Heap} {k:Nat} {C:Addr} {m:Str} {ps:List Str} {sp:Sp} {cs:List (Addr × Sp)}
end
def tMtP (cs:List (Addr × Sp)) (m:Str) (ta:TE) (t:TA):TE:=fun σ H Q=>ta σ H fun x H1=>∃ a p dx fs,x = .ref a∧p ∈ cs∧H1 a = some (.ins p.1 dx fs)∧fs.lookup m = none∧t σ H1 fun vs H2=>p.2 (x :: vs) H2 Q E0
section
variable {X:Cx} {CX:CXT} {k:Nat} {f C:Addr} {fd:FuncData} {ps:List Str} {sp:Sp} {x m:Str} {p np pos apos:Pos} {e o:Expr} {es:List Expr} {ta:TE} {t:TA} {cs:List (Addr × Sp)}
end
def ModT (K:PySem.W.Frag) (a:Addr) (xs:List V):Prop:=∃ (o:Obj) (its:Array Value) (n:Nat),K.lookup a = some o∧o.cls = .type "tuple" ∧ o.data = .seq its n∧its.size ≤ sizeLine∧Vals xs its.toList
end L2
namespace L2
open PySem PySem.Spec PyProof.Rows
theorem iteTS {c A B:Prop} [Decidable c] (hc:c) (h:A):if decide c = true then A else B:=by rw [if_pos (decide_eq_true hc)]; exact h
theorem iteFS {c A B:Prop} [Decidable c] (hc:¬ c) (h:B):if decide c = true then A else B:=by rw [if_neg (by rw [decide_eq_false hc]; decide)]; exact h
end L2
namespace L2
open PySem PySem.Spec PyProof.Rows
section
variable {X:Cx} {pins:List (Addr × Obj)} {σ:St} {H:Hp} {s:Shared} {h' : Heap}
theorem Inv.turnedPair {ch:List Addr} {T:Addr} {x y:V} {u v:Value} (I:Inv X pins σ H s) (hf:∀ b ∈ ch,FpOk X pins H b) (k:∀ b o,b ∉ ch→s.heap.get? b = some o→h'.get? b = some o)
    (nT:s.heap.get? T = none) (hT:H T = none) (gT:IsPair h' T u v) (rx:RelV x u) (ry:RelV y v):Inv X pins σ (upd H T (.tup [x,y])) { s with heap:=h' }:=by
  have out:∀ b u,H b = some u→b ∉ ch:=fun b u e z=>by
    have f:=(hf b z).1
    rw [f] at e
    cases e
  have neT:∀ {b o},s.heap.get? b = some o→b ≠ T:=fun e z=>by rw [z,nT] at e; cases e
  have neH:∀ {b u},H b = some u→b ≠ T:=fun e z=>by rw [z,hT] at e; cases e
  have J:=Inv.step (H':=upd H T (.tup [x,y])) (h':=h') (g':=s.gens) (d':=s.drawn) (t':=s.toks) (ch:=ch) I
    (fun b hb=>by obtain ⟨_,f1,_,f3,f4,f5⟩:=hf b hb; exact ⟨f3,f1,f4,f5⟩)
    (fun b o _ _ hc e _=>k b o hc e)
    (fun b o _ _ hc e _=>⟨o.slots,k b o hc e⟩)
    (fun b o _ e n=>by rw [upd_ne (neT e)]; exact n)
    (fun b o hc e=>⟨o,k b o hc e⟩)
    (fun b xs e=>by rw [upd_ne (neH e)]; exact e)
    (fun b o w e=>by rw [upd_ne (neH e)]; exact e)
    (fun b ps e=>⟨#[],by rw [upd_ne (neH e),e]; simp⟩)
    (fun m hm=>by
      obtain ⟨o,es,ep,ho,r⟩:=hm
      refine ⟨o,es,ep,k _ o (fun z=>?_) ho,r⟩
      obtain ⟨_,f1,_⟩:=hf _ z
      exact f1 rfl)
    (fun b w e=>by
      by_cases hb:b = T
      · subst hb
        rw [upd_same] at e
        cases e
        exact ⟨by show 2 ≤ sizeLine; decide,[u,v],.cons rx (.cons ry .nil),_,gT,rfl,_,rfl⟩
      · rw [upd_ne hb] at e
        refine (I.hok b w e).stay (fun c z hc q=>k c z ?_ q) (fun c q=>?_) fun c xs q=>?_
        · rcases hc with z | z
          · rw [z]; exact out b w e
          · exact out c _ z
        · rw [upd_ne (neH q)]; exact q
        · rw [upd_ne (neH q)]; exact q)
    I.bare
  exact J
theorem Inv.turnedL {ch:List Addr} (I:Inv X pins σ H s) (hf:∀ b ∈ ch,FpOk X pins H b) (k:∀ b o,b ∉ ch→s.heap.get? b = some o→h'.get? b = some o):Inv X pins σ H { s with heap:=h' }:=by
  have out:∀ b u,H b = some u→b ∉ ch:=fun b u e z=>by
    have f:=(hf b z).1
    rw [f] at e
    cases e
  have J:=Inv.step (H':=H) (h':=h') (g':=s.gens) (d':=s.drawn) (t':=s.toks) (ch:=ch) I
    (fun b hb=>by obtain ⟨_,f1,_,f3,f4,f5⟩:=hf b hb; exact ⟨f3,f1,f4,f5⟩)
    (fun b o _ _ hc e _=>k b o hc e)
    (fun b o _ _ hc e _=>⟨o.slots,k b o hc e⟩)
    (fun b o _ _ n=>n)
    (fun b o hc e=>⟨o,k b o hc e⟩)
    (fun b xs e=>e) (fun b o w e=>e) (fun b ps e=>⟨#[],by rw [e]; simp⟩)
    (fun m hm=>by
      obtain ⟨o,es,ep,ho,r⟩:=hm
      refine ⟨o,es,ep,k _ o (fun z=>?_) ho,r⟩
      obtain ⟨_,f1,_⟩:=hf _ z
      exact f1 rfl)
    (fun b w e=>by
      refine (I.hok b w e).stay (fun c z hc q=>k c z ?_ q) (fun c q=>q) fun c xs q=>q
      rcases hc with z | z
      · rw [z]; exact out b w e
      · exact out c _ z)
    I.bare
  exact J
end
def Itz (K:PySem.W.Frag) (a b:Addr):It :=
  ⟨fun i H=>∃ xs ys x y,SqL K H a xs∧SqL K H b ys∧xs[i]? = some x∧ys[i]? = some y,
   fun i H v H'=>∃ T,H T = none∧v = .ref T∧∀ xs ys x y,SqL K H a xs→SqL K H b ys→xs[i]? = some x→ys[i]? = some y→H' = upd H T (.tup [x,y]),
   fun i H=>∃ xs ys,SqL K H a xs∧SqL K H b ys∧(xs.length ≤ i∨ys.length ≤ i)⟩
def ZipSt (z TI TO i1 i2 a b:Addr) (i:Nat) (h:Heap):Prop:=IsZip h z TI TO .none∧IsPair h TI (.ref i1) (.ref i2)∧(∃ p q,IsPair h TO p q)∧h.IsListIter i1 a i∧h.IsListIter i2 b i
theorem turn_zip {P:Program} {w:World} {K:PySem.W.Frag} {elts:List Expr} {x1} {tp:Pos} {z TI TO i1 i2 a b:Addr} (D:ZipApart z TI TO i1 i2 a b) :
    Turn P w K (.Tuple elts x1 tp) (Itz K a b) [z,TI,TO,i1,i2] z (ZipSt z TI TO i1 i2 a b) where
  mem:=by simp
  obj:=fun i h st c hc=>by
    obtain ⟨g1,g2,⟨p,q,g3⟩,⟨o4,g4,_,d4⟩,⟨o5,g5,_,d5⟩⟩:=st
    simp only [List.mem_cons,List.not_mem_nil,or_false] at hc
    rcases hc with rfl | rfl | rfl | rfl | rfl
    · exact ⟨_,g1,fun v q=>nomatch q⟩
    · exact ⟨_,g2,fun v q=>nomatch q⟩
    · exact ⟨_,g3,fun v q=>nomatch q⟩
    · exact ⟨_,g4,fun v q=>by rw [d4] at q; cases q⟩
    · exact ⟨_,g5,fun v q=>by rw [d5] at q; cases q⟩
  keep:=fun i h h' st k=>by
    obtain ⟨g1,g2,⟨p,q,g3⟩,g4,g5⟩:=st
    exact ⟨k z (by simp) _ g1,k TI (by simp) _ g2,⟨p,q,k TO (by simp) _ g3⟩,g4.at fun o e=>k i1 (by simp) o e,g5.at fun o e=>k i2 (by simp) o e⟩
  item:=by
    intro X hP hw hK hc i pins s σ H E I hf st hg
    subst hP hw hK
    obtain ⟨xs,ys,x,y,qa,qb,ex,ey⟩:=hg
    obtain ⟨g1,g2,⟨p,q,g3⟩,g4,g5⟩:=st
    obtain ⟨us,ru,pu,_⟩:=I.list qa
    obtain ⟨vs,rv,pv,_⟩:=I.list qb
    obtain ⟨u,eu,r1⟩:=ru.get ex
    obtain ⟨v,ev,r2⟩:=rv.get ey
    refine wpAny_pyNext_zip_item D g1 g2 g3 g4 g5 pu.isList pv.isList (x:=u) (y:=v) (by simpa using eu) (by simpa using ev) fun h1 a1 a2 a3 a4 a5 a6 a7=>?_
    refine ⟨_,rfl,wpAny_letOwnedTupleGo_zip (s:={ s with heap:=h1 }) a1 fun h2 b1 b2=>?_⟩
    have nT:s.heap.get? s.heap.objs.size = none:=by
      cases q:s.heap.get? s.heap.objs.size with
      | none=>rfl
      | some o=>exact absurd (Heap.lt_size q) (Nat.lt_irrefl _)
    have hT:H s.heap.objs.size = none:=I.hok.fresh (Nat.le_refl _)
    have nz:s.heap.objs.size ≠ z:=Nat.ne_of_gt (Heap.lt_size g1)
    have kk:∀ c o,c ∉ [z,TO,i1,i2]→s.heap.get? c = some o→h2.get? c = some o:=fun c o hc e=>by
      simp only [List.mem_cons,List.not_mem_nil,or_false,not_or] at hc
      exact b2.extBut _ _ hc.1 (a7 c o hc.1 hc.2.1 hc.2.2.1 hc.2.2.2 e)
    have J:=I.turnedPair (h':=h2) (ch:=[z,TO,i1,i2]) (T:=s.heap.objs.size) (x:=x) (y:=y) (u:=u) (v:=v) (fun c hc=>hf c (by simp at hc ⊢; rcases hc with e | e | e | e <;> simp [e])) kk nT hT (b2.extBut _ _ nz a5) r1 r2
    refine ⟨.ref s.heap.objs.size,upd H s.heap.objs.size (.tup [x,y]),J,rfl,⟨_,hT,rfl,fun xs' ys' x' y' q1 q2 e1 e2=>?_⟩,⟨b1,b2.extBut _ _ D.TIz (a7 TI _ D.TIz D.TITO D.TIi1 D.TIi2 g2),⟨_,_,b2.extBut _ _ D.TOz a2⟩,a3.extBut b2.extBut D.i1z,a4.extBut b2.extBut D.i2z⟩,fun c hc=>?_⟩
    · rw [I.list_inj q1 qa] at e1
      rw [I.list_inj q2 qb] at e2
      rw [ex] at e1; rw [ey] at e2
      cases e1; cases e2
      rfl
    · have h0:=(hf c hc).1
      have:c ≠ s.heap.objs.size:=by
        obtain ⟨o4,g4',_⟩:=g4
        obtain ⟨o5,g5',_⟩:=g5
        simp only [List.mem_cons,List.not_mem_nil,or_false] at hc
        rcases hc with rfl | rfl | rfl | rfl | rfl
        · exact nz.symm
        · exact Nat.ne_of_lt (Heap.lt_size g2)
        · exact Nat.ne_of_lt (Heap.lt_size g3)
        · exact Nat.ne_of_lt (Heap.lt_size g4')
        · exact Nat.ne_of_lt (Heap.lt_size g5')
      rw [upd_ne this]; exact h0
  done:=by
    intro X hP hw hK hc i pins s σ H E I hf st hg
    subst hP hw hK
    obtain ⟨xs,ys,qa,qb,hl⟩:=hg
    obtain ⟨g1,g2,⟨p,q,g3⟩,g4,g5⟩:=st
    obtain ⟨us,ru,pu,_⟩:=I.list qa
    obtain ⟨vs,rv,pv,_⟩:=I.list qb
    have l1:=ru.length
    have l2:=rv.length
    refine wpAny_pyNext_zip_end (I.ok.hd hc) D g1 g2 g3 g4 g5 pu.isList pv.isList ?_ fun h2 k=>⟨rfl,I.turnedL (ch:=[z,TO,i1,i2]) (fun c hc=>hf c (by simp at hc ⊢; rcases hc with e | e | e | e <;> simp [e])) fun c o hc e=>?_⟩
    · rcases hl with hl | hl
      · exact .inl (by simp; omega)
      · exact .inr (by simp; omega)
    · simp only [List.mem_cons,List.not_mem_nil,or_false,not_or] at hc
      exact k c o hc.1 hc.2.1 hc.2.2.1 hc.2.2.2 e
  self:=fun _ _ _ _ _ st h=>wpAny_pyIter_zip st.1 h
def iZip (K:PySem.W.Frag) (ta:TA):TI:=fun σ H R=>ta σ H fun vs H1=>∃ a b,vs = [.ref a,.ref b]∧(∃ xs,SqL K H1 a xs)∧(∃ ys,SqL K H1 b ys)∧R (Itz K a b) H1
section
variable {X:Cx}
theorem pi_zip {e1 e2:Expr} {ta:TA} {p pos:Pos} {elts:List Expr} {x1} {tp:Pos} (hg:Gl X "zip") (hm:X.mg "zip" = none) (ha:PA X [e1,e2] ta)
    (hs:starEach [e1,e2] X.env = [(false,eval e1 X.env),(false,eval e2 X.env)]:=by rfl) (hs2:starEach [e2] X.env = [(false,eval e2 X.env)]:=by rfl) :
    PI X (.Tuple elts x1 tp) (.Call (.Name "zip" p) [e1,e2] [] pos) (iZip X.K ta):=by
  intro pins s σ H R I h
  refine Call_ (ld_blt I hg hm PyProof.Rows.boot_zip (PyProof.Rows.callWith_type1 (thn (ha pos pins s σ H _ I h) fun us s1 ⟨vs,H1,I1,r1,q1⟩=>?_) (by rw [hs,hs2]) (by rw [hs2]; rfl)))
  obtain ⟨a,b,rfl,⟨xs,qa⟩,⟨ys,qb⟩,q⟩:=q1
  obtain ⟨u,v,rfl,ru,rv⟩:=r1.two
  cases (show u = Value.ref a from ru)
  cases (show v = Value.ref b from rv)
  obtain ⟨us,_,pu,_⟩:=I1.list qa
  obtain ⟨vs,_,pv,_⟩:=I1.list qb
  obtain ⟨oa,ea,_⟩:=id pu.isList
  obtain ⟨ob,eb,_⟩:=id pv.isList
  have la:a < s1.heap.objs.size:=Heap.lt_size ea
  have lb:b < s1.heap.objs.size:=Heap.lt_size eb
  refine call_zip_2 pu.isList pv.isList fun h' z1 z2 z3 z4 z5 z6 z7=>?_
  refine wpAny_pyIter_zip (s:={ s1 with heap:=h' }) z1 ?_
  refine ⟨s1.heap.objs.size + 4,[s1.heap.objs.size + 4,s1.heap.objs.size + 2,s1.heap.objs.size + 3,s1.heap.objs.size,s1.heap.objs.size + 1],ZipSt (s1.heap.objs.size + 4) (s1.heap.objs.size + 2) (s1.heap.objs.size + 3) s1.heap.objs.size (s1.heap.objs.size + 1) a b,Itz X.K a b,H1,rfl,I1.kept (t':=s1.toks) z7,turn_zip ?_,⟨z1,z2,⟨_,_,z3⟩,z4,z5⟩,fun c hc=>?_,q⟩
  · refine ⟨?_,?_,?_,?_,?_,?_,?_,?_,?_,?_,?_,?_,?_,?_,?_,?_,?_,?_⟩ <;> first | exact Nat.ne_of_lt (by omega) | exact Nat.ne_of_gt (by omega) | exact Nat.ne_of_lt la | exact Nat.ne_of_lt lb | exact Nat.ne_of_lt (Nat.lt_of_lt_of_le la (Nat.le_add_right _ _)) | exact Nat.ne_of_lt (Nat.lt_of_lt_of_le lb (Nat.le_add_right _ _))
  · have hc' : s1.heap.objs.size ≤ c:=by
      simp only [List.mem_cons,List.not_mem_nil,or_false] at hc
      rcases hc with rfl | rfl | rfl | rfl | rfl <;> omega
    exact I1.fpOk hc' (I1.hok.fresh hc')
end
end L2
namespace L2
open PySem PySem.Spec PyProof.Rows
section
variable {X:Cx}
end
theorem mul_bits {a b:Int} {m n:Nat} (ha:a.natAbs < 2 ^ m) (hb:b.natAbs < 2 ^ n) (hm:m ≤ 2 ^ 20) (hn:n ≤ 2 ^ 20):IntMulOk a b :=
  .of_bits (Nat.le_trans (PyProof.Rows.intBits_le ha) hm) (Nat.le_trans (PyProof.Rows.intBits_le hb) hn)
end L2
namespace L2
open PySem PySem.Spec PyProof.Rows
theorem call_list_ofK {X:Cx} {K:PySem.W.Frag} (h:X.K = K):CallR X (.type "list") (fun xs H Q=>∃ p ys,xs = [.ref p]∧(SqL K H p ys∨SqT K H p ys)∧∀ l,H l = none→Q (.ref l) (upd H l (.lst ys))):=h ▸ call_list_of
end L2
namespace L2
open PySem
set_option maxRecDepth 100000
abbrev IsZipH (h:Heap) (z TI TO T0:Addr) (b:Bool):Prop :=
  h.get? z = some { cls:=.type "zip",dict:=none,data:=.fields #[rawInt T0,.bool b,.bool false,.ref TI,.ref TO],slots:=#[] }
section
variable {prog:Program} {w:World} {A:Around} {E:Value→Shared→Prop} {s:Shared}
theorem wpAny_loadIfAlive {a:Addr} {Q:Option Obj→Shared→Prop} (h:Q (s.heap.get? a) s):wpAny (model prog w) A (loadIfAlive a) Q E s:=fun _ _ _=>h
theorem held_free {z TI TO T0:Addr} {b:Bool} {o:Obj} {Q:Bool→Shared→Prop} (hz:IsZipH s.heap z TI TO T0 b) (hT:s.heap.get? T0 = some o)
    (h:∀ h',IsZipH h' z TI TO T0 true→Heap.SameBut z s.heap h'→Q false { s with heap:=h' }):wpAny (model prog w) A (Builtin.SmallTypes.ownedTupleIsFree (.ref z)) Q E s:=by
  unfold Builtin.SmallTypes.ownedTupleIsFree
  refine wpAny_bind (wpAny_field hz rfl (x:=rawInt T0) rfl ?_)
  show wpAny _ _ (loadIfAlive ((T0:Int).toNat) >>= _) _ _ _
  refine wpAny_bind (wpAny_loadIfAlive ?_)
  rw [Int.toNat_natCast,hT]
  simp only [Option.isNone_some,Bool.false_eq_true,if_false]
  refine wpAny_bind (wpAny_field hz rfl (x:=.bool b) rfl ?_)
  cases b with
  | true =>
    rw [if_neg (by simp)]
    refine wpAny_pure ?_
    have e:s = { s with heap:=s.heap }:=by cases s; rfl
    rw [e]
    exact h s.heap hz (Heap.SameBut.refl z s.heap)
  | false =>
    rw [if_pos (by decide)]
    refine wpAny_bind (wpAny_setField_rec hz (by simp) fun h1 g1 sb1=>?_)
    exact wpAny_pure (h h1 g1 sb1)
theorem held_item {z TI TO T0 i1 i2 l1 l2:Addr} {bb:Bool} {k1 k2:Nat} {xs ys:Array Value} {x y a b:Value} {o:Obj} {Q:Option Value→Shared→Prop} (D:ZipApart z TI TO i1 i2 l1 l2)
    (hz:IsZipH s.heap z TI TO T0 bb) (hT0:s.heap.get? T0 = some o) (hTI:IsPair s.heap TI (.ref i1) (.ref i2)) (hTO:IsPair s.heap TO a b)
    (h1:s.heap.IsListIter i1 l1 k1) (h2:s.heap.IsListIter i2 l2 k2) (hl1:s.heap.IsList l1 xs) (hl2:s.heap.IsList l2 ys) (hx:xs[k1]? = some x) (hy:ys[k2]? = some y)
    (hQ:∀ h',IsZipH h' z TI TO T0 true→h'.IsListIter i1 l1 (k1 + 1)→h'.IsListIter i2 l2 (k2 + 1)→IsPair h' s.heap.objs.size x y→h'.objs.size = s.heap.objs.size + 1 →
      (∀ c o,c ≠ z→c ≠ i1→c ≠ i2→s.heap.get? c = some o→h'.get? c = some o)→Q (some (.ref s.heap.objs.size)) { s with heap:=h' }) :
    wpAny (model prog w) A (pyNext (.ref z)) Q E s:=by
  have hT:s.TypeIs (.ref z) "zip" := ⟨_,hz,rfl⟩
  unfold pyNext
  refine wpAny_bind (wpAny_attempt (wpAny_callSpecial?_slot (name:=Str.ofString "__next__") hT F.slot_zip_next (wpAny_call_entry F.slot_zip_next hT F.entry_zip_next ?_ (F.args_zip_next_1 _))))
  show wpAny _ _ (field (.ref z) 2 >>= _) _ _ _
  refine wpAny_bind (wpAny_field hz rfl (x:=.bool false) rfl ?_)
  show wpAny _ _ (field (.ref z) 3 >>= _) _ _ _
  refine wpAny_bind (wpAny_field hz rfl (x:=.ref TI) rfl ?_)
  refine wpAny_bind (wpAny_seqItems hTI rfl ?_)
  show wpAny _ _ (Builtin.SmallTypes.ownedTupleIsFree (.ref z) >>= _) _ _ _
  refine wpAny_bind (held_free hz hT0 fun h₁ hz₁ hs₁=>?_)
  simp only [Bool.false_eq_true,if_false]
  refine wpAny_bind ?_
  rw [← Array.forIn_toList]
  simp only [List.forIn_cons,List.forIn_nil]
  refine wpAny_bind (wpAny_bind (wpAny_holding ?_))
  show wpAny _ _ (Builtin.SmallTypes.nextOf (.ref i1) >>= _) _ _ _
  refine wpAny_bind (wpAny_nextOf_list_item (h1.extBut hs₁.extBut D.i1z) (hl1.extBut hs₁.extBut D.l1z) hx fun h₂ h1₂ hs₂=>wpAny_pure ?_)
  refine wpAny_pure ?_
  dsimp only
  refine wpAny_bind (wpAny_bind (wpAny_holding ?_))
  show wpAny _ _ (Builtin.SmallTypes.nextOf (.ref i2) >>= _) _ _ _
  refine wpAny_bind (wpAny_nextOf_list_item ((h2.extBut hs₁.extBut D.i2z).extBut hs₂.extBut D.i12.symm) ((hl2.extBut hs₁.extBut D.l2z).extBut hs₂.extBut D.l2i1) hy fun h₃ h2₃ hs₃=>wpAny_pure ?_)
  refine wpAny_pure ?_
  dsimp only
  refine wpAny_pure ?_
  refine wpAny_bind (wpAny_newTuple ?_ (by show 2 ≤ sizeLine; decide))
  have hsz:h₃.objs.size = s.heap.objs.size:=by rw [hs₃.1,hs₂.1,hs₁.1]
  refine wpAny_pure ⟨_,rfl,wpAny_pure ?_⟩
  show Q (some (.ref h₃.objs.size)) _
  have hz₃:IsZipH h₃ z TI TO T0 true:=hs₃.extBut _ _ D.i2z.symm (hs₂.extBut _ _ D.i1z.symm hz₁)
  have h1₃:h₃.IsListIter i1 l1 (k1 + 1):=h1₂.extBut hs₃.extBut D.i12
  have gp:(h₃.push { cls:=.type "tuple",data:=.seq #[x,y] }).get? h₃.objs.size = some { cls:=.type "tuple",data:=.seq #[x,y] }:=Heap.get?_push_size _ rfl
  have zz:(h₃.push { cls:=.type "tuple",data:=.seq #[x,y] }).objs.size = s.heap.objs.size + 1:=by rw [Heap.size_push,hsz]
  rw [hsz] at gp ⊢
  exact hQ _ (Heap.get?_push_of_some _ hz₃) (h1₃.at fun o e=>Heap.get?_push_of_some _ e) (h2₃.at fun o e=>Heap.get?_push_of_some _ e) gp zz fun c o c1 c2 c3 e=>Heap.get?_push_of_some _ (hs₃.extBut _ _ c3 (hs₂.extBut _ _ c2 (hs₁.extBut _ _ c1 e)))
theorem held_end {z TI TO T0 i1 i2 l1 l2:Addr} {bb:Bool} {k1 k2:Nat} {xs ys:Array Value} {a b:Value} {o:Obj} {Q:Option Value→Shared→Prop} (hh:A.handled = none) (D:ZipApart z TI TO i1 i2 l1 l2)
    (hz:IsZipH s.heap z TI TO T0 bb) (hT0:s.heap.get? T0 = some o) (hTI:IsPair s.heap TI (.ref i1) (.ref i2)) (hTO:IsPair s.heap TO a b)
    (h1:s.heap.IsListIter i1 l1 k1) (h2:s.heap.IsListIter i2 l2 k2) (hl1:s.heap.IsList l1 xs) (hl2:s.heap.IsList l2 ys) (hend:xs[k1]? = none∨ys[k2]? = none)
    (hQ:∀ h',(∀ c o,c ≠ z→c ≠ i1→c ≠ i2→s.heap.get? c = some o→h'.get? c = some o)→Q none { s with heap:=h' }) :
    wpAny (model prog w) A (pyNext (.ref z)) Q E s:=by
  have hT:s.TypeIs (.ref z) "zip" := ⟨_,hz,rfl⟩
  unfold pyNext
  refine wpAny_bind (wpAny_attempt (wpAny_callSpecial?_slot (name:=Str.ofString "__next__") hT F.slot_zip_next (wpAny_call_entry F.slot_zip_next hT F.entry_zip_next ?_ (F.args_zip_next_1 _))))
  show wpAny _ _ (field (.ref z) 2 >>= _) _ _ _
  refine wpAny_bind (wpAny_field hz rfl (x:=.bool false) rfl ?_)
  show wpAny _ _ (field (.ref z) 3 >>= _) _ _ _
  refine wpAny_bind (wpAny_field hz rfl (x:=.ref TI) rfl ?_)
  refine wpAny_bind (wpAny_seqItems hTI rfl ?_)
  show wpAny _ _ (Builtin.SmallTypes.ownedTupleIsFree (.ref z) >>= _) _ _ _
  refine wpAny_bind (held_free hz hT0 fun h₁ hz₁ hs₁=>?_)
  simp only [Bool.false_eq_true,if_false]
  refine wpAny_bind ?_
  rw [← Array.forIn_toList]
  simp only [List.forIn_cons,List.forIn_nil]
  refine wpAny_bind (wpAny_bind (wpAny_holding ?_))
  show wpAny _ _ (Builtin.SmallTypes.nextOf (.ref i1) >>= _) _ _ _
  have fin:∀ h' e,(∀ c o,c ≠ z→c ≠ i1→c ≠ i2→s.heap.get? c = some o→h'.get? c = some o)→(∃ o,h'.get? e = some o∧o.cls = .type "StopIteration") →
      wpAny (model prog w) A (do if ← isInstance (.ref e) (.type "StopIteration") then pure none else throw (.ref e)) Q E { s with heap:=h' }:=fun h' e k ⟨oe,hoe,hce⟩=>by
    refine wpAny_bind (wpAny_isInstance (T := "StopIteration") (b:=true) ⟨oe,hoe,hce⟩ isSubtype_stop ?_)
    exact wpAny_pure (hQ _ k)
  cases hx:xs[k1]? with
  | none =>
    refine wpAny_bind (wpAny_nextOf_list_end hh (h1.extBut hs₁.extBut D.i1z) (hl1.extBut hs₁.extBut D.l1z) hx fun h₂ e hs₂ he=>?_)
    exact fin _ _ (fun c o c1 c2 c3 q=>hs₂ _ _ c2 (hs₁.extBut _ _ c1 q)) he
  | some x =>
    have hy:ys[k2]? = none:=by rcases hend with h | h; rw [hx] at h; cases h; exact h
    refine wpAny_bind (wpAny_nextOf_list_item (h1.extBut hs₁.extBut D.i1z) (hl1.extBut hs₁.extBut D.l1z) hx fun h₂ h1₂ hs₂=>wpAny_pure ?_)
    refine wpAny_pure ?_
    dsimp only
    refine wpAny_bind (wpAny_bind (wpAny_holding ?_))
    show wpAny _ _ (Builtin.SmallTypes.nextOf (.ref i2) >>= _) _ _ _
    refine wpAny_bind (wpAny_nextOf_list_end hh ((h2.extBut hs₁.extBut D.i2z).extBut hs₂.extBut D.i12.symm) ((hl2.extBut hs₁.extBut D.l2z).extBut hs₂.extBut D.l2i1) hy fun h₄ e hs₄ he=>?_)
    exact fin _ _ (fun c o c1 c2 c3 q=>hs₄ _ _ c3 (hs₂.extBut _ _ c2 (hs₁.extBut _ _ c1 q))) he
end
section
variable {prog:Program} {w:World} {A:Around} {R:Result→Shared→Prop} {E:Value→Shared→Prop}
theorem neA {a T:Addr} {N:Nat} (h:a < N) (h' : N ≤ T):T ≠ a:=Nat.ne_of_gt (Nat.lt_of_lt_of_le h h')
def ZipAt (h:Heap) (z TI TO:Addr) (N:Nat) (i:Nat):Prop:=(i = 0∧IsZip h z TI TO .none)∨∃ T0 bb o,N ≤ T0∧T0 ≠ z∧IsZipH h z TI TO T0 bb∧h.get? T0 = some o∧o.cls = .type "tuple"
theorem extend_zip {z TI TO i1 i2 l1 l2 S:Addr} {xs ys:Array Value} {res:Value} (hh:A.handled = none) (D:ZipApart z TI TO i1 i2 l1 l2) (N:Nat) (hz:z < N) (hTI:TI < N) (hTO:TO < N) (hi1:i1 < N) (hi2:i2 < N) (hl1:l1 < N) (hl2:l2 < N) (hS:S < N)
    (nS:S ≠ z∧S ≠ TI∧S ≠ TO∧S ≠ i1∧S ≠ i2∧S ≠ l1∧S ≠ l2) (hn:min xs.size ys.size ≤ sizeLine) :
    ∀ (d i:Nat) (s:Shared) (acc:Array Value) (c:Nat) (ts:List Addr),min xs.size ys.size = i + d→N ≤ s.heap.objs.size→ZipAt s.heap z TI TO N i→IsPair s.heap TI (.ref i1) (.ref i2)→(∃ a b,IsPair s.heap TO a b) →
      s.heap.IsListIter i1 l1 i→s.heap.IsListIter i2 l2 i→s.heap.IsList l1 xs→s.heap.IsList l2 ys→s.heap.get? S = some { cls:=.type "list",dict:=none,data:=.seq acc c,slots:=#[] } →
      acc.toList = ts.map Value.ref→ts.length = i→ts.Nodup→(∀ (j:Nat) (T:Addr),ts[j]? = some T→N ≤ T∧∃ x y,xs[j]? = some x∧ys[j]? = some y∧IsPair s.heap T x y) →
      (∀ (h' : Heap) (acc' : Array Value) (c' : Nat) (ts' : List Addr),(∀ b o,b < N→b ≠ S→b ≠ z→b ≠ TO→b ≠ i1→b ≠ i2→s.heap.get? b = some o→h'.get? b = some o)→h'.get? S = some { cls:=.type "list",dict:=none,data:=.seq acc' c',slots:=#[] } →
        acc'.toList = ts'.map Value.ref→ts'.length = min xs.size ys.size→ts'.Nodup→(∀ (j:Nat) (T:Addr),ts'[j]? = some T→N ≤ T∧∃ x y,xs[j]? = some x∧ys[j]? = some y∧IsPair h' T x y)→R (.ok (.ret res)) { s with heap:=h' }) →
      codeAny (model prog w) A (.builtin "list.extend.loop" ⟨[.ref S,.ref z,res],[]⟩) R s:=by
  intro d
  induction d with
  | zero =>
    intro i s acc c ts e hN hZ p1 ⟨a,b,p2⟩ t1 t2 q1 q2 g ea el nd hts fin
    refine codeAny_builtin F.entry_extend_loop ?_
    rw [Around.under_plainId F.plain_extend_loop _]
    show wpAny _ A.in1 (pyNext (.ref z) >>= _) _ _ s
    have hend:xs[i]? = none∨ys[i]? = none:=by
      by_cases hx:xs.size ≤ i
      · exact .inl (Array.getElem?_eq_none hx)
      · exact .inr (Array.getElem?_eq_none (by omega))
    have end_:∀ h',(∀ b o,b ≠ z→b ≠ TO→b ≠ i1→b ≠ i2→s.heap.get? b = some o→h'.get? b = some o)→R (.ok (.ret res)) { s with heap:=h' }:=fun h' k=>by
      refine fin h' acc c ts (fun b o _ _ b1 b2 b3 b4 q=>k b o b1 b2 b3 b4 q) (k S _ nS.1 nS.2.2.1 nS.2.2.2.1 nS.2.2.2.2.1 g) ea (by omega) nd fun j T hj=>?_
      obtain ⟨a1,x,y,a2,a3,a4⟩:=hts j T hj
      exact ⟨a1,x,y,a2,a3,k T _ (neA hz a1) (neA hTO a1) (neA hi1 a1) (neA hi2 a1) a4⟩
    rcases hZ with ⟨_,hZ⟩ | ⟨T0,bb,o,hT0,_,hZ,gT,_⟩
    · exact wpAny_bind (wpAny_pyNext_zip_end (by simp [hh]) D hZ p1 p2 t1 t2 q1 q2 hend fun h' k=>wpAny_pure (end_ h' k))
    · exact wpAny_bind (held_end (by simp [hh]) D hZ gT p1 p2 t1 t2 q1 q2 hend fun h' k=>wpAny_pure (end_ h' fun b o b1 _ b3 b4 q=>k b o b1 b3 b4 q))
  | succ d ih =>
    intro i s acc c ts e hN hZ p1 ⟨a,b,p2⟩ t1 t2 q1 q2 g ea el nd hts fin
    have ix:i < xs.size:=by omega
    have iy:i < ys.size:=by omega
    refine codeAny_builtin F.entry_extend_loop ?_
    rw [Around.under_plainId F.plain_extend_loop _]
    show wpAny _ A.in1 (pyNext (.ref z) >>= _) _ _ s
    have hsz:acc.size = i:=by rw [← Array.length_toList,ea,List.length_map,el]
    have go:∀ h',ZipAt h' z TI TO N (i + 1)→(∃ a b,IsPair h' TO a b)→h'.IsListIter i1 l1 (i + 1)→h'.IsListIter i2 l2 (i + 1)→IsPair h' s.heap.objs.size xs[i] ys[i]→h'.objs.size = s.heap.objs.size + 1 →
        (∀ b o,b ≠ z→b ≠ TO→b ≠ i1→b ≠ i2→s.heap.get? b = some o→h'.get? b = some o) →
        wpAny (model prog w) A.in1 (updateSeq S (·.push (.ref s.heap.objs.size)) >>= fun _=>again (.builtin "list.extend.loop" ⟨[.ref S,.ref z,res],[]⟩))
          (fun fin s'=>match fin with | .done f=>R (.ok f) s' | .again c'=>c'.quiet = true∧codeAny (model prog w) A c' R s') (fun e s'=>R (.error e) s') { s with heap:=h' }:=fun h' z1 z2 z3 z4 z5 z6 k=>by
      have gS:h'.get? S = some { cls:=.type "list",dict:=none,data:=.seq acc c,slots:=#[] }:=k S _ nS.1 nS.2.2.1 nS.2.2.2.1 nS.2.2.2.2.1 g
      refine wpAny_bind (wpAny_updateSeq gS rfl ?_ (by rw [hsz]; omega) (by show (acc.push _).size ≤ sizeLine + 1; rw [Array.size_push,hsz]; omega))
      have gU:=Heap.get?_update_self (Obj.mapSeq (·.push (Value.ref s.heap.objs.size))) gS rfl
      generalize hH:h'.update S (Obj.mapSeq (·.push (Value.ref s.heap.objs.size))) = h2 at gU ⊢
      have sb:Heap.SameBut S h' h2:=hH ▸ Heap.SameBut.update ..
      have k2:∀ b o,b ≠ S→h'.get? b = some o→h2.get? b = some o:=fun b o hb q=>(sb.2 b hb).trans q
      have sz2:h2.objs.size = s.heap.objs.size + 1:=by rw [sb.1,z6]
      refine wpAny_pure ⟨plainId_quiet F.plain_extend_loop _,ih (i + 1) { s with heap:=h2 } (acc.push (.ref s.heap.objs.size)) _ (ts ++ [s.heap.objs.size]) (by omega) (by rw [sz2]; omega) ?_ (k2 TI _ nS.2.1.symm (k TI _ D.TIz D.TITO D.TIi1 D.TIi2 p1)) ?_ (z3.at fun o q=>k2 i1 o nS.2.2.2.1.symm q) (z4.at fun o q=>k2 i2 o nS.2.2.2.2.1.symm q)
        ((q1.at fun o q=>k l1 o D.l1z D.l1TO D.l1i1 D.l1i2 q).at fun o q=>k2 l1 o nS.2.2.2.2.2.1.symm q) ((q2.at fun o q=>k l2 o D.l2z D.l2TO D.l2i1 D.l2i2 q).at fun o q=>k2 l2 o nS.2.2.2.2.2.2.symm q) gU (by rw [Array.toList_push,ea,List.map_append]; rfl) (by simp [el]) ?_ (fun j T hj=>?_) fun h3 acc' c' ts' k3 g3 e3 l3 n3 f3=>?_⟩
      · rcases z1 with ⟨z',_⟩ | ⟨T0,bb,o,a1,a2,a3,a4,a5⟩
        · exact absurd z' (by omega)
        · exact .inr ⟨T0,bb,o,a1,a2,k2 z _ nS.1.symm a3,k2 T0 _ (neA hS a1) a4,a5⟩
      · obtain ⟨a',b',q⟩:=z2
        exact ⟨a',b',k2 TO _ nS.2.2.1.symm q⟩
      · rw [List.nodup_append]
        refine ⟨nd,by simp,fun t ht u hu=>?_⟩
        have eu:u = s.heap.objs.size:=by simpa using hu
        obtain ⟨j,hj⟩:=List.mem_iff_getElem?.mp ht
        obtain ⟨_,x,y,_,_,gp⟩:=hts j t hj
        have:=Heap.lt_size gp
        exact fun q=>Nat.lt_irrefl _ (by rw [q,eu] at this; exact this)
      · rw [List.getElem?_append] at hj
        split at hj
        · obtain ⟨a1,x,y,a2,a3,a4⟩:=hts j T hj
          exact ⟨a1,x,y,a2,a3,k2 T _ (neA hS a1) (k T _ (neA hz a1) (neA hTO a1) (neA hi1 a1) (neA hi2 a1) a4)⟩
        · rename_i hlt
          have hj0:j = i:=by
            obtain ⟨q,_⟩:=List.getElem?_eq_some_iff.mp hj
            simp at q; omega
          subst hj0
          rw [el,Nat.sub_self] at hj
          have eT:s.heap.objs.size = T:=by simpa using hj
          subst eT
          exact ⟨hN,xs[j],ys[j],Array.getElem?_eq_getElem ix,Array.getElem?_eq_getElem iy,k2 _ _ (neA hS hN) z5⟩
      · exact fin h3 acc' c' ts' (fun b o b0 bS b1 b2 b3 b4 q=>k3 b o b0 bS b1 b2 b3 b4 (k2 b o bS (k b o b1 b2 b3 b4 q))) g3 e3 l3 n3 f3
    rcases hZ with ⟨_,hZ⟩ | ⟨T0,bb,o,hT0,hT0z,hZ,gT,cT⟩
    · refine wpAny_bind (wpAny_pyNext_zip_item D hZ p1 p2 t1 t2 q1 q2 (x:=xs[i]) (y:=ys[i]) (Array.getElem?_eq_getElem ix) (Array.getElem?_eq_getElem iy) fun h' a1 a2 a3 a4 a5 a6 a7=>?_)
      exact go h' (.inr ⟨s.heap.objs.size,false,_,hN,Nat.ne_of_gt (Nat.lt_of_lt_of_le hz hN),a1,a5,rfl⟩) ⟨_,_,a2⟩ a3 a4 a5 a6 a7
    · refine wpAny_bind (held_item D hZ gT p1 p2 t1 t2 q1 q2 (x:=xs[i]) (y:=ys[i]) (Array.getElem?_eq_getElem ix) (Array.getElem?_eq_getElem iy) fun h' a1 a3 a4 a5 a6 a7=>?_)
      exact go h' (.inr ⟨T0,true,o,hT0,hT0z,a1,a7 T0 o hT0z (neA hi1 hT0) (neA hi2 hT0) gT,cT⟩) ⟨_,_,a7 TO _ D.TOz D.TOi1 D.TOi2 p2⟩ a3 a4 a5 a6 fun b o b1 _ b3 b4 q=>a7 b o b1 b3 b4 q
end
end L2
namespace L2
open PySem
set_option maxRecDepth 100000
theorem zip_no_len:typeLookup (.type "zip") "__len__" = pure none:=by rw [typeLookup_type,builtinLookup_eq_fast]; kernel_rfl
theorem zip_no_hint:typeLookup (.type "zip") "__length_hint__" = pure none:=by rw [typeLookup_type,builtinLookup_eq_fast]; kernel_rfl
section
variable {prog:Program} {w:World} {A:Around} {E:Value→Shared→Prop} {s:Shared}
theorem call_list_zip {z TI TO i1 i2 l1 l2:Addr} {xs ys:Array Value} {Q:Value→Shared→Prop} (hh:A.handled = none) (D:ZipApart z TI TO i1 i2 l1 l2) (p0:IsZip s.heap z TI TO .none) (p1:IsPair s.heap TI (.ref i1) (.ref i2)) (p2:IsPair s.heap TO .none .none)
    (t1:s.heap.IsListIter i1 l1 0) (t2:s.heap.IsListIter i2 l2 0) (q1:s.heap.IsList l1 xs) (q2:s.heap.IsList l2 ys) (hn:min xs.size ys.size ≤ sizeLine)
    (h:∀ (h' : Heap) (acc:Array Value) (c:Nat) (ts:List Addr),(∀ b o,b ≠ z→b ≠ TO→b ≠ i1→b ≠ i2→s.heap.get? b = some o→h'.get? b = some o)→h'.get? s.heap.objs.size = some { cls:=.type "list",dict:=none,data:=.seq acc c,slots:=#[] } →
      acc.toList = ts.map Value.ref→ts.length = min xs.size ys.size→ts.Nodup→(∀ (j:Nat) (T:Addr),ts[j]? = some T→s.heap.objs.size + 1 ≤ T∧∃ x y,xs[j]? = some x∧ys[j]? = some y∧IsPair h' T x y)→Q (.ref s.heap.objs.size) { s with heap:=h' }) :
    wpAny (model prog w) A (call (.type "list") [.ref z]) Q E s:=by
  have lz:z < s.heap.objs.size:=Heap.lt_size p0
  have lTI:TI < s.heap.objs.size:=Heap.lt_size p1
  have lTO:TO < s.heap.objs.size:=Heap.lt_size p2
  have li1:i1 < s.heap.objs.size:=let ⟨_,e,_⟩:=t1; Heap.lt_size e
  have li2:i2 < s.heap.objs.size:=let ⟨_,e,_⟩:=t2; Heap.lt_size e
  have ll1:l1 < s.heap.objs.size:=let ⟨_,e,_⟩:=q1; Heap.lt_size e
  have ll2:l2 < s.heap.objs.size:=let ⟨_,e,_⟩:=q2; Heap.lt_size e
  refine callType_codes (Q₁:=fun obj s₁=>obj = .ref s.heap.objs.size∧s₁ = { s with heap:=s.heap.push { cls:=.type "list",data:=.seq #[] } }) F.called_list (F.typeCall_list_1 _) F.entry_list_init
    (code_list_new _ ⟨rfl,rfl⟩) fun obj s₁ h₁=>?_
  obtain ⟨rfl,rfl⟩:=h₁
  have hS:(s.heap.push { cls:=.type "list",data:=.seq #[] }).get? s.heap.objs.size = some { cls:=.type "list",data:=.seq #[] }:=Heap.get?_push_size _ rfl
  refine ⟨⟨_,hS,rfl⟩,F.args_list_init_2 _ _,?_⟩
  show wpAny _ _ (do let old ← Builtin.List.listItems (.ref s.heap.objs.size); Builtin.List.listUpdate (.ref s.heap.objs.size) (fun _=>#[]); letGo old.toList.reverse; Builtin.List.listExtendWith (.ref s.heap.objs.size) (.ref z) .none) _ _ _
  refine wpAny_bind ?_
  unfold Builtin.List.listItems
  refine wpAny_bind (wpAny_seqItems hS rfl (wpAny_pure ?_))
  show wpAny _ _ (updateSeq s.heap.objs.size (fun _=>#[]) >>= fun _=>letGo (#[]:Array Value).toList.reverse >>= fun _=>Builtin.List.listExtendWith (.ref s.heap.objs.size) (.ref z) .none) _ _ _
  refine wpAny_bind (wpAny_updateSeq hS rfl ?_)
  have hS₂:=Heap.get?_update_self (Obj.mapSeq (fun _=>(#[]:Array Value))) hS rfl
  refine wpAny_bind (wpAny_letGo ?_)
  have k1:∀ b o,s.heap.get? b = some o→((s.heap.push { cls:=.type "list",data:=.seq #[] }).update s.heap.objs.size (Obj.mapSeq (fun _=>(#[]:Array Value)))).get? b = some o:=fun b o e =>
    (Heap.get?_update_other _ _ (Nat.ne_of_gt (Heap.lt_size e))).trans (Heap.get?_push_of_some _ e)
  have sz1:((s.heap.push { cls:=.type "list",data:=.seq #[] }).update s.heap.objs.size (Obj.mapSeq (fun _=>(#[]:Array Value)))).objs.size = s.heap.objs.size + 1:=by rw [Heap.size_update,Heap.size_push]
  generalize (s.heap.push { cls:=.type "list",data:=.seq #[] }).update s.heap.objs.size (Obj.mapSeq (fun _=>(#[]:Array Value))) = hA at hS₂ k1 sz1 ⊢
  have hT:Shared.TypeIs { s with heap:=hA } (.ref z) "zip" := ⟨_,k1 _ _ p0,rfl⟩
  unfold Builtin.List.listExtendWith
  refine wpAny_bind (wpAny_typeOf hT ?_)
  have h1:Builtin.List.listSameRef (.ref s.heap.objs.size) (.ref z) = false:=by simp [Builtin.List.listSameRef]; exact Nat.ne_of_gt lz
  have h2:(Value.type "zip" == Value.type "list") = false:=by decide
  have h3:(Value.type "zip" == Value.type "tuple") = false:=by decide
  simp only [h1,h2,h3,Bool.or_false,Bool.false_eq_true,if_false]
  refine wpAny_bind (wpAny_pyIter_zip (s:={ s with heap:=hA }) (k1 _ _ p0) ?_)
  refine wpAny_bind (wpAny_holding ?_)
  unfold Builtin.List.listLengthHint
  refine wpAny_bind (wpAny_specialOf hT zip_no_len ?_)
  show wpAny _ _ (specialOf (Value.ref z) (Str.ofString "__length_hint__") >>= _) _ _ _
  refine wpAny_bind (wpAny_specialOf hT zip_no_hint ?_)
  refine wpAny_pure ?_
  show wpAny _ _ (rule "list.extend.makes-room" >>= fun _=>Builtin.List.listTouch (.ref s.heap.objs.size) >>= fun _ =>
    again (.builtin "list.extend.loop" ⟨[.ref s.heap.objs.size,.ref z,.none],[]⟩)) _ _ _
  refine wpAny_bind (wpAny_rule ?_)
  refine wpAny_bind ?_
  show wpAny _ _ (updateSeq s.heap.objs.size (·.push .none) >>= fun _=>updateSeq s.heap.objs.size (·.pop)) _ _ _
  refine wpAny_bind (wpAny_updateSeq (s:={ s with heap:=hA }) hS₂ rfl ?_)
  have hS₃:=Heap.get?_update_self (Obj.mapSeq (·.push Value.none)) hS₂ rfl
  refine wpAny_updateSeq (hz:=by seq_fits) hS₃ rfl ?_
  have hS₄:=Heap.get?_update_self (Obj.mapSeq (·.pop)) hS₃ rfl
  have k2:∀ b o,s.heap.get? b = some o→((hA.update s.heap.objs.size (Obj.mapSeq (·.push Value.none))).update s.heap.objs.size (Obj.mapSeq (·.pop))).get? b = some o :=
    fun b o e=>(Heap.get?_update_other _ _ (Nat.ne_of_gt (Heap.lt_size e))).trans ((Heap.get?_update_other _ _ (Nat.ne_of_gt (Heap.lt_size e))).trans (k1 b o e))
  have sz2:((hA.update s.heap.objs.size (Obj.mapSeq (·.push Value.none))).update s.heap.objs.size (Obj.mapSeq (·.pop))).objs.size = s.heap.objs.size + 1:=by rw [Heap.size_update,Heap.size_update,sz1]
  generalize (hA.update s.heap.objs.size (Obj.mapSeq (·.push Value.none))).update s.heap.objs.size (Obj.mapSeq (·.pop)) = hB at hS₄ k2 sz2 ⊢
  refine wpAny_pure ⟨plainId_quiet F.plain_extend_loop _,extend_zip (by simp [hh]) D (s.heap.objs.size + 1) (Nat.lt_succ_of_lt lz) (Nat.lt_succ_of_lt lTI) (Nat.lt_succ_of_lt lTO) (Nat.lt_succ_of_lt li1) (Nat.lt_succ_of_lt li2) (Nat.lt_succ_of_lt ll1) (Nat.lt_succ_of_lt ll2) (Nat.lt_succ_self _)
    ⟨Nat.ne_of_gt lz,Nat.ne_of_gt lTI,Nat.ne_of_gt lTO,Nat.ne_of_gt li1,Nat.ne_of_gt li2,Nat.ne_of_gt ll1,Nat.ne_of_gt ll2⟩ hn (min xs.size ys.size) 0 { s with heap:=hB } #[] _ [] (Nat.zero_add _).symm (by rw [sz2]; exact Nat.le_refl _)
    (.inl ⟨rfl,k2 _ _ p0⟩) (k2 _ _ p1) ⟨_,_,k2 _ _ p2⟩ (t1.at fun o e=>k2 _ _ e) (t2.at fun o e=>k2 _ _ e) (q1.at fun o e=>k2 _ _ e) (q2.at fun o e=>k2 _ _ e) hS₄ rfl rfl List.nodup_nil (fun j T hj=>by simp at hj) fun h' acc c ts k3 g3 e3 l3 n3 f3=>?_⟩
  exact ⟨rfl,h h' acc c ts (fun b o b1 b2 b3 b4 e=>k3 b o (Nat.lt_succ_of_lt (Heap.lt_size e)) (Nat.ne_of_lt (Heap.lt_size e)) b1 b2 b3 b4 (k2 b o e)) g3 e3 l3 n3 f3⟩
end
end L2
namespace L2
open PySem PySem.Spec PyProof.Rows
set_option maxRecDepth 100000
theorem nodup_sub_len:∀ {l L:List Int},l.Nodup→(∀ x ∈ l,x ∈ L)→l.length ≤ L.length
  | [],_,_,_=>Nat.zero_le _
  | x :: l,L,hn,hs=>by
    obtain ⟨h1,h2⟩:=List.nodup_cons.mp hn
    have hx:=hs x List.mem_cons_self
    have ih:=nodup_sub_len (L:=L.erase x) h2 fun y hy=>(List.mem_erase_of_ne (fun (e:y = x)=>h1 (e ▸ hy))).mpr (hs y (List.mem_cons_of_mem _ hy))
    rw [List.length_erase_of_mem hx] at ih
    have:0 < L.length:=List.length_pos_of_mem hx
    rw [List.length_cons]; omega
theorem ints_of:∀ {vs:List Value},(∀ v ∈ vs,∃ u,v = .int (keyI v) u)→IntsAre vs (vs.map keyI)
  | [],_=>.nil
  | v :: vs,h=>by
    obtain ⟨u,e⟩:=h v List.mem_cons_self
    rw [e]
    exact .cons _ u (ints_of fun x hx=>h x (List.mem_cons_of_mem _ hx))
theorem ints_vals:∀ {vs:List Value} {ns:List Int},IntsAre vs ns→Vals (ns.map V.int) vs
  | _,_,.nil=>.nil
  | _,_,.cons n t r=>.cons ⟨t,rfl⟩ (ints_vals r)
theorem lt_of_le_nodup:∀ {ns:List Int},ns.Pairwise (· ≤ ·)→ns.Nodup→ns.Pairwise (· < ·)
  | [],_,_=>.nil
  | n :: ns,h1,h2=>by
    obtain ⟨a1,a2⟩:=List.pairwise_cons.mp h1
    obtain ⟨b1,b2⟩:=List.nodup_cons.mp h2
    refine .cons (fun m hm=>?_) (lt_of_le_nodup a2 b2)
    have:=a1 m hm
    have:n ≠ m:=fun e=>b1 (e ▸ hm)
    omega
section
variable {prog:Program} {w:World} {A:Around} {E:Value→Shared→Prop} {s:Shared}
theorem sorted_set {a:Addr} {ks:List Int} {m:Nat} {Q:Value→Shared→Prop} (hh:A.handled = none) (hW:SetWk s.heap a (!byTx w) ks m) (hm:m < 64)
    (h:∀ (ns:List Int) (vs:List Value) (s' : Shared) (D:Addr) (c:Nat),Vals (ns.map V.int) vs→ns.Pairwise (· < ·)→(∀ k,k ∈ ns↔k ∈ ks)→s.heap.objs.size ≤ D→(∀ b u,s.heap.get? b = some u→s'.heap.get? b = some u)→s'.heap.get? D = some (seqObj "list" vs.toArray c)→s'.gens = s.gens→s'.os = s.os→ns.length = m→Q (.ref D) s') :
    wpAny (model prog w) A (call (.builtin "sorted") [.ref a]) Q E s:=by
  obtain ⟨o,es,ep,t,ho,hex,hd,hE,hb,hf,ha,hl,hn⟩:=hW
  refine Calls.call_function_entry kind_sorted plain_sorted entry_sorted (args_sorted1 _) ?_
  unfold Builtin.«sorted»
  refine wpAny_bind (m:=checkCount "sorted" 1 1 _) (wpAny_pure ?_)
  refine wpAny_bind (collect_set (by simp [hh]) ho hex hd hb hf ha hl fun ord s1 pm kp hg hos hss=>?_)
  have hlen:ord.length = m:=by rw [pm.length_eq,List.length_map,Array.length_toList,hn]
  have hint:∀ v ∈ ord,∃ u,v = .int (keyI v) u:=fun v hv=>by
    obtain ⟨e,he,rfl⟩:=List.mem_map.mp (pm.mem_iff.mp hv)
    exact (hE.ent e he).2
  have hI:=ints_of hint
  have pk:(ord.map keyI).Perm (es.toList.map fun e=>keyI e.2):=by
    have:=pm.map keyI
    rw [List.map_map] at this
    exact this
  refine wpAny_bind (wpAny_newList ?_ (by rw [sizeLine_eq]; omega))
  have hoL:(s1.heap.push (seqObj "list" ord.toArray 0)).get? s1.heap.objs.size = some (seqObj "list" ord.toArray 0):=Heap.get?_push_size _ rfl
  have keep:∀ b u,s.heap.get? b = some u→(s1.heap.push (seqObj "list" ord.toArray 0)).get? b = some u:=fun b u q=>Heap.get?_push_of_some _ (kp b u q)
  show wpAny _ _ _ _ _ { s1 with heap:=s1.heap.push (seqObj "list" ord.toArray 0) }
  refine wpAny_bind (wpAny_holding (wpAny_call_entry slot_list_sort ⟨_,hoL,rfl⟩ entry_list_sort ?body (args_list_sort _)))
  case body =>
    refine list_sort_tree (s:={ s1 with heap:=s1.heap.push (seqObj "list" ord.toArray 0) }) hoL hI (by omega) fun out ns' a1 a2 a3=>⟨_,rfl,wpAny_pure ⟨_,rfl,?_⟩⟩
    have nd:ns'.Nodup:=a2.nodup_iff.mpr (pk.nodup_iff.mpr hE.nd)
    have hlt:s1.heap.objs.size < (s1.heap.push (seqObj "list" ord.toArray 0)).objs.size:=Heap.lt_size hoL
    obtain ⟨e1,ho1⟩:∃ e1,((s1.heap.push (seqObj "list" ord.toArray 0)).update s1.heap.objs.size (Obj.mapSeq fun _=>#[])).get? s1.heap.objs.size = some (seqObj "list" #[] e1):=⟨_,get?_update_seq hoL (fun _=>#[])⟩
    have h3:∀ b,b < (s1.heap.push (seqObj "list" ord.toArray 0)).objs.size→((((s1.heap.push (seqObj "list" ord.toArray 0)).update s1.heap.objs.size (Obj.mapSeq fun _=>#[])).push (seqObj "tuple" ord.toArray 0)).push (seqObj "list" #[] 0)).get? b = ((s1.heap.push (seqObj "list" ord.toArray 0)).update s1.heap.objs.size (Obj.mapSeq fun _=>#[])).get? b:=fun b hb=>by
      rw [Heap.get?_push_ne _ _ _ (by rw [size_push',Heap.size_update]; exact Nat.ne_of_lt (Nat.lt_succ_of_lt hb)),Heap.get?_push_ne _ _ _ (by rw [Heap.size_update]; exact Nat.ne_of_lt hb)]
    have e6:((((s1.heap.push (seqObj "list" ord.toArray 0)).update s1.heap.objs.size (Obj.mapSeq fun _=>#[])).push (seqObj "tuple" ord.toArray 0)).push (seqObj "list" #[] 0)).get? s1.heap.objs.size = some (seqObj "list" #[] e1):=by rw [h3 _ hlt]; exact ho1
    have sz:s.heap.objs.size ≤ s1.heap.objs.size:=Nat.le_of_lt hss
    refine h ns' out.toList { s1 with heap:=sortedHeap (s1.heap.push (seqObj "list" ord.toArray 0)) s1.heap.objs.size ord out } s1.heap.objs.size _ (ints_vals a1) (lt_of_le_nodup a3 nd) (fun k=>(a2.mem_iff).trans ((pk.mem_iff).trans (hE.mem k).symm)) sz (fun b u q=>?_) (get?_update_seq e6 (fun _=>out)) hg hos ?_
    · have hb1:b < s1.heap.objs.size:=Heap.lt_size (kp b u q)
      show (Heap.update _ _ _).get? b = some u
      rw [Heap.get?_update_ne _ _ _ _ (Nat.ne_of_lt hb1),h3 _ (Nat.lt_trans hb1 hlt),Heap.get?_update_ne _ _ _ _ (Nat.ne_of_lt hb1)]
      exact keep b u q
    · rw [a2.length_eq,List.length_map,hlen]
end
section
variable {X:Cx} {pins:List (Addr × Obj)} {σ:St} {H H' : Hp} {s:Shared}
theorem Inv.grow {s' : Shared} (I:Inv X pins σ H s) (k:∀ b o,s.heap.get? b = some o→s'.heap.get? b = some o) (hg:s'.gens = s.gens) (hos:s'.os = s.os) (hold:∀ b,b < s.heap.objs.size→H' b = H b)
    (hnew:∀ b u,s.heap.objs.size ≤ b→H' b = some u→ObjOk X.prog X.w H' s'.heap b u):Inv X pins σ H' s':=by
  obtain ⟨h',g',d',t',o'⟩:=s'
  obtain rfl:g' = s.gens:=hg
  obtain rfl:o' = s.os:=hos
  have lt:∀ {b u},H b = some u→b < s.heap.objs.size:=fun {b u} e=>by
    rcases Nat.lt_or_ge b s.heap.objs.size with z | z
    · exact z
    · rw [I.hok.fresh z] at e; cases e
  have same:∀ {b u},H b = some u→H' b = some u:=fun e=>by rw [hold _ (lt e)]; exact e
  exact I.step (h':=h') (g':=s.gens) (d':=d') (t':=t') (ch:=[]) (fun _ z=>nomatch z) (fun b o _ _ _ e _=>k b o e) (fun b o _ _ _ e _=>⟨o.slots,k b o e⟩)
    (fun b o _ e n=>by rw [hold _ (Heap.lt_size e)]; exact n) (fun b o _ e=>⟨o,k b o e⟩) (fun b xs e=>same e) (fun b o u e=>same e) (fun b ps e=>⟨#[],by rw [same e]; simp⟩)
    (fun m hm=>by
      obtain ⟨o,es,ep,ho,r⟩:=hm
      exact ⟨o,es,ep,k _ o ho,r⟩)
    (fun b u e=>by
      rcases Nat.lt_or_ge b s.heap.objs.size with z | z
      · rw [hold _ z] at e
        exact (I.hok b u e).stay (fun c u' _ q=>k c u' q) (fun c q=>same q) fun c xs q=>same q
      · exact hnew b u z e)
    I.bare
end
def SetZ (w:World) (a:Addr) (zs:List Int):HO:=.ext fun h=>∃ m,SetWk h a (!byTx w) zs m
section
variable {X:Cx}
theorem vals_intsZ:∀ {zs:List Int} {us:List Value},Vals (zs.map V.int) us→∀ (i:Nat) (v:Value),us[i]? = some v→∃ z t,zs[i]? = some z∧v = .int z t
  | [],_,.nil,i,v,h=>by simp at h
  | z :: zs,_,.cons ⟨t,e⟩ r,0,v,h=>by simp at h; exact ⟨z,t,rfl,by rw [← h,e]⟩
  | z :: zs,_,.cons _ r,i + 1,v,h=>by
    obtain ⟨z',t,e1,e2⟩:=vals_intsZ r i v (by simpa using h)
    exact ⟨z',t,by simpa using e1,e2⟩
theorem call_setZ {w:World} (hw:X.w = w) (hc:X.calm = true):CallR X (.type "set") (fun xs H Q=>∃ (p:Addr) (zs:List Int),xs = [.ref p]∧SqL X.K H p (zs.map V.int)∧zs.length ≤ 1000∧∀ l,H l = none→Q (.ref l) (upd H l (SetZ w l zs))):=by
  subst hw
  intro pins s σ H xs us Q I r h
  obtain ⟨p,zs,rfl,hS,hz,q⟩:=h
  obtain ⟨u,rfl,ru⟩:=r.one
  obtain rfl:u = Value.ref p:=ru
  obtain ⟨its,rv,pl,_⟩:=I.list hS
  have hl:=rv.length
  rw [List.length_map] at hl
  refine call_setW (ks:=zs) (I.ok.hd hc) pl.isList (fun i v e=>?_) (by simpa using hl) (by unfold scanBound; simp; omega) fun h' tk m x hm kp=>?_
  · exact vals_intsZ rv i v (by simpa using e)
  · refine ⟨.ref s.heap.objs.size,_,I.laid (a:=s.heap.objs.size) (o:=SetZ X.w s.heap.objs.size zs) (h':=h') (t':=tk) (fun b o q=>kp b o (Heap.lt_size q) q) (Nat.le_refl _) ?_,rfl,q _ I.fresh⟩
    refine ⟨⟨m,x⟩,?_,fun h1 h2 ⟨m',y⟩ k=>⟨m',y.stay k⟩⟩
    obtain ⟨o,_,_,_,g,_⟩:=x
    exact ⟨o,g⟩
theorem call_sorted_setZ {w:World} (hw:X.w = w) (hc:X.calm = true):CallR X (.builtin "sorted") (fun us H Q=>∃ (a:Addr) (zs L:List Int),us = [.ref a]∧H a = some (SetZ w a zs)∧L.length < 64∧(∀ k ∈ zs,k ∈ L) ∧
    ∀ (D:Addr) (ns:List Int),H D = none→ns.Pairwise (· < ·)→(∀ k,k ∈ ns↔k ∈ zs)→Q (.ref D) (upd H D (.lst (ns.map V.int)))):=by
  subst hw
  intro pins s σ H us vs Q I r h
  obtain ⟨a,zs,L,rfl,e,hL,hs,q⟩:=h
  obtain ⟨u,rfl,ru⟩:=r.one
  obtain rfl:u = Value.ref a:=ru
  obtain ⟨⟨m,x⟩,_,_⟩:=I.hok a _ e
  have hm:m < 64:=by
    obtain ⟨o,es,ep,t,_,_,_,hE,_,_,_,_,hn⟩:=id x
    have:=nodup_sub_len (L:=L) hE.nd fun k hk=>hs k ((hE.mem k).mpr hk)
    rw [List.length_map,Array.length_toList,hn] at this
    omega
  refine sorted_set (I.ok.hd hc) x hm fun ns us s' D c a1 a2 a3 a4 a5 a6 a7 a8 a9=>?_
  have hD:H D = none:=I.hok.fresh a4
  refine ⟨.ref D,upd H D (.lst (ns.map V.int)),I.grow a5 a7 a8 (fun b hb=>by rw [upd_ne (Nat.ne_of_lt (Nat.lt_of_lt_of_le hb a4))]) (fun b u hb eu=>?_),rfl,q D ns hD a2 a3⟩
  by_cases z:b = D
  · subst z
    rw [upd_same] at eu
    cases eu
    exact ⟨by rw [List.length_map,sizeLine_eq]; omega,us,c,a1,a6⟩
  · rw [upd_ne z,I.hok.fresh hb] at eu
    cases eu
def tLZ (K:PySem.W.Frag) (ta:TA):TE:=fun σ H Q=>ta σ H fun vs H1=>∃ a b xs ys,vs = [.ref a,.ref b]∧SqL K H1 a xs∧SqL K H1 b ys ∧
  ∀ (D:Addr) (ts:List Addr) (H2:Hp),ts.length = min xs.length ys.length→(∀ c o,H1 c = some o→H2 c = some o)→H1 D = none→H2 D = some (.lst (ts.map V.ref)) →
    (∀ (j:Nat) (x y:V),xs[j]? = some x→ys[j]? = some y→∃ T,ts[j]? = some T∧H1 T = none∧H2 T = some (.tup [x,y]))→Q (.ref D) H2
theorem ltA {c n:Nat} (h:c < n) (k:Nat):c ≠ n + k:=Nat.ne_of_lt (Nat.lt_of_lt_of_le h (Nat.le_add_right _ _))
def tupsAt (xs ys:List V) (ts:List Addr) (b:Addr):Option HO :=
  match ts.idxOf? b with
  | some j=>match xs[j]?,ys[j]? with
    | some x,some y=>some (.tup [x,y])
    | _,_=>none
  | none=>none
theorem pe_listzip {e1 e2:Expr} {ta:TA} {p1 p2 pos1 pos2:Pos} (hcm:X.calm = true) (hg:Gl X "list") (hm:X.mg "list" = none) (hgz:Gl X "zip") (hmz:X.mg "zip" = none) (ha:PA X [e1,e2] ta)
    (hs:starEach [e1,e2] X.env = [(false,eval e1 X.env),(false,eval e2 X.env)]:=by rfl) (hs2:starEach [e2] X.env = [(false,eval e2 X.env)]:=by rfl) :
    PE X (.Call (.Name "list" p1) [.Call (.Name "zip" p2) [e1,e2] [] pos2] [] pos1) (tLZ X.K ta):=by
  intro pins s σ H Q I h
  refine wpAny_Call_Name_kw (ld_blt I hg hm PyProof.Rows.boot_list ?_)
  refine PyProof.Rows.callWith_type1 ?_ rfl rfl
  show wpAny _ _ (spliced ((false,eval (.Call (.Name "zip" p2) [e1,e2] [] pos2) X.env) :: backTo pos1 (starEach [] X.env))) _ _ s
  refine Calls.spliced_cons ?_
  refine wpAny_Call_Name_kw (ld_blt I hgz hmz PyProof.Rows.boot_zip ?_)
  refine PyProof.Rows.callWith_type1 (thn (ha pos2 pins s σ H _ I h) fun us s1 ⟨vs,H1,I1,r1,q1⟩=>?_) (by rw [hs,hs2]) (by rw [hs2]; rfl)
  obtain ⟨a,b,xs,ys,rfl,qa,qb,q⟩:=q1
  obtain ⟨u,v,rfl,ru,rv⟩:=r1.two
  cases (show u = Value.ref a from ru)
  cases (show v = Value.ref b from rv)
  obtain ⟨us,vu,pu,zu⟩:=I1.list qa
  obtain ⟨vs,vv,pv,zv⟩:=I1.list qb
  obtain ⟨oa,ea,_⟩:=id pu.isList
  obtain ⟨ob,eb,_⟩:=id pv.isList
  have la:a < s1.heap.objs.size:=Heap.lt_size ea
  have lb:b < s1.heap.objs.size:=Heap.lt_size eb
  have l1:=vu.length
  have l2:=vv.length
  refine call_zip_2 pu.isList pv.isList fun h' z1 z2 z3 z4 z5 z6 z7=>?_
  refine Calls.spliced_nil ?_
  have D:ZipApart (s1.heap.objs.size + 4) (s1.heap.objs.size + 2) (s1.heap.objs.size + 3) s1.heap.objs.size (s1.heap.objs.size + 1) a b:=by
    refine ⟨?_,?_,?_,?_,?_,?_,?_,?_,?_,?_,?_,?_,?_,?_,?_,?_,?_,?_⟩ <;> first | exact Nat.ne_of_lt (by omega) | exact Nat.ne_of_gt (by omega) | exact Nat.ne_of_lt la | exact Nat.ne_of_lt lb | exact Nat.ne_of_lt (Nat.lt_of_lt_of_le la (Nat.le_add_right _ _)) | exact Nat.ne_of_lt (Nat.lt_of_lt_of_le lb (Nat.le_add_right _ _))
  refine call_list_zip (s:={ s1 with heap:=h' }) (I1.ok.hd hcm) D z1 z2 z3 z4 z5 (pu.isList.at fun o e=>z7 _ _ e) (pv.isList.at fun o e=>z7 _ _ e) (by simp; omega) fun h2 acc c ts k3 g3 e3 n3 nd f3=>?_
  have hz2:Shared.heap { s1 with heap:=h' } = h':=rfl
  rw [hz2] at g3 f3 k3
  rw [z6] at g3 f3
  have kp:∀ c o,s1.heap.get? c = some o→h2.get? c = some o:=fun c o e=>by
    have:=Heap.lt_size e
    exact k3 c o (ltA this _) (ltA this _) (Nat.ne_of_lt this) (ltA this _) (z7 c o e)
  have hn3:ts.length = min xs.length ys.length:=by rw [n3]; simp; omega
  have idx:∀ (j:Nat) (T:Addr),ts[j]? = some T→ts.idxOf? T = some j:=fun j T hj=>by
    obtain ⟨hlt,ej⟩:=List.getElem?_eq_some_iff.mp hj
    rw [List.idxOf?,List.findIdx?_eq_some_iff_getElem]
    refine ⟨hlt,by simp [ej],fun i hi=>?_⟩
    have:ts[i] ≠ ts[j]:=fun q=>by
      have:=(List.getElem_inj nd).mp q
      omega
    simpa [← ej] using this
  have jdx:∀ (T:Addr) (j:Nat),ts.idxOf? T = some j→ts[j]? = some T:=fun T j hj=>by
    rw [List.idxOf?,List.findIdx?_eq_some_iff_getElem] at hj
    obtain ⟨hlt,e,_⟩:=hj
    rw [List.getElem?_eq_getElem hlt]
    simpa using e
  have tge:∀ (T:Addr) (j:Nat),ts.idxOf? T = some j→s1.heap.objs.size + 6 ≤ T:=fun T j hj=>by
    obtain ⟨a1,_⟩:=f3 j T (jdx T j hj)
    omega
  show EP X pins σ Q _ _
  rw [show (Shared.heap { s1 with heap:=h' }).objs.size = s1.heap.objs.size + 5 from z6]
  generalize hH2:(fun (b:Addr)=>if b = s1.heap.objs.size + 5 then some (HO.lst (ts.map V.ref)) else match tupsAt xs ys ts b with | some o=>some o | none=>H1 b) = H2
  have hD:H2 (s1.heap.objs.size + 5) = some (.lst (ts.map V.ref)):=by rw [← hH2]; exact if_pos rfl
  have hO:∀ c,c < s1.heap.objs.size→H2 c = H1 c:=fun c hc=>by
    rw [← hH2]
    show (if c = s1.heap.objs.size + 5 then _ else _) = _
    rw [if_neg (ltA hc 5)]
    have:tupsAt xs ys ts c = none:=by
      unfold tupsAt
      cases e:ts.idxOf? c with
      | none=>rfl
      | some j=>exact absurd (Nat.lt_of_lt_of_le hc (Nat.le_trans (Nat.le_add_right _ 6) (tge c j e))) (Nat.lt_irrefl _)
    rw [this]
  have hT:∀ (j:Nat) (x y:V) (T:Addr),xs[j]? = some x→ys[j]? = some y→ts[j]? = some T→H2 T = some (.tup [x,y]):=fun j x y T ex ey et=>by
    have:=tge T j (idx j T et)
    rw [← hH2]
    show (if T = s1.heap.objs.size + 5 then _ else _) = _
    rw [if_neg (Nat.ne_of_gt (Nat.lt_of_lt_of_le (Nat.lt_succ_self _) this))]
    have:tupsAt xs ys ts T = some (.tup [x,y]):=by unfold tupsAt; rw [idx j T et]; dsimp only; rw [ex,ey]
    rw [this]
  refine ⟨.ref (s1.heap.objs.size + 5),H2,I1.grow (s':={ s1 with heap:=h2 }) kp rfl rfl hO (fun b u hb eu=>?_),rfl,q _ ts H2 hn3 (fun c o e=>?_) (I1.hok.fresh (Nat.le_add_right _ _)) hD fun j x y ex ey=>?_⟩
  · rw [← hH2] at eu
    replace eu:(if b = s1.heap.objs.size + 5 then some (HO.lst (ts.map V.ref)) else match tupsAt xs ys ts b with | some o=>some o | none=>H1 b) = some u:=eu
    by_cases zb:b = s1.heap.objs.size + 5
    · rw [if_pos zb] at eu
      cases eu
      subst zb
      have rv:∀ ts:List Addr,Vals (ts.map V.ref) (ts.map Value.ref):=fun ts=>by
        induction ts with
        | nil=>exact .nil
        | cons t r ih=>exact .cons rfl ih
      refine ⟨by rw [List.length_map,hn3]; omega,ts.map Value.ref,c,rv ts,?_⟩
      rw [← e3]; exact g3
    · rw [if_neg zb] at eu
      cases et:tupsAt xs ys ts b with
      | none=>rw [et] at eu; replace eu:H1 b = some u:=eu; rw [I1.hok.fresh hb] at eu; cases eu
      | some o =>
        rw [et] at eu
        cases eu
        unfold tupsAt at et
        cases ei:ts.idxOf? b with
        | none=>rw [ei] at et; cases et
        | some j =>
          rw [ei] at et
          dsimp only at et
          cases ex:xs[j]? with
          | none=>rw [ex] at et; cases et
          | some x =>
            cases ey:ys[j]? with
            | none=>rw [ex,ey] at et; cases et
            | some y =>
              rw [ex,ey] at et
              cases et
              obtain ⟨_,x',y',fx,fy,gp⟩:=f3 j b (jdx b j ei)
              obtain ⟨u1,eu1,ru1⟩:=vu.get ex
              obtain ⟨v1,ev1,rv1⟩:=vv.get ey
              have fx' : us[j]? = some x':=by simpa using fx
              have fy' : vs[j]? = some y':=by simpa using fy
              rw [eu1] at fx'; rw [ev1] at fy'
              cases fx'; cases fy'
              exact ⟨by show 2 ≤ sizeLine; decide,[x',y'],.cons ru1 (.cons rv1 .nil),_,gp,rfl,_,rfl⟩
  · have:c < s1.heap.objs.size:=by
      rcases Nat.lt_or_ge c s1.heap.objs.size with z | z
      · exact z
      · rw [I1.hok.fresh z] at e; cases e
    rw [hO c this]; exact e
  · have hj:j < ts.length:=by
      obtain ⟨h1,_⟩:=List.getElem?_eq_some_iff.mp ex
      obtain ⟨h2',_⟩:=List.getElem?_eq_some_iff.mp ey
      omega
    have et:ts[j]? = some ts[j]:=List.getElem?_eq_getElem hj
    exact ⟨ts[j],et,I1.hok.fresh (Nat.le_trans (Nat.le_add_right _ 6) (tge _ j (idx j _ et))),hT j x y _ ex ey et⟩
end
end L2
namespace L2
open PySem PySem.Spec PyProof.Rows
def Ite (K:PySem.W.Frag) (a:Addr):It :=
  ⟨fun i H=>∃ xs x,SqL K H a xs∧xs[i]? = some x,
   fun i H v H'=>∃ T,H T = none∧v = .ref T∧∀ xs x,SqL K H a xs→xs[i]? = some x→H' = upd H T (.tup [.int i,x]),
   fun i H=>∃ xs,SqL K H a xs∧xs.length ≤ i⟩
def EnumSt (e it a:Addr) (i:Nat) (h:Heap):Prop:=(∃ old,IsEnum h e it i old)∧h.IsListIter it a i
def iEnum (K:PySem.W.Frag) (ta:TA):TI:=fun σ H R=>ta σ H fun vs H1=>∃ a,vs = [.ref a]∧(∃ xs,SqL K H1 a xs)∧R (Ite K a) H1
section
variable {X:Cx}
end
section
variable {gt:TG} {k:Nat} {fr:List Nat} {tt:TT} {te:TE}
theorem compG_zip {K:PySem.W.Frag} {a b:Addr} {xs ys:List V} {σ:St} {H1:Hp} {Q:VK} (Pv:Addr→Nat→List V→Hp→Prop) (h0:∀ D,H1 D = none→Pv D 0 [] (upd H1 D (.lst [])))
    (hk:∀ D i zs H,H1 D = none→i ≤ min xs.length ys.length→Pv D i zs H→SqL K H a xs∧SqL K H b ys)
    (hs:∀ D i x y zs H T,H1 D = none→xs[i]? = some x→ys[i]? = some y→Pv D i zs H→H T = none→∀ ts:St,ts.length = k→gt (.ref T) (cmpStG σ fr ts) (upd H T (.tup [x,y])) fun σ2 H2=>(∃ ts2:St,ts2.length = k∧σ2 = cmpStG σ fr ts2)∧tt σ2 H2 fun b H3=>if b = true then te σ2 H3 (CYes Pv D i (min xs.length ys.length)) else CNext Pv D i (min xs.length ys.length) H3)
    (hd:∀ D zs H,H1 D = none→Pv D (min xs.length ys.length) zs H→Q (.ref D) H):CompAtG (Itz K a b) gt k fr tt te σ Q H1:=by
  intro D hD
  refine ⟨fun i m H=>m = min xs.length ys.length - i∧i ≤ min xs.length ys.length∧∃ zs,Pv D i zs H,⟨_,rfl,Nat.zero_le _,[],h0 D hD⟩,?_⟩
  rintro i m H ⟨rfl,hi,zs,p⟩
  obtain ⟨q1,q2⟩:=hk D i zs H hD hi p
  by_cases hlt:i < min xs.length ys.length
  · have ex:xs[i]? = some xs[i]:=List.getElem?_eq_getElem (by omega)
    have ey:ys[i]? = some ys[i]:=List.getElem?_eq_getElem (by omega)
    refine .inr ⟨⟨xs,ys,xs[i],ys[i],q1,q2,ex,ey⟩,fun x H' y=>?_⟩
    obtain ⟨T,hT,rfl,e⟩:=y
    rw [e xs ys _ _ q1 q2 ex ey]
    exact hs D i _ _ zs _ T hD ex ey p hT
  · have e:i = min xs.length ys.length:=by omega
    subst e
    exact .inl ⟨⟨xs,ys,q1,q2,by omega⟩,hd D zs H hD p⟩
end
theorem cmpOkG_free {X:Cx} {N:List Str} {k:Nat} {fr:List Nat} {scope:Scope} {cl:List (Str × Addr)} (clos:closureFor scope X.env = pure cl) (kind:scope.kind = .function) (nocell:∀ y ∈ scope.names,y.2 ≠ .cell)
    (names:∀ y ∈ scope.names,y.2 = .local→scope.names.lookup y.1 = some .local) (len:N.length = k + fr.length)
    (sub:((List.range fr.length).all fun i=>match N[k + i]?,fr[i]? with | some y,some j=>(X.N[j]? == some y) && ((X.env.kindOf y == some .cell) && ((relabel scope X.env).names.lookup y == some .cell)) | _,_=>false) = true)
    (cells:∀ p ∈ cl,X.env.cells.lookup p.1 = some p.2) (has:((relabel scope X.env).names.all fun p=>(p.2 != .cell && p.2 != .free) || (cl.lookup p.1).isSome) = true):CmpOkG X N k fr scope cl:=by
  refine ⟨clos,kind,nocell,names,len,fun i y e=>?_,fun y c e=>cells _ (PySem.mem_of_lookup e),fun y h=>?_⟩
  · have hi:i < fr.length:=by have:=(List.getElem?_eq_some_iff.mp e).1; omega
    have z:=List.all_eq_true.mp sub i (List.mem_range.mpr hi)
    rw [e,List.getElem?_eq_getElem hi] at z
    simp only [Bool.and_eq_true,beq_iff_eq] at z
    exact ⟨_,List.getElem?_eq_getElem hi,z.1,.inl z.2.1,.inl z.2.2⟩
  · have look:∀ k,(relabel scope X.env).names.lookup y = some k→(k = .cell∨k = .free)→∃ c,cl.lookup y = some c:=fun k e hk=>by
      have z:=List.all_eq_true.mp has _ (PySem.mem_of_lookup e)
      rcases hk with rfl | rfl
      · exact Option.isSome_iff_exists.mp (by simpa using z)
      · exact Option.isSome_iff_exists.mp (by simpa using z)
    rcases h with h | h
    · exact look _ h (.inl rfl)
    · exact look _ h (.inr rfl)
section
variable {X:Cx}
end
section
variable {X:Cx} {elt iter tg:Expr} {ifs:List Expr} {pos:Pos} {scope:Scope} {cl:List (Str × Addr)} {N:List Str} {k:Nat} {fr:List Nat} {gt:TG} {tt:TT} {te:TE}
theorem ps_compG {wi:TI} {i:Nat} {y:Str} {py spos:Pos} (hN:X.N.Nodup) (hy:X.N[i]? = some y) (hl:Loc X.env.scope y) (hi:PI X tg iter wi) (O:CmpOkG X N k fr scope cl) (hc:X.calm = true) (hg:∀ fp C s H,PG (cmpCx X N scope cl fp C s H) tg gt)
    (ht:∀ fp C s H,PIf (cmpCx X N scope cl fp C s H) ifs tt) (he:∀ fp C s H,PE (cmpCx X N scope cl fp C s H) elt te) (hs:∀ v,foldedSetIterable iter X.env v = pure v:=by intro _; rfl)
    (hsw:swapsWith (.ListComp elt [⟨tg,iter,ifs,0⟩] scope pos) (some (.Name y py)) spos.line X.env = pure true:=by rfl) (hf:X.fn y = true∨X.env.scope.names.lookup y = some .local:=by first | exact .inl rfl | exact .inr rfl | assumption) :
    PS X (.Assign [.Name y py] (.ListComp elt [⟨tg,iter,ifs,0⟩] scope pos) spos) (tAsg (tCompG wi gt k fr tt te) (gName i)):=by
  intro pins s σ H D0 I h
  rw [exec_Assign_Name_used _ _ _ _ hsw]
  refine wpAny_bind (wpAny_standAt (wpAny_bind ?_))
  show wpAny _ X.A (do let _ ← comprehension (.ListComp elt [⟨tg,iter,ifs,0⟩] scope pos) scope X.env _ (newList []) false (eval iter X.env) (some (assign (.Name y py) X.env))) _ _ s
  refine wpAny_bind (wpAny_mono (wpAny_comprehension_free (use:=some (assign (.Name y py) X.env)) (Q:=fun _ s'=>SP X pins D0 .next s') rfl hs O.clos O.kind O.names (thn (hi pins s σ H _ I h) fun v s1 h1=>thn h1 fun itv s2 h2=>?_)) (fun _ s' hq=>wpAny_pure (wpAny_pure hq)) fun _ _ z=>z)
  obtain ⟨it,fp,tn,J,H2,e,I2,T,st2,f2,hW⟩:=h2
  subst e
  refine comp_coreG (Q:=fun v H1=>gName i v σ H1 D0.nx) (RR:=fun acc C=>compPost (model X.prog X.w) X.A X.xe (some (assign (.Name y py) X.env)) (fun _ s'=>SP X pins D0 .next s') acc C) O hc I2 T st2 f2 ht he hg hW fun D C s' H' hC hn ⟨m,hm⟩ I' q=>?_
  show wpAny _ X.A (assign (.Name y py) X.env (.ref D)) _ _ s'
  refine wpAny_assign_Name (store_ok2 I' hN hy hl (v:=.ref D) rfl (fun s3 I3 ⟨a,hsa,ha⟩=>?_) hf)
  have hCa:C ≠ a:=by
    rcases ha with z | z
    · rw [z]; exact Nat.ne_of_gt (Nat.lt_of_lt_of_le I2.lt hC)
    · obtain ⟨v,o,ho,_⟩:=I2.cell y a z
      exact Nat.ne_of_gt (Nat.lt_of_lt_of_le (Heap.lt_size ho) hC)
  exact ⟨m,hm.sameBut hsa hCa,fun h' hs'=>⟨_,H',I2.left I3 hC hn hs',q⟩⟩
end
end L2
namespace L2
open PySem PySem.Spec PyProof.Rows
section
variable {fr:List Nat} {tt:TT} {te:TE}
theorem comp_tup {K:PySem.W.Frag} {a:Addr} {xs:List V} {σ:St} {H1:Hp} {Q:VK} (Pv:Addr→Nat→List V→Hp→Prop) (h0:∀ D,H1 D = none→Pv D 0 [] (upd H1 D (.lst [])))
    (hk:∀ D i ys H,H1 D = none→i ≤ xs.length→Pv D i ys H→SqT K H a xs)
    (hs:∀ D i x ys H,H1 D = none→xs[i]? = some x→Pv D i ys H→tt (cmpSt σ fr (some x)) H fun b H2=>if b = true then te (cmpSt σ fr (some x)) H2 (CYes Pv D i xs.length) else CNext Pv D i xs.length H2)
    (hd:∀ D ys H,H1 D = none→Pv D xs.length ys H→Q (.ref D) H):CompAt (Itt K a) fr tt te σ Q H1:=by
  intro D hD
  refine ⟨fun i m H=>m = xs.length - i∧i ≤ xs.length∧∃ ys,Pv D i ys H,⟨_,rfl,Nat.zero_le _,[],h0 D hD⟩,?_⟩
  rintro i m H ⟨rfl,hi,ys,p⟩
  have q:=hk D i ys H hD hi p
  by_cases hlt:i < xs.length
  · refine .inr ⟨⟨xs,xs[i],q,by simp [hlt]⟩,fun x H' y=>?_⟩
    obtain ⟨e,y⟩:=y
    subst e
    exact hs D i x ys _ hD (y xs q) p
  · have e:i = xs.length:=by omega
    subst e
    exact .inl ⟨⟨xs,q,Nat.le_refl _⟩,hd D ys H hD p⟩
end
end L2
namespace L2
open PySem
set_option maxRecDepth 100000
section
variable {X:Cx}
theorem ip_mul:PIp X .Mult (fun x y H Q=>∃ i j,x = .int i∧y = .int j∧IntMulOk i j∧Q (.int (i * j)) H):=by
  intro pins s σ H x y v u Q I r1 r2 h
  obtain ⟨i,j,e1,e2,hm,q⟩:=h
  subst e1; subst e2
  obtain ⟨t,rfl⟩:=r1
  obtain ⟨t',rfl⟩:=r2
  exact PyProof.Rows.imul_int ⟨.int _,H,I.tok _,⟨_,rfl⟩,q⟩ hm
def rEqLL (K:PySem.W.Frag):R2:=fun x y H Q=>∃ a b xs ys,x = .ref a∧y = .ref b∧SqL K H a xs∧SqL K H b ys∧xs.length = ys.length ∧
  (∀ (j:Nat) (u v:V),xs[j]? = some u→ys[j]? = some v→∃ (r r' : Addr) (zs:List V),u = .ref r∧v = .ref r'∧(r = r'∨(SqL K H r zs∧SqL K H r' zs∧zs.all flatV = true)))∧Q (.bl true) H
end
end L2
namespace L2
open PySem
set_option maxRecDepth 100000
section
variable {prog:Program} {w:World} {A:Around} {E:Value→Shared→Prop} {s:Shared}
end
section
variable {X:Cx}
def tLR (K:PySem.W.Frag) (ta:TA):TE:=fun σ H Q=>ta σ H fun vs H1=>∃ a xs,vs = [.ref a]∧SqL K H1 a xs∧∀ p,H1 p = none→Q (.ref p) (upd H1 p (.lst xs.reverse))
end
end L2
namespace L2
open PySem
end L2
namespace L2
open PySem
section
variable {prog:Program} {w:World} {A:Around} {E:Value→Shared→Prop} {s:Shared}
end
end L2
namespace L2
open PySem
section
variable {X:Cx}
def dwn (n:Nat):List V:=(List.range n).map fun j:Nat=>V.int ((n:Int) - 1 - (j:Int))
def tLRR (ta:TA):TE:=fun σ H Q=>ta σ H fun vs H1=>∃ n:Nat,vs = [.int (n:Int)]∧n ≤ 1000∧∀ p,H1 p = none→Q (.ref p) (upd H1 p (.lst (dwn n)))
end
end L2
namespace L2
open PySem
theorem sl_listK {X:Cx} {K:PySem.W.Frag} (h:X.K = K):SlR X (rSlL K):=h ▸ sl_list
end L2
namespace L2
open PySem PySem.Spec PyProof.Rows
def cmpEnvN (scope:Scope) (cl:List (Str × Addr)) (C:Addr) (env:Env):Env :=
  { scope:=relabel scope env,locals:=C,globals:=env.globals,cells:=cellsFrom (C + 1) scope.names cl,qual:=env.qual,func:=none,code:=env.code,frame:=env.frame,builtins:=env.builtins }
def cmpCxN (X:Cx) (N:List Str) (scope:Scope) (cl:List (Str × Addr)) (fp:List Addr) (C:Addr) (s2:Shared) (H2:Hp):Cx :=
  { prog:=X.prog,w:=X.w,K:=X.K,mg:=X.mg,base:=X.base,A:=X.A,N:=N,s₀:=s2,H₀:=H2,env:=cmpEnvN scope cl C X.env,outer:=X.stack,stack:=X.stack,ex:=fp,fn:=fun y=>scope.names.lookup y == some .cell,calm:=X.calm,pn:=[],xe:=fun _ _=>False }
structure CmpOkN (X:Cx) (N:List Str) (k:Nat) (fr:List Nat) (scope:Scope) (cl:List (Str × Addr)):Prop where
  clos:closureFor scope X.env = pure cl
  kind:scope.kind = .function
  names:∀ y ∈ scope.names,y.2 = .local→scope.names.lookup y.1 = some .local
  len:N.length = k + fr.length
  sub:∀ (i:Nat) (y:Str),N[k + i]? = some y→∃ j,fr[i]? = some j∧X.N[j]? = some y∧(X.env.kindOf y = some .cell∨X.env.kindOf y = some .free)∧((relabel scope X.env).names.lookup y = some .cell∨(relabel scope X.env).names.lookup y = some .free)∧∃ c,cl.lookup y = some c∧∀ C:Addr,(cellsFrom (C + 1) scope.names cl).lookup y = some c
  cells:∀ y c,cl.lookup y = some c→X.env.cells.lookup y = some c
  has:∀ (C:Addr) (y:Str),((relabel scope X.env).names.lookup y = some .cell∨(relabel scope X.env).names.lookup y = some .free)→∃ c,(cellsFrom (C + 1) scope.names cl).lookup y = some c
section
variable {X:Cx} {elt iter tg:Expr} {ifs:List Expr} {pos:Pos} {scope:Scope} {cl:List (Str × Addr)} {N:List Str} {k:Nat} {fr:List Nat} {gt:TG} {tt:TT} {te:TE}
end
def SubN (X:Cx) (N:List Str) (scope:Scope) (cl:List (Str × Addr)):List Nat→Nat→Prop
  | [],_=>True
  | j :: fr,i=>(∃ (y:Str) (c:Addr),N[i]? = some y∧X.N[j]? = some y∧X.env.kindOf y = some .cell∧(relabel scope X.env).names.lookup y = some .cell∧cl.lookup y = some c∧∀ C:Addr,(cellsFrom (C + 1) scope.names cl).lookup y = some c)∧SubN X N scope cl fr (i + 1)
def rInsert:V→List V→Hp→VK→Prop:=fun x vs H Q=>∃ (l:Addr) (xs:List V) (i:Int) (k:Nat) (y:V),x = .ref l∧vs = [.int i,y]∧i = (k:Int)∧H l = some (.lst xs)∧k ≤ xs.length∧xs.length < sizeLine∧Q .non (upd H l (.lst (xs.take k ++ y :: xs.drop k)))
end L2
namespace L2
open PySem PySem.Spec PyProof.Rows
def tTry0 (B:Addr) (K:PySem.W.Frag) (G:Addr→Prop) (tb:TSX) (ts:Addr→Addr→TS):TS:=fun D σ H=>tb D σ H fun C H1=>PySem.W.exmOne K (.ref C) (.ref B) = some true∧G C ∧
  ∀ e,ts C e D σ H1
section
variable {X:Cx} {st b₀:Stmt} {su:List Stmt} {tb:TSX} {ts:Addr→Addr→TS} {Tn:Str} {B:Addr} {np hpos pos:Pos}
end
def tIfX (tc:TT) (t1 t2:TSX):TSX:=fun D σ H EX=>tc σ H fun b H1=>if b = true then t1 D σ H1 EX else t2 D σ H1 EX
end L2
namespace L2
open PySem PySem.Spec PyProof.Rows
section
variable {X:Cx}
end
section
variable {k:Nat} {fr:List Nat} {gt:TG} {tt:TT} {te:TE}
theorem compG_tup {K:PySem.W.Frag} {a:Addr} {xs:List V} {σ:St} {H1:Hp} {Q:VK} (Pv:Addr→Nat→List V→Hp→Prop) (h0:∀ D,H1 D = none→Pv D 0 [] (upd H1 D (.lst [])))
    (hk:∀ D i ys H,H1 D = none→i ≤ xs.length→Pv D i ys H→SqT K H a xs)
    (hs:∀ D i x ys H,H1 D = none→xs[i]? = some x→Pv D i ys H→∀ ts:St,ts.length = k→gt x (cmpStG σ fr ts) H fun σ2 H2=>(∃ ts2:St,ts2.length = k∧σ2 = cmpStG σ fr ts2)∧tt σ2 H2 fun b H3=>if b = true then te σ2 H3 (CYes Pv D i xs.length) else CNext Pv D i xs.length H3)
    (hd:∀ D ys H,H1 D = none→Pv D xs.length ys H→Q (.ref D) H):CompAtG (Itt K a) gt k fr tt te σ Q H1:=by
  intro D hD
  refine ⟨fun i m H=>m = xs.length - i∧i ≤ xs.length∧∃ ys,Pv D i ys H,⟨_,rfl,Nat.zero_le _,[],h0 D hD⟩,?_⟩
  rintro i m H ⟨rfl,hi,ys,p⟩
  have q:=hk D i ys H hD hi p
  by_cases hlt:i < xs.length
  · refine .inr ⟨⟨xs,xs[i],q,by simp [hlt]⟩,fun x H' y=>?_⟩
    obtain ⟨e,y⟩:=y
    subst e
    exact hs D i x ys _ hD (y xs q) p
  · have e:i = xs.length:=by omega
    subst e
    exact .inl ⟨⟨xs,q,Nat.le_refl _⟩,hd D ys H hD p⟩
end
end L2
namespace L2
open PySem PySem.Spec PyProof.Rows
abbrev TTh:HO:=.ext fun _=>True
theorem objTT {P:Program} {w:World} {H:Hp} {h:Heap} {a:Addr} {o:Obj} (e:h.get? a = some o):ObjOk P w H h a (.frz o TTh):=⟨e,trivial,⟨o,e⟩,fun _ _ _ _=>trivial⟩
def hideL (H:Hp) (cs:List Addr):Hp:=fun b=>if b ∈ cs then none else H b
def frzL (H:Hp) (fz:List (Addr × Obj)):Hp:=fun b=>match fz.lookup b with
  | some o=>some (.frz o TTh)
  | none=>H b
def backL (H H' : Hp) (cs:List Addr):Hp:=fun b=>if b ∈ cs then H b else H' b
theorem hideL_in {H:Hp} {cs:List Addr} {b:Addr} (h:b ∈ cs):hideL H cs b = none:=if_pos h
theorem hideL_out {H:Hp} {cs:List Addr} {b:Addr} (h:b ∉ cs):hideL H cs b = H b:=if_neg h
theorem backL_in {H H' : Hp} {cs:List Addr} {b:Addr} (h:b ∈ cs):backL H H' cs b = H b:=if_pos h
theorem backL_out {H H' : Hp} {cs:List Addr} {b:Addr} (h:b ∉ cs):backL H H' cs b = H' b:=if_neg h
theorem hideL_none {H:Hp} {cs:List Addr} {b:Addr} (h:H b = none):hideL H cs b = none:=by
  unfold hideL
  split
  · rfl
  · exact h
theorem hideL_some {H:Hp} {cs:List Addr} {b:Addr} {o:HO} (h:hideL H cs b = some o):b ∉ cs∧H b = some o:=by
  unfold hideL at h
  split at h
  · cases h
  · rename_i n
    exact ⟨n,h⟩
def Fzs (H:Hp) (cs:List Addr):Prop:=∀ c ∈ cs,∃ o,H c = some (.frz o TTh)
theorem Fzs.out {H:Hp} {cs:List Addr} (h:Fzs H cs) {b:Addr} {u:HO} (e:H b = some u) (n:∀ o,u ≠ .frz o TTh):b ∉ cs:=fun z=>by
  obtain ⟨o,q⟩:=h b z
  rw [e] at q
  exact n o (Option.some.inj q)
section
variable {P:Program} {w:World} {H H' : Hp} {h h' : Heap} {cs:List Addr}
theorem HOk.hideL (x:HOk P w H h) (f:Fzs H cs):HOk P w (hideL H cs) h:=fun b o e=>by
  obtain ⟨n,e⟩:=hideL_some e
  refine (x b o e).stay (fun _ _ _ q=>q) (fun c q=>?_) fun c xs q=>?_
  · rw [hideL_out (f.out q fun _ z=>by cases z)]; exact q
  · rw [hideL_out (f.out q fun _ z=>by cases z)]; exact q
theorem HOk.backL (x:HOk P w H' h') (f:Fzs H cs) (n:∀ c ∈ cs,H' c = none) (k:∀ c ∈ cs,∀ o,H c = some (.frz o TTh)→h'.get? c = some o):HOk P w (backL H H' cs) h':=fun b o e=>by
  by_cases hb:b ∈ cs
  · rw [backL_in hb] at e
    obtain ⟨ob,q⟩:=f b hb
    rw [q] at e
    cases e
    exact objTT (k b hb ob q)
  · rw [backL_out hb] at e
    have out:∀ {c:Addr} {u:HO},H' c = some u→c ∉ cs:=fun {c u} q z=>by rw [n c z] at q; cases q
    refine (x b o e).stay (fun _ _ _ q=>q) (fun c q=>?_) fun c xs q=>?_
    · rw [backL_out (out q)]; exact q
    · rw [backL_out (out q)]; exact q
end
section
variable {fs:List Addr} {H H' : Hp} {h h' : Heap} {cs:List Addr}
theorem Un.backL (u:Un fs [] (hideL H cs) H' h h') (f:Fzs H cs):Un fs [] H (backL H H' cs) h h' where
  keep:=fun b o e n hb hx=>u.keep b o e (hideL_none n) hb hx
  slot:=fun b o e n hb hx=>u.slot b o e (hideL_none n) hb hx
  free:=fun b o e n hx=>by
    have:b ∉ cs:=fun z=>by obtain ⟨ob,q⟩:=f b z; rw [n] at q; cases q
    rw [backL_out this]
    exact u.free b o e (hideL_none n) hx
  there:=u.there
  tups:=fun b xs e=>by
    have hb:=f.out e fun _ z=>by cases z
    rw [backL_out hb]
    exact u.tups b xs (by rw [hideL_out hb]; exact e)
  frzs:=fun b o v e=>by
    by_cases hb:b ∈ cs
    · rw [backL_in hb]; exact e
    · rw [backL_out hb]
      exact u.frzs b o v (by rw [hideL_out hb]; exact e)
  tbls:=fun b ps e=>by
    have hb:=f.out e fun _ z=>by cases z
    rw [backL_out hb]
    exact u.tbls b ps (by rw [hideL_out hb]; exact e)
end
def CodeO (oc:Obj) (qual:Str):Prop:=∃ vs t,oc.data = .fields vs∧vs[1]? = some (.str qual t)
structure CScope (N ps:List Str) (sc:Scope) (cl:List (Str × Addr)):Prop where
  kind:sc.kind = .function
  co:sc.isCoroutine = false
  gen:sc.isGenerator = false
  nd:N.Nodup
  pre:N.take ps.length = ps
  par:∀ x ∈ ps,sc.names.lookup x = some .local
  nocell:∀ y ∈ sc.names,y.2 ≠ .cell
  has:∀ y ∈ sc.names,y.2 = .free→∃ c,cl.lookup y.1 = some c
def cxC (CX:CXT) (P:Program) (w:World) (K:PySem.W.Frag) (mg:Str→Option Value) (base:Heap) (N:List Str) (qual:Str) (scope:Scope) (f:Addr) (cd:Value) (cl:List (Str × Addr)) (A:Around) (outer:List Env) (s:Shared) (H:Hp) (E:XK):Cx where
  prog:=P
  w:=w
  K:=K
  mg:=mg
  base:=base
  A:=A.deeper (PySem.W.envX qual scope s.heap.objs.size f cd cl)
  N:=N
  s₀:=s
  H₀:=hideL H (cl.map (·.2))
  env:=PySem.W.envX qual scope s.heap.objs.size f cd cl
  outer:=outer
  stack:=PySem.W.envX qual scope s.heap.objs.size f cd cl :: outer
  ex:=[]
  calm:=true
  fn:=fun _=>false
  pn:=[]
  xe:=fun e s'=>wpAny (model P w) (A.deeper (PySem.W.envX qual scope s.heap.objs.size f cd cl)) (leaving (PySem.W.envX qual scope s.heap.objs.size f cd cl) e) (fun _ s''=>CX outer H s E e s'') (fun e' s''=>CX outer H s E e' s'') s'
def CellsAt (H:Hp) (cl:List (Str × Addr)) (ws:List (Str × V)):Prop :=
  (∀ c ∈ cl.map (·.2),∃ o v,H c = some (.frz o TTh)∧o.data = .cell v)∧∀ (x:Str) (v:V),ws.lookup x = some v→∃ c o u,cl.lookup x = some c∧H c = some (.frz o TTh)∧o.data = .cell (some u)∧RelV v u
theorem CellsAt.fzs {H:Hp} {cl:List (Str × Addr)} {ws:List (Str × V)} (h:CellsAt H cl ws):Fzs H (cl.map (·.2)):=fun c hc=>let ⟨o,_,e,_⟩:=h.1 c hc; ⟨o,e⟩
theorem CellsAt.same {H H' : Hp} {cl:List (Str × Addr)} {ws:List (Str × V)} (h:CellsAt H cl ws) (s:Same H H'):CellsAt H' cl ws :=
  ⟨fun c hc=>let ⟨o,v,e,d⟩:=h.1 c hc; ⟨o,v,s _ _ e,d⟩,fun x v e=>let ⟨c,o,u,a,b,d,r⟩:=h.2 x v e; ⟨c,o,u,a,s _ _ b,d,r⟩⟩
def startC (N ps:List Str) (vs:List V) (ws:List (Str × V)):St:=vs.map some ++ (N.drop ps.length).map fun x=>ws.lookup x
theorem mem_lookup_map {cl:List (Str × Addr)} {x:Str} {c:Addr} (h:cl.lookup x = some c):c ∈ cl.map (·.2):=List.mem_map.mpr ⟨(x,c),PySem.mem_of_lookup h,rfl⟩
theorem rev_lookup {ps:List Str} {us:List Value} {i:Nat} {y:Str} {u:Value} (nd:ps.Nodup) (h1:ps[i]? = some y) (h2:us[i]? = some u) (hl:us.length = ps.length):(ps.zip us).reverse.lookup y = some u:=by
  have hnd:((ps.zip us).map (·.1)).Nodup:=by rw [List.map_fst_zip (by omega)]; exact nd
  rw [PySem.lookup_reverse_of_nodup _ hnd]
  have hm:(y,u) ∈ ps.zip us:=by
    have:(ps.zip us)[i]? = some (y,u):=by rw [List.getElem?_zip_eq_some]; exact ⟨h1,h2⟩
    exact List.mem_of_getElem? this
  cases e:(ps.zip us).lookup y with
  | none =>
    exact absurd hm (by
      intro hm
      have:=List.lookup_eq_none_iff.mp e (y,u) hm
      simp at this)
  | some v =>
    have:=PySem.mem_of_lookup e
    obtain ⟨j,ej⟩:=List.getElem?_of_mem this
    rw [List.getElem?_zip_eq_some] at ej
    have:=nodup_ix nd ej.1 h1
    subst this
    rw [h2] at ej
    rw [Option.some.inj ej.2]
theorem fnc_of {CX:CXT} {P:Program} {w:World} {K:PySem.W.Frag} {mg:Str→Option Value} {base:Heap} {k:Nat} {f c' : Addr} {name qual:Str} {params:Arguments} {body:List Stmt} {scope:Scope} {cl:List (Str × Addr)} {doc pm ctv:Value} {N ps:List Str} {sp:Sp}
    (S:CScope N ps scope cl) (inj:∀ x y c,cl.lookup x = some c→cl.lookup y = some c→x = y)
    (len:∀ vs H Q E,sp vs H Q E→vs.length = ps.length)
    (hbody:∀ (A:Around) (outer:List Env) (s:Shared) (H:Hp) (vs:List V) (Q:VK) (E:XK),Room k (A.deeper (PySem.W.envX qual scope s.heap.objs.size f (.ref c') cl))→sp vs H Q E →
      (∃ oc,H f = some (.frz (PySem.W.fnMade name qual params body scope cl doc pm c' ctv) TTh)∧H c' = some (.frz oc TTh)∧CodeO oc qual)∧∃ ws,CellsAt H cl ws∧(∀ x ∈ N.drop ps.length,∀ v,ws.lookup x = some v→scope.names.lookup x = some .free) ∧
      ((∀ c ∈ cl.map (·.2),base.get? c = none∧c ∉ frs outer)→∃ t,PSs (cxC CX P w K mg base N qual scope f (.ref c') cl A outer s H E) body t∧t { nx:=fun _ H'=>(∀ c ∈ cl.map (·.2),H' c = none)→Q .non (backL H H' (cl.map (·.2))),rt:=fun v H'=>(∀ c ∈ cl.map (·.2),H' c = none)→Q v (backL H H' (cl.map (·.2))) } (startC N ps vs ws) (hideL H (cl.map (·.2))))) :
    FnOk P w K mg base CX (k + 1) f (PySem.W.fnX name qual params body scope cl .none .none doc pm none (.ref c') ctv) ps sp:=by
  refine ⟨len,fun A outer s H args us vs Q E hr e0 hb r hsp=>?_⟩
  have hl:=len _ _ _ _ hsp
  obtain ⟨⟨oc,ef,ec,vs',t',hcd,hcq⟩,ws,hcell,hfree,hrest⟩:=hbody A outer s H vs Q E (hr.deeper _) hsp
  obtain ⟨t,ht,hq⟩:=hrest fun c hc=>by
    obtain ⟨o,e⟩:=hcell.fzs c hc
    refine ⟨?_,fun z=>by rw [e0.frf c z] at e; cases e⟩
    cases eb:base.get? c with
    | none=>rfl
    | some ob=>rw [(e0.bs c ob eb).2] at e; cases e
  have lim:s.heap.NoLimit:=e0.mod.nolimit.keeps fun b o e=>(e0.bs b o e).1
  have eo:s.heap.get? f = some (PySem.W.fnMade name qual params body scope cl doc pm c' ctv):=(e0.hok f _ ef).1
  have eoc:s.heap.get? c' = some oc:=(e0.hok c' _ ec).1
  have hul:us.length = ps.length:=by rw [← r.length]; exact hl
  have ndP:ps.Nodup:=by rw [← S.pre]; exact S.nd.sublist (List.take_sublist _ _)
  have fz:=hcell.fzs
  have hcs:∀ {x:Str} {c:Addr},cl.lookup x = some c→c ∈ cl.map (·.2):=fun e=>mem_lookup_map e
  refine codeAny_call_function hr.depth eo rfl S.co S.gen rfl ⟨c',oc,vs',t',rfl,eoc,hcd,hcq⟩ (hb _ _ _ _ ?_)
  refine wpAny_newFunctionEnv S.nocell (fun x hx=>S.par x.1 (List.of_mem_zip hx).1) (fun h₁ hns hsb=>?_) S.kind
  have hk₁:∀ b o,s.heap.get? b = some o→h₁.get? b = some o:=fun b o e=>hsb.extBut b o (Nat.ne_of_lt (Heap.lt_size e)) (Heap.get?_push_of_some _ e)
  refine ⟨lim.keeps hk₁,codeAny_func ?_⟩
  have hH0:∀ {b:Addr},H b = none→hideL H (cl.map (·.2)) b = none:=fun h=>hideL_none h
  have I:Inv (cxC CX P w K mg base N qual scope f (.ref c') cl A outer s H E) [] (startC N ps vs ws) (hideL H (cl.map (·.2))) { s with heap:=h₁,toks:=s.toks + (ps.zip us).length }:=by
    have noA:∀ b:Addr,b ∉ (cxC CX P w K mg base N qual scope f (.ref c') cl A outer s H E).ex:=fun b z=>absurd (show b ∈ ([]:List Addr) from z) (by simp)
    refine ⟨⟨e0.mod,S.kind,rfl,rfl,Nat.le_refl _,fun x y c h1 h2=>inj x y c h1 h2,fun x hx=>?_,fun x c hf=>?_,fun _=>hr.hd,Around.frames_deeper e0.frames,.inr ⟨rfl,rfl⟩,fun b z=>absurd z (noA b),fun b o e=>⟨(e0.bs b o e).1,hH0 (e0.bs b o e).2⟩,e0.bsz,fun b _ _=>noA b,fun b z=>absurd z (noA b),e0.funs,fun b hb=>hH0 (e0.frf b hb)⟩,
      rfl,e0.bare,Un.kept hk₁,⟨_,hns,fun i x v h1 h2 h3=>?_⟩,fun x c h=>?_,hH0 (e0.hok.fresh (Nat.le_refl _)),fun x c h=>hideL_in (hcs h),fun p hp=>absurd (show p ∈ ([]:List (Addr × Obj)) from hp) (by simp),(e0.hok.hideL fz).kept hk₁,?_⟩
    · have hx:scope.names.lookup x = some .cell∨scope.names.lookup x = some .free:=hx
      rcases hx with hx | hx
      · exact absurd rfl (S.nocell _ (PySem.mem_of_lookup hx))
      · exact S.has _ (PySem.mem_of_lookup hx) rfl
    · exact absurd (show false = true from hf) Bool.false_ne_true
    · have h1:N[i]? = some x:=h1
      unfold startC at h2
      by_cases hi:i < vs.length
      · rw [List.getElem?_append_left (by simpa using hi),List.getElem?_map] at h2
        have ha:vs[i]? = some v:=by
          cases e:vs[i]? with
          | none=>rw [e] at h2; cases h2
          | some a=>rw [e] at h2; cases h2; rfl
        obtain ⟨u,hu,rv⟩:=r.get ha
        have hp:ps[i]? = some x:=by rw [← S.pre,List.getElem?_take_of_lt (by omega)]; exact h1
        exact ⟨u,rv,.inl ⟨S.par x (List.mem_of_getElem? hp),rev_lookup ndP hp hu hul⟩⟩
      · rw [List.getElem?_append_right (by simpa using hi),List.getElem?_map,List.length_map] at h2
        cases e:(N.drop ps.length)[i - vs.length]? with
        | none=>rw [e] at h2; cases h2
        | some y =>
          rw [e] at h2
          have h2:some (ws.lookup y) = some (some v):=h2
          have h2:=Option.some.inj h2
          have hy:y = x:=by
            rw [List.getElem?_drop,show ps.length + (i - vs.length) = i by omega,h1] at e
            exact (Option.some.inj e).symm
          subst hy
          obtain ⟨c,o,u,e1,e2,e3,rv⟩:=hcell.2 y v h2
          exact ⟨u,rv,.inr ⟨.inr (hfree y (List.mem_of_getElem? e) v h2),c,e1,o,hk₁ _ _ (e0.hok c _ e2).1,e3⟩⟩
    · obtain ⟨o,v,e,d⟩:=hcell.1 c (hcs h)
      exact ⟨v,o,hk₁ _ _ (e0.hok c _ e).1,d⟩
    · unfold startC
      show _ = N.length
      have hpl:ps.length ≤ N.length:=by have:=congrArg List.length S.pre; rw [List.length_take] at this; omega
      rw [List.length_append,List.length_map,List.length_map,List.length_drop]
      omega
  refine wpAny_mono (ht [] _ (startC N ps vs ws) _ _ I hq) (fun fl s' hs=>?_) fun e s' hs=>hs
  have fin:∀ {σ' : St} {H' : Hp} {v:V} {u:Value},Inv (cxC CX P w K mg base N qual scope f (.ref c') cl A outer s H E) [] σ' H' s'→RelV v u→((∀ c ∈ cl.map (·.2),H' c = none)→Q v (backL H H' (cl.map (·.2))))→CE outer P w H s Q u s':=fun {σ' H' v u} J rv q=>by
    have un:Un (frs outer) [] (hideL H (cl.map (·.2))) H' s.heap s'.heap:=J.base
    have nc:∀ c ∈ cl.map (·.2),H' c = none:=fun c hc=>by
      obtain ⟨⟨x,d⟩,hm,rfl⟩:=List.mem_map.mp hc
      obtain ⟨o,e⟩:=fz d hc
      exact un.free d o (e0.hok d _ e).1 (hideL_in hc) (by simp)
    refine ⟨v,backL H H' (cl.map (·.2)),J.os,J.bare,un.backL fz,J.hok.backL fz nc fun c hc o e=>?_,rv,q nc⟩
    refine un.keep c o (e0.hok c _ e).1 (hideL_in hc) (fun z=>?_) (by simp)
    rw [e0.frf c z] at e
    cases e
  cases fl with
  | ret u =>
    obtain ⟨v,σ',H',J,rv,q⟩:=hs
    exact fin J rv q
  | next =>
    obtain ⟨σ',H',J,q⟩:=hs
    exact fin (v:=V.non) (u:=Value.none) J rfl q
  | brk =>
    obtain ⟨_,_,_,q⟩:=hs
    exact False.elim q
  | cont =>
    obtain ⟨_,_,_,q⟩:=hs
    exact False.elim q
end L2
namespace L2
open PySem PySem.Spec PyProof.Rows
section
variable {X:Cx}
def tDef (i:Nat) (P:Addr) (pos:Pos) (qual:Str) (mk:Value→Value→Addr→Value→Obj) (clos:List (Str × Addr)):TS:=fun D σ H=>∃ ps,H P = some (.tbl ps)∧TriplesOk ps.toList∧codeAmong pos ps.toList = none ∧
  ∀ (f c' : Addr) (oc:Obj) (doc pm ctv:Value),H f = none→H c' = none→f ≠ c'→f ≠ P→c' ≠ P→CodeO oc qual→(∀ x y a,clos.lookup x = some a→clos.lookup y = some a→x = y) →
    D.nx (σ.set i (some (.ref f))) (upd (upd (upd H P (.tbl (ps ++ #[rawInt pos.line,rawInt pos.col,.ref c']))) c' (.frz oc TTh)) f (.frz (mk doc pm c' ctv) TTh))
theorem ps_def {i:Nat} {name:Str} {params:Arguments} {body:List Stmt} {scope:Scope} {pos:Pos} {c P:Addr} {clos:List (Str × Addr)} (hN:X.N.Nodup) (hi:X.N[i]? = some name) (hx:Loc X.env.scope name) (hcode:X.env.code = .ref c)
    (C:PySem.W.CodeHd X.base c P) (hb:X.base.BuiltinsAt X.mg P) (hcl:closureFor scope X.env = pure clos) (hin:∀ p ∈ clos,X.env.cells.lookup p.1 = some p.2) (hd0:params.defaults = []:=by rfl) (hk0:params.kw_defaults = []:=by rfl) (ha:annTrees params none X.env = []:=by rfl)
    (hf:X.fn name = true∨X.env.scope.names.lookup name = some .local:=by first | exact .inl rfl | exact .inr rfl | assumption) :
    PS X (.FunctionDef name params body [] none [] scope none name pos) (tDef i P pos (qualnameIn X.env name name) (fun doc pm c' ctv=>PySem.W.fnMade name (qualnameIn X.env name name) params body scope clos doc pm c' ctv) clos):=by
  intro pins s σ H D I h
  obtain ⟨ps,hP,ht,hnf,k⟩:=h
  have ePh:s.heap.get? P = some (PySem.W.tabObj ps):=I.hok P _ hP
  have hgs:s.heap.Ns mainGlobals X.mg:=I.mod.glob.keeps I.bk
  have hgP:mainGlobals ≠ P:=fun q=>by
    obtain ⟨o,es,ep,e,hd,_⟩:=hgs
    rw [q,ePh] at e; cases e; cases hd
  refine PySem.W.nestDef_K hd0 hk0 ha (PySem.W.makeFunction_K hcl I.ok.glob hgs hcode (C.keeps I.bk) ePh ht hnf hgP (hb.keeps I.bk) fun c' ctv doc h' tk hx' hge hlt hrec htb=>?_)
  obtain ⟨c₂,oc,vs,t,e2,hoc,hdd,hv⟩:=hrec
  cases e2
  have hfr:∀ b,s.heap.objs.size ≤ b→H b = none:=fun b hb'=>I.hok.fresh hb'
  have hPl:P < s.heap.objs.size:=Heap.lt_size ePh
  have ncP:c' ≠ P:=fun z=>by rw [z] at hge; exact absurd hPl (Nat.not_lt.mpr hge)
  have hfs:s.heap.objs.size ≤ h'.objs.size:=Nat.le_trans hge (Nat.le_of_lt hlt)
  have nfP:h'.objs.size ≠ P:=fun z=>by rw [z] at hfs; exact absurd hPl (Nat.not_lt.mpr hfs)
  have nfc:h'.objs.size ≠ c':=Nat.ne_of_gt hlt
  have hHf:=hfr _ hfs
  have hHc:=hfr _ hge
  have at3:∀ {b:Addr} {u:HO},b ≠ P→H b = some u→upd (upd (upd H P (.tbl (ps ++ #[rawInt pos.line,rawInt pos.col,.ref c']))) c' (.frz oc TTh)) h'.objs.size (.frz (PySem.W.fnMade name (qualnameIn X.env name name) params body scope clos doc ((X.mg "__name__").getD .none) c' ctv) TTh) b = some u:=fun {b u} hb' e=>by
    rw [upd_ne (ne_of_none e hHf),upd_ne (ne_of_none e hHc),upd_ne hb']; exact e
  have atP:upd (upd (upd H P (.tbl (ps ++ #[rawInt pos.line,rawInt pos.col,.ref c']))) c' (.frz oc TTh)) h'.objs.size (.frz (PySem.W.fnMade name (qualnameIn X.env name name) params body scope clos doc ((X.mg "__name__").getD .none) c' ctv) TTh) P = some (.tbl (ps ++ #[rawInt pos.line,rawInt pos.col,.ref c'])):=by
    rw [upd_ne nfP.symm,upd_ne ncP.symm,upd_same]
  have neP:∀ {b:Addr},H b = none→b ≠ P:=fun e z=>by rw [z,hP] at e; cases e
  have keep:∀ b o,b ≠ P→s.heap.get? b = some o→(h'.push (PySem.W.fnMade name (qualnameIn X.env name name) params body scope clos doc ((X.mg "__name__").getD .none) c' ctv)).get? b = some o:=fun b o hb' e=>Heap.get?_push_of_some _ (hx' b o hb' e)
  have un:Un X.fs [] H (upd (upd (upd H P (.tbl (ps ++ #[rawInt pos.line,rawInt pos.col,.ref c']))) c' (.frz oc TTh)) h'.objs.size (.frz (PySem.W.fnMade name (qualnameIn X.env name name) params body scope clos doc ((X.mg "__name__").getD .none) c' ctv) TTh)) s.heap (h'.push (PySem.W.fnMade name (qualnameIn X.env name name) params body scope clos doc ((X.mg "__name__").getD .none) c' ctv)):=by
    refine ⟨fun b o e n _ _=>keep b o (neP n) e,fun b o e n _ _=>⟨o.slots,keep b o (neP n) e⟩,fun b o e n _=>?_,fun b o e _=>?_,fun b xs e=>at3 (fun z=>by rw [z,hP] at e; cases e) e,fun b o u e=>at3 (fun z=>by rw [z,hP] at e; cases e) e,fun b ps' e=>?_⟩
    · have hb':=Heap.lt_size e
      rw [upd_ne (Nat.ne_of_lt (Nat.lt_of_lt_of_le hb' hfs)),upd_ne (Nat.ne_of_lt (Nat.lt_of_lt_of_le hb' hge)),upd_ne (neP n)]
      exact n
    · by_cases hb' : b = P
      · subst hb'
        exact ⟨_,Heap.get?_push_of_some _ htb⟩
      · exact ⟨o,keep b o hb' e⟩
    · by_cases hb' : b = P
      · subst hb'
        rw [hP] at e
        cases e
        exact ⟨_,atP⟩
      · exact ⟨#[],by rw [at3 hb' e]; simp⟩
  have hok:HOk X.prog X.w (upd (upd (upd H P (.tbl (ps ++ #[rawInt pos.line,rawInt pos.col,.ref c']))) c' (.frz oc TTh)) h'.objs.size (.frz (PySem.W.fnMade name (qualnameIn X.env name name) params body scope clos doc ((X.mg "__name__").getD .none) c' ctv) TTh)) (h'.push (PySem.W.fnMade name (qualnameIn X.env name name) params body scope clos doc ((X.mg "__name__").getD .none) c' ctv)):=fun b u e=>by
    by_cases h1:b = h'.objs.size
    · subst h1
      rw [upd_same] at e
      cases e
      exact objTT (Heap.get?_push_size _ rfl)
    rw [upd_ne h1] at e
    by_cases h2:b = c'
    · subst h2
      rw [upd_same] at e
      cases e
      exact objTT (Heap.get?_push_of_some _ hoc)
    rw [upd_ne h2] at e
    by_cases h3:b = P
    · subst h3
      rw [upd_same] at e
      cases e
      exact Heap.get?_push_of_some _ htb
    rw [upd_ne h3] at e
    refine (I.hok b u e).stay (fun d v hd q=>keep d v ?_ q) (fun d q=>at3 (fun z=>by rw [z,hP] at q; cases q) q) fun d xs q=>at3 (fun z=>by rw [z,hP] at q; cases q) q
    rcases hd with rfl | hd
    · exact h3
    · exact fun z=>by rw [z,hP] at hd; cases hd
  have I2:=I.un (t':=tk) un hok
  refine store_ok I2 hN hi hx (v:=.ref h'.objs.size) rfl (fun s2 I3=>⟨_,_,I3,?_⟩) hf
  refine k _ c' oc doc _ ctv hHf hHc nfc nfP ncP ⟨vs,t,hdd,hv⟩ fun x y a h1 h2=>?_
  exact I.ok.inj x y a (hin _ (PySem.mem_of_lookup h1)) (hin _ (PySem.mem_of_lookup h2))
end
def HFn (P:Program) (w:World) (K:PySem.W.Frag) (mg:Str→Option Value) (base:Heap) (k:Nat) (f:Addr) (sp:Sp):Prop:=∃ fd ps,FnOk P w K mg base CX0 k f fd ps sp∧Binds K fd ps []
def FnO (H:Hp) (f:Addr):Prop:=∃ o fd,H f = some (.frz o TTh)∧o.data = .func fd
section
variable {X:Cx} {k i:Nat} {x:Str} {e:Expr} {es:List Expr} {t:TA} {p pos:Pos}
def tHeld (X:Cx) (k i:Nat) (t:TA):TE:=fun σ H Q=>∃ (f:Addr) (sp:Sp),σ[i]? = some (some (.ref f))∧FnO H f∧HFn X.prog X.w X.K X.mg X.base k f sp∧t σ H fun vs H1=>FnO H1 f∧sp vs H1 Q E0
theorem pe_held (hr:Room k X.A) (hN:X.N[i]? = some x) (hv:Vis X.env.scope x) (ha:PA X (e :: es) t) (hd:(x == ("__debug__" : Str)) = false:=by decide) (hcd:(x == ("__classdict__" : Str)) = false:=by decide)
    (he:starEach (e :: es) X.env = (false,eval e X.env) :: starEach es X.env:=by rfl) (hpl:(backTo pos (starEach es X.env)).any (·.1) = false:=by rfl):PE X (.Call (.Name x p) (e :: es) [] pos) (tHeld X k i t):=by
  intro pins s σ H Q I h
  obtain ⟨f,sp,ef,fo,⟨fd,pn,F,hb⟩,h⟩:=h
  have at_:∀ {H:Hp} {s:Shared} {σ:St},Inv X pins σ H s→FnO H f→PySem.W.FnAt f s.heap:=fun I' ⟨o,fd,e,d⟩=>by
    have:=(I'.hok f _ e).1
    obtain ⟨oc,od,dt,sl⟩:=o
    simp only at d
    subst d
    exact ⟨oc,od,fd,sl,this⟩
  refine wpAny_Call_Name_kw (thn (pe_var hN hv hd hcd pins s σ H (fun v H'=>v = .ref f∧H' = H) I ⟨_,ef,rfl,rfl⟩) fun u s1 ⟨v,H1,I1,r1,q1⟩=>?_)
  obtain ⟨rfl,rfl⟩:=q1
  cases (show u = Value.ref f from r1)
  refine PySem.W.callWith_F (at_ I1 fo) (thn (ha pos pins s1 σ H1 _ I1 h) fun us s2 ⟨vs,H2,I2,r2,fo2,q2⟩=>⟨at_ I2 fo2,?_⟩) he hpl
  exact run_fn (E:=E0) (dvs:=[]) (ds:=[]) F hr hb .nil pass0 I2 r2 (by rw [List.append_nil]; exact q2)
end
section
variable {X:Cx} {pins:List (Addr × Obj)} {σ:St} {H:Hp} {s:Shared}
theorem frzL_out {H:Hp} {fz:List (Addr × Obj)} {b:Addr} (h:b ∉ fz.map (·.1)):frzL H fz b = H b:=by
  unfold frzL
  cases e:fz.lookup b with
  | none=>rfl
  | some o=>exact absurd (List.mem_map.mpr ⟨(b,o),PySem.W.mem_of_lookupK e,rfl⟩) h
theorem frzL_in {H:Hp} {fz:List (Addr × Obj)} {b:Addr} (h:b ∈ fz.map (·.1)):∃ o,(b,o) ∈ fz∧frzL H fz b = some (.frz o TTh):=by
  unfold frzL
  cases e:fz.lookup b with
  | none =>
    obtain ⟨⟨b',o⟩,hm,rfl⟩:=List.mem_map.mp h
    have:=List.lookup_eq_none_iff.mp e _ hm
    simp at this
  | some o=>exact ⟨o,PySem.W.mem_of_lookupK e,rfl⟩
structure FzOk (X:Cx) (s:Shared) (fz:List (Addr × Obj)):Prop where
  cell:∀ p ∈ fz,∃ x,X.env.cells.lookup x = some p.1
  nb:∀ p ∈ fz,X.base.get? p.1 = none
  nf:∀ p ∈ fz,p.1 ∉ X.fs
  at_:∀ p ∈ fz,s.heap.get? p.1 = some p.2
theorem FzOk.free {fz:List (Addr × Obj)} (z:FzOk X s fz) (I:Inv X pins σ H s):∀ b ∈ fz.map (·.1),H b = none:=fun b hb=>by
  obtain ⟨p,hp,rfl⟩:=List.mem_map.mp hb
  obtain ⟨x,e⟩:=z.cell p hp
  exact I.freeC x _ e
theorem FzOk.hok {fz:List (Addr × Obj)} (z:FzOk X s fz) (I:Inv X pins σ H s):HOk X.prog X.w (frzL H fz) s.heap:=fun b u e=>by
  by_cases hb:b ∈ fz.map (·.1)
  · obtain ⟨o,hm,q⟩:=frzL_in (H:=H) hb
    rw [q] at e
    cases e
    exact objTT (z.at_ _ hm)
  · rw [frzL_out hb] at e
    have out:∀ {d:Addr} {u:HO},H d = some u→frzL H fz d = some u:=fun {d u} q=>by
      rw [frzL_out fun m=>by rw [z.free I d m] at q; cases q]; exact q
    exact (I.hok b u e).stay (fun _ _ _ q=>q) (fun d q=>out q) fun d xs q=>out q
theorem FzOk.env0 {fz:List (Addr × Obj)} (z:FzOk X s fz) (I:Inv X pins σ H s):Env0 X.prog X.w X.K X.mg X.base X.A X.stack s (frzL H fz):=by
  have e:=I.env0
  refine ⟨e.frames,e.mod,fun b o q=>⟨(e.bs b o q).1,?_⟩,e.bsz,e.funs,fun b hb=>?_,z.hok I,e.bare⟩
  · rw [frzL_out fun m=>?_]
    · exact (e.bs b o q).2
    · obtain ⟨p,hp,rfl⟩:=List.mem_map.mp m
      rw [z.nb p hp] at q
      cases q
  · rw [frzL_out fun m=>?_]
    · exact e.frf b hb
    · obtain ⟨p,hp,rfl⟩:=List.mem_map.mp m
      rcases List.mem_cons.mp (I.stkSub _ hb) with q | q
      · obtain ⟨x,ex⟩:=z.cell p hp
        exact I.cne x _ ex q
      · exact z.nf p hp q
theorem Inv.cellNew (I:Inv X pins σ H s) {x:Str} {c:Addr} (e:X.env.cells.lookup x = some c) (hf:X.fn x = true):X.base.get? c = none∧c ∉ X.fs:=by
  have old:=I.ok.cab x c hf e
  refine ⟨Heap.get?_none_of_le (Nat.le_trans I.ok.bsz old),fun q=>?_⟩
  obtain ⟨_,o,ho,_⟩:=I.ok.funs.mem q
  exact absurd (Heap.lt_size ho) (Nat.not_lt.mpr old)
theorem FzOk.after {fz:List (Addr × Obj)} {Q:VK} {u:Value} {s' : Shared} (z:FzOk X s fz) (I:Inv X pins σ H s) (h:CE X.stack X.prog X.w (frzL H fz) s (fun v H2=>Q v (hideL H2 (fz.map (·.1)))) u s'):EP X pins σ Q u s':=by
  obtain ⟨v,H2,os,bare,un,hok,r,q⟩:=h
  have fzs:Fzs H2 (fz.map (·.1)):=fun c hc=>by
    obtain ⟨o,_,e⟩:=frzL_in (H:=H) hc
    exact ⟨o,un.frzs c o _ e⟩
  have out:∀ {d:Addr} {u:HO},H d = some u→d ∉ fz.map (·.1):=fun {d u} q m=>by rw [z.free I d m] at q; cases q
  refine ⟨v,hideL H2 (fz.map (·.1)),I.call' (ch:=[]) os ⟨fun b o e n hb hx=>?_,fun b o e n hb hx=>?_,fun b o e n hx=>?_,un.there,fun b xs e=>?_,fun b o w' e=>?_,fun b ps e=>?_⟩ (hok.hideL fzs) bare (fun b hb=>absurd hb (by simp)),r,q⟩
  · by_cases hm:b ∈ fz.map (·.1)
    · obtain ⟨ob,hmem,q2⟩:=frzL_in (H:=H) hm
      have:=(hok b _ (un.frzs b ob _ q2)).1
      have e':=z.at_ _ hmem
      rw [e] at e'
      cases e'
      exact this
    · exact un.keep b o e (by rw [frzL_out hm]; exact n) hb hx
  · by_cases hm:b ∈ fz.map (·.1)
    · obtain ⟨ob,hmem,q2⟩:=frzL_in (H:=H) hm
      have:=(hok b _ (un.frzs b ob _ q2)).1
      have e':=z.at_ _ hmem
      rw [e] at e'
      cases e'
      exact ⟨_,this⟩
    · exact un.slot b o e (by rw [frzL_out hm]; exact n) hb hx
  · by_cases hm:b ∈ fz.map (·.1)
    · exact hideL_in hm
    · rw [hideL_out hm]
      exact un.free b o e (by rw [frzL_out hm]; exact n) hx
  · have hm:=out e
    rw [hideL_out hm]
    exact un.tups b xs (by rw [frzL_out hm]; exact e)
  · have hm:=out e
    rw [hideL_out hm]
    exact un.frzs b o w' (by rw [frzL_out hm]; exact e)
  · have hm:=out e
    rw [hideL_out hm]
    exact un.tbls b ps (by rw [frzL_out hm]; exact e)
end
section
variable {X:Cx} {k:Nat} {x:Str} {ps:List Str} {sp:Sp} {e:Expr} {es:List Expr} {t:TA} {p pos:Pos}
def tZ (zs:List (Str × Nat × Addr)) (sp:Sp) (t:TA):TE:=fun σ H Q=>t σ H fun vs H1=>∀ os:List Obj,os.length = zs.length→(∀ z ∈ zs,H1 z.2.2 = none) →
  (∀ (j:Nat) (z:Str × Nat × Addr),zs[j]? = some z→∃ o w,os[j]? = some o∧o.data = .cell w∧∀ v,σ[z.2.1]? = some (some v)→∃ u,w = some u∧RelV v u) →
  sp vs (frzL H1 ((zs.map (·.2.2)).zip os)) (fun v H2=>Q v (hideL H2 (zs.map (·.2.2)))) E0
theorem cells_now {pins:List (Addr × Obj)} {σ:St} {H:Hp} {s:Shared} (I:Inv X pins σ H s):∀ (zs:List (Str × Nat × Addr)),(∀ z ∈ zs,X.N[z.2.1]? = some z.1∧(X.env.scope.names.lookup z.1 = some .cell∨X.env.scope.names.lookup z.1 = some .free)∧X.env.cells.lookup z.1 = some z.2.2∧(X.fn z.1 = true∨(X.base.get? z.2.2 = none∧z.2.2 ∉ X.fs))) →
    ∃ os:List Obj,os.length = zs.length∧(∀ (j:Nat) (z:Str × Nat × Addr),zs[j]? = some z→∃ o w,os[j]? = some o∧s.heap.get? z.2.2 = some o∧o.data = .cell w∧∀ v,σ[z.2.1]? = some (some v)→∃ u,w = some u∧RelV v u)
  | [],_=>⟨[],rfl,fun j z e=>by simp at e⟩
  | z :: zs,h=>by
    obtain ⟨os,hl,ho⟩:=cells_now I zs fun q hq=>h q (List.mem_cons_of_mem _ hq)
    obtain ⟨h1,h2,h3,h4⟩:=h z List.mem_cons_self
    obtain ⟨w,o,e,d⟩:=I.cell _ _ h3
    refine ⟨o :: os,by rw [List.length_cons,List.length_cons,hl],fun j q hq=>?_⟩
    match j,hq with
    | 0,hq =>
      cases hq
      refine ⟨o,w,rfl,e,d,fun v hv=>?_⟩
      obtain ⟨m,hn,hloc⟩:=I.loc
      obtain ⟨u,r,l⟩:=hloc _ _ v h1 hv (.inr h2)
      rcases l with ⟨hk,_⟩ | ⟨_,c,hc,o',e',d'⟩
      · have hk:X.env.scope.names.lookup z.1 = some .local:=hk
        rcases h2 with h2 | h2 <;> rw [h2] at hk <;> cases hk
      · rw [h3] at hc
        cases hc
        rw [e] at e'
        cases e'
        rw [d] at d'
        injection d' with d'
        exact ⟨u,d',r⟩
    | j + 1,hq=>exact ho j q (by simpa using hq)
theorem zok_of {pins:List (Addr × Obj)} {σ:St} {H:Hp} {s:Shared} {zs:List (Str × Nat × Addr)} {os:List Obj} (I:Inv X pins σ H s)
    (hz:∀ z ∈ zs,X.N[z.2.1]? = some z.1∧(X.env.scope.names.lookup z.1 = some .cell∨X.env.scope.names.lookup z.1 = some .free)∧X.env.cells.lookup z.1 = some z.2.2∧(X.fn z.1 = true∨(X.base.get? z.2.2 = none∧z.2.2 ∉ X.fs))) (hl:os.length = zs.length)
    (ho:∀ (j:Nat) (z:Str × Nat × Addr),zs[j]? = some z→∃ o w,os[j]? = some o∧s.heap.get? z.2.2 = some o∧o.data = .cell w∧∀ v,σ[z.2.1]? = some (some v)→∃ u,w = some u∧RelV v u):FzOk X s ((zs.map (·.2.2)).zip os):=by
  have at_:∀ p ∈ (zs.map (·.2.2)).zip os,∃ z ∈ zs,z.2.2 = p.1∧s.heap.get? p.1 = some p.2:=fun p hp=>by
    obtain ⟨j,ej⟩:=List.getElem?_of_mem hp
    rw [List.getElem?_zip_eq_some,List.getElem?_map] at ej
    cases ez:zs[j]? with
    | none=>rw [ez] at ej; cases ej.1
    | some z =>
      rw [ez] at ej
      have e1:z.2.2 = p.1:=Option.some.inj ej.1
      obtain ⟨o,w,e2,e3,_⟩:=ho j z ez
      rw [ej.2] at e2
      cases e2
      exact ⟨z,List.mem_of_getElem? ez,e1,e1 ▸ e3⟩
  have new:∀ z ∈ zs,X.base.get? z.2.2 = none∧z.2.2 ∉ X.fs:=fun z hm=>by
    obtain ⟨_,_,h3,h4⟩:=hz z hm
    rcases h4 with h4 | h4
    · exact I.cellNew h3 h4
    · exact h4
  refine ⟨fun p hp=>?_,fun p hp=>?_,fun p hp=>?_,fun p hp=>?_⟩
  · obtain ⟨z,hm,e,_⟩:=at_ p hp
    exact ⟨z.1,e ▸ (hz z hm).2.2.1⟩
  · obtain ⟨z,hm,e,_⟩:=at_ p hp
    rw [← e]
    exact (new z hm).1
  · obtain ⟨z,hm,e,_⟩:=at_ p hp
    rw [← e]
    exact (new z hm).2
  · obtain ⟨z,hm,e,e2⟩:=at_ p hp
    exact e2
theorem pe_fnZ {zs:List (Str × Nat × Addr)} (C:Callee X.prog X.w X.K X.mg X.base k x ps sp) (hr:Room k X.A) (hg:Gl X x) (ha:PA X (e :: es) t) (hz:∀ z ∈ zs,X.N[z.2.1]? = some z.1∧(X.env.scope.names.lookup z.1 = some .cell∨X.env.scope.names.lookup z.1 = some .free)∧X.env.cells.lookup z.1 = some z.2.2∧(X.fn z.1 = true∨(X.base.get? z.2.2 = none∧z.2.2 ∉ X.fs)))
    (hdb:(x == ("__debug__" : Str)) = false:=by decide) (he:starEach (e :: es) X.env = (false,eval e X.env) :: starEach es X.env:=by rfl) (hpl:(backTo pos (starEach es X.env)).any (·.1) = false:=by rfl):PE X (.Call (.Name x p) (e :: es) [] pos) (tZ zs sp t):=by
  obtain ⟨f,fd,F,b,kk,m⟩:=C
  intro pins s σ H Q I h
  refine wpAny_Call_Name_kw (ld_glob I hg m ?_ hdb)
  refine PySem.W.callWith_K (h₀:=X.base) I.ok.mod.kin kk (thn (ha pos pins s σ H _ I h) fun us s1 ⟨vs,H1,I1,r,q⟩=>⟨I1.kIn,?_⟩) he hpl
  obtain ⟨os,hl,ho⟩:=cells_now I1 zs hz
  have hfst:((zs.map (·.2.2)).zip os).map (·.1) = zs.map (·.2.2):=List.map_fst_zip (by rw [List.length_map]; omega)
  have zok:=zok_of I1 hz hl ho
  have hs:=q os hl (fun z hm=>I1.freeC z.1 _ (hz z hm).2.2.1) fun j z ez=>let ⟨o,w,a1,_,a3,a4⟩:=ho j z ez; ⟨o,w,a1,a3,a4⟩
  have hlu:us.length = ps.length:=by rw [← r.length]; exact F.len _ _ _ _ hs
  refine wpAny_call (codeAny_mono (F.run X.A X.stack s1 _ ⟨us,[]⟩ us vs _ E0 hr (zok.env0 I1) (by have:=b s1 us I1.kIn (by rw [List.append_nil]; exact hlu); rw [List.append_nil] at this; exact this) r hs) fun r' s' hq=>?_)
  cases r' with
  | error e=>exact pass0 pins σ H1 s1 e s' I1 hq
  | ok fl =>
    cases fl with
    | ret u =>
      have hq:CE X.stack X.prog X.w _ s1 _ u s':=hq
      refine zok.after I1 ?_
      rw [hfst]
      exact hq
    | next=>exact False.elim hq
    | brk=>exact False.elim hq
    | cont=>exact False.elim hq
def tHeldZ (X:Cx) (zs:List (Str × Nat × Addr)) (k i:Nat) (t:TA):TE:=fun σ H Q=>∃ (f:Addr) (sp:Sp),σ[i]? = some (some (.ref f))∧FnO H f∧HFn X.prog X.w X.K X.mg X.base k f sp∧t σ H fun vs H1=>FnO H1 f∧∀ os:List Obj,os.length = zs.length→(∀ z ∈ zs,H1 z.2.2 = none) →
  (∀ (j:Nat) (z:Str × Nat × Addr),zs[j]? = some z→∃ o w,os[j]? = some o∧o.data = .cell w∧∀ v,σ[z.2.1]? = some (some v)→∃ u,w = some u∧RelV v u) →
  sp vs (frzL H1 ((zs.map (·.2.2)).zip os)) (fun v H2=>Q v (hideL H2 (zs.map (·.2.2)))) E0
theorem pe_heldZ {i:Nat} {zs:List (Str × Nat × Addr)} (hr:Room k X.A) (hN:X.N[i]? = some x) (hv:Vis X.env.scope x) (ha:PA X (e :: es) t) (hz:∀ z ∈ zs,X.N[z.2.1]? = some z.1∧(X.env.scope.names.lookup z.1 = some .cell∨X.env.scope.names.lookup z.1 = some .free)∧X.env.cells.lookup z.1 = some z.2.2∧(X.fn z.1 = true∨(X.base.get? z.2.2 = none∧z.2.2 ∉ X.fs)))
    (hd:(x == ("__debug__" : Str)) = false:=by decide) (hcd:(x == ("__classdict__" : Str)) = false:=by decide)
    (he:starEach (e :: es) X.env = (false,eval e X.env) :: starEach es X.env:=by rfl) (hpl:(backTo pos (starEach es X.env)).any (·.1) = false:=by rfl):PE X (.Call (.Name x p) (e :: es) [] pos) (tHeldZ X zs k i t):=by
  intro pins s σ H Q I h
  obtain ⟨f,sp,ef,fo,⟨fd,pn,F,hb⟩,h⟩:=h
  have at_:∀ {H:Hp} {s:Shared} {σ:St},Inv X pins σ H s→FnO H f→PySem.W.FnAt f s.heap:=fun I' ⟨o,fd,e,d⟩=>by
    have:=(I'.hok f _ e).1
    obtain ⟨oc,od,dt,sl⟩:=o
    simp only at d
    subst d
    exact ⟨oc,od,fd,sl,this⟩
  refine wpAny_Call_Name_kw (thn (pe_var hN hv hd hcd pins s σ H (fun v H'=>v = .ref f∧H' = H) I ⟨_,ef,rfl,rfl⟩) fun u s1 ⟨v,H1,I1,r1,q1⟩=>?_)
  obtain ⟨rfl,rfl⟩:=q1
  cases (show u = Value.ref f from r1)
  refine PySem.W.callWith_F (at_ I1 fo) (thn (ha pos pins s1 σ H1 _ I1 h) fun us s2 ⟨vs,H2,I2,r2,fo2,q2⟩=>⟨at_ I2 fo2,?_⟩) he hpl
  obtain ⟨os,hl,ho⟩:=cells_now I2 zs hz
  have hfst:((zs.map (·.2.2)).zip os).map (·.1) = zs.map (·.2.2):=List.map_fst_zip (by rw [List.length_map]; omega)
  have zok:=zok_of I2 hz hl ho
  have hs:=q2 os hl (fun z hm=>I2.freeC z.1 _ (hz z hm).2.2.1) fun j z ez=>let ⟨o,w,a1,_,a3,a4⟩:=ho j z ez; ⟨o,w,a1,a3,a4⟩
  have hlu:us.length = pn.length:=by rw [← r2.length]; exact F.len _ _ _ _ hs
  refine wpAny_call (codeAny_mono (F.run X.A X.stack s2 _ ⟨us,[]⟩ us vs _ E0 hr (zok.env0 I2) (by have:=hb s2 us I2.kIn (by rw [List.append_nil]; exact hlu); rw [List.append_nil] at this; exact this) r2 hs) fun r' s' hq=>?_)
  cases r' with
  | error e=>exact pass0 pins σ H2 s2 e s' I2 hq
  | ok fl =>
    cases fl with
    | ret u =>
      have hq:CE X.stack X.prog X.w _ s2 _ u s':=hq
      refine zok.after I2 ?_
      rw [hfst]
      exact hq
    | next=>exact False.elim hq
    | brk=>exact False.elim hq
    | cont=>exact False.elim hq
end
end L2
namespace L2
open PySem PySem.Spec PyProof.Rows PySem.W
def OnlyT (tabs:List (Addr × Addr)) (H:Hp):Prop:=∀ b,H b = none∨(∃ o xs,H b = some (.frz o (.lst xs)))∨(b ∈ tabs.map (·.2)∧H b = some (.tbl #[]))
theorem law_callT {P:Program} {w:World} {K:PySem.W.Frag} {mg mb:Str→Option Value} {CX:CXT} {k:Nat} {fa a:Addr} {fd:FuncData} {x:Str} {sp:Sp} {s₁:Shared} {vs:List Value} {ns:List Int} {tabs:List (Addr × Addr)}
    (KX:K.In s₁.heap) (hns:s₁.heap.Ns mainGlobals mg) (hb:s₁.heap.Ns builtinsNs mb) (hbb:∀ x:Str,x ≠ "__name__" → mb x = bootBuiltins x) (hlim:s₁.heap.NoLimit) (hg:s₁.gens = #[])
    (ha:s₁.heap.get? a = some { cls:=.type "list",data:=.seq vs.toArray }) (hi:IntsAre vs ns) (hl:ns.length ≤ sizeLine) (hr:Room k callerA)
    (hT:TabsAt tabs s₁.heap) (hnK:noTabs K = true) (hbm:∃ bm ob,mg "__builtins__" = some (.ref bm)∧bm ≠ builtinsNs∧s₁.heap.get? bm = some ob∧ob.cls = .type "module" ∧ ob.dict = some builtinsNs∧ob.data = .plain)
    (F:∀ base:Heap,K.In base→base.Ns mainGlobals mg→(∀ q ∈ tabs,CodeHd base q.1 q.2∧base.BuiltinsAt mg q.2)→FnOk P w K mg base CX k fa fd [x] sp) (hbind:∀ (s:Shared) (u:Value),BindsTo s fd ⟨[u],[]⟩ [(x,u)])
    (hsp:∀ H:Hp,OnlyT tabs H→SqL K H a (ns.map V.int)→(∀ q ∈ tabs,H q.2 = some (.tbl #[]))→sp [.ref a] H (fun v _=>v = .bl true) fun _ _ _=>False)
    (hCX:∀ H e s',CX [] H s₁ (fun _ _ _=>False) e s'→False) :
    codeAny (model P w) callerA (.call (.ref fa) ⟨[.ref a],[]⟩) (fun r s'=>r = .ok (.ret (.bool true))∧OldK s₁.heap s'.heap∧s'.os = s₁.os∧AllBare s'.gens) s₁:=by
  have rv:=vals_ints hi
  have lenV:=hi.length
  have tabE:∀ b ∈ tabs.map (·.2),s₁.heap.get? b = some (tabObj #[]):=fun b hb'=>by
    obtain ⟨q,hq,rfl⟩:=List.mem_map.mp hb'
    exact (hT q hq).2
  have aT:a ∉ tabs.map (·.2):=fun z=>by
    have e:=tabE a z
    rw [ha] at e
    cases e
  have core:∀ H:Hp,OnlyT tabs H→SqL K H a (ns.map V.int)→HOk P w H s₁.heap→(∀ b,H b ≠ none→b = a∨b ∈ tabs.map (·.2))→(H a ≠ none→K.lookup a = none)→(∀ q ∈ tabs,H q.2 = some (.tbl #[])) →
      codeAny (model P w) callerA (.call (.ref fa) ⟨[.ref a],[]⟩) (fun r s'=>r = .ok (.ret (.bool true))∧OldK s₁.heap s'.heap∧s'.os = s₁.os∧AllBare s'.gens) s₁:=by
    intro H hO hS hok hA hK hTb
    have base_of:∀ {b:Addr} {o:Obj},s₁.heap.get? b = some o→H b = none→(hidT s₁.heap H).get? b = some o:=fun e n=>hidT_get e n
    have noO:∀ {b:Addr} {o:Obj},s₁.heap.get? b = some o→(b = a→False)→o ≠ tabObj #[]→H b = none:=fun {b o} e n1 n2=>by
      cases q:H b with
      | none=>rfl
      | some u =>
        rcases hA b (by rw [q]; simp) with z | z
        · exact (n1 z).elim
        · have:=tabE b z
          rw [e] at this
          exact absurd (Option.some.inj this) n2
    have noA:∀ {b:Addr} {o:Obj} {es:Array DictEntry} {ep:Nat},s₁.heap.get? b = some o→o.data = .dict es ep→H b = none:=fun {b o es ep} e d=>noO e (fun z=>by
      subst z
      rw [ha] at e
      cases e
      have d' : Data.seq vs.toArray _ = Data.dict es ep:=d
      cases d') (fun z=>by rw [z] at d; cases d)
    have noC:∀ {b:Addr} {o:Obj} {T:String},s₁.heap.get? b = some o→o.cls = .type T→T ≠ "list" → H b = none:=fun {b o T} e d hT'=>noO e (fun z=>by
      subst z
      rw [ha] at e
      cases e
      have d' : Value.type "list" = Value.type T:=d
      injection d' with d'
      exact hT' d'.symm) (fun z=>by rw [z] at d; cases d)
    have nsK:∀ {b:Addr} {m:Str→Option Value},s₁.heap.Ns b m→(hidT s₁.heap H).Ns b m:=fun {b m} ⟨o,es,ep,e,d,r⟩=>⟨o,es,ep,base_of e (noA e d),d,r⟩
    have hKb:K.In (hidT s₁.heap H):=fun b o e=>base_of (KX b o e) (by
      cases q:H b with
      | none=>rfl
      | some u =>
        rcases hA b (by rw [q]; simp) with z | z
        · subst z
          rw [hK (by rw [q]; simp)] at e; cases e
        · have e2:=tabE b z
          rw [KX b o e] at e2
          cases e2
          have h2:=List.all_eq_true.mp hnK (b,tabObj #[]) (mem_of_lookupK e)
          exact absurd (show false = true from h2) Bool.false_ne_true)
    have hM:Mod K mg (hidT s₁.heap H):=⟨hKb,nsK hns,⟨mb,nsK hb,hbb⟩,let ⟨mc,h1,h2⟩:=hlim; ⟨mc,nsK h1,h2⟩⟩
    have e0:Env0 P w K mg (hidT s₁.heap H) callerA [] s₁ H:=⟨rfl,hM,fun b o e=>of_hidT e,Nat.le_of_eq (hidT_size _ _),trivial,fun b hb=>absurd (show b ∈ ([]:List Addr) from hb) (by simp),hok,.of_eq hg⟩
    have hTB:∀ q ∈ tabs,CodeHd (hidT s₁.heap H) q.1 q.2∧(hidT s₁.heap H).BuiltinsAt mg q.2:=fun q hq=>by
      obtain ⟨o,vs',file,tf,flags,tg,inF,text,tt,e1,r1,r2⟩:=(hT q hq).1
      obtain ⟨bm,ob,b1,b2,b3,b4,b5,b6⟩:=hbm
      refine ⟨⟨o,vs',file,tf,flags,tg,inF,text,tt,base_of e1 (noC e1 r1 (by decide)),r1,r2⟩,bm,ob,b1,b2,fun z=>?_,fun z=>?_,base_of b3 (noC b3 b4 (by decide)),b4,b5,b6⟩
      · obtain ⟨o',es,ep,e,d,_⟩:=hns
        rw [z,e] at b3; cases b3; rw [d] at b6; cases b6
      · have e2:=(hT q hq).2
        rw [z,e2] at b3; cases b3; cases b4
    refine codeAny_mono ((F _ hKb (nsK hns) hTB).run callerA [] s₁ H ⟨[.ref a],[]⟩ [.ref a] [.ref a] _ _ hr e0 (hbind s₁ (.ref a)) (.cons rfl .nil) (hsp H hO hS hTb)) fun r s' h=>?_
    cases r with
    | error e=>exact (hCX H e s' h).elim
    | ok fl =>
      cases fl with
      | next=>exact False.elim h
      | brk=>exact False.elim h
      | cont=>exact False.elim h
      | ret u =>
        obtain ⟨v,H',os,bare,un,hok',r',q⟩:=h
        have q' : v = .bl true:=q
        subst q'
        obtain rfl:u = Value.bool true:=r'
        have kept:∀ b o,b ∉ tabs.map (·.2)→s₁.heap.get? b = some o→s'.heap.get? b = some o:=fun b o hb' e=>by
          cases q:H b with
          | none=>exact un.keep b o e q (by intro z; exact absurd (show b ∈ ([]:List Addr) from z) (by simp)) (by simp)
          | some u =>
            rcases hO b with z | ⟨ob,xs,z⟩ | ⟨z,_⟩
            · rw [q] at z; cases z
            · have z2:=un.frzs b ob _ z
              obtain ⟨e1,_⟩:=hok b _ z
              obtain ⟨e2,_⟩:=hok' b _ z2
              rw [e] at e1; cases e1
              exact e2
            · exact absurd z hb'
        have grown:∀ b ∈ tabs.map (·.2),isCodeTable s₁.heap b∧∃ more,s'.heap.get? b = some (tabObj more):=fun b hb'=>by
          obtain ⟨qq,hq,rfl⟩:=List.mem_map.mp hb'
          obtain ⟨more,e⟩:=un.tbls _ _ (hTb qq hq)
          have e2:s'.heap.get? qq.2 = some (tabObj (#[] ++ more)):=hok' _ _ e
          exact ⟨((hT qq hq).1.tab (hT qq hq).2).isCodeTable,_,e2⟩
        refine ⟨rfl,⟨fun b o e=>?_,fun b o e=>?_⟩,os,bare⟩
        · by_cases hb' : b ∈ tabs.map (·.2)
          · obtain ⟨ht,more,e2⟩:=grown b hb'
            have e3:=tabE b hb'
            rw [e] at e3
            cases e3
            exact .inr (.inl ⟨ht,rfl,#[],more,rfl,by rw [Array.empty_append]; exact e2⟩)
          · exact .inl (kept b o hb' e)
        · by_cases hb' : b ∈ tabs.map (·.2)
          · obtain ⟨_,more,e2⟩:=grown b hb'
            exact ⟨_,e2⟩
          · exact ⟨o,kept b o hb' e⟩
  cases hk:K.lookup a with
  | some o =>
    have e:=KX a o hk
    rw [ha] at e
    cases e
    refine core (fun b=>if b ∈ tabs.map (·.2) then some (.tbl #[]) else none) (fun b=>?_) (.inr ⟨_,vs.toArray,_,hk,rfl,rfl,rfl,by rw [List.size_toArray,lenV]; exact hl,by simpa using rv⟩) (fun b u z=>?_) (fun b z=>?_) (fun z=>absurd (if_neg aT) z) fun q hq=>if_pos (List.mem_map.mpr ⟨q,hq,rfl⟩)
    · by_cases hb' : b ∈ tabs.map (·.2)
      · exact .inr (.inr ⟨hb',if_pos hb'⟩)
      · exact .inl (if_neg hb')
    · by_cases hb' : b ∈ tabs.map (·.2)
      · have z':=(if_pos hb').symm.trans z
        cases z'
        exact tabE b hb'
      · have z':=(if_neg hb').symm.trans z
        cases z'
    · by_cases hb' : b ∈ tabs.map (·.2)
      · exact .inr hb'
      · exact absurd (if_neg hb') z
  | none =>
    refine core (fun b=>if b = a then some (.frz { cls:=.type "list",data:=.seq vs.toArray } (.lst (ns.map V.int))) else if b ∈ tabs.map (·.2) then some (.tbl #[]) else none) (fun b=>?_) (.inl (.inr ⟨{ cls:=.type "list",data:=.seq vs.toArray },if_pos rfl⟩)) (fun b u z=>?_) (fun b z=>?_) (fun _=>hk) fun q hq=>?_
    · by_cases hb' : b = a
      · exact .inr (.inl ⟨_,_,if_pos hb'⟩)
      · by_cases hc:b ∈ tabs.map (·.2)
        · exact .inr (.inr ⟨hc,(if_neg hb').trans (if_pos hc)⟩)
        · exact .inl ((if_neg hb').trans (if_neg hc))
    · by_cases hb' : b = a
      · have z':=(if_pos hb').symm.trans z
        cases z'
        subst hb'
        exact ⟨ha,by rw [List.length_map]; exact hl,vs,_,rv,ha⟩
      · by_cases hc:b ∈ tabs.map (·.2)
        · have z':=((if_neg hb').trans (if_pos hc)).symm.trans z
          cases z'
          exact tabE b hc
        · have z':=((if_neg hb').trans (if_neg hc)).symm.trans z
          cases z'
    · by_cases hb' : b = a
      · exact .inl hb'
      · by_cases hc:b ∈ tabs.map (·.2)
        · exact .inr hc
        · exact absurd ((if_neg hb').trans (if_neg hc)) z
    · have hm:q.2 ∈ tabs.map (·.2):=List.mem_map.mpr ⟨q,hq,rfl⟩
      have hne:q.2 ≠ a:=fun z=>aT (z ▸ hm)
      exact (if_neg hne).trans (if_pos hm)
theorem walk_ofT {l:PySem.W.OpenLaw} {n k:Nat} {q:Program} {loose:List Str} {XP:(Str→Option Value)→Heap→Prop} {YP:World→Heap→Prop} {d:DefRec} {K:Params→PySem.W.Frag} {CX:World→CXT} {sp:World→Sp} {x:Str} {tabs:Params→List (Addr × Addr)} {xs:List Str}
    (hn:l.most = some n) (hn2:n ≤ sizeLine) (hdf:d.params.defaults = []) (hr:Room k callerA)
    (hY:∀ (w:World) (h:Heap),YP w h→(K w.params).In h) (hnK:∀ p:Params,noTabs (K p) = true)
    (hxs:∀ y ∈ xs,∃ d',(recsOf q).find? (fun e=>e.name == y) = some d') (htab:∀ p:Params,∀ t ∈ tabs p,∃ y ∈ xs,tabIn (K p) y = some t)
    (F:∀ (w:World) (mg:Str→Option Value) (fa:Addr) (h:Heap),(K w.params).In h→h.Ns mainGlobals mg→mg d.name = some (.ref fa) →
      ∃ fd:FuncData,(∀ (s:Shared) (u:Value),BindsTo s fd ⟨[u],[]⟩ [(x,u)]) ∧
        ∀ base:Heap,(K w.params).In base→base.Ns mainGlobals mg→(∀ q ∈ tabs w.params,CodeHd base q.1 q.2∧base.BuiltinsAt mg q.2)→FnOk l.prog w (K w.params) mg base (CX w) k fa fd [x] (sp w))
    (hsp:∀ (w:World) (H:Hp) (a:Addr) (ns:List Int),ns.length ≤ n→OnlyT (tabs w.params) H→SqL (K w.params) H a (ns.map V.int)→(∀ q ∈ tabs w.params,H q.2 = some (.tbl #[]))→sp w [.ref a] H (fun v _=>v = .bl true) fun _ _ _=>False)
    (hCX:∀ (w:World) (H:Hp) (s:Shared) (e:Value) (s' : Shared),CX w [] H s (fun _ _ _=>False) e s'→False) :
    PySem.W.WalkO q loose XP YP l.row.toRowW d [] (fun f vs=>PySem.call f vs):=by
  refine Att.attach_call hn hdf fun w s₀ s₁ mg mb fa o pm cd doc a vs ns G Y ho hd hcd hmg hobj hints hlen hg=>?_
  have KX:=hY w _ Y
  obtain ⟨fd,hb,hF⟩:=F w mg fa _ KX G.T.g hmg
  refine law_callT KX G.T.g G.T.b G.T.builtins G.T.nolimit hg hobj hints (Nat.le_trans hlen hn2) hr (tabs:=tabs w.params) (fun t ht=>?_) (hnK w.params) G.T.bmain hF hb (fun H hO hS hTb=>hsp w H a ns hlen hO hS hTb) fun H e s'=>hCX w H s₁ e s'
  obtain ⟨y,hy,e⟩:=htab w.params t ht
  obtain ⟨d',hd'⟩:=hxs y hy
  exact tab_of G.T KX hd' e
end L2
namespace L2
open PySem PySem.Spec PyProof.Rows
section
variable {P:Program} {w:World} {K:PySem.W.Frag} {mg:Str→Option Value} {base:Heap}
theorem Fun.okT {x qual:Str} {st:Stmt} {f c:Addr} {fd:FuncData} {N ps:List Str} {k:Nat} {sp:Sp} (F:Fun K x qual st f fd) (hc:fd.code = .ref c) (S:FnScope N ps (defScope st)) (len:∀ vs H Q E,sp vs H Q E→vs.length = ps.length)
    (hbody:∀ (A:Around) (outer:List Env) (s:Shared) (H:Hp) (vs:List V) (Q:VK) (E:XK),Room k (A.deeper (envOfC qual (defScope st) s.heap.objs.size f (.ref c)))→sp vs H Q E →
      ∃ t,PSs (cxOf CX0 P w K mg base N qual (defScope st) f (.ref c) A outer s H E).nox (defBody st) t∧t { nx:=fun _ H'=>Q .non H',rt:=Q } (start N vs) H):FnOk P w K mg base CX0 (k + 1) f fd ps sp:=by
  obtain ⟨oc,od,kV,doc,pm,an,cdv,ct,osl,rfl,lk,hcd⟩:=F.ex
  have hc:cdv = .ref c:=hc
  subst hc
  refine fn_of lk hcd S len fun A outer s H vs Q E hr hsp=>?_
  obtain ⟨t,h,q⟩:=hbody A outer s H vs Q E hr hsp
  exact ⟨t,h.nox,q⟩
def CloAt (H:Hp) (f c' : Addr) (fo:Obj) (qual:Str) (cl:List (Str × Addr)) (ws:List (Str × V)):Prop:=H f = some (.frz fo TTh)∧(∃ oc,H c' = some (.frz oc TTh)∧CodeO oc qual)∧CellsAt H cl ws
theorem CloAt.same {H H' : Hp} {f c' : Addr} {fo:Obj} {qual:Str} {cl:List (Str × Addr)} {ws:List (Str × V)} (h:CloAt H f c' fo qual cl ws) (s:Same H H'):CloAt H' f c' fo qual cl ws :=
  ⟨s _ _ h.1,let ⟨oc,e,q⟩:=h.2.1; ⟨oc,s _ _ e,q⟩,h.2.2.same s⟩
theorem clo_ok {x qual:Str} {ps:List Str} {st:Stmt} {f c' : Addr} {cl:List (Str × Addr)} {doc pm ctv:Value} {N:List Str} {k:Nat} {sp:Sp} (S:CScope N ps (defScope st) cl) (inj:∀ x y c,cl.lookup x = some c→cl.lookup y = some c→x = y)
    (hb:∀ us:List Value,us.length = ps.length→bindArgs (PySem.W.fnX x qual (defArgs st) (defBody st) (defScope st) cl .none .none doc pm none (.ref c') ctv) ⟨us,[]⟩ = pure (ps.zip us))
    (len:∀ vs H Q E,sp vs H Q E→vs.length = ps.length)
    (hbody:∀ (A:Around) (outer:List Env) (s:Shared) (H:Hp) (vs:List V) (Q:VK) (E:XK),Room k (A.deeper (PySem.W.envX qual (defScope st) s.heap.objs.size f (.ref c') cl))→sp vs H Q E →
      ∃ ws,CloAt H f c' (PySem.W.fnMade x qual (defArgs st) (defBody st) (defScope st) cl doc pm c' ctv) qual cl ws∧(∀ y ∈ N.drop ps.length,∀ v,ws.lookup y = some v→(defScope st).names.lookup y = some .free) ∧
      ((∀ c ∈ cl.map (·.2),base.get? c = none∧c ∉ frs outer)→∃ t,PSs (cxC CX0 P w K mg base N qual (defScope st) f (.ref c') cl A outer s H E).nox (defBody st) t∧t { nx:=fun _ H'=>(∀ c ∈ cl.map (·.2),H' c = none)→Q .non (backL H H' (cl.map (·.2))),rt:=fun v H'=>(∀ c ∈ cl.map (·.2),H' c = none)→Q v (backL H H' (cl.map (·.2))) } (startC N ps vs ws) (hideL H (cl.map (·.2))))) :
    HFn P w K mg base (k + 1) f sp:=by
  refine ⟨_,ps,fnc_of (name:=x) (qual:=qual) (c':=c') (params:=defArgs st) (body:=defBody st) (doc:=doc) (pm:=pm) (ctv:=ctv) S inj len fun A outer s H vs Q E hr hsp=>?_,.all fun us hl=>?_⟩
  · obtain ⟨ws,⟨h1,⟨oc,h2,h3⟩,h4⟩,h5,h6⟩:=hbody A outer s H vs Q E hr hsp
    refine ⟨⟨oc,h1,h2,h3⟩,ws,h4,h5,fun hc=>?_⟩
    obtain ⟨t,a,b⟩:=h6 hc
    exact ⟨t,a.nox,b⟩
  · exact hb us hl
theorem cells_of {zs:List (Str × Nat × Addr)} {os:List Obj} {H:Hp} {σ:St} {cl:List (Str × Addr)} {ws:List (Str × V)} (hl:os.length = zs.length) (nd:(zs.map (·.2.2)).Nodup)
    (ho:∀ (j:Nat) (z:Str × Nat × Addr),zs[j]? = some z→∃ o w,os[j]? = some o∧o.data = .cell w∧∀ v,σ[z.2.1]? = some (some v)→∃ u,w = some u∧RelV v u)
    (h1:∀ c ∈ cl.map (·.2),∃ z ∈ zs,z.2.2 = c) (h2:∀ (x:Str) (v:V),ws.lookup x = some v→∃ z ∈ zs,cl.lookup x = some z.2.2∧σ[z.2.1]? = some (some v)):CellsAt (frzL H ((zs.map (·.2.2)).zip os)) cl ws:=by
  have at_:∀ z ∈ zs,∃ o w,frzL H ((zs.map (·.2.2)).zip os) z.2.2 = some (.frz o TTh)∧o.data = .cell w∧∀ v,σ[z.2.1]? = some (some v)→∃ u,w = some u∧RelV v u:=fun z hz=>by
    obtain ⟨j,ej⟩:=List.getElem?_of_mem hz
    obtain ⟨o,w,e1,e2,e3⟩:=ho j z ej
    have hfst:((zs.map (·.2.2)).zip os).map (·.1) = zs.map (·.2.2):=List.map_fst_zip (by rw [List.length_map]; omega)
    obtain ⟨o',hm,e4⟩:=frzL_in (H:=H) (fz:=(zs.map (·.2.2)).zip os) (b:=z.2.2) (by rw [hfst]; exact List.mem_map.mpr ⟨z,hz,rfl⟩)
    obtain ⟨i,ei⟩:=List.getElem?_of_mem hm
    rw [List.getElem?_zip_eq_some] at ei
    have ez:(zs.map (·.2.2))[j]? = some z.2.2:=by rw [List.getElem?_map,ej]; rfl
    obtain ⟨a1,b1⟩:=List.getElem?_eq_some_iff.mp ei.1
    obtain ⟨a2,b2⟩:=List.getElem?_eq_some_iff.mp ez
    have hij:i = j:=(List.getElem_inj nd).mp (b1.trans b2.symm)
    subst hij
    have eo:o = o':=Option.some.inj (e1.symm.trans ei.2)
    subst eo
    exact ⟨o,w,e4,e2,e3⟩
  refine ⟨fun c hc=>?_,fun x v e=>?_⟩
  · obtain ⟨z,hz,rfl⟩:=h1 c hc
    obtain ⟨o,w,a,b,_⟩:=at_ z hz
    exact ⟨o,w,a,b⟩
  · obtain ⟨z,hz,e1,e2⟩:=h2 x v e
    obtain ⟨o,w,a,b,d⟩:=at_ z hz
    obtain ⟨u,rfl,r⟩:=d v e2
    exact ⟨z.2.2,o,u,e1,a,b,r⟩
end
end L2
namespace L2
open PySem PySem.Spec PyProof.Rows PySem.W
theorem has_of {sc:Scope} {cl:List (Str × Addr)} (h:(sc.names.all fun y=>match y.2 with | .free=>(cl.map (·.1)).any (y.1 == ·) | _=>true) = true):∀ y ∈ sc.names,y.2 = .free→∃ c,cl.lookup y.1 = some c:=fun y hy e=>by
  have:=List.all_eq_true.mp h y hy
  rw [e] at this
  obtain ⟨z,hz,ez⟩:=List.any_eq_true.mp this
  obtain ⟨p,hp,rfl⟩:=List.mem_map.mp hz
  cases q:cl.lookup y.1 with
  | some c=>exact ⟨c,rfl⟩
  | none =>
    have:=List.lookup_eq_none_iff.mp q p hp
    simp [bne,ez] at this
theorem free_of {N:List Str} {sc:Scope} {ws:List (Str × V)} (h:((ws.map (·.1)).all fun x=>match sc.names.lookup x with | some .free=>true | _=>false) = true):∀ y ∈ N,∀ v,ws.lookup y = some v→sc.names.lookup y = some .free:=fun y _ v e=>by
  have:=List.all_eq_true.mp h y (List.mem_map.mpr ⟨(y,v),PySem.mem_of_lookup e,rfl⟩)
  split at this
  · assumption
  · cases this
theorem tab_mk {K:Frag} {x qual:Str} {st:Stmt} {f c P:Addr} {oc kV doc pm ct:Value} {od an:Option Addr} {osl:Array (Option Value)} {o1:Value} {o2:Option Addr} {vs:Array Value} {o3:Array (Option Value)} (a:nsIn K mainGlobals x = some (some (.ref f)))
    (l:K.lookup f = some ⟨oc,od,.func (fnOf x qual (defArgs st) (defBody st) (defScope st) .none kV doc pm an (.ref c) ct),osl⟩) (lc:K.lookup c = some ⟨o1,o2,.fields vs,o3⟩) (e:vs[11]? = some (.ref P)):tabIn K x = some (c,P):=by
  unfold tabIn
  rw [a]
  simp only [l]
  show (match K.lookup c with | some ⟨_,_,.fields vs,_⟩=>(match (vs[11]? : Option Value) with | some (.ref P)=>some (c,P) | _=>none) | _=>none) = some (c,P)
  rw [lc]
  simp only [e]
section
variable {zs:List (Str × Nat × Addr)} {os:List Obj} {H H2:Hp}
theorem fz_cells (hl:os.length = zs.length):((zs.map (·.2.2)).zip os).map (·.1) = zs.map (·.2.2):=List.map_fst_zip (by rw [List.length_map]; omega)
theorem frz_same (hl:os.length = zs.length) (hf:∀ z ∈ zs,H z.2.2 = none):Same H (frzL H ((zs.map (·.2.2)).zip os)):=fun b u e=>by
  rw [frzL_out fun m=>?_]
  · exact e
  · rw [fz_cells hl] at m
    obtain ⟨z,hz,rfl⟩:=List.mem_map.mp m
    rw [hf z hz] at e
    cases e
theorem hide_same (hl:os.length = zs.length) (hf:∀ z ∈ zs,H z.2.2 = none) (s:Same (frzL H ((zs.map (·.2.2)).zip os)) H2):Same H (hideL H2 (zs.map (·.2.2))):=fun b u e=>by
  rw [hideL_out fun m=>?_]
  · exact s _ _ (frz_same hl hf _ _ e)
  · obtain ⟨z,hz,rfl⟩:=List.mem_map.mp m
    rw [hf z hz] at e
    cases e
theorem hide_tups (hl:os.length = zs.length) (s:Same (frzL H ((zs.map (·.2.2)).zip os)) H2):SameT H2 (hideL H2 (zs.map (·.2.2))):=fun b xs e=>by
  rw [hideL_out fun m=>?_]
  · exact e
  · rw [← fz_cells hl] at m
    obtain ⟨o,_,q⟩:=frzL_in (H:=H) m
    rw [s _ _ q] at e
    cases e
end
end L2
namespace L2
open PySem PySem.Spec PyProof.Rows
section
variable {X:Cx} {pins:List (Addr × Obj)} {σ:St} {H:Hp} {s:Shared}
end
section
variable {X:Cx} {k:Nat} {x:Str} {ps:List Str} {sp:Sp} {e:Expr} {es:List Expr} {t:TA} {p pos:Pos}
def tFnXZ (zs:List (Str × Nat × Addr)) (sp:Sp) (t:TA):TX:=fun σ H Q EX=>t σ H fun vs H1=>∀ os:List Obj,os.length = zs.length→(∀ z ∈ zs,H1 z.2.2 = none) →
  (∀ (j:Nat) (z:Str × Nat × Addr),zs[j]? = some z→∃ o w,os[j]? = some o∧o.data = .cell w∧∀ v,σ[z.2.1]? = some (some v)→∃ u,w = some u∧RelV v u) →
  sp vs (frzL H1 ((zs.map (·.2.2)).zip os)) (fun v H2=>Q v (hideL H2 (zs.map (·.2.2)))) fun cv _ H2=>∃ C,cv = .ref C∧EX C (hideL H2 (zs.map (·.2.2)))
end
end L2
namespace L2
open PySem PySem.Spec PyProof.Rows
abbrev T3a (α:Type):=Int × Int × α
def Fm (L:Type):Nat→Type
  | 0=>L
  | n + 1=>List (Int × Int × Fm L n)
def Fm.dec {L:Type} [d:DecidableEq L]:(n:Nat)→DecidableEq (Fm L n)
  | 0=>d
  | n + 1=>have:=Fm.dec (L:=L) n; (inferInstance:DecidableEq (List (Int × Int × Fm L n)))
instance {L:Type} [DecidableEq L] (n:Nat):DecidableEq (Fm L n):=Fm.dec n
section
variable {α:Type}
def cstep [DecidableEq α] (f:List (T3a α)) (t:T3a α):List (T3a α):=match f.getLast? with
  | some l=>if l.2.2 = t.2.2 then f.dropLast ++ [(l.1,t.2.1,t.2.2)] else f ++ [t]
  | none=>f ++ [t]
def closeF [DecidableEq α] (ts:List (T3a α)):List (T3a α):=ts.foldl cstep []
def Ch3:List (T3a α)→Int→Int→Prop
  | [],lo,hi=>lo = hi + 1
  | t :: r,lo,hi=>t.1 = lo∧lo ≤ t.2.1∧Ch3 r (t.2.1 + 1) hi
theorem Ch3.snoc {t:T3a α} : ∀ {f:List (T3a α)} {lo mid:Int},Ch3 f lo mid→t.1 = mid + 1→t.1 ≤ t.2.1→Ch3 (f ++ [t]) lo t.2.1
  | [],lo,mid,h,e,l=>⟨by rw [e]; exact h.symm,by have:lo = mid + 1:=h; omega,rfl⟩
  | u :: f,lo,mid,h,e,l=>⟨h.1,h.2.1,Ch3.snoc (f:=f) h.2.2 e l⟩
theorem Ch3.unsnoc {t:T3a α} : ∀ {f:List (T3a α)} {lo hi:Int},Ch3 (f ++ [t]) lo hi→t.2.1 = hi∧t.1 ≤ t.2.1∧Ch3 f lo (t.1 - 1)
  | [],lo,hi,h=>⟨by have:t.2.1 + 1 = hi + 1:=h.2.2; omega,by have:=h.1; have:=h.2.1; omega,by show lo = t.1 - 1 + 1; have:=h.1; omega⟩
  | u :: f,lo,hi,h=>let ⟨a,b,c⟩:=Ch3.unsnoc (f:=f) h.2.2; ⟨a,b,h.1,h.2.1,c⟩
def Nbx (ys:List α):Prop:=∀ (i:Nat) (a b:α),ys[i]? = some a→ys[i + 1]? = some b→a ≠ b
theorem Nbx.snoc {ys:List α} {y:α} (h:Nbx ys) (hl:∀ l,ys.getLast? = some l→l ≠ y):Nbx (ys ++ [y]):=fun i a b ha hb=>by
  have hi:=(List.getElem?_eq_some_iff.mp hb).1
  simp only [List.length_append,List.length_singleton] at hi
  by_cases h1:i + 1 < ys.length
  · rw [List.getElem?_append_left (by omega)] at ha
    rw [List.getElem?_append_left h1] at hb
    exact h i a b ha hb
  · have h2:i + 1 = ys.length:=by omega
    rw [List.getElem?_append_left (by omega)] at ha
    rw [h2] at hb
    simp at hb
    subst hb
    refine hl a ?_
    rw [List.getLast?_eq_getElem?]
    rw [show ys.length - 1 = i by omega]
    exact ha
def vAt (f:List (T3a α)) (c:Int):Option α:=(f.find? fun t=>decide (c ≤ t.2.1)).map (·.2.2)
theorem vAt_app (f g:List (T3a α)) (c:Int):vAt (f ++ g) c = (vAt f c).or (vAt g c):=by
  unfold vAt
  rw [List.find?_append]
  cases f.find? _ <;> rfl
theorem vAt_one (t:T3a α) (c:Int):vAt [t] c = if c ≤ t.2.1 then some t.2.2 else none:=by
  unfold vAt
  by_cases h:c ≤ t.2.1 <;> simp [h]
structure ClOk (ts f:List (T3a α)) (lo hi:Int):Prop where
  ch:Ch3 f lo hi
  nb:Nbx (f.map (·.2.2))
  va:∀ c,vAt f c = vAt ts c
  mem:∀ t ∈ f,∃ t' ∈ ts,t'.2.2 = t.2.2
  ne:ts ≠ []→f ≠ []
theorem ClOk.step [DecidableEq α] {ts f:List (T3a α)} {lo mid:Int} {t:T3a α} (h:ClOk ts f lo mid) (e:t.1 = mid + 1) (l:t.1 ≤ t.2.1):ClOk (ts ++ [t]) (cstep f t) lo t.2.1:=by
  rcases List.eq_nil_or_concat f with hf | ⟨f',u,hf⟩
  · subst hf
    have:cstep [] t = [t]:=rfl
    rw [this]
    refine ⟨Ch3.snoc (f:=[]) h.ch e l,fun i a b ha hb=>by simp at hb,fun c=>?_,fun v hv=>⟨t,by simp,by rw [List.mem_singleton.mp hv]⟩,fun _=>by simp⟩
    rw [vAt_app,← h.va c]
    rfl
  · rw [List.concat_eq_append] at hf
    subst hf
    have hc:=h.ch.unsnoc
    have eg:(f' ++ [u]).getLast? = some u:=by simp
    unfold cstep
    rw [eg]
    simp only
    by_cases q:u.2.2 = t.2.2
    · rw [if_pos q]
      have ed:(f' ++ [u]).dropLast = f':=by simp
      rw [ed]
      have em:(f' ++ [((u.1,t.2.1,t.2.2):T3a α)]).map (·.2.2) = (f' ++ [u]).map (·.2.2):=by simp [q]
      refine ⟨Ch3.snoc (t:=((u.1,t.2.1,t.2.2):T3a α)) hc.2.2 (by show u.1 = u.1 - 1 + 1; omega) (by show u.1 ≤ t.2.1; omega),by rw [em]; exact h.nb,fun c=>?_,fun v hv=>?_,fun _=>by simp⟩
      · rw [vAt_app ts,← h.va c,vAt_app,vAt_app,vAt_one,vAt_one,vAt_one]
        show (vAt f' c).or (if c ≤ t.2.1 then some t.2.2 else none) = ((vAt f' c).or (if c ≤ u.2.1 then some u.2.2 else none)).or (if c ≤ t.2.1 then some t.2.2 else none)
        cases vAt f' c with
        | some x=>rfl
        | none =>
          by_cases h1:c ≤ u.2.1
          · rw [if_pos h1,if_pos (by omega),q]; rfl
          · rw [if_neg h1]; rfl
      · rcases List.mem_append.mp hv with hv | hv
        · obtain ⟨t',a,b⟩:=h.mem v (List.mem_append_left _ hv)
          exact ⟨t',List.mem_append_left _ a,b⟩
        · rw [List.mem_singleton.mp hv]
          exact ⟨t,by simp,rfl⟩
    · rw [if_neg q]
      refine ⟨h.ch.snoc e l,?_,fun c=>?_,fun v hv=>?_,fun _=>by simp⟩
      · rw [List.map_append]
        refine Nbx.snoc h.nb fun z hz=>?_
        rw [List.map_append] at hz
        simp at hz
        rw [← hz]
        exact q
      · rw [vAt_app,vAt_app ts,h.va c]
      · rcases List.mem_append.mp hv with hv | hv
        · obtain ⟨t',a,b⟩:=h.mem v hv
          exact ⟨t',List.mem_append_left _ a,b⟩
        · rw [List.mem_singleton.mp hv]
          exact ⟨t,by simp,rfl⟩
theorem close_go [DecidableEq α]:∀ {r ts f:List (T3a α)} {lo mid hi:Int},ClOk ts f lo mid→Ch3 r (mid + 1) hi→ClOk (ts ++ r) (r.foldl cstep f) lo hi
  | [],ts,f,lo,mid,hi,h,c=>by
    have:mid = hi:=by have:mid + 1 = hi + 1:=c; omega
    subst this
    rw [List.append_nil]
    exact h
  | t :: r,ts,f,lo,mid,hi,h,c=>by
    have:=close_go (r:=r) (h.step c.1 (by have:=c.1; have:=c.2.1; omega)) c.2.2
    rw [List.append_assoc] at this
    exact this
theorem close_ok [DecidableEq α] {ts:List (T3a α)} {lo hi:Int} (h:Ch3 ts lo hi):ClOk ts (closeF ts) lo hi :=
  close_go (ts:=[]) (f:=[]) (mid:=lo - 1) ⟨by show lo = lo - 1 + 1; omega,fun i a b ha hb=>by simp at hb,fun _=>rfl,fun t ht=>by simp at ht,fun z=>absurd rfl z⟩ (by rw [show lo - 1 + 1 = lo by omega]; exact h)
theorem Ch3.at:∀ {f:List (T3a α)} {lo hi c:Int},Ch3 f lo hi→lo ≤ c→c ≤ hi→∃ (j:Nat) (t:T3a α),f[j]? = some t∧t.1 ≤ c∧c ≤ t.2.1∧(∀ (i:Nat) (u:T3a α),i < j→f[i]? = some u→u.2.1 < c)∧vAt f c = some t.2.2
  | [],lo,hi,c,h,h1,h2=>by have:lo = hi + 1:=h; omega
  | t :: r,lo,hi,c,h,h1,h2=>by
    by_cases q:c ≤ t.2.1
    · exact ⟨0,t,rfl,by have:=h.1; omega,q,fun i u hi=>absurd hi (Nat.not_lt_zero i),by unfold vAt; rw [List.find?_cons_of_pos (by simpa using q)]; rfl⟩
    · obtain ⟨j,u,a,b,d,e,v⟩:=Ch3.at (f:=r) h.2.2 (c:=c) (by omega) h2
      refine ⟨j + 1,u,by simpa using a,b,d,fun i w hi ew=>?_,by unfold vAt at v ⊢; rw [List.find?_cons_of_neg (by simpa using q)]; exact v⟩
      match i,ew with
      | 0,ew=>cases ew; omega
      | i + 1,ew=>exact e i w (by omega) (by simpa using ew)
end
def lay {L:Type} [DecidableEq L] (g:List Int→L):(cols:List (List (Int × Int)))→List Int→Fm L cols.length
  | [],ah=>g ah
  | c :: cs,ah=>closeF (c.map fun p=>((p.1,p.2,lay g cs (ah ++ [p.1])):T3a (Fm L cs.length)))
def ShS {α:Type} (S:α→List (Int × Int)→Prop) (f:List (T3a α)) (ps:List (Int × Int)):Prop:=∃ p r,ps = p :: r∧f ≠ []∧Ch3 f p.1 p.2∧Nbx (f.map (·.2.2))∧∀ t ∈ f,S t.2.2 r
def ShOk {L:Type} : (n:Nat)→Fm L n→List (Int × Int)→Prop
  | 0,_,ps=>ps = []
  | n + 1,f,ps=>ShS (ShOk n) f ps
def ChnP:List (Int × Int)→Int→Int→Prop
  | [],lo,hi=>lo = hi + 1
  | p :: r,lo,hi=>p.1 = lo∧lo ≤ p.2∧ChnP r (p.2 + 1) hi
theorem chn3 {α:Type} (F:Int × Int→α):∀ {c:List (Int × Int)} {lo hi:Int},ChnP c lo hi→Ch3 (c.map fun p=>((p.1,p.2,F p):T3a α)) lo hi
  | [],lo,hi,h=>h
  | p :: r,lo,hi,h=>⟨h.1,h.2.1,chn3 F h.2.2⟩
inductive ColOk:List (List (Int × Int))→List (Int × Int)→Prop
  | nil:ColOk [] []
  | cons {c:List (Int × Int)} {cs:List (List (Int × Int))} {p:Int × Int} {ps:List (Int × Int)} : c ≠ []→ChnP c p.1 p.2→ColOk cs ps→ColOk (c :: cs) (p :: ps)
theorem lay_sh {L:Type} [DecidableEq L] {g:List Int→L} {cols:List (List (Int × Int))} {ps:List (Int × Int)} (h:ColOk cols ps):∀ ah:List Int,ShOk cols.length (lay g cols ah) ps:=by
  induction h with
  | nil=>intro ah; exact (rfl:([]:List (Int × Int)) = [])
  | @cons c cs p ps hne hc _ ih =>
    intro ah
    have k:=close_ok (chn3 (fun q=>lay g cs (ah ++ [q.1])) hc)
    refine ⟨p,ps,rfl,k.ne (by simpa using hne),k.ch,k.nb,fun t ht=>?_⟩
    obtain ⟨t',h1,h2⟩:=k.mem t ht
    obtain ⟨q,_,rfl⟩:=List.mem_map.mp h1
    rw [← h2]
    exact ih _
def lowAt (col:List (Int × Int)) (c:Int):Int:=((col.find? fun p=>decide (c ≤ p.2)).map (·.1)).getD 0
theorem vAt_map {α:Type} (F:Int × Int→α) (c:Int):∀ col:List (Int × Int),vAt (col.map fun p=>((p.1,p.2,F p):T3a α)) c = (col.find? fun p=>decide (c ≤ p.2)).map F
  | []=>rfl
  | p :: r=>by
    unfold vAt
    rw [List.map_cons]
    by_cases q:c ≤ p.2
    · rw [List.find?_cons_of_pos (by simpa using q),List.find?_cons_of_pos (by simpa using q)]; rfl
    · rw [List.find?_cons_of_neg (by simpa using q),List.find?_cons_of_neg (by simpa using q)]
      exact vAt_map F c r
inductive Tel {L:Type} : (n:Nat)→Fm L n→List Int→L→Prop
  | nil (x:L):Tel 0 x [] x
  | cons {n:Nat} {f:List (T3a (Fm L n))} {c:Int} {cs:List Int} {x:L} {j:Nat} {t:T3a (Fm L n)} : f[j]? = some t→c ≤ t.2.1→(∀ (i:Nat) (u:T3a (Fm L n)),i < j→f[i]? = some u→u.2.1 < c)→Tel n t.2.2 cs x→Tel (n + 1) f (c :: cs) x
inductive InB:List Int→List (Int × Int)→Prop
  | nil:InB [] []
  | cons {c:Int} {cs:List Int} {p:Int × Int} {ps:List (Int × Int)} : p.1 ≤ c→c ≤ p.2→InB cs ps→InB (c :: cs) (p :: ps)
theorem lay_tel {L:Type} [DecidableEq L] {g:List Int→L} {cols:List (List (Int × Int))} {ps:List (Int × Int)} (h:ColOk cols ps):∀ (ah cs:List Int),InB cs ps→Tel cols.length (lay g cols ah) cs (g (ah ++ List.zipWith lowAt cols cs)):=by
  induction h with
  | nil=>intro ah cs hb; cases hb; rw [List.zipWith_nil_left,List.append_nil]; exact .nil _
  | @cons c cols p ps hne hc _ ih =>
    intro ah cs hb
    cases hb with
    | @cons x cs _ _ h1 h2 hb =>
      have k:=close_ok (chn3 (fun q=>lay g cols (ah ++ [q.1])) hc)
      obtain ⟨j,t,e1,e2,e3,e4,e5⟩:=k.ch.at h1 h2
      rw [k.va,vAt_map] at e5
      cases e6:c.find? (fun p=>decide (x ≤ p.2)) with
      | none=>rw [e6] at e5; cases e5
      | some q =>
        rw [e6] at e5
        have e7:lay g cols (ah ++ [q.1]) = t.2.2:=Option.some.inj e5
        have e8:lowAt c x = q.1:=by unfold lowAt; rw [e6]; rfl
        refine .cons e1 e3 e4 ?_
        rw [← e7,List.zipWith_cons_cons,e8]
        have:=ih (ah ++ [q.1]) cs hb
        rw [List.append_assoc] at this
        exact this
def FmL {α:Type} (R:α→V→Prop) (H:Hp) (f:List (T3a α)) (xs:List V):Prop:=xs.length = f.length∧∀ (i:Nat) (t:T3a α),f[i]? = some t→∃ (r:Addr) (u:V),xs[i]? = some (.ref r)∧H r = some (.tup [.int t.1,.int t.2.1,u])∧R t.2.2 u
def rFm (K:PySem.W.Frag):R2:=fun x y H Q=>rEq x y H Q∨rEqDT K false x y H Q
def rFmN (K:PySem.W.Frag):R2:=fun x y H Q=>rNe x y H Q∨rEqDT K true x y H Q
structure Lfp (L:Type) [DecidableEq L] where
  R:Hp→L→V→Prop
  mono:∀ {H H' : Hp} {x:L} {v:V},SameT H H'→R H x v→R H' x v
  inj:∀ {H:Hp} {x y:L} {v:V},R H x v→R H y v→x = y
  deq:∀ (K:PySem.W.Frag) {H:Hp} {x y:L} {u v:V},R H x u→R H y v→DEq K H 2 u v (decide (x = y))
  eq:∀ (K:PySem.W.Frag) {H:Hp} {x y:L} {u v:V} {Q:VK},R H x u→R H y v→Q (.bl (decide (x = y))) H→rFm K u v H Q
  ne:∀ (K:PySem.W.Frag) {H:Hp} {x y:L} {u v:V} {Q:VK},R H x u→R H y v→Q (.bl (!decide (x = y))) H→rFmN K u v H Q
def FmV {L:Type} [DecidableEq L] (A:Lfp L) (H:Hp):(n:Nat)→Fm L n→V→Prop
  | 0,x,v=>A.R H x v
  | n + 1,f,v=>∃ (a:Addr) (xs:List V),v = .ref a∧H a = some (.tup xs)∧FmL (FmV A H n) H f xs
theorem FmL.mono {α:Type} {R R' : α→V→Prop} {H H' : Hp} {f:List (T3a α)} {xs:List V} (h:FmL R H f xs) (k:∀ x u,R x u→R' x u) (s:SameT H H'):FmL R' H' f xs:=⟨h.1,fun i t e=>by
  obtain ⟨r,u,a,b,c⟩:=h.2 i t e
  exact ⟨r,u,a,s _ _ b,k _ _ c⟩⟩
theorem FmV.mono {L:Type} [DecidableEq L] {A:Lfp L} {H H' : Hp} (s:SameT H H'):∀ {n:Nat} {f:Fm L n} {v:V},FmV A H n f v→FmV A H' n f v
  | 0,_,_,h=>A.mono s h
  | n + 1,_,_,h=>by
    obtain ⟨a,xs,h1,h2,h3⟩:=h
    exact ⟨a,xs,h1,s _ _ h2,h3.mono (fun _ _ q=>FmV.mono s q) s⟩
theorem FmL.nil {α:Type} {R:α→V→Prop} {H:Hp} : FmL R H [] []:=⟨rfl,fun i t e=>by simp at e⟩
theorem FmL.snoc {α:Type} {R:α→V→Prop} {H:Hp} {f:List (T3a α)} {xs:List V} {t:T3a α} {r:Addr} {u:V} (h:FmL R H f xs) (hr:H r = some (.tup [.int t.1,.int t.2.1,u])) (q:R t.2.2 u):FmL R H (f ++ [t]) (xs ++ [.ref r]):=by
  refine ⟨by simp [h.1],fun i v e=>?_⟩
  by_cases hi:i < f.length
  · rw [List.getElem?_append_left hi] at e
    obtain ⟨r',u',a,b,c⟩:=h.2 i v e
    exact ⟨r',u',by rw [List.getElem?_append_left (by rw [h.1]; exact hi)]; exact a,b,c⟩
  · have hi2:i = f.length:=by
      have:=(List.getElem?_eq_some_iff.mp e).1
      simp at this; omega
    subst hi2
    simp at e
    subst e
    exact ⟨r,u,by rw [← h.1]; simp,hr,q⟩
theorem FmL.init {α:Type} {R:α→V→Prop} {H:Hp} {f:List (T3a α)} {xs:List V} {t:T3a α} (h:FmL R H (f ++ [t]) xs):∃ (ys:List V) (r:Addr) (u:V),xs = ys ++ [.ref r]∧FmL R H f ys∧H r = some (.tup [.int t.1,.int t.2.1,u])∧R t.2.2 u:=by
  obtain ⟨r,u,a,b,c⟩:=h.2 f.length t (by simp)
  have hl:=h.1
  rw [List.length_append,List.length_singleton] at hl
  rcases List.eq_nil_or_concat xs with hx | ⟨ys,y,hx⟩
  · subst hx; simp at hl
  · rw [List.concat_eq_append] at hx
    subst hx
    have hy:ys.length = f.length:=by simpa using hl
    rw [← hy] at a
    simp at a
    subst a
    refine ⟨ys,r,u,rfl,⟨hy,fun i v e=>?_⟩,b,c⟩
    have hi:=(List.getElem?_eq_some_iff.mp e).1
    obtain ⟨r',u',a',b',c'⟩:=h.2 i v (by rw [List.getElem?_append_left hi]; exact e)
    rw [List.getElem?_append_left (by omega)] at a'
    exact ⟨r',u',a',b',c'⟩
theorem FmL.inj {α:Type} {R:α→V→Prop} {H:Hp} {f g:List (T3a α)} {xs:List V} (k:∀ x y u,R x u→R y u→x = y) (h:FmL R H f xs) (h' : FmL R H g xs):f = g:=by
  refine List.ext_getElem? fun i=>?_
  cases e:f[i]? with
  | none =>
    have:f.length ≤ i:=List.getElem?_eq_none_iff.mp e
    rw [List.getElem?_eq_none_iff.mpr (by rw [← h'.1,h.1]; exact this)]
  | some t =>
    have hi:=(List.getElem?_eq_some_iff.mp e).1
    obtain ⟨t',e'⟩:∃ t',g[i]? = some t':=⟨_,List.getElem?_eq_getElem (l:=g) (i:=i) (by rw [← h'.1,h.1]; exact hi)⟩
    obtain ⟨r,u,a,b,c⟩:=h.2 i t e
    obtain ⟨r',u',a',b',c'⟩:=h'.2 i _ e'
    rw [a] at a'
    cases a'
    rw [b] at b'
    obtain ⟨t1,t2,t3⟩:=t
    obtain ⟨q1,q2,q3⟩:=t'
    simp only at b' c c'
    injection b' with b'
    injection b' with b'
    simp only [List.cons.injEq,V.int.injEq,and_true] at b'
    obtain ⟨r1,r2,rfl⟩:=b'
    rw [e',r1,r2,k _ _ _ c c']
theorem FmV.inj {L:Type} [DecidableEq L] {A:Lfp L} {H:Hp} : ∀ {n:Nat} {f g:Fm L n} {v:V},FmV A H n f v→FmV A H n g v→f = g
  | 0,_,_,_,h,h'=>A.inj h h'
  | n + 1,_,_,_,h,h'=>by
    obtain ⟨a,xs,h1,h2,h3⟩:=h
    obtain ⟨a',xs',h1',h2',h3'⟩:=h'
    rw [h1] at h1'
    cases h1'
    rw [h2] at h2'
    cases h2'
    exact FmL.inj (R:=FmV A H n) (fun x y u q q'=>FmV.inj q q') h3 h3'
theorem FmL.deq {α:Type} [DecidableEq α] {R:α→V→Prop} {K:PySem.W.Frag} {H:Hp} {m:Nat} {f g:List (T3a α)} {xs ys:List V} (inj:∀ x y u,R x u→R y u→x = y) (k:∀ x y u v,R x u→R y v→DEq K H m u v (decide (x = y)))
    (h:FmL R H f xs) (h' : FmL R H g ys):(∀ (j:Nat) (x y:V),xs[j]? = some x→ys[j]? = some y→DEq K H (m + 1) x y (decide (f[j]? = g[j]?)))∧((List.range (min xs.length ys.length)).all (fun j=>decide (f[j]? = g[j]?)) && xs.length == ys.length) = decide (f = g):=by
  refine ⟨fun j x y ex ey=>?_,?_⟩
  · have hj:j < f.length:=by rw [← h.1]; exact (List.getElem?_eq_some_iff.mp ex).1
    have hj' : j < g.length:=by rw [← h'.1]; exact (List.getElem?_eq_some_iff.mp ey).1
    have e1:=List.getElem?_eq_getElem hj
    have e2:=List.getElem?_eq_getElem hj'
    obtain ⟨r,u,a,b,c⟩:=h.2 j _ e1
    obtain ⟨r',u',a',b',c'⟩:=h'.2 j _ e2
    rw [ex] at a; cases a
    rw [ey] at a'; cases a'
    rw [e1,e2]
    generalize f[j] = t at *
    generalize g[j] = t' at *
    obtain ⟨t1,t2,t3⟩:=t
    obtain ⟨q1,q2,q3⟩:=t'
    simp only at b b' c c'
    by_cases hr:r = r'
    · subst hr
      rw [b] at b'
      injection b' with b'
      injection b' with b'
      simp only [List.cons.injEq,V.int.injEq,and_true] at b'
      obtain ⟨z1,z2,rfl⟩:=b'
      have:decide (some (t1,t2,t3) = some (q1,q2,q3)) = true:=by rw [z1,z2,inj _ _ _ c c']; simp
      rw [this]
      exact .same r
    · have d:=DEq.tup (K:=K) (H:=H) (n:=m) (f:=fun i=>match i with | 0=>decide (t1 = q1) | 1=>decide (t2 = q2) | _=>decide (t3 = q3)) hr (SqT.of b) (SqT.of b') fun i x y ex ey=>?_
      · have e:((List.range (min [V.int t1,V.int t2,u].length [V.int q1,V.int q2,u'].length)).all (fun i=>match i with | 0=>decide (t1 = q1) | 1=>decide (t2 = q2) | _=>decide (t3 = q3)) && [V.int t1,V.int t2,u].length == [V.int q1,V.int q2,u'].length) = decide (some (t1,t2,t3) = some (q1,q2,q3)):=by
          show ((List.range 3).all (fun i=>match i with | 0=>decide (t1 = q1) | 1=>decide (t2 = q2) | _=>decide (t3 = q3)) && true) = _
          have:List.range 3 = [0,1,2]:=rfl
          rw [this]
          simp only [List.all_cons,List.all_nil,Bool.and_true,Option.some.injEq,Prod.mk.injEq,Bool.decide_and]
        rw [e] at d
        exact d
      · match i,ex,ey with
        | 0,ex,ey=>cases ex; cases ey; exact .flat rfl rfl
        | 1,ex,ey=>cases ex; cases ey; exact .flat rfl rfl
        | 2,ex,ey=>cases ex; cases ey; exact k _ _ _ _ c c'
        | i + 3,ex,_=>simp at ex
  · rw [h.1,h'.1]
    by_cases e:f = g
    · subst e
      simp
    · rw [decide_eq_false e]
      by_cases hl:f.length = g.length
      · rw [Bool.and_eq_false_iff]
        left
        refine Bool.eq_false_iff.mpr fun q=>e (List.ext_getElem? fun i=>?_)
        rw [List.all_eq_true] at q
        by_cases hi:i < f.length
        · exact of_decide_eq_true (q i (List.mem_range.mpr (by omega)))
        · rw [List.getElem?_eq_none_iff.mpr (by omega),List.getElem?_eq_none_iff.mpr (by omega)]
      · simp [hl]
theorem FmV.deq {L:Type} [DecidableEq L] {A:Lfp L} {K:PySem.W.Frag} {H:Hp} : ∀ {n:Nat} {f g:Fm L n} {u v:V},FmV A H n f u→FmV A H n g v→DEq K H (2 * n + 2) u v (decide (f = g))
  | 0,f,g,_,_,h,h'=>A.deq K h h'
  | n + 1,f,g,_,_,h,h'=>by
    obtain ⟨a,xs,rfl,h2,h3⟩:=h
    obtain ⟨b,ys,rfl,h2',h3'⟩:=h'
    obtain ⟨d1,d2⟩:=FmL.deq (R:=FmV A H n) (K:=K) (m:=2 * n + 2) (fun x y u q q'=>FmV.inj q q') (fun x y u v q q'=>FmV.deq q q') h3 h3'
    by_cases hab:a = b
    · subst hab
      rw [h2] at h2'
      cases h2'
      have:f = g:=FmL.inj (R:=FmV A H n) (fun x y u q q'=>FmV.inj q q') h3 h3'
      rw [decide_eq_true this]
      exact .same a
    · have:=DEq.tup hab (SqT.of h2) (SqT.of h2') d1
      rw [d2] at this
      exact this
section
variable {X:Cx}
theorem op_either {f:Value→Value→Sem Value} {r r' : R2} (a:OpR X f r) (b:OpR X f r'):OpR X f (fun x y H Q=>r x y H Q∨r' x y H Q):=fun pins s σ H x y v u Q I rx ry h=>h.elim (a pins s σ H x y v u Q I rx ry) (b pins s σ H x y v u Q I rx ry)
theorem op_eqF {k:Nat} (hr:Room k X.A):OpR X (compareOp .Eq) (rFm X.K):=op_either op_eq (op_eqDT hr)
theorem op_neF {k:Nat} (hr:Room k X.A):OpR X (compareOp .NotEq) (rFmN X.K):=op_either op_ne (op_neDT hr)
end
theorem FmV.eq_to {L:Type} [DecidableEq L] {A:Lfp L} {K:PySem.W.Frag} {H:Hp} {Q:VK} : ∀ {n:Nat} {f g:Fm L n} {u v:V},n ≤ 20→FmV A H n f u→FmV A H n g v→Q (.bl (decide (f = g))) H→rFm K u v H Q
  | 0,f,g,_,_,_,h,h',q=>A.eq K h h' q
  | n + 1,f,g,_,_,hn,h,h',q=>by
    obtain ⟨a,xs,rfl,h2,h3⟩:=h
    obtain ⟨b,ys,rfl,h2',h3'⟩:=h'
    obtain ⟨d1,d2⟩:=FmL.deq (R:=FmV A H n) (K:=K) (m:=2 * n + 2) (fun x y u q q'=>FmV.inj q q') (fun x y u v q q'=>FmV.deq q q') h3 h3'
    refine .inr ⟨a,b,xs,ys,rfl,rfl,SqT.of h2,SqT.of h2',_,fun j x y ex ey=>(d1 j x y ex ey).mono (by omega),?_⟩
    rw [if_neg (by decide),d2]
    exact q
theorem InB.length {cs:List Int} {ps:List (Int × Int)} (h:InB cs ps):cs.length = ps.length:=by
  induction h with
  | nil=>rfl
  | cons _ _ _ ih=>rw [List.length_cons,List.length_cons,ih]
theorem InB.get {cs:List Int} {ps:List (Int × Int)} (h:InB cs ps):∀ (j:Nat) (c:Int) (p:Int × Int),cs[j]? = some c→ps[j]? = some p→p.1 ≤ c∧c ≤ p.2:=by
  induction h with
  | nil=>intro j c p e; simp at e
  | cons a b _ ih =>
    intro j c p e1 e2
    match j,e1,e2 with
    | 0,e1,e2=>cases e1; cases e2; exact ⟨a,b⟩
    | j + 1,e1,e2=>exact ih j c p (by simpa using e1) (by simpa using e2)
theorem dec_ii (x y:Int):decide (V.int x = V.int y) = decide (x = y):=by
  by_cases e:x = y
  · rw [decide_eq_true e,e]; simp
  · rw [decide_eq_false e]; exact decide_eq_false fun z=>e (V.int.inj z)
theorem eqV_ii (x y:Int):eqV (.int x) (.int y) = decide (x = y):=by
  show ((x:Int) == (y:Int)) = decide (x = y)
  by_cases e:x = y
  · rw [decide_eq_true e,e]; simp
  · rw [decide_eq_false e]
    exact beq_eq_false_iff_ne.mpr e
def LInt:Lfp Int where
  R _ x v:=v = .int x
  mono _ h:=h
  inj h h':=V.int.inj (h.symm.trans h')
  deq K {H x y u v} h h':=by
    cases h; cases h'
    rw [← eqV_ii]
    exact .flat rfl rfl
  eq K {H x y u v Q} h h' q:=by
    cases h; cases h'
    refine .inl ⟨rfl,?_⟩
    rw [dec_ii]
    exact q
  ne K {H x y u v Q} h h' q:=by
    cases h; cases h'
    refine .inl ⟨rfl,?_⟩
    rw [dec_ii]
    exact q
end L2
set_option Elab.async false
set_option maxRecDepth 100000
set_option maxHeartbeats 4000000
set_option linter.all false
namespace My
open PySem L2
def top (i:Nat):Stmt:=PySem.Challenge.pw_rowjudge_k38_boxes_tile.main.body.getD i (.Pass ⟨0,0,0,0⟩)
abbrev Y26:Stmt:=top 4
abbrev Y7:Stmt:=top 7
abbrev Y5:Stmt:=top 8
abbrev Y2:Stmt:=top 9
abbrev Y21:Stmt:=top 10
abbrev Y3:Stmt:=top 11
abbrev Y22:Stmt:=top 12
abbrev Y0:Stmt:=top 13
abbrev Y23:Stmt:=top 14
abbrev Y25:Stmt:=top 15
abbrev Y1:Stmt:=top 16
abbrev Y24:Stmt:=top 17
abbrev Y6:Stmt:=top 18
abbrev Y27:Stmt:=top 19
abbrev Y4:Stmt:=top 20
abbrev Y10:Stmt:=top 22
abbrev Y11:Stmt:=top 23
abbrev Y18:Stmt:=top 24
abbrev Y16:Stmt:=top 25
abbrev Y20:Stmt:=top 26
abbrev Y12:Stmt:=top 27
abbrev Y19:Stmt:=top 28
abbrev Y17:Stmt:=top 29
abbrev Y13:Stmt:=top 30
abbrev Y8:Stmt:=top 31
def inDef (st:Stmt) (j:Nat):Stmt:=(defBody st).getD j (.Pass ⟨0,0,0,0⟩)
abbrev Y14:Stmt:=inDef Y13 1
theorem Z14:CScope ["_law_leaf"] ["_law_leaf"] (defScope Y14) []:=⟨rfl,rfl,rfl,by decide +kernel,rfl,by decide +kernel,by decide +kernel,has_of rfl⟩
abbrev Y15:Stmt:=inDef Y13 2
theorem Z15:CScope ["_law_mine", "_law_yours"] ["_law_mine", "_law_yours"] (defScope Y15) []:=⟨rfl,rfl,rfl,by decide +kernel,rfl,by decide +kernel,by decide +kernel,has_of rfl⟩
abbrev Y9:Stmt:=inDef Y8 5
theorem Z9 {c_0 c_1 c_2 c_3:Addr} : CScope ["_law_codes", "_law_marks_here", "_law_twist", "_law_turn", "_law_step"] ["_law_codes"] (defScope Y9) [("_law_twist",c_1),("_law_turn",c_2),("_law_step",c_3),("_law_marks_here",c_0)]:=⟨rfl,rfl,rfl,by decide +kernel,rfl,by decide +kernel,by decide +kernel,has_of rfl⟩
theorem Z26:FnScope ["low", "high", "marks", "cuts", "lows", "highs"] ["low", "high", "marks"] (defScope Y26):=⟨rfl,rfl,rfl,by decide +kernel,rfl,by decide +kernel,by decide +kernel⟩
theorem Z7:FnScope ["bounds", "marks", "product", "parts"] ["bounds", "marks"] (defScope Y7):=⟨rfl,rfl,rfl,by decide +kernel,rfl,by decide +kernel,by decide +kernel⟩
theorem Z5:FnScope ["bounds", "marks"] ["bounds", "marks"] (defScope Y5):=⟨rfl,rfl,rfl,by decide +kernel,rfl,by decide +kernel,by decide +kernel⟩
theorem Z2:FnScope ["bounds", "marks", "leaf"] ["bounds", "marks", "leaf"] (defScope Y2):=⟨rfl,rfl,rfl,by decide +kernel,rfl,by decide +kernel,by decide +kernel⟩
theorem Z21:FnScope ["columns", "ahead", "leaf"] ["columns", "ahead", "leaf"] (defScope Y21):=⟨rfl,rfl,rfl,by decide +kernel,rfl,by decide +kernel,by decide +kernel⟩
theorem Z3:FnScope ["triples", "form", "low", "high", "beneath"] ["triples"] (defScope Y3):=⟨rfl,rfl,rfl,by decide +kernel,rfl,by decide +kernel,by decide +kernel⟩
theorem Z22:FnScope ["form", "codes", "found", "code"] ["form", "codes"] (defScope Y22):=⟨rfl,rfl,rfl,by decide +kernel,rfl,by decide +kernel,by decide +kernel⟩
theorem Z0:FnScope ["form", "code", "at"] ["form", "code"] (defScope Y0):=⟨rfl,rfl,rfl,by decide +kernel,rfl,by decide +kernel,by decide +kernel⟩
theorem Z23:FnScope ["form", "deep", "change"] ["form", "deep", "change"] (defScope Y23):=⟨rfl,rfl,rfl,by decide +kernel,rfl,by decide +kernel,by decide +kernel⟩
theorem Z25:FnScope ["one", "other", "deep", "pair", "triples", "low", "at_one", "at_other", "high"] ["one", "other", "deep", "pair"] (defScope Y25):=⟨rfl,rfl,rfl,by decide +kernel,rfl,by decide +kernel,by decide +kernel⟩
theorem Z1:FnScope ["form", "deep", "told", "low", "high", "beneath", "box", "leaf"] ["form", "deep"] (defScope Y1):=⟨rfl,rfl,rfl,by decide +kernel,rfl,by decide +kernel,by decide +kernel⟩
theorem Z24:FnScope ["form", "deep", "marks", "further", "column"] ["form", "deep"] (defScope Y24):=⟨rfl,rfl,rfl,by decide +kernel,rfl,by decide +kernel,by decide +kernel⟩
theorem Z6:FnScope ["lists", "numbers", "some"] ["lists"] (defScope Y6):=⟨rfl,rfl,rfl,by decide +kernel,rfl,by decide +kernel,by decide +kernel⟩
theorem Z27:FnScope ["box", "product", "low", "high"] ["box"] (defScope Y27):=⟨rfl,rfl,rfl,by decide +kernel,rfl,by decide +kernel,by decide +kernel⟩
theorem Z4:FnScope ["box"] ["box"] (defScope Y4):=⟨rfl,rfl,rfl,by decide +kernel,rfl,by decide +kernel,by decide +kernel⟩
theorem Z10:FnScope ["_law_script", "_law_k"] ["_law_script", "_law_k"] (defScope Y10):=⟨rfl,rfl,rfl,by decide +kernel,rfl,by decide +kernel,by decide +kernel⟩
theorem Z11:FnScope ["_law_script", "_law_bounds_here", "_law_k", "_law_low", "_law_width"] ["_law_script"] (defScope Y11):=⟨rfl,rfl,rfl,by decide +kernel,rfl,by decide +kernel,by decide +kernel⟩
theorem Z18:FnScope ["_law_script", "_law_bounds_here", "_law_most", "_law_marks_here", "_law_k", "_law_own", "_law_pair"] ["_law_script", "_law_bounds_here"] (defScope Y18):=⟨rfl,rfl,rfl,by decide +kernel,rfl,by decide +kernel,by decide +kernel⟩
theorem Z16:FnScope ["_law_found"] ["_law_found"] (defScope Y16):=⟨rfl,rfl,rfl,by decide +kernel,rfl,by decide +kernel,by decide +kernel⟩
theorem Z20:FnScope ["_law_codes", "_law_marks_here", "_law_twist", "_law_turn", "_law_step", "_law_total", "_law_k", "_law_below"] ["_law_codes", "_law_marks_here", "_law_twist", "_law_turn", "_law_step"] (defScope Y20):=⟨rfl,rfl,rfl,by decide +kernel,rfl,by decide +kernel,by decide +kernel⟩
theorem Z12:FnScope ["_law_box_here", "_law_bounds_here", "_law_k", "_law_pair"] ["_law_box_here", "_law_bounds_here"] (defScope Y12):=⟨rfl,rfl,rfl,by decide +kernel,rfl,by decide +kernel,by decide +kernel⟩
theorem Z19:FnScope ["_law_one", "_law_other", "_law_k"] ["_law_one", "_law_other"] (defScope Y19):=⟨rfl,rfl,rfl,by decide +kernel,rfl,by decide +kernel,by decide +kernel⟩
theorem Z17:FnScope ["_law_box_here", "_law_count", "_law_pair"] ["_law_box_here"] (defScope Y17):=⟨rfl,rfl,rfl,by decide +kernel,rfl,by decide +kernel,by decide +kernel⟩
theorem Z13:FnScope ["_law_form", "_law_found", "_law_bounds_here", "_law_deep", "_law_change", "_law_pair", "_law_due", "_law_k", "_law_lows"] ["_law_form", "_law_found", "_law_bounds_here"] (defScope Y13):=⟨rfl,rfl,rfl,by decide +kernel,rfl,by decide +kernel,by decide +kernel⟩
theorem Z8:FnScope ["_law_script", "_law_bounds_here", "_law_marks_here", "_law_twist", "_law_turn", "_law_step", "_law_leaf", "_law_form", "_law_found", "_law_total", "_law_ahead", "_law_part", "_law_box_here", "_law_lows", "_law_other", "_law_size"] ["_law_script"] (defScope Y8):=⟨rfl,rfl,rfl,by decide +kernel,rfl,by decide +kernel,by decide +kernel⟩
structure Bl (K:PySem.W.Frag) (mg:Str→Option Value):Prop where
  sorted_:mg "sorted" = none
  list_:mg "list" = none
  set_:mg "set" = none
  zip_:mg "zip" = none
  len_:mg "len" = none
  tuple_:mg "tuple" = none
  min_:mg "min" = none
  range_:mg "range" = none
  isinstance_:mg "isinstance" = none
  int_:mg "int" = none
  bool_:mg "bool" = none
  MOST_GRAIN_:∃ u,mg "MOST_GRAIN" = some u∧RelV (V.int 300) u
theorem p10 (n:Nat):(0:Int) < 10 ^ n:=Int.pow_pos (by decide)
theorem getI {xs:List V} {i:Nat} {x:V} (e:xs[i]? = some x):atI xs (0 + (i:Int)) = some x:=by
  rw [Int.zero_add]; exact atI_nat e
theorem ret_r1 {H:Hp} {r:Addr} {o:HO} {b:Addr} {u:HO} (h:H r = some u) (n:H b = none):upd H b o r = some u:=by rw [upd_ne (ne_of_none h n)]; exact h
theorem ixN_last {n:Nat} (h:0 < n):ixN n (-1) = some (n - 1):=by
  unfold ixN
  rw [if_neg (by decide),if_pos (by omega)]
  congr 1
  omega
theorem set_last {α:Type} (l:List α) (x y:α):(l ++ [x]).set ((l ++ [x]).length - 1) y = l ++ [y]:=by
  have e:(l ++ [x]).length - 1 = l.length:=by simp
  rw [e,List.set_append_right _ _ (Nat.le_refl _),Nat.sub_self]
  rfl
theorem take_snoc {α:Type} {l:List α} {i:Nat} {x:α} (e:l[i]? = some x):l.take (i + 1) = l.take i ++ [x]:=by rw [List.take_add_one,e]; rfl
theorem get_map {ns:List Int} {i:Nat} {c:Int} (e:ns[i]? = some c):(ns.map V.int)[i]? = some (.int c):=by rw [List.getElem?_map,e]; rfl
theorem of_map {ns:List Int} {i:Nat} {x:V} (e:(ns.map V.int)[i]? = some x):∃ c,x = .int c∧ns[i]? = some c:=by
  rw [List.getElem?_map] at e
  cases q:ns[i]? with
  | none=>rw [q] at e; cases e
  | some c=>rw [q] at e; cases e; exact ⟨c,rfl,rfl⟩
def stre (lo hi:Int) (cs:List Int):List (Int × Int):=(lo :: cs).zip (cs.map (· - 1) ++ [hi])
def Chn:List (Int × Int)→Int→Int→Prop
  | [],lo,hi=>lo = hi + 1
  | p :: r,lo,hi=>p.1 = lo∧lo ≤ p.2∧Chn r (p.2 + 1) hi
theorem stre_chn:∀ {cs:List Int} {lo hi:Int},cs.Pairwise (· < ·)→(∀ c ∈ cs,lo < c∧c ≤ hi)→lo ≤ hi→Chn (stre lo hi cs) lo hi
  | [],lo,hi,_,_,h=>⟨rfl,h,rfl⟩
  | c :: cs,lo,hi,hp,hb,h=>by
    obtain ⟨h1,h2⟩:=List.pairwise_cons.mp hp
    have hc:=hb c List.mem_cons_self
    have e:stre lo hi (c :: cs) = (lo,c - 1) :: stre c hi cs:=rfl
    rw [e]
    refine ⟨rfl,by show lo ≤ c - 1; omega,?_⟩
    show Chn (stre c hi cs) (c - 1 + 1) hi
    rw [show c - 1 + 1 = c by omega]
    exact stre_chn h2 (fun d hd=>⟨h1 d hd,(hb d (List.mem_cons_of_mem _ hd)).2⟩) hc.2
theorem stre_len (lo hi:Int) (cs:List Int):(stre lo hi cs).length = cs.length + 1:=by simp [stre]
theorem PL.of_get {H:Hp} : ∀ {ts:List Addr} {ps:List (Int × Int)},ts.length = ps.length→(∀ (j:Nat) (p:Int × Int),ps[j]? = some p→∃ T,ts[j]? = some T∧H T = some (.tup [.int p.1,.int p.2]))→PL H (ts.map V.ref) ps
  | [],[],_,_=>.nil
  | [],p :: ps,h,_=>by simp at h
  | t :: ts,[],h,_=>by simp at h
  | t :: ts,p :: ps,h,g=>by
    obtain ⟨T,e1,e2⟩:=g 0 p rfl
    have:t = T:=by simpa using e1
    subst this
    exact .cons ⟨t,rfl,e2⟩ (PL.of_get (by simpa using h) fun j q hj=>by simpa using g (j + 1) q (by simpa using hj))
theorem cut_tail (x:V) (xs:List V):cutV (x :: xs) (some 1) none = xs:=by
  unfold cutV
  simp [HT.sIx]
theorem zip_get {lo hi:Int} {cs:List Int} {j:Nat} {p:Int × Int} (e:(stre lo hi cs)[j]? = some p):((lo :: cs).map V.int)[j]? = some (.int p.1)∧((cs.map (· - 1) ++ [hi]).map V.int)[j]? = some (.int p.2):=by
  unfold stre at e
  rw [List.getElem?_zip_eq_some] at e
  obtain ⟨e1,e2⟩:=e
  exact ⟨get_map e1,get_map e2⟩
def RefL {α:Type} (xs:List V) (as:List α) (P:Addr→α→Prop):Prop:=xs.length = as.length∧∀ (j:Nat) (a:α),as[j]? = some a→∃ r,xs[j]? = some (.ref r)∧P r a
theorem RefL.mono {α:Type} {xs:List V} {as:List α} {P Q:Addr→α→Prop} (h:RefL xs as P) (k:∀ r a,P r a→Q r a):RefL xs as Q:=⟨h.1,fun j a e=>let ⟨r,e1,p⟩:=h.2 j a e; ⟨r,e1,k r a p⟩⟩
theorem RefL.nil {α:Type} {P:Addr→α→Prop} : RefL [] [] P:=⟨rfl,(fun j a e=>by simp at e)⟩
theorem RefL.snoc {α:Type} {xs:List V} {as:List α} {P:Addr→α→Prop} {r:Addr} {a:α} (h:RefL xs as P) (p:P r a):RefL (xs ++ [.ref r]) (as ++ [a]) P:=by
  refine ⟨by simp [h.1],fun j b e=>?_⟩
  by_cases hj:j < as.length
  · rw [List.getElem?_append_left hj] at e
    obtain ⟨r',e1,q⟩:=h.2 j b e
    exact ⟨r',by rw [List.getElem?_append_left (by rw [h.1]; exact hj)]; exact e1,q⟩
  · have hj2:j = as.length:=by
      have:=(List.getElem?_eq_some_iff.mp e).1
      simp at this; omega
    subst hj2
    simp at e
    subst e
    exact ⟨r,by rw [← h.1]; simp,p⟩
theorem RefL.get {α:Type} {xs:List V} {as:List α} {P:Addr→α→Prop} (h:RefL xs as P) {j:Nat} {x:V} (e:xs[j]? = some x):∃ r a,x = .ref r∧as[j]? = some a∧P r a:=by
  have hj:=(List.getElem?_eq_some_iff.mp e).1
  have ea:=List.getElem?_eq_getElem (l:=as) (i:=j) (by rw [← h.1]; exact hj)
  obtain ⟨r,e1,p⟩:=h.2 j _ ea
  rw [e] at e1; cases e1
  exact ⟨r,_,rfl,ea,p⟩
abbrev Prs:=List (Int × Int)
theorem small2:2 ≤ sizeLine:=by decide
def dstep (lo hi:Int) (acc:List Int) (m:Int):List Int:=if lo < m∧m ≤ hi∧m ∉ acc then acc ++ [m] else acc
def dd (lo hi:Int) (ms:List Int):List Int:=ms.foldl (dstep lo hi) []
theorem dd_gen (lo hi:Int):∀ (ms acc:List Int),acc.Nodup→(ms.foldl (dstep lo hi) acc).Nodup∧∀ c,c ∈ ms.foldl (dstep lo hi) acc↔(c ∈ acc∨(c ∈ ms∧lo < c∧c ≤ hi))
  | [],acc,h=>⟨h,fun c=>by simp⟩
  | m :: ms,acc,h=>by
    have h2:(dstep lo hi acc m).Nodup:=by
      unfold dstep
      split
      · rename_i g
        rw [List.nodup_append]
        refine ⟨h,by simp,fun a ha b hb=>?_⟩
        have:b = m:=by simpa using hb
        subst this
        exact fun z=>g.2.2 (z ▸ ha)
      · exact h
    obtain ⟨a1,a2⟩:=dd_gen lo hi ms (dstep lo hi acc m) h2
    refine ⟨a1,fun c=>(a2 c).trans ?_⟩
    unfold dstep
    by_cases g:lo < m∧m ≤ hi∧m ∉ acc
    · rw [if_pos g]
      simp only [List.mem_append,List.mem_cons,List.not_mem_nil,or_false]
      constructor
      · rintro ((h | rfl) | ⟨h,h'⟩)
        · exact .inl h
        · exact .inr ⟨.inl rfl,g.1,g.2.1⟩
        · exact .inr ⟨.inr h,h'⟩
      · rintro (h | ⟨rfl | h,h'⟩)
        · exact .inl (.inl h)
        · exact .inl (.inr rfl)
        · exact .inr ⟨h,h'⟩
    · rw [if_neg g]
      simp only [List.mem_cons]
      constructor
      · rintro (h | ⟨h,h'⟩)
        · exact .inl h
        · exact .inr ⟨.inr h,h'⟩
      · rintro (h | ⟨rfl | h,h'⟩)
        · exact .inl h
        · by_cases hc:c ∈ acc
          · exact .inl hc
          · exact absurd ⟨h'.1,h'.2,hc⟩ g
        · exact .inr ⟨h,h'⟩
theorem dd_len {lo hi:Int} {ms cs:List Int} (hp:cs.Pairwise (· < ·)) (hm:∀ c,c ∈ cs↔(c ∈ ms∧lo < c∧c ≤ hi)):cs.length = (dd lo hi ms).length:=by
  obtain ⟨a1,a2⟩:=dd_gen lo hi ms [] List.nodup_nil
  have e:∀ c,c ∈ cs↔c ∈ dd lo hi ms:=fun c=>by
    rw [hm c]
    exact ⟨fun h=>(a2 c).mpr (.inr h),fun h=>by rcases (a2 c).mp h with z | z; cases z; exact z⟩
  exact Nat.le_antisymm (nodup_sub_len (hp.imp fun h=>Int.ne_of_lt h) fun x hx=>(e x).mp hx) (nodup_sub_len a1 fun x hx=>(e x).mpr hx)
theorem dd_le (lo hi:Int) (ms:List Int):(dd lo hi ms).length ≤ ms.length:=by
  obtain ⟨a1,a2⟩:=dd_gen lo hi ms [] List.nodup_nil
  exact nodup_sub_len a1 fun x hx=>by rcases (a2 x).mp hx with z | z; cases z; exact z.1
def gl (ps:List (Int × Int)) (mss:List (List Int)) (j:Nat):Nat:=(dd (ps.getD j (0,0)).1 (ps.getD j (0,0)).2 (mss.getD j [])).length + 1
def gr (ps:List (Int × Int)) (mss:List (List Int)):Nat→Nat
  | 0=>1
  | n + 1=>gr ps mss n * gl ps mss n
theorem gl_le {ps:List (Int × Int)} {mss:List (List Int)} (h:∀ ms ∈ mss,ms.length ≤ 57) (j:Nat):gl ps mss j ≤ 58:=by
  unfold gl
  have:=dd_le (ps.getD j (0,0)).1 (ps.getD j (0,0)).2 (mss.getD j [])
  have h2:(mss.getD j []).length ≤ 57:=by
    rw [List.getD_eq_getElem?_getD]
    cases e:mss[j]? with
    | none=>simp
    | some ms=>exact h ms (List.mem_of_getElem? e)
  omega
theorem gr_le {ps:List (Int × Int)} {mss:List (List Int)} (h:∀ ms ∈ mss,ms.length ≤ 57):∀ n,gr ps mss n ≤ 58 ^ n
  | 0=>Nat.le_refl _
  | n + 1=>by
    have a:=gr_le (ps:=ps) h n
    have b:=gl_le (ps:=ps) h n
    show gr ps mss n * gl ps mss n ≤ 58 ^ n * 58
    exact Nat.mul_le_mul a b
def MLs (H:Hp) (as:List Addr) (mss:List (List Int)):Prop:=as.length = mss.length∧∀ (j:Nat) (ms:List Int),mss[j]? = some ms→∃ r,as[j]? = some r∧H r = some (.lst (ms.map V.int))
theorem MLs.keep {H H' : Hp} {as:List Addr} {mss:List (List Int)} (h:MLs H as mss) (k:∀ r ∈ as,∀ o,H r = some o→H' r = some o):MLs H' as mss :=
  ⟨h.1,fun j ms e=>let ⟨r,e1,e2⟩:=h.2 j ms e; ⟨r,e1,k r (List.mem_of_getElem? e1) _ e2⟩⟩
theorem MLs.same {H H' : Hp} {as:List Addr} {mss:List (List Int)} (h:MLs H as mss) (s:Same H H'):MLs H' as mss:=h.keep fun _ _ _ e=>s _ _ e
theorem MLs.app {H:Hp} {as:List Addr} {mss:List (List Int)} {j:Nat} {r:Addr} {ms ms' : List Int} (nd:as.Nodup) (h:MLs H as mss) (ea:as[j]? = some r) (em:mss[j]? = some ms):MLs (upd H r (.lst (ms'.map V.int))) as (mss.set j ms'):=by
  refine ⟨by rw [List.length_set]; exact h.1,fun i ns e=>?_⟩
  by_cases hij:i = j
  · subst hij
    have:i < mss.length:=(List.getElem?_eq_some_iff.mp em).1
    rw [List.getElem?_set_self this] at e
    cases e
    exact ⟨r,ea,upd_same⟩
  · rw [List.getElem?_set_ne (fun z=>hij z.symm)] at e
    obtain ⟨r2,e1,e2⟩:=h.2 i ns e
    refine ⟨r2,e1,(upd_ne fun z=>?_).trans e2⟩
    subst z
    obtain ⟨h1,h1'⟩:=List.getElem?_eq_some_iff.mp ea
    obtain ⟨h2,h2'⟩:=List.getElem?_eq_some_iff.mp e1
    exact hij ((List.getElem_inj nd).mp (h2'.trans h1'.symm))
theorem get_ref {as:List Addr} {j:Nat} {r:Addr} (e:as[j]? = some r):(as.map V.ref)[j]? = some (.ref r):=by rw [List.getElem?_map,e]; rfl
theorem of_ref {as:List Addr} {j:Nat} {x:V} (e:(as.map V.ref)[j]? = some x):∃ r,x = .ref r∧as[j]? = some r:=by
  rw [List.getElem?_map] at e
  cases h:as[j]? with
  | none=>rw [h] at e; cases e
  | some r=>rw [h] at e; cases e; exact ⟨r,rfl,rfl⟩
theorem mem_set {α:Type} {l:List α} {j:Nat} {x y:α} (h:y ∈ l.set j x):y = x∨y ∈ l:=by
  rcases List.mem_or_eq_of_mem_set h with h | h
  · exact .inr h
  · exact .inl h
def MOK (ps:List (Int × Int)) (mss:List (List Int)):Prop:=ps.length = mss.length∧ps.length ≤ 6∧∀ ms ∈ mss,ms.length ≤ 57
abbrev Tri:=Int × Int × V
def T3 (H:Hp) (xs:List V) (ts:List Tri):Prop:=xs.length = ts.length∧∀ (i:Nat) (t:Tri),ts[i]? = some t→∃ r:Addr,xs[i]? = some (.ref r)∧H r = some (.tup [.int t.1,.int t.2.1,t.2.2])
structure At (ts:List Tri) (c:Int) (j:Nat) (t:Tri):Prop where
  at_:ts[j]? = some t
  le:c ≤ t.2.1
  lt:∀ (i:Nat) (u:Tri),i < j→ts[i]? = some u→u.2.1 < c
inductive Lk (K:PySem.W.Frag) (H:Hp):V→List Int→V→Prop where
  | nil (v:V):Lk K H v [] v
  | cons {a:Addr} {xs:List V} {ts:List Tri} {c:Int} {cs:List Int} {j:Nat} {t:Tri} {r:V} (hS:SqT K H a xs) (hT:T3 H xs ts) (hA:At ts c j t) (h:Lk K H t.2.2 cs r):Lk K H (.ref a) (c :: cs) r
theorem Lk.cons_inv {K:PySem.W.Frag} {H:Hp} {v r:V} {c:Int} {cs:List Int} (h:Lk K H v (c :: cs) r):∃ (a:Addr) (xs:List V) (ts:List Tri) (j:Nat) (t:Tri),v = .ref a∧SqT K H a xs∧T3 H xs ts∧At ts c j t∧Lk K H t.2.2 cs r:=by
  cases h with
  | cons hS hT hA h=>exact ⟨_,_,_,_,_,rfl,hS,hT,hA,h⟩
theorem ch_of:∀ {c:List (Int × Int)} {lo hi:Int},Chn c lo hi→ChnP c lo hi
  | [],_,_,h=>h
  | _ :: _,_,_,h=>⟨h.1,h.2.1,ch_of h.2.2⟩
theorem stre_low:∀ {cs:List Int} {lo hi c:Int},cs.Pairwise (· < ·)→(∀ x ∈ cs,lo < x)→lo ≤ c→c ≤ hi→lowAt (stre lo hi cs) c ≤ c∧(lowAt (stre lo hi cs) c = lo∨lowAt (stre lo hi cs) c ∈ cs)∧lo ≤ lowAt (stre lo hi cs) c∧∀ x ∈ cs,x ≤ c→x ≤ lowAt (stre lo hi cs) c
  | [],lo,hi,c,_,_,h1,h2=>by
    have e:lowAt (stre lo hi []) c = lo:=by simp [stre,lowAt,h2]
    rw [e]
    exact ⟨h1,.inl rfl,Int.le_refl _,fun x hx=>by cases hx⟩
  | d :: cs,lo,hi,c,hp,hb,h1,h2=>by
    obtain ⟨p1,p2⟩:=List.pairwise_cons.mp hp
    have e:stre lo hi (d :: cs) = (lo,d - 1) :: stre d hi cs:=rfl
    by_cases q:c ≤ d - 1
    · have e2:lowAt (stre lo hi (d :: cs)) c = lo:=by rw [e]; unfold lowAt; rw [List.find?_cons_of_pos (by simpa using q)]; rfl
      rw [e2]
      refine ⟨h1,.inl rfl,Int.le_refl _,fun x hx hc=>?_⟩
      rcases List.mem_cons.mp hx with rfl | hx
      · omega
      · have:=p1 x hx; omega
    · have e2:lowAt (stre lo hi (d :: cs)) c = lowAt (stre d hi cs) c:=by rw [e]; unfold lowAt; rw [List.find?_cons_of_neg (by simpa using q)]
      rw [e2]
      obtain ⟨a1,a2,a3,a4⟩:=stre_low p2 p1 (c:=c) (by omega) h2
      have hd:=hb d List.mem_cons_self
      refine ⟨a1,.inr ?_,by omega,fun x hx hc=>?_⟩
      · rcases a2 with a2 | a2
        · rw [a2]; exact List.mem_cons_self
        · exact List.mem_cons_of_mem _ a2
      · rcases List.mem_cons.mp hx with rfl | hx
        · exact a3
        · exact a4 x hx hc
def CoL (H:Hp) (xs:List V) (cols:List (List (Int × Int))):Prop:=RefL xs cols fun r c=>∃ ts,H r = some (.lst ts)∧PL H ts c
theorem CoL.same {H H' : Hp} {xs:List V} {cols:List (List (Int × Int))} (h:CoL H xs cols) (s:Same H H'):CoL H' xs cols:=RefL.mono h fun _ _ ⟨ts,e,p⟩=>⟨ts,s _ _ e,PL.mono p s.tups⟩
structure LfOk {L:Type} [DecidableEq L] (A:Lfp L) (P:Program) (w:World) (K:PySem.W.Frag) (mg:Str→Option Value) (base:Heap) (f:Addr) (m:Nat) (g:List Int→L) (J:Hp→Prop):Prop where
  fn:∃ sp,HFn P w K mg base 3 f sp∧∀ (H:Hp) (a:Addr) (cs:List Int) (Q:VK),J H→cs.length = m→H a = some (.lst (cs.map V.int))→(∀ v H',(∀ b o,b ≠ a→H b = some o→H' b = some o)→A.R H' (g cs) v→Q v H')→sp [.ref a] H Q E0
  ob:∀ H,J H→FnO H f
  st:∀ H H',J H→Same H H'→J H'
theorem close_len {α:Type} [DecidableEq α] (ts:List (T3a α)):(closeF ts).length ≤ ts.length:=by
  have:∀ (r f:List (T3a α)),(r.foldl cstep f).length ≤ f.length + r.length:=by
    intro r
    induction r with
    | nil=>intro f; exact Nat.le_refl _
    | cons t r ih =>
      intro f
      have h1:(cstep f t).length ≤ f.length + 1:=by
        unfold cstep
        split
        · split
          · rw [List.length_append,List.length_dropLast,List.length_singleton]; omega
          · rw [List.length_append,List.length_singleton]; omega
        · rw [List.length_append,List.length_singleton]; omega
      have h2:=ih (cstep f t)
      rw [List.length_cons]
      show ((r.foldl cstep (cstep f t)).length) ≤ _
      omega
  have h:=this ts []
  rw [List.length_nil,Nat.zero_add] at h
  exact h
def below (ms:List Int) (c:Int):Int:=((ms.filter fun m=>decide (m ≤ c)).length:Int)
def tolk (mss:List (List Int)) (tw:Int) (cs:List Int):Nat→Int
  | 0=>0
  | k + 1=>tolk mss tw cs k * tw + (1 + tolk mss tw cs k) % 3 * below (mss.getD k []) (cs.getD k 0)
def told (mss:List (List Int)) (tw tu st:Int) (cs:List Int):Int:=tolk mss tw cs cs.length % tu * st
theorem below_le {ms:List Int} (h:ms.length ≤ 57) (c:Int):0 ≤ below ms c∧below ms c ≤ 57:=by
  have:=List.length_filter_le (fun m=>decide (m ≤ c)) ms
  unfold below
  omega
theorem tolk_le {mss:List (List Int)} {tw:Int} {cs:List Int} (h:∀ ms ∈ mss,ms.length ≤ 57) (h1:1 ≤ tw) (h2:tw ≤ 5):∀ k:Nat,0 ≤ tolk mss tw cs k∧tolk mss tw cs k ≤ 200 * 5 ^ k - 60
  | 0=>⟨Int.le_refl _,by show (0:Int) ≤ 200 * 1 - 60; decide⟩
  | k + 1=>by
    obtain ⟨a,b⟩:=tolk_le h h1 h2 (cs:=cs) k
    have hb:(mss.getD k []).length ≤ 57:=by
      rw [List.getD_eq_getElem?_getD]
      cases e:mss[k]? with
      | none=>exact Nat.zero_le _
      | some ms=>exact h ms (List.mem_of_getElem? e)
    obtain ⟨c,d⟩:=below_le hb (cs.getD k 0)
    show 0 ≤ tolk mss tw cs k * tw + (1 + tolk mss tw cs k) % 3 * below (mss.getD k []) (cs.getD k 0)∧tolk mss tw cs k * tw + (1 + tolk mss tw cs k) % 3 * below (mss.getD k []) (cs.getD k 0) ≤ 200 * 5 ^ (k + 1) - 60
    generalize tolk mss tw cs k = t at *
    generalize below (mss.getD k []) (cs.getD k 0) = z at *
    have m0:=Int.emod_nonneg (1 + t) (show (3:Int) ≠ 0 by decide)
    have m1:=Int.emod_lt_of_pos (1 + t) (show (0:Int) < 3 by decide)
    generalize (1 + t) % 3 = y at *
    have p1:0 ≤ t * tw:=Int.mul_nonneg a (by omega)
    have p2:t * tw ≤ t * 5:=Int.mul_le_mul_of_nonneg_left h2 a
    have p3:0 ≤ y * z:=Int.mul_nonneg m0 c
    have p4:y * z ≤ y * 57:=Int.mul_le_mul_of_nonneg_left d m0
    rw [Int.pow_succ]
    generalize (5:Int) ^ k = w at *
    omega
def IsMx (x:Int) (L:List Int):Prop:=x ∈ L∧∀ y ∈ L,y ≤ x
def SmS {α:Type} (b:Nat) (S:α→Prop) (f:List (T3a α)):Prop:=f.length ≤ b∧∀ t ∈ f,S t.2.2
def SmF {L:Type} (b:Nat):(n:Nat)→Fm L n→Prop
  | 0,_=>True
  | n + 1,f=>SmS b (SmF b n) f
theorem lay_sm {b:Nat} {L:Type} [DecidableEq L] {g:List Int→L} : ∀ {cols:List (List (Int × Int))} {ps:List (Int × Int)},ColOk cols ps→(∀ c ∈ cols,c.length ≤ b)→∀ ah:List Int,SmF b cols.length (lay g cols ah)
  | [],_,_,_,_=>trivial
  | c :: cols,_,hok,h,ah=>by
    cases hok with
    | @cons _ _ p ps hne hc hok =>
      have k:=close_ok (chn3 (fun q=>lay g cols (ah ++ [q.1])) hc)
      refine ⟨Nat.le_trans (close_len _) (by rw [List.length_map]; exact h c List.mem_cons_self),fun t ht=>?_⟩
      obtain ⟨t',h1,h2⟩:=k.mem t ht
      obtain ⟨q,_,rfl⟩:=List.mem_map.mp h1
      rw [← h2]
      exact lay_sm hok (fun c hc=>h c (List.mem_cons_of_mem _ hc)) _
theorem gl_le2 {ps:List (Int × Int)} {mss:List (List Int)} {m:Nat} (hW:∀ ms ∈ mss,∃ L:List Int,L.length ≤ m∧∀ x ∈ ms,x ∈ L) (j:Nat):gl ps mss j ≤ m + 1:=by
  unfold gl
  have:(dd (ps.getD j (0,0)).1 (ps.getD j (0,0)).2 (mss.getD j [])).length ≤ m:=by
    rw [show mss.getD j [] = (mss[j]?).getD [] from List.getD_eq_getElem?_getD ..]
    cases e:mss[j]? with
    | none=>exact Nat.zero_le _
    | some ms =>
      obtain ⟨L,h1,h2⟩:=hW ms (List.mem_of_getElem? e)
      obtain ⟨a,b⟩:=dd_gen (ps.getD j (0,0)).1 (ps.getD j (0,0)).2 ms [] List.nodup_nil
      refine Nat.le_trans (nodup_sub_len a fun x hx=>?_) h1
      rcases (b x).mp hx with z | z
      · cases z
      · exact h2 x z.1
  omega
theorem deq_ints {K:PySem.W.Frag} {H:Hp} {n:Nat} {a b:Addr} {ns:List Int} (ha:H a = some (.lst (ns.map V.int))) (hb:H b = some (.lst (ns.map V.int))):DEq K H (n + 1) (.ref a) (.ref b) true:=by
  by_cases e:a = b
  · subst e; exact .same a
  · have d:=DEq.lst (K:=K) (n:=n) (f:=fun _=>true) e (SqL.of ha) (SqL.of hb) rfl fun j x y e1 e2=>by
      rw [e1] at e2
      cases e2
      obtain ⟨c,rfl,_⟩:=of_map e1
      have:=DEq.flat (K:=K) (H:=H) (n:=n) (x:=.int c) (y:=.int c) rfl rfl
      rw [show eqV (.int c) (.int c) = true by simp [eqV]] at this
      exact this
    rw [show (List.range (ns.map V.int).length).all (fun _=>true) = true by simp] at d
    exact d
theorem col_ok:∀ {ps:List (Int × Int)} {css:List (List Int)},css.length = ps.length→(∀ p ∈ ps,p.1 ≤ p.2)→(∀ (j:Nat) (p:Int × Int) (cs:List Int),ps[j]? = some p→css[j]? = some cs→cs.Pairwise (· < ·)∧∀ c ∈ cs,p.1 < c∧c ≤ p.2)→ColOk (List.zipWith (fun p cs=>stre p.1 p.2 cs) ps css) ps
  | [],[],_,_,_=>.nil
  | [],_ :: _,h,_,_=>by simp at h
  | _ :: _,[],h,_,_=>by simp at h
  | p :: ps,cs :: css,h,hle,hk=>by
    obtain ⟨a,b⟩:=hk 0 p cs rfl rfl
    refine .cons (fun z=>?_) (ch_of (stre_chn a b (hle p List.mem_cons_self))) (col_ok (by simpa using h) (fun q hq=>hle q (List.mem_cons_of_mem _ hq)) fun j q c e1 e2=>hk (j + 1) q c (by simpa using e1) (by simpa using e2))
    have:=congrArg List.length z
    rw [stre_len] at this
    simp at this
theorem fm_tri {α:Type} {R:α→V→Prop} {H:Hp} : ∀ {f:List (T3a α)} {xs:List V},FmL R H f xs→∃ ts:List Tri,T3 H xs ts∧∀ (i:Nat) (t:T3a α),f[i]? = some t→∃ u,ts[i]? = some (t.1,t.2.1,u)∧R t.2.2 u
  | [],xs,h=>by
    have:xs = []:=List.eq_nil_of_length_eq_zero h.1
    subst this
    exact ⟨[],⟨rfl,fun i t e=>by simp at e⟩,fun i t e=>by simp at e⟩
  | t :: f,[],h=>by have:=h.1; simp at this
  | t :: f,x :: xs,h=>by
    obtain ⟨r,u,a,b,c⟩:=h.2 0 t rfl
    cases a
    obtain ⟨ts,h1,h2⟩:=fm_tri (f:=f) (xs:=xs) ⟨by simpa using h.1,fun i v e=>by simpa using h.2 (i + 1) v (by simpa using e)⟩
    refine ⟨(t.1,t.2.1,u) :: ts,⟨by rw [List.length_cons,List.length_cons,h1.1],fun i v e=>?_⟩,fun i v e=>?_⟩
    · match i,e with
      | 0,e=>cases e; exact ⟨r,rfl,b⟩
      | i + 1,e=>exact h1.2 i v (by simpa using e)
    · match i,e with
      | 0,e=>cases e; exact ⟨u,rfl,c⟩
      | i + 1,e=>exact h2 i v (by simpa using e)
theorem tel_lk {L:Type} [DecidableEq L] {A:Lfp L} {K:PySem.W.Frag} {H:Hp} {n:Nat} {F:Fm L n} {cs:List Int} {x:L} (h:Tel n F cs x):∀ {v:V},FmV A H n F v→∃ u,A.R H x u∧Lk K H v cs u:=by
  induction h with
  | nil x=>intro v hv; exact ⟨v,hv,.nil _⟩
  | @cons n f c cs x j t e1 e2 e3 _ ih =>
    intro v hv
    obtain ⟨a,xs,rfl,ha,hL⟩:∃ (a:Addr) (xs:List V),v = .ref a∧H a = some (.tup xs)∧FmL (FmV A H n) H f xs:=hv
    obtain ⟨ts,h1,h2⟩:=fm_tri hL
    obtain ⟨u,eu,hu⟩:=h2 j t e1
    obtain ⟨z,hz,hlk⟩:=ih hu
    refine ⟨z,hz,.cons (SqT.of ha) h1 ⟨eu,e2,fun i w hi ew=>?_⟩ hlk⟩
    have hlt:i < f.length:=by have:=(List.getElem?_eq_some_iff.mp e1).1; omega
    obtain ⟨u',eu',_⟩:=h2 i _ (List.getElem?_eq_getElem hlt)
    rw [ew] at eu'
    cases eu'
    exact e3 i _ hi (List.getElem?_eq_getElem hlt)
def mapF {L M:Type} [DecidableEq M] (h:L→M):(n:Nat)→Fm L n→Fm M n
  | 0,x=>h x
  | n + 1,f=>closeF (List.map (fun t:T3a (Fm L n)=>((t.1,t.2.1,mapF h n t.2.2):T3a (Fm M n))) f)
theorem ch3_map {α β:Type} (F:α→β):∀ {f:List (T3a α)} {lo hi:Int},Ch3 f lo hi→Ch3 (f.map fun t=>((t.1,t.2.1,F t.2.2):T3a β)) lo hi
  | [],_,_,h=>h
  | _ :: _,_,_,h=>⟨h.1,h.2.1,ch3_map F h.2.2⟩
theorem vAt_map3 {α β:Type} (F:α→β) (c:Int):∀ f:List (T3a α),vAt (f.map fun t=>((t.1,t.2.1,F t.2.2):T3a β)) c = (vAt f c).map F
  | []=>rfl
  | t :: f=>by
    have ih:=vAt_map3 F c f
    unfold vAt at ih ⊢
    rw [List.map_cons]
    by_cases q:c ≤ t.2.1
    · rw [List.find?_cons_of_pos (by simpa using q),List.find?_cons_of_pos (by simpa using q)]; rfl
    · rw [List.find?_cons_of_neg (by simpa using q),List.find?_cons_of_neg (by simpa using q)]
      exact ih
theorem vAt_first {α:Type} {c:Int} : ∀ {f:List (T3a α)} {j:Nat} {t:T3a α},f[j]? = some t→c ≤ t.2.1→(∀ (i:Nat) (u:T3a α),i < j→f[i]? = some u→u.2.1 < c)→vAt f c = some t.2.2
  | [],j,t,e,_,_=>by simp at e
  | u :: f,0,t,e,h,_=>by
    cases e
    unfold vAt
    rw [List.find?_cons_of_pos (by simpa using h)]
    rfl
  | u :: f,j + 1,t,e,h,k=>by
    have hu:=k 0 u (Nat.succ_pos _) rfl
    have:=vAt_first (f:=f) (j:=j) (t:=t) (by simpa using e) h fun i w hi ew=>k (i + 1) w (by omega) (by simpa using ew)
    unfold vAt at this ⊢
    rw [List.find?_cons_of_neg (by simpa using hu)]
    exact this
theorem map_sh {L M:Type} [DecidableEq M] {h:L→M} : ∀ {n:Nat} {F:Fm L n} {ps:List (Int × Int)},ShOk n F ps→ShOk n (mapF h n F) ps
  | 0,_,_,hs=>hs
  | n + 1,F,ps,hs=>by
    obtain ⟨G,rfl⟩:∃ G:List (T3a (Fm L n)),(G:Fm L (n + 1)) = F:=⟨F,rfl⟩
    obtain ⟨p,r,rfl,hne,hch,hnb,hall⟩:ShS (ShOk n) G ps:=hs
    have k:=close_ok (ch3_map (mapF h n) hch)
    refine ⟨p,r,rfl,k.ne (by simpa using hne),k.ch,k.nb,fun t ht=>?_⟩
    obtain ⟨t',a,b⟩:=k.mem t ht
    obtain ⟨u,hu,rfl⟩:=List.mem_map.mp a
    rw [← b]
    exact map_sh (hall u hu)
theorem map_tel {L M:Type} [DecidableEq M] {h:L→M} {n:Nat} {F:Fm L n} {cs:List Int} {x:L} (ht:Tel n F cs x):∀ {ps:List (Int × Int)},ShOk n F ps→InB cs ps→Tel n (mapF h n F) cs (h x):=by
  induction ht with
  | nil x=>intro ps _ _; exact .nil (h x)
  | @cons n f c cs x j t e1 e2 e3 _ ih =>
    intro ps hs hb
    obtain ⟨p,r,rfl,hne,hch,hnb,hall⟩:ShS (ShOk n) f ps:=hs
    cases hb with
    | cons h1 h2 hb =>
      have k:=close_ok (ch3_map (mapF h n) hch)
      obtain ⟨j',t',a1,a2,a3,a4,a5⟩:=k.ch.at h1 h2
      rw [k.va,vAt_map3,vAt_first e1 e2 e3] at a5
      have a5:mapF h n t.2.2 = t'.2.2:=Option.some.inj a5
      refine .cons (f:=(mapF h (n + 1) f:List (T3a (Fm M n)))) a1 a3 a4 ?_
      rw [← a5]
      exact ih (hall t (List.mem_of_getElem? e1)) hb
structure ChOk {L M:Type} [DecidableEq L] [DecidableEq M] (A:Lfp L) (B:Lfp M) (P:Program) (w:World) (K:PySem.W.Frag) (mg:Str→Option Value) (base:Heap) (f:Addr) (h:L→M) (J:Hp→Prop):Prop where
  fn:∃ sp,HFn P w K mg base 3 f sp∧∀ (H:Hp) (v:V) (x:L) (Q:VK),J H→A.R H x v→(∀ u H',Same H H'→B.R H' (h x) u→Q u H')→sp [v] H Q E0
  ob:∀ H,J H→FnO H f
  st:∀ H H',J H→Same H H'→J H'
def zipT {α β γ:Type} (G:α→β→γ):Int→List (T3a α)→List (T3a β)→List (T3a γ)
  | _,[],_=>[]
  | _,_ :: _,[]=>[]
  | lo,s :: f,t :: g =>
    if s.2.1 < t.2.1 then (lo,s.2.1,G s.2.2 t.2.2) :: zipT G (s.2.1 + 1) f (t :: g)
    else if t.2.1 < s.2.1 then (lo,t.2.1,G s.2.2 t.2.2) :: zipT G (t.2.1 + 1) (s :: f) g
    else (lo,s.2.1,G s.2.2 t.2.2) :: zipT G (s.2.1 + 1) f g
termination_by _ f g=>f.length + g.length
def Cov {α:Type} : List (T3a α)→Int→Int→Prop
  | [],lo,hi=>lo = hi + 1
  | t :: r,lo,hi=>lo ≤ t.2.1∧Ch3 r (t.2.1 + 1) hi
theorem _root_.L2.Ch3.cov {α:Type} : ∀ {f:List (T3a α)} {lo hi:Int},Ch3 f lo hi→Cov f lo hi
  | [],_,_,h=>h
  | _ :: _,_,_,h=>⟨h.2.1,h.2.2⟩
theorem _root_.L2.Ch3.le {α:Type} : ∀ {f:List (T3a α)} {lo hi:Int},Ch3 f lo hi→lo ≤ hi + 1
  | [],_,_,h=>Int.le_of_eq h
  | t :: f,lo,hi,h=>by have:=L2.Ch3.le h.2.2; have:=h.2.1; omega
theorem vAt_cons {α:Type} (t:T3a α) (r:List (T3a α)) (c:Int):vAt (t :: r) c = if c ≤ t.2.1 then some t.2.2 else vAt r c:=by
  unfold vAt
  by_cases h:c ≤ t.2.1
  · rw [List.find?_cons_of_pos (by simpa using h),if_pos h]; rfl
  · rw [List.find?_cons_of_neg (by simpa using h),if_neg h]
structure ZipOk {α β γ:Type} (G:α→β→γ) (f:List (T3a α)) (g:List (T3a β)) (z:List (T3a γ)) (lo hi:Int):Prop where
  ch:Ch3 z lo hi
  va:∀ c x y,lo ≤ c→c ≤ hi→vAt f c = some x→vAt g c = some y→vAt z c = some (G x y)
  mem:∀ t ∈ z,∃ s ∈ f,∃ u ∈ g,t.2.2 = G s.2.2 u.2.2
  len:z.length ≤ f.length + g.length
  ne:f ≠ []→g ≠ []→z ≠ []
theorem zipT_ok {α β γ:Type} {G:α→β→γ} : ∀ {f:List (T3a α)} {g:List (T3a β)} {lo hi:Int},Cov f lo hi→Cov g lo hi→ZipOk G f g (zipT G lo f g) lo hi
  | [],g,lo,hi,hf,hg=>by
    rw [zipT]
    have hf:lo = hi + 1:=hf
    exact ⟨hf,fun c _ _ h1 h2=>by omega,(fun t ht=>by cases ht),Nat.zero_le _,fun h=>absurd rfl h⟩
  | s :: f,[],lo,hi,hf,hg=>by
    have hg:lo = hi + 1:=hg
    have:=hf.1
    have:=hf.2.le
    omega
  | s :: f,t :: g,lo,hi,hf,hg=>by
    rw [zipT]
    have f1:=hf.1
    have g1:=hg.1
    by_cases h1:s.2.1 < t.2.1
    · rw [if_pos h1]
      have k:=zipT_ok (G:=G) (f:=f) (g:=t :: g) (lo:=s.2.1 + 1) (hi:=hi) hf.2.cov ⟨by omega,hg.2⟩
      refine ⟨⟨rfl,f1,k.ch⟩,fun c x y c1 c2 ex ey=>?_,fun z hz=>?_,by have:=k.len; simp at this ⊢; omega,fun _ _=>by simp⟩
      · rw [vAt_cons] at ex ⊢
        by_cases q:c ≤ s.2.1
        · rw [if_pos q] at ex
          rw [vAt_cons,if_pos (by omega)] at ey
          cases ex; cases ey
          rw [if_pos q]
        · rw [if_neg q] at ex
          rw [if_neg q]
          exact k.va c x y (by omega) c2 ex ey
      · rcases List.mem_cons.mp hz with rfl | hz
        · exact ⟨s,by simp,t,by simp,rfl⟩
        · obtain ⟨a,ha,b,hb,e⟩:=k.mem z hz
          exact ⟨a,List.mem_cons_of_mem _ ha,b,hb,e⟩
    · rw [if_neg h1]
      by_cases h2:t.2.1 < s.2.1
      · rw [if_pos h2]
        have k:=zipT_ok (G:=G) (f:=s :: f) (g:=g) (lo:=t.2.1 + 1) (hi:=hi) ⟨by omega,hf.2⟩ hg.2.cov
        refine ⟨⟨rfl,g1,k.ch⟩,fun c x y c1 c2 ex ey=>?_,fun z hz=>?_,by have:=k.len; simp at this ⊢; omega,fun _ _=>by simp⟩
        · rw [vAt_cons]
          by_cases q:c ≤ t.2.1
          · rw [vAt_cons,if_pos (by omega)] at ex
            rw [vAt_cons,if_pos q] at ey
            cases ex; cases ey
            rw [if_pos q]
          · rw [vAt_cons,if_neg q] at ey
            rw [if_neg q]
            exact k.va c x y (by omega) c2 ex ey
        · rcases List.mem_cons.mp hz with rfl | hz
          · exact ⟨s,by simp,t,by simp,rfl⟩
          · obtain ⟨a,ha,b,hb,e⟩:=k.mem z hz
            exact ⟨a,ha,b,List.mem_cons_of_mem _ hb,e⟩
      · rw [if_neg h2]
        have e:s.2.1 = t.2.1:=by omega
        have k:=zipT_ok (G:=G) (f:=f) (g:=g) (lo:=s.2.1 + 1) (hi:=hi) hf.2.cov (by rw [e]; exact hg.2.cov)
        refine ⟨⟨rfl,f1,k.ch⟩,fun c x y c1 c2 ex ey=>?_,fun z hz=>?_,by have:=k.len; simp at this ⊢; omega,fun _ _=>by simp⟩
        · rw [vAt_cons] at ex ey ⊢
          by_cases q:c ≤ s.2.1
          · rw [if_pos q] at ex
            rw [if_pos (by omega)] at ey
            cases ex; cases ey
            rw [if_pos q]
          · rw [if_neg q] at ex
            rw [if_neg (by omega)] at ey
            rw [if_neg q]
            exact k.va c x y (by omega) c2 ex ey
        · rcases List.mem_cons.mp hz with rfl | hz
          · exact ⟨s,by simp,t,by simp,rfl⟩
          · obtain ⟨a,ha,b,hb,e⟩:=k.mem z hz
            exact ⟨a,List.mem_cons_of_mem _ ha,b,List.mem_cons_of_mem _ hb,e⟩
termination_by f g=>f.length + g.length
def loF {α:Type} (f:List (T3a α)):Int:=(f.head?.map (·.1)).getD 0
def pairF {L M N:Type} [DecidableEq N] (h:L→M→N):(n:Nat)→Fm L n→Fm M n→Fm N n
  | 0,x,y=>h x y
  | n + 1,f,g=>closeF (α:=Fm N n) (zipT (pairF h n) (loF (show List (T3a (Fm L n)) from f)) (show List (T3a (Fm L n)) from f) (show List (T3a (Fm M n)) from g))
theorem _root_.L2.Ch3.lo {α:Type} : ∀ {f:List (T3a α)} {lo hi:Int},Ch3 f lo hi→f ≠ []→loF f = lo
  | [],_,_,_,h=>absurd rfl h
  | _ :: _,_,_,h,_=>h.1
section
variable {L M N:Type} [DecidableEq N] {h:L→M→N}
theorem pair_one {n:Nat} {f:List (T3a (Fm L n))} {g:List (T3a (Fm M n))} {p:Int × Int} (hf:Ch3 f p.1 p.2) (nf:f ≠ []) (hg:Ch3 g p.1 p.2):∃ z,z = zipT (pairF h n) p.1 f g∧ZipOk (pairF h n) f g z p.1 p.2∧(pairF h (n + 1) f g:List (T3a (Fm N n))) = closeF z:=by
  refine ⟨_,rfl,zipT_ok hf.cov hg.cov,?_⟩
  show closeF (zipT (pairF h n) (loF f) f g) = _
  rw [hf.lo nf]
theorem pair_sh:∀ {n:Nat} {F:Fm L n} {G:Fm M n} {ps:List (Int × Int)},ShOk n F ps→ShOk n G ps→ShOk n (pairF h n F G) ps
  | 0,_,_,_,hs,_=>hs
  | n + 1,F,G,ps,hs,hs'=>by
    obtain ⟨f,rfl⟩:∃ f:List (T3a (Fm L n)),(f:Fm L (n + 1)) = F:=⟨F,rfl⟩
    obtain ⟨g,rfl⟩:∃ g:List (T3a (Fm M n)),(g:Fm M (n + 1)) = G:=⟨G,rfl⟩
    obtain ⟨p,r,rfl,hne,hch,hnb,hall⟩:ShS (ShOk n) f ps:=hs
    obtain ⟨p',r',e,hne',hch',hnb',hall'⟩:ShS (ShOk n) g (p :: r):=hs'
    cases e
    obtain ⟨z,_,hz,e⟩:=pair_one (h:=h) hch hne hch'
    show ShS (ShOk n) (pairF h (n + 1) f g:List (T3a (Fm N n))) (p :: r)
    rw [e]
    have k:=close_ok hz.ch
    refine ⟨p,r,rfl,k.ne (hz.ne hne hne'),k.ch,k.nb,fun t ht=>?_⟩
    obtain ⟨t',a,b⟩:=k.mem t ht
    obtain ⟨s,hs,u,hu,e⟩:=hz.mem t' a
    rw [← b,e]
    exact pair_sh (hall s hs) (hall' u hu)
theorem tel_inv0 {n:Nat} {g:List (T3a (Fm M n))} {c:Int} {cs:List Int} {y:M} (h:Tel (n + 1) (g:Fm M (n + 1)) (c :: cs) y):∃ (j:Nat) (t:T3a (Fm M n)),g[j]? = some t∧c ≤ t.2.1∧(∀ (i:Nat) (u:T3a (Fm M n)),i < j→g[i]? = some u→u.2.1 < c)∧Tel n t.2.2 cs y:=by
  cases h with
  | cons a b c d=>exact ⟨_,_,a,b,c,d⟩
theorem pair_tel {n:Nat} {F:Fm L n} {cs:List Int} {x:L} (ht:Tel n F cs x):∀ {G:Fm M n} {y:M} {ps:List (Int × Int)},Tel n G cs y→ShOk n F ps→ShOk n G ps→InB cs ps→Tel n (pairF h n F G) cs (h x y):=by
  induction ht with
  | nil x =>
    intro G y ps hy _ _ _
    cases hy
    exact .nil _
  | @cons n f c cs x j t e1 e2 e3 _ ih =>
    intro G y ps hy hs hs' hb
    obtain ⟨g,rfl⟩:∃ g:List (T3a (Fm M n)),(g:Fm M (n + 1)) = G:=⟨G,rfl⟩
    obtain ⟨j',t',a1,a2,a3,a4⟩:=(tel_inv0 hy)
    obtain ⟨p,r,rfl,hne,hch,hnb,hall⟩:ShS (ShOk n) f ps:=hs
    obtain ⟨p',r',e,hne',hch',hnb',hall'⟩:ShS (ShOk n) g (p :: r):=hs'
    cases e
    obtain ⟨z,_,hz,e⟩:=pair_one (h:=h) hch hne hch'
    cases hb with
    | cons h1 h2 hb =>
      have k:=close_ok hz.ch
      obtain ⟨j2,t2,b1,b2,b3,b4,b5⟩:=k.ch.at h1 h2
      rw [k.va,hz.va c _ _ h1 h2 (vAt_first e1 e2 e3) (vAt_first a1 a2 a3)] at b5
      have b5:pairF h n t.2.2 t'.2.2 = t2.2.2:=Option.some.inj b5
      refine .cons (f:=(pairF h (n + 1) f g:List (T3a (Fm N n)))) (by rw [e]; exact b1) b3 (by rw [e]; exact b4) ?_
      rw [← b5]
      exact ih a4 (hall t (List.mem_of_getElem? e1)) (hall' t' (List.mem_of_getElem? a1)) hb
end
theorem drop_at {α:Type} {f:List α} {i:Nat} {t:α} (e:f[i]? = some t):f.drop i = t :: f.drop (i + 1):=by
  obtain ⟨h,rfl⟩:=List.getElem?_eq_some_iff.mp e
  exact List.drop_eq_getElem_cons h
abbrev PrO (ps:List (Int × Int)) (mss css:List (List Int)):Prop:=∀ (j:Nat) (p:Int × Int) (ms cs:List Int),ps[j]? = some p→mss[j]? = some ms→css[j]? = some cs→cs.Pairwise (· < ·)∧(∀ c,c ∈ cs↔(c ∈ ms∧p.1 < c∧c ≤ p.2))∧cs.length < 64
theorem pr_in {ps:List (Int × Int)} {mss css:List (List Int)} (hml:mss.length = ps.length) (hpr:PrO ps mss css):∀ (j:Nat) (p:Int × Int) (cs:List Int),ps[j]? = some p→css[j]? = some cs→cs.Pairwise (· < ·)∧∀ c ∈ cs,p.1 < c∧c ≤ p.2:=fun j p cs e1 e2=>by
  obtain ⟨ms,em⟩:∃ ms,mss[j]? = some ms:=⟨_,List.getElem?_eq_getElem (by have:=(List.getElem?_eq_some_iff.mp e1).1; omega)⟩
  obtain ⟨x1,x2,_⟩:=hpr j p ms cs e1 em e2
  exact ⟨x1,fun c hc=>((x2 c).mp hc).2⟩
theorem cols_le {ps:List (Int × Int)} {mss css:List (List Int)} (hcs:css.length = ps.length) (hml:mss.length = ps.length) (hpr:PrO ps mss css):∀ c ∈ (List.zipWith (fun p cs=>stre p.1 p.2 cs) ps css),c.length ≤ 300:=fun col hcol=>by
  obtain ⟨j,ej⟩:=List.getElem?_of_mem hcol
  have hj:j < (List.zipWith (fun p cs=>stre p.1 p.2 cs) ps css).length:=(List.getElem?_eq_some_iff.mp ej).1
  rw [List.length_zipWith] at hj
  obtain ⟨p,ep⟩:∃ p,ps[j]? = some p:=⟨_,List.getElem?_eq_getElem (by omega)⟩
  obtain ⟨cs,ec⟩:∃ cs,css[j]? = some cs:=⟨_,List.getElem?_eq_getElem (by omega)⟩
  obtain ⟨ms,em⟩:∃ ms,mss[j]? = some ms:=⟨_,List.getElem?_eq_getElem (by omega)⟩
  rw [List.getElem?_zipWith,ep,ec] at ej
  have ej:stre p.1 p.2 cs = col:=Option.some.inj ej
  rw [← ej,stre_len]
  have:=(hpr j p ms cs ep em ec).2.2
  omega
theorem mls_snoc {H' H2:Hp} {as2:List Addr} {mss:List (List Int)} {i:Nat} {ms:List Int} {t D:Addr} {zs:List V} (em:mss[i]? = some ms) (hM2:MLs H' as2 (mss.take i)) (hl2:as2.length = i) (hfr2:∀ r ∈ as2,r ≠ D) (u1:Same H' H2) (ntD:t ≠ D) (e1:H2 t = some (.lst (ms.map V.int))):MLs (upd H2 D (.lst zs)) (as2 ++ [t]) (mss.take (i + 1)):=by
  have hi2:=(List.getElem?_eq_some_iff.mp em).1
  rw [take_snoc em]
  refine ⟨by simp [hl2,List.length_take]; omega,fun j ms' ej=>?_⟩
  by_cases hji:j < i
  · rw [List.getElem?_append_left (by rw [List.length_take]; omega)] at ej
    obtain ⟨r2,er2,hr2⟩:=hM2.2 j ms' ej
    exact ⟨r2,by rw [List.getElem?_append_left (by omega)]; exact er2,(upd_ne (hfr2 r2 (List.mem_of_getElem? er2))).trans (u1 _ _ hr2)⟩
  · have hj:j = i:=by
      have:=(List.getElem?_eq_some_iff.mp ej).1
      rw [List.length_append,List.length_take,List.length_singleton] at this
      omega
    subst hj
    have hlt:(mss.take j).length = j:=by rw [List.length_take]; omega
    rw [List.getElem?_append_right (by omega),hlt,Nat.sub_self] at ej
    cases ej
    exact ⟨t,by rw [List.getElem?_append_right (by omega),hl2,Nat.sub_self]; rfl,(upd_ne ntD).trans e1⟩
structure PrOk {L M N:Type} [DecidableEq L] [DecidableEq M] [DecidableEq N] (A:Lfp L) (B:Lfp M) (C:Lfp N) (P:Program) (w:World) (K:PySem.W.Frag) (mg:Str→Option Value) (base:Heap) (f:Addr) (h:L→M→N) (J:Hp→Prop):Prop where
  fn:∃ sp,HFn P w K mg base 3 f sp∧∀ (H:Hp) (v u:V) (x:L) (y:M) (Q:VK),J H→A.R H x v→B.R H y u→(∀ r H',Same H H'→C.R H' (h x y) r→Q r H')→sp [v,u] H Q E0
  ob:∀ H,J H→FnO H f
  st:∀ H H',J H→Same H H'→J H'
theorem low_le {p:Int × Int} {ms ks:List Int} {c:Int} (k1:ks.Pairwise (· < ·)) (k2:∀ c,c ∈ ks↔(c ∈ ms∧p.1 < c∧c ≤ p.2)) (b1:p.1 ≤ c) (b2:c ≤ p.2) {m:Int} (hm:m ∈ ms):m ≤ lowAt (stre p.1 p.2 ks) c↔m ≤ c:=by
  obtain ⟨a1,a2,a3,a4⟩:=stre_low (hi:=p.2) k1 (fun y hy=>((k2 y).mp hy).2.1) b1 b2
  refine ⟨fun q=>by omega,fun q=>?_⟩
  by_cases h:p.1 < m
  · exact a4 m ((k2 m).mpr ⟨hm,h,by omega⟩) q
  · omega
def SubM (mss msy:List (List Int)):Prop:=∀ (j:Nat) (ms my:List Int),mss[j]? = some ms→msy[j]? = some my→∀ m ∈ ms,m ∈ my
theorem lows_at {ps:List (Int × Int)} {css:List (List Int)} {cs:List Int} {k:Nat} {p:Int × Int} {ks:List Int} {c:Int} (ep:ps[k]? = some p) (ek:css[k]? = some ks) (ec:cs[k]? = some c):(List.zipWith lowAt (List.zipWith (fun p cs=>stre p.1 p.2 cs) ps css) cs)[k]? = some (lowAt (stre p.1 p.2 ks) c):=by
  rw [List.getElem?_zipWith,List.getElem?_zipWith,ep,ek,ec]
theorem tolk_sub {ps:List (Int × Int)} {mss msy css:List (List Int)} {cs:List Int} {tw:Int} (hcs:css.length = ps.length) (hml:mss.length = ps.length) (hmy:msy.length = ps.length) (hin:InB cs ps) (hsub:SubM mss msy) (hpr:PrO ps msy css) :
    ∀ k:Nat,k ≤ cs.length→tolk mss tw (List.zipWith lowAt (List.zipWith (fun p cs=>stre p.1 p.2 cs) ps css) cs) k = tolk mss tw cs k
  | 0,_=>rfl
  | k + 1,hk=>by
    have hcl:=hin.length
    have ih:=tolk_sub hcs hml hmy hin hsub hpr (tw:=tw) k (by omega)
    obtain ⟨c,ec⟩:∃ c,cs[k]? = some c:=⟨_,List.getElem?_eq_getElem (by omega)⟩
    obtain ⟨p,ep⟩:∃ p,ps[k]? = some p:=⟨_,List.getElem?_eq_getElem (by omega)⟩
    obtain ⟨ms,em⟩:∃ ms,mss[k]? = some ms:=⟨_,List.getElem?_eq_getElem (by omega)⟩
    obtain ⟨my,ey⟩:∃ my,msy[k]? = some my:=⟨_,List.getElem?_eq_getElem (by omega)⟩
    obtain ⟨ks,ek⟩:∃ ks,css[k]? = some ks:=⟨_,List.getElem?_eq_getElem (by omega)⟩
    obtain ⟨k1,k2,_⟩:=hpr k p my ks ep ey ek
    obtain ⟨b1,b2⟩:=hin.get k c p ec ep
    have e1:(List.zipWith lowAt (List.zipWith (fun p cs=>stre p.1 p.2 cs) ps css) cs).getD k 0 = lowAt (stre p.1 p.2 ks) c:=by
      rw [List.getD_eq_getElem?_getD,lows_at ep ek ec]
      rfl
    have e2:cs.getD k 0 = c:=by rw [List.getD_eq_getElem?_getD,ec]; rfl
    have e3:mss.getD k [] = ms:=by rw [List.getD_eq_getElem?_getD,em]; rfl
    have e4:below ms (lowAt (stre p.1 p.2 ks) c) = below ms c:=by
      unfold below
      rw [List.filter_congr fun m hm=>?_]
      exact decide_eq_decide.mpr (low_le k1 k2 b1 b2 (hsub k ms my em ey m hm))
    show tolk mss tw _ k * tw + (1 + tolk mss tw _ k) % 3 * below (mss.getD k []) _ = tolk mss tw cs k * tw + (1 + tolk mss tw cs k) % 3 * below (mss.getD k []) (cs.getD k 0)
    rw [ih,e1,e2,e3,e4]
theorem told_sub {ps:List (Int × Int)} {mss msy css:List (List Int)} {cs:List Int} {tw tu st:Int} (hcs:css.length = ps.length) (hml:mss.length = ps.length) (hmy:msy.length = ps.length) (hin:InB cs ps) (hsub:SubM mss msy) (hpr:PrO ps msy css) :
    told mss tw tu st (List.zipWith lowAt (List.zipWith (fun p cs=>stre p.1 p.2 cs) ps css) cs) = told mss tw tu st cs:=by
  have hcl:=hin.length
  have hl:(List.zipWith lowAt (List.zipWith (fun p cs=>stre p.1 p.2 cs) ps css) cs).length = cs.length:=by rw [List.length_zipWith,List.length_zipWith]; omega
  unfold told
  rw [hl,tolk_sub hcs hml hmy hin hsub hpr _ (Nat.le_refl _)]
theorem list_uniq {α:Type} : ∀ {f g:List (T3a α)} {lo hi:Int},Ch3 f lo hi→Ch3 g lo hi→Nbx (f.map (·.2.2))→Nbx (g.map (·.2.2))→(∀ c,lo ≤ c→c ≤ hi→vAt f c = vAt g c)→f = g
  | [],[],_,_,_,_,_,_,_=>rfl
  | [],t :: g,lo,hi,hf,hg,_,_,_=>by
    have hf:lo = hi + 1:=hf
    have:=hg.2.1
    have:=hg.2.2.le
    omega
  | s :: f,[],lo,hi,hf,hg,_,_,_=>by
    have hg:lo = hi + 1:=hg
    have:=hf.2.1
    have:=hf.2.2.le
    omega
  | s :: f,t :: g,lo,hi,hf,hg,nf,ng,hv=>by
    obtain ⟨f1,f2,f3⟩:=hf
    obtain ⟨g1,g2,g3⟩:=hg
    have lf:=f3.le
    have lg:=g3.le
    have e0:=hv lo (by omega) (by omega)
    rw [vAt_cons,vAt_cons,if_pos f2,if_pos g2] at e0
    have e0:s.2.2 = t.2.2:=Option.some.inj e0
    have nxt:∀ {a b:T3a α} {r:List (T3a α)} {q:List (T3a α)},Ch3 r (a.2.1 + 1) hi→Nbx ((a :: r).map (·.2.2))→a.2.1 < b.2.1→b.2.1 ≤ hi→lo ≤ a.2.1→a.2.2 = b.2.2→vAt (a :: r) (a.2.1 + 1) = vAt (b :: q) (a.2.1 + 1)→False:=fun {a b r q} hr hn h1 h2 h3 h4 h5=>by
      rw [vAt_cons,vAt_cons,if_neg (by omega),if_pos (by omega)] at h5
      cases r with
      | nil =>
        have hr:a.2.1 + 1 = hi + 1:=hr
        omega
      | cons u r =>
        rw [vAt_cons,if_pos hr.2.1] at h5
        exact hn 0 _ _ rfl rfl (h4.trans (Option.some.inj h5).symm)
    have e1:s.2.1 = t.2.1:=by
      rcases Int.lt_trichotomy s.2.1 t.2.1 with h | h | h
      · exact (nxt f3 nf h (by omega) f2 e0 (hv _ (by omega) (by omega))).elim
      · exact h
      · exact (nxt g3 ng h (by omega) g2 e0.symm (hv _ (by omega) (by omega)).symm).elim
    have e2:s = t:=by
      obtain ⟨s1,s2,s3⟩:=s
      obtain ⟨t1,t2,t3⟩:=t
      simp only at f1 g1 e0 e1
      rw [f1,g1,e0,e1]
    have tl:∀ {α:Type} {a:α} {r:List α},Nbx (a :: r)→Nbx r:=fun {α a r} h i x y ex ey=>h (i + 1) x y (by simpa using ex) (by simpa using ey)
    have e3:f = g:=list_uniq f3 (by rw [e1]; exact g3) (tl nf) (tl ng) fun c c1 c2=>by
      have:=hv c (by omega) c2
      rw [vAt_cons,vAt_cons,if_neg (by omega),if_neg (by omega)] at this
      exact this
    rw [e2,e3]
section
variable {L:Type}
theorem tel_ex:∀ {n:Nat} {F:Fm L n} {ps:List (Int × Int)} {cs:List Int},ShOk n F ps→InB cs ps→∃ x,Tel n F cs x
  | 0,F,ps,cs,hs,hb=>by
    have hs:ps = []:=hs
    subst hs
    cases hb
    exact ⟨F,.nil F⟩
  | n + 1,F,ps,cs,hs,hb=>by
    obtain ⟨f,rfl⟩:∃ f:List (T3a (Fm L n)),(f:Fm L (n + 1)) = F:=⟨F,rfl⟩
    obtain ⟨p,r,rfl,hne,hch,hnb,hall⟩:ShS (ShOk n) f ps:=hs
    cases hb with
    | cons h1 h2 hb =>
      obtain ⟨j,t,e1,e2,e3,e4,e5⟩:=hch.at h1 h2
      obtain ⟨x,hx⟩:=tel_ex (hall t (List.mem_of_getElem? e1)) hb
      exact ⟨x,.cons e1 e3 e4 hx⟩
theorem _root_.L2.Tel.inv {n:Nat} {g:List (T3a (Fm L n))} {c:Int} {cs:List Int} {y:L} (h:Tel (n + 1) (g:Fm L (n + 1)) (c :: cs) y):∃ (j:Nat) (t:T3a (Fm L n)),g[j]? = some t∧c ≤ t.2.1∧(∀ (i:Nat) (u:T3a (Fm L n)),i < j→g[i]? = some u→u.2.1 < c)∧Tel n t.2.2 cs y:=by
  cases h with
  | cons a b c d=>exact ⟨_,_,a,b,c,d⟩
theorem tel_fun {n:Nat} {F:Fm L n} {cs:List Int} {x:L} (h:Tel n F cs x):∀ {y:L},Tel n F cs y→x = y:=by
  induction h with
  | nil x=>intro y hy; cases hy; rfl
  | @cons n f c cs x j t e1 e2 e3 _ ih =>
    intro y hy
    obtain ⟨j',t',a1,a2,a3,a4⟩:=hy.inv
    have e:=(vAt_first e1 e2 e3).symm.trans (vAt_first a1 a2 a3)
    rw [← Option.some.inj e] at a4
    exact ih a4
theorem form_uniq:∀ {n:Nat} {F G:Fm L n} {ps:List (Int × Int)},ShOk n F ps→ShOk n G ps→(∀ cs,InB cs ps→∀ x y,Tel n F cs x→Tel n G cs y→x = y)→F = G
  | 0,F,G,ps,hs,_,hv=>by
    have hs:ps = []:=hs
    subst hs
    exact hv [] .nil F G (.nil F) (.nil G)
  | n + 1,F,G,ps,hs,hs',hv=>by
    obtain ⟨f,rfl⟩:∃ f:List (T3a (Fm L n)),(f:Fm L (n + 1)) = F:=⟨F,rfl⟩
    obtain ⟨g,rfl⟩:∃ g:List (T3a (Fm L n)),(g:Fm L (n + 1)) = G:=⟨G,rfl⟩
    obtain ⟨p,r,rfl,hne,hch,hnb,hall⟩:ShS (ShOk n) f ps:=hs
    obtain ⟨p',r',e,hne',hch',hnb',hall'⟩:ShS (ShOk n) g (p :: r):=hs'
    cases e
    refine list_uniq hch hch' hnb hnb' fun c c1 c2=>?_
    obtain ⟨j,t,e1,e2,e3,e4,e5⟩:=hch.at c1 c2
    obtain ⟨j',t',a1,a2,a3,a4,a5⟩:=hch'.at c1 c2
    rw [e5,a5]
    rw [form_uniq (hall t (List.mem_of_getElem? e1)) (hall' t' (List.mem_of_getElem? a1)) fun cs hin x y hx hy=>hv (c :: cs) (.cons c1 c2 hin) x y (.cons e1 e3 e4 hx) (.cons a1 a3 a4 hy)]
end
def prodL (ls:List (List Int)):List (List Int):=ls.foldl (fun acc own=>acc.flatMap fun cs=>own.map fun x=>cs ++ [x]) [[]]
theorem prodL_snoc (ls:List (List Int)) (own:List Int):prodL (ls ++ [own]) = (prodL ls).flatMap fun cs=>own.map fun x=>cs ++ [x]:=by
  unfold prodL
  rw [List.foldl_append]
  rfl
theorem prod_mem {ls:List (List Int)} : ∀ (i:Nat),i ≤ ls.length→∀ cs,cs ∈ prodL (ls.take i)↔(cs.length = i∧∀ (j:Nat) (x:Int) (l:List Int),cs[j]? = some x→ls[j]? = some l→x ∈ l)
  | 0,_,cs=>by
    rw [List.take_zero]
    show cs ∈ [[]]↔_
    rw [List.mem_singleton]
    exact ⟨fun h=>by subst h; exact ⟨rfl,fun j x l e=>by simp at e⟩,fun h=>List.eq_nil_of_length_eq_zero h.1⟩
  | i + 1,hi,cs=>by
    obtain ⟨own,eo⟩:∃ own,ls[i]? = some own:=⟨_,List.getElem?_eq_getElem (by omega)⟩
    rw [take_snoc eo,prodL_snoc,List.mem_flatMap]
    constructor
    · rintro ⟨c0,hc,hx⟩
      obtain ⟨x,hxo,rfl⟩:=List.mem_map.mp hx
      obtain ⟨h1,h2⟩:=(prod_mem i (by omega) c0).mp hc
      refine ⟨by rw [List.length_append,h1]; rfl,fun j y l ey el=>?_⟩
      by_cases hj:j < c0.length
      · rw [List.getElem?_append_left hj] at ey
        exact h2 j y l ey el
      · have hj2:j = c0.length:=by
          have:=(List.getElem?_eq_some_iff.mp ey).1
          simp at this; omega
        subst hj2
        simp at ey
        subst ey
        rw [h1,eo] at el
        cases el
        exact hxo
    · rintro ⟨h1,h2⟩
      rcases List.eq_nil_or_concat cs with hc | ⟨c0,x,hc⟩
      · subst hc; simp at h1
      · rw [List.concat_eq_append] at hc
        subst hc
        have hl:c0.length = i:=by simpa using h1
        refine ⟨c0,(prod_mem i (by omega) c0).mpr ⟨hl,fun j y l ey el=>h2 j y l (by rw [List.getElem?_append_left (List.getElem?_eq_some_iff.mp ey).1]; exact ey) el⟩,List.mem_map.mpr ⟨x,h2 i x own (by rw [← hl]; simp) eo,rfl⟩⟩
theorem inb_of:∀ {cs:List Int} {ps:List (Int × Int)},cs.length = ps.length→(∀ (j:Nat) (c:Int) (p:Int × Int),cs[j]? = some c→ps[j]? = some p→p.1 ≤ c∧c ≤ p.2)→InB cs ps
  | [],[],_,_=>.nil
  | [],_ :: _,h,_=>by simp at h
  | _ :: _,[],h,_=>by simp at h
  | c :: cs,p :: ps,h,k=>.cons (k 0 c p rfl rfl).1 (k 0 c p rfl rfl).2 (inb_of (by simpa using h) fun j x q e1 e2=>k (j + 1) x q (by simpa using e1) (by simpa using e2))
def gB (mss:List (List Int)) (e0 wy tw tu st:Int) (cs:List Int):Int:=if wy = 1 then told mss (tw + 1) tu st cs else if wy = 2∧e0 ≤ cs.getD 0 0 then told mss tw tu st cs + 1 else told mss tw tu st cs
def MoreOk (ps:List (Int × Int)) (mss msy:List (List Int)):Prop:=∀ (j:Nat) (p:Int × Int) (ms my:List Int),ps[j]? = some p→mss[j]? = some ms→msy[j]? = some my→∃ (e:Int) (es:List Int),my = e :: es∧p.1 ≤ e∧e ≤ p.2∧(∀ x,x ∈ es↔x ∈ ms)∧es.length = ms.length
theorem mls_put {H1 H2:Hp} {rs:List Addr} {css:List (List Int)} {l t:Addr} {cs:List Int} {zs:List V} (h:MLs H1 rs css) (hr:∀ r ∈ rs,r ≠ l) (s:Same H1 H2) (e:H2 t = some (.lst (cs.map V.int))) (nt:t ≠ l):MLs (upd H2 l (.lst zs)) (rs ++ [t]) (css ++ [cs])∧∀ r ∈ rs ++ [t],r ≠ l:=by
  refine ⟨⟨by rw [List.length_append,List.length_append,h.1]; rfl,fun j ms ej=>?_⟩,fun r hr'=>?_⟩
  · by_cases hj:j < css.length
    · rw [List.getElem?_append_left hj] at ej
      obtain ⟨r,er,hr2⟩:=h.2 j ms ej
      exact ⟨r,by rw [List.getElem?_append_left (by rw [h.1]; exact hj)]; exact er,(upd_ne (hr r (List.mem_of_getElem? er))).trans (s _ _ hr2)⟩
    · have hj2:j = css.length:=by
        have:=(List.getElem?_eq_some_iff.mp ej).1
        simp at this; omega
      subst hj2
      simp at ej
      subst ej
      exact ⟨t,by rw [← h.1]; simp,(upd_ne nt).trans e⟩
  · rcases List.mem_append.mp hr' with hr' | hr'
    · exact hr r hr'
    · rw [List.mem_singleton.mp hr']; exact nt
def inM1 {α:Type} (f:List (T3a α)) (m:Int):Prop:=∃ t ∈ f.tail,t.1 = m
def inMS {α:Type} (P:α→Int→Prop) (f:List (T3a α)) (m:Int):Prop:=∃ t ∈ f,P t.2.2 m
def inMk {L:Type} : (n:Nat)→Fm L n→Nat→Int→Prop
  | 0,_,_,_=>False
  | n + 1,f,0,m=>inM1 (α:=Fm L n) f m
  | n + 1,f,c + 1,m=>inMS (α:=Fm L n) (fun x=>inMk n x c) f m
theorem ch3_get {α:Type} : ∀ {f:List (T3a α)} {lo hi:Int} {j:Nat} {s:T3a α},Ch3 f lo hi→f[j]? = some s→lo ≤ s.1∧s.1 ≤ s.2.1∧s.2.1 ≤ hi∧(∀ t,f[j + 1]? = some t→t.1 = s.2.1 + 1)∧(∀ (i:Nat) (u:T3a α),i < j→f[i]? = some u→u.2.1 < s.1)∧(j = 0→s.1 = lo)
  | [],_,_,j,s,_,e=>by simp at e
  | t :: f,lo,hi,0,s,h,e=>by
    cases e
    have h1:=h.1
    have h2:=h.2.1
    have h3:=h.2.2.le
    refine ⟨by omega,by omega,by omega,fun t e=>?_,fun i u hi=>absurd hi (Nat.not_lt_zero i),fun _=>h1⟩
    cases f with
    | nil=>simp at e
    | cons u f=>simp at e; subst e; exact h.2.2.1
  | t :: f,lo,hi,j + 1,s,h,e=>by
    have e' : f[j]? = some s:=by simpa using e
    obtain ⟨a1,a2,a3,a4,a5,a6⟩:=ch3_get (f:=f) h.2.2 e'
    have h2:=h.2.1
    refine ⟨by omega,a2,a3,fun t e=>a4 t (by simpa using e),fun i u hi eu=>?_,fun z=>by omega⟩
    match i,eu with
    | 0,eu=>cases eu; omega
    | i + 1,eu=>exact a5 i u (by omega) (by simpa using eu)
section
variable {L:Type}
theorem tel_at {n:Nat} {f:List (T3a (Fm L n))} {lo hi:Int} {j:Nat} {t:T3a (Fm L n)} {c:Int} {cs:List Int} {x:L} (h:Ch3 f lo hi) (e:f[j]? = some t) (h1:t.1 ≤ c) (h2:c ≤ t.2.1) (hx:Tel n t.2.2 cs x):Tel (n + 1) (f:Fm L (n + 1)) (c :: cs) x:=by
  obtain ⟨_,_,_,_,a5,_⟩:=ch3_get h e
  exact .cons e h2 (fun i u hi eu=>by have:=a5 i u hi eu; omega) hx
theorem tel_low {n:Nat} {f:List (T3a (Fm L n))} {lo hi:Int} {j:Nat} {t:T3a (Fm L n)} {c:Int} (h:Ch3 f lo hi) (hl:lo ≤ c) (e:f[j]? = some t) (h3:∀ (i:Nat) (u:T3a (Fm L n)),i < j→f[i]? = some u→u.2.1 < c):t.1 ≤ c:=by
  obtain ⟨_,_,_,_,_,a6⟩:=ch3_get h e
  cases j with
  | zero=>have:=a6 rfl; omega
  | succ j =>
    obtain ⟨u,eu⟩:∃ u,f[j]? = some u:=⟨_,List.getElem?_eq_getElem (by have:=(List.getElem?_eq_some_iff.mp e).1; omega)⟩
    obtain ⟨_,_,_,b4,_⟩:=ch3_get h eu
    have:=b4 t e
    have:=h3 j u (by omega) eu
    omega
theorem mk_iff:∀ {n:Nat} {F:Fm L n} {ps:List (Int × Int)} {k:Nat} {m:Int},ShOk n F ps→(inMk n F k m↔∃ (cs:List Int) (p:Int × Int) (x y:L),InB cs ps∧cs[k]? = some m∧ps[k]? = some p∧p.1 < m∧Tel n F cs x∧Tel n F (cs.set k (m - 1)) y∧x ≠ y)
  | 0,F,ps,k,m,hs=>by
    have hs:ps = []:=hs
    subst hs
    refine ⟨fun h=>h.elim,fun ⟨cs,p,x,y,h1,h2,h3,_⟩=>by simp at h3⟩
  | n + 1,F,ps,k,m,hs=>by
    obtain ⟨f,rfl⟩:∃ f:List (T3a (Fm L n)),(f:Fm L (n + 1)) = F:=⟨F,rfl⟩
    obtain ⟨p,r,rfl,hne,hch,hnb,hall⟩:ShS (ShOk n) f ps:=hs
    cases k with
    | zero =>
      constructor
      · rintro ⟨t,ht,rfl⟩
        obtain ⟨j,ej⟩:=List.getElem?_of_mem ht
        have ej:f[j + 1]? = some t:=by rw [List.getElem?_tail] at ej; exact ej
        obtain ⟨s,es⟩:∃ s,f[j]? = some s:=⟨_,List.getElem?_eq_getElem (by have:=(List.getElem?_eq_some_iff.mp ej).1; omega)⟩
        obtain ⟨a1,a2,a3,a4,a5,_⟩:=ch3_get hch es
        obtain ⟨b1,b2,b3,b4,b5,_⟩:=ch3_get hch ej
        have ea:=a4 t ej
        have ne:s.2.2 ≠ t.2.2:=hnb j _ _ (by rw [List.getElem?_map,es]; rfl) (by rw [List.getElem?_map,ej]; rfl)
        have hS:=hall s (List.mem_of_getElem? es)
        have hT:=hall t (List.mem_of_getElem? ej)
        obtain ⟨cs,x,y,hin,hx,hy,hxy⟩:∃ cs x y,InB cs r∧Tel n s.2.2 cs x∧Tel n t.2.2 cs y∧x ≠ y:=Classical.byContradiction fun hno=>ne (form_uniq hS hT fun cs hin x y hx hy=>Classical.byContradiction fun hxy=>hno ⟨cs,x,y,hin,hx,hy,hxy⟩)
        refine ⟨t.1 :: cs,p,y,x,.cons b1 (by omega) hin,rfl,rfl,by omega,tel_at hch ej (Int.le_refl _) b2 hy,?_,fun z=>hxy z.symm⟩
        show Tel (n + 1) f ((t.1 - 1) :: cs) x
        exact tel_at hch es (by omega) (by omega) hx
      · rintro ⟨cs,p',x,y,hin,hc,hp,hlt,hx,hy,hxy⟩
        have hp:p = p':=Option.some.inj hp
        subst hp
        cases hin with
        | @cons c cs _ _ h1 h2 hin =>
          have hc:c = m:=Option.some.inj hc
          subst hc
          have hy:Tel (n + 1) f ((c - 1) :: cs) y:=hy
          obtain ⟨j,t,e1,e2,e3,e4⟩:=hx.inv
          obtain ⟨j',t',e1',e2',e3',e4'⟩:=hy.inv
          have hlow:=tel_low hch h1 e1 e3
          by_cases ht:t.1 = c
          · obtain ⟨_,_,_,_,_,a6⟩:=ch3_get hch e1
            cases j with
            | zero=>have:=a6 rfl; omega
            | succ j=>exact ⟨t,List.mem_of_getElem? (i:=j) (by rw [List.getElem?_tail]; exact e1),ht⟩
          · exfalso
            have v1:=vAt_first e1' e2' e3'
            have v2:vAt f (c - 1) = some t.2.2:=vAt_first e1 (by omega) fun i u hi eu=>by
              obtain ⟨_,_,_,_,a5,_⟩:=ch3_get hch e1
              have:=a5 i u hi eu
              omega
            rw [v1] at v2
            rw [← Option.some.inj v2] at e4
            exact hxy (tel_fun e4 e4')
    | succ k =>
      constructor
      · rintro ⟨t,ht,h⟩
        obtain ⟨cs,p',x,y,hin,hc,hp,hlt,hx,hy,hxy⟩:=(mk_iff (hall t ht)).mp h
        obtain ⟨j,ej⟩:=List.getElem?_of_mem ht
        obtain ⟨b1,b2,b3,_⟩:=ch3_get hch ej
        exact ⟨t.1 :: cs,p',x,y,.cons b1 (by omega) hin,by simpa using hc,by simpa using hp,hlt,tel_at hch ej (Int.le_refl _) b2 hx,by rw [List.set_cons_succ]; exact tel_at hch ej (Int.le_refl _) b2 hy,hxy⟩
      · rintro ⟨cs,p',x,y,hin,hc,hp,hlt,hx,hy,hxy⟩
        cases hin with
        | @cons c cs _ _ h1 h2 hin =>
          rw [List.set_cons_succ] at hy
          obtain ⟨j,t,e1,e2,e3,e4⟩:=hx.inv
          obtain ⟨j',t',e1',e2',e3',e4'⟩:=hy.inv
          have v1:=vAt_first e1 e2 e3
          rw [vAt_first e1' e2' e3'] at v1
          rw [Option.some.inj v1] at e4'
          have ht:=List.mem_of_getElem? e1
          exact ⟨t,ht,(mk_iff (hall t ht)).mpr ⟨cs,p',x,y,hin,by simpa using hc,by simpa using hp,hlt,e4,e4',hxy⟩⟩
end
theorem tolk_congr {mss:List (List Int)} {tw:Int} {cs cs' : List Int} : ∀ k:Nat,(∀ j,j < k→below (mss.getD j []) (cs.getD j 0) = below (mss.getD j []) (cs'.getD j 0))→tolk mss tw cs k = tolk mss tw cs' k
  | 0,_=>rfl
  | k + 1,h=>by
    show tolk mss tw cs k * tw + (1 + tolk mss tw cs k) % 3 * below (mss.getD k []) (cs.getD k 0) = tolk mss tw cs' k * tw + (1 + tolk mss tw cs' k) % 3 * below (mss.getD k []) (cs'.getD k 0)
    rw [tolk_congr k fun j hj=>h j (by omega),h k (by omega)]
theorem told_congr {mss:List (List Int)} {tw tu st:Int} {cs cs' : List Int} (hl:cs.length = cs'.length) (h:∀ (j:Nat) (ms:List Int) (c c' : Int),mss[j]? = some ms→cs[j]? = some c→cs'[j]? = some c'→below ms c = below ms c') (hm:mss.length = cs.length):told mss tw tu st cs = told mss tw tu st cs':=by
  unfold told
  rw [← hl,tolk_congr cs.length fun j hj=>?_]
  obtain ⟨c,ec⟩:∃ c,cs[j]? = some c:=⟨_,List.getElem?_eq_getElem hj⟩
  obtain ⟨c',ec'⟩:∃ c,cs'[j]? = some c:=⟨_,List.getElem?_eq_getElem (by omega)⟩
  obtain ⟨ms,em⟩:∃ ms,mss[j]? = some ms:=⟨_,List.getElem?_eq_getElem (by omega)⟩
  have e1:cs.getD j 0 = c:=by rw [List.getD_eq_getElem?_getD,ec]; rfl
  have e2:cs'.getD j 0 = c':=by rw [List.getD_eq_getElem?_getD,ec']; rfl
  have e3:mss.getD j [] = ms:=by rw [List.getD_eq_getElem?_getD,em]; rfl
  rw [e1,e2,e3]
  exact h j ms c c' em ec ec'
theorem below_no {ms:List Int} {m:Int} (h:m ∉ ms):below ms m = below ms (m - 1):=by
  unfold below
  rw [List.filter_congr fun x hx=>?_]
  have hxm:x ≠ m:=fun z=>h (z ▸ hx)
  exact decide_eq_decide.mpr (show x ≤ m↔x ≤ m - 1 from ⟨fun q=>by omega,fun q=>by omega⟩)
theorem due_iff {ps:List (Int × Int)} {mss kss:List (List Int)} {tw tu st:Int} {k:Nat} {m:Int} {ks:List Int} (hks:kss.length = ps.length) (hml:mss.length = ps.length) (hle:∀ p ∈ ps,p.1 ≤ p.2) (hpk:PrO ps mss kss) (ek:kss[k]? = some ks) :
    (m ∈ ks∧∃ cs ∈ prodL ((List.zipWith (fun p cs=>p.1 :: cs) ps kss).set k [m]),told mss tw tu st cs ≠ told mss tw tu st (cs.set k (m - 1)))↔∃ (cs:List Int) (p:Int × Int),InB cs ps∧cs[k]? = some m∧ps[k]? = some p∧p.1 < m∧told mss tw tu st cs ≠ told mss tw tu st (cs.set k (m - 1)):=by
  have hk:k < ps.length:=by have:=(List.getElem?_eq_some_iff.mp ek).1; omega
  obtain ⟨p,ep⟩:∃ p,ps[k]? = some p:=⟨_,List.getElem?_eq_getElem (by omega)⟩
  obtain ⟨ms,em⟩:∃ ms,mss[k]? = some ms:=⟨_,List.getElem?_eq_getElem (by omega)⟩
  obtain ⟨k1,k2,_⟩:=hpk k p ms ks ep em ek
  have hll:(List.zipWith (fun (p:Int × Int) cs=>p.1 :: cs) ps kss).length = ps.length:=by rw [List.length_zipWith]; omega
  have hls:((List.zipWith (fun (p:Int × Int) cs=>p.1 :: cs) ps kss).set k [m]).length = ps.length:=by rw [List.length_set]; exact hll
  have at_:∀ (j:Nat) (q:Int × Int) (kk:List Int),j ≠ k→ps[j]? = some q→kss[j]? = some kk→((List.zipWith (fun (p:Int × Int) cs=>p.1 :: cs) ps kss).set k [m])[j]? = some (q.1 :: kk):=fun j q kk hj e1 e2=>by
    rw [List.getElem?_set_ne (fun z=>hj z.symm),List.getElem?_zipWith,e1,e2]
  have atk:((List.zipWith (fun (p:Int × Int) cs=>p.1 :: cs) ps kss).set k [m])[k]? = some [m]:=by
    rw [List.getElem?_set_self (by omega)]
  have pm:=fun cs=>prod_mem (ls:=(List.zipWith (fun (p:Int × Int) cs=>p.1 :: cs) ps kss).set k [m]) ps.length (by omega) cs
  rw [List.take_of_length_le (by omega)] at pm
  constructor
  · rintro ⟨hm,cs,hcs,hne⟩
    obtain ⟨h1,h2⟩:=(pm cs).mp hcs
    have hr:=(k2 m).mp hm
    obtain ⟨c,ec⟩:∃ c,cs[k]? = some c:=⟨_,List.getElem?_eq_getElem (by omega)⟩
    have hc:c = m:=by have:=h2 k c [m] ec atk; simpa using this
    subst hc
    refine ⟨cs,p,inb_of h1 fun j x q ex eq=>?_,ec,ep,hr.2.1,hne⟩
    by_cases hj:j = k
    · subst hj
      rw [ec] at ex; cases ex
      rw [ep] at eq; cases eq
      omega
    · obtain ⟨kk,ekk⟩:∃ kk,kss[j]? = some kk:=⟨_,List.getElem?_eq_getElem (by have:=(List.getElem?_eq_some_iff.mp eq).1; omega)⟩
      obtain ⟨ms',em'⟩:∃ ms,mss[j]? = some ms:=⟨_,List.getElem?_eq_getElem (by have:=(List.getElem?_eq_some_iff.mp eq).1; omega)⟩
      obtain ⟨_,k2',_⟩:=hpk j q ms' kk eq em' ekk
      have hq:=hle q (List.mem_of_getElem? eq)
      rcases List.mem_cons.mp (h2 j x _ ex (at_ j q kk hj eq ekk)) with e | e
      · omega
      · have:=(k2' x).mp e
        omega
  · rintro ⟨cs,p',hin,ec,ep',hlt,hne⟩
    rw [ep] at ep'
    cases ep'
    have hcl:=hin.length
    obtain ⟨b1,b2⟩:=hin.get k m p ec ep
    have hset:∀ (j:Nat) (v:Int),j ≠ k→(cs.set k v)[j]? = cs[j]?:=fun j v hj=>List.getElem?_set_ne (fun z=>hj z.symm)
    have hsk:∀ v:Int,(cs.set k v)[k]? = some v:=fun v=>List.getElem?_set_self (by omega)
    have hm:m ∈ ms:=Classical.byContradiction fun h=>hne (told_congr (by rw [List.length_set]) (fun j ms' c c' e1 e2 e3=>by
      by_cases hj:j = k
      · subst hj
        rw [em] at e1; cases e1
        rw [ec] at e2; cases e2
        rw [hsk] at e3; cases e3
        exact below_no h
      · rw [hset j _ hj,e2] at e3
        cases e3
        rfl) (by omega))
    have hmk:m ∈ ks:=(k2 m).mpr ⟨hm,hlt,b2⟩
    obtain ⟨ls,els⟩:∃ ls,ls = List.zipWith lowAt (List.zipWith (fun p cs=>stre p.1 p.2 cs) ps kss) cs:=⟨_,rfl⟩
    have hlsl:ls.length = ps.length:=by rw [els,List.length_zipWith,List.length_zipWith]; omega
    have lat:∀ (j:Nat) (q:Int × Int) (kk:List Int) (c:Int),ps[j]? = some q→kss[j]? = some kk→cs[j]? = some c→ls[j]? = some (lowAt (stre q.1 q.2 kk) c):=fun j q kk c e1 e2 e3=>by rw [els]; exact lows_at e1 e2 e3
    have lbel:∀ (j:Nat) (ms' : List Int) (c x:Int),mss[j]? = some ms'→cs[j]? = some c→ls[j]? = some x→below ms' x = below ms' c:=fun j ms' c x e1 e2 e3=>by
      obtain ⟨q,eq⟩:∃ q,ps[j]? = some q:=⟨_,List.getElem?_eq_getElem (by have:=(List.getElem?_eq_some_iff.mp e2).1; omega)⟩
      obtain ⟨kk,ekk⟩:∃ kk,kss[j]? = some kk:=⟨_,List.getElem?_eq_getElem (by have:=(List.getElem?_eq_some_iff.mp eq).1; omega)⟩
      obtain ⟨q1,q2,_⟩:=hpk j q ms' kk eq e1 ekk
      obtain ⟨c1,c2⟩:=hin.get j c q e2 eq
      rw [lat j q kk c eq ekk e2] at e3
      cases e3
      unfold below
      rw [List.filter_congr fun y hy=>decide_eq_decide.mpr (low_le q1 q2 c1 c2 hy)]
    have g:∀ v:Int,told mss tw tu st (ls.set k v) = told mss tw tu st (cs.set k v):=fun v=>told_congr (by rw [List.length_set,List.length_set]; omega) (fun j ms' c c' e1 e2 e3=>by
      by_cases hj:j = k
      · subst hj
        rw [hsk] at e3; cases e3
        rw [List.getElem?_set_self (by omega)] at e2; cases e2
        rfl
      · rw [hset j _ hj] at e3
        rw [List.getElem?_set_ne (fun z=>hj z.symm)] at e2
        exact lbel j ms' c' c e1 e3 e2) (by rw [List.length_set]; omega)
    have ecs:cs.set k m = cs:=by
      refine List.ext_getElem? fun j=>?_
      by_cases hj:j = k
      · subst hj; rw [hsk,ec]
      · rw [hset j m hj]
    refine ⟨hmk,ls.set k m,(pm _).mpr ⟨by rw [List.length_set]; exact hlsl,fun j x l ex el=>?_⟩,?_⟩
    · by_cases hj:j = k
      · subst hj
        rw [atk] at el; cases el
        rw [List.getElem?_set_self (by omega)] at ex; cases ex
        exact List.mem_singleton.mpr rfl
      · rw [List.getElem?_set_ne (fun z=>hj z.symm)] at ex
        have hjl:j < ps.length:=by have:=(List.getElem?_eq_some_iff.mp ex).1; omega
        obtain ⟨q,eq⟩:∃ q,ps[j]? = some q:=⟨_,List.getElem?_eq_getElem hjl⟩
        obtain ⟨kk,ekk⟩:∃ kk,kss[j]? = some kk:=⟨_,List.getElem?_eq_getElem (by omega)⟩
        obtain ⟨ms',em'⟩:∃ ms,mss[j]? = some ms:=⟨_,List.getElem?_eq_getElem (by omega)⟩
        obtain ⟨c,ecj⟩:∃ c,cs[j]? = some c:=⟨_,List.getElem?_eq_getElem (by omega)⟩
        obtain ⟨q1,q2,_⟩:=hpk j q ms' kk eq em' ekk
        obtain ⟨c1,c2⟩:=hin.get j c q ecj eq
        obtain ⟨a1,a2,a3,a4⟩:=stre_low (hi:=q.2) q1 (fun y hy=>((q2 y).mp hy).2.1) c1 c2
        rw [lat j q kk c eq ekk ecj] at ex
        cases ex
        rw [at_ j q kk hj eq ekk] at el
        cases el
        rcases a2 with e | e
        · rw [e]; exact List.mem_cons_self
        · exact List.mem_cons_of_mem _ e
    · rw [List.set_set,g m,g (m - 1),ecs]
      exact hne
structure LfS (P:Program) (w:World) (K:PySem.W.Frag) (mg:Str→Option Value) (base:Heap) (f:Addr) (m:Nat) (g:List Int→Int) (J:Hp→Prop):Prop where
  fn:∃ sp,HFn P w K mg base 3 f sp∧∀ (H:Hp) (a:Addr) (cs:List Int) (Q:VK),J H→cs.length = m→H a = some (.lst (cs.map V.int))→(∀ H',Same H H'→Q (.int (g cs)) H')→sp [.ref a] H Q E0
  ob:∀ H,J H→FnO H f
  st:∀ H H',J H→Same H H'→J H'
theorem inb_set {cs:List Int} {ps:List (Int × Int)} {k:Nat} {m:Int} {p:Int × Int} (h:InB cs ps) (hc:cs[k]? = some m) (hp:ps[k]? = some p) (hlt:p.1 < m):InB (cs.set k (m - 1)) ps:=by
  have hl:=h.length
  refine inb_of (by rw [List.length_set]; exact hl) fun j c q ec eq=>?_
  by_cases hj:j = k
  · subst hj
    rw [List.getElem?_set_self (List.getElem?_eq_some_iff.mp hc).1] at ec
    cases ec
    rw [hp] at eq
    cases eq
    have:=h.get j m p hc hp
    omega
  · rw [List.getElem?_set_ne (fun z=>hj z.symm)] at ec
    exact h.get j c q ec eq
theorem flat_le {b:Nat} : ∀ {xss:List (List Int)},(∀ ms ∈ xss,ms.length ≤ b)→xss.flatten.length ≤ xss.length * b
  | [],_=>Nat.zero_le _
  | x :: xss,h=>by
    have h1:=h x List.mem_cons_self
    have h2:=flat_le fun ms hms=>h ms (List.mem_cons_of_mem _ hms)
    rw [List.flatten_cons,List.length_append,List.length_cons,Nat.succ_mul]
    omega
def BdS {α:Type} (b:Nat) (S:α→Prop) (f:List (T3a α)):Prop:=f.length ≤ b∧∀ t ∈ f,S t.2.2
def BdF {L:Type} : (n:Nat)→Fm L n→Prop
  | 0,_=>True
  | n + 1,f=>BdS (α:=Fm L n) (if n = 0 then 64 else 10) (BdF n) f
def MkAt (d:Nat) (F:Fm Int d) (H:Hp) (r:Addr) (rs:List Addr) (mss:List (List Int)):Prop:=H r = some (.lst (rs.map V.ref))∧MLs H rs mss∧mss.length = d∧∀ (c:Nat) (ms:List Int),mss[c]? = some ms→ms.Pairwise (· < ·)∧∀ m,m ∈ ms↔inMk d F c m
theorem MkAt.keep {d:Nat} {F:Fm Int d} {H H' : Hp} {r:Addr} {rs:List Addr} {mss:List (List Int)} (h:MkAt d F H r rs mss) (k:∀ b o,(b = r∨b ∈ rs)→H b = some o→H' b = some o):MkAt d F H' r rs mss:=⟨k _ _ (.inl rfl) h.1,h.2.1.keep fun q hq o e=>k q o (.inr hq) e,h.2.2⟩
theorem lows_sorted {α:Type} : ∀ {f:List (T3a α)} {lo hi:Int},Ch3 f lo hi→(f.map (·.1)).Pairwise (· < ·)∧∀ t ∈ f,lo ≤ t.1
  | [],_,_,_=>⟨.nil,fun t ht=>by cases ht⟩
  | t :: f,lo,hi,h=>by
    obtain ⟨a,b⟩:=lows_sorted h.2.2
    have h1:=h.1
    have h2:=h.2.1
    refine ⟨.cons (fun x hx=>?_) a,fun u hu=>?_⟩
    · obtain ⟨u,hu,rfl⟩:=List.mem_map.mp hx
      have:=b u hu
      show t.1 < u.1
      omega
    · rcases List.mem_cons.mp hu with rfl | hu
      · omega
      · have:=b u hu; omega
theorem tail_sorted {α:Type} {f:List (T3a α)} {lo hi:Int} (h:Ch3 f lo hi):(f.tail.map (·.1)).Pairwise (· < ·):=by
  cases f with
  | nil=>exact .nil
  | cons t f=>exact (lows_sorted h.2.2).1
theorem small2000 {n:Nat} (h:n ≤ 2000):n < sizeLine:=Nat.lt_of_le_of_lt h (by decide)
theorem paired_get {α β:Type} {R:α→β→Prop} : ∀ {xs:List α} {as:List β} {i:Nat} {x:α},Paired R xs as→xs[i]? = some x→∃ a,as[i]? = some a∧R x a
  | _,_,_,_,.nil,e=>by simp at e
  | _,_,0,_,.cons (b:=b) h _,e=>by simp at e; subst e; exact ⟨b,rfl,h⟩
  | _,_,i + 1,x,.cons _ tl,e=>by
    obtain ⟨a,q⟩:=paired_get (i:=i) (x:=x) tl (by simpa using e)
    exact ⟨a,by simpa using q.1,q.2⟩
theorem paired_app {α β:Type} {R:α→β→Prop} {xs ys:List α} {as bs:List β} (h:Paired R xs as) (h' : Paired R ys bs):Paired R (xs ++ ys) (as ++ bs):=by
  induction h with
  | nil=>exact h'
  | cons a _ ih=>exact .cons a ih
theorem catT0_to {K:PySem.W.Frag} {H:Hp} {Q:VK} {a b:Addr} {xs ys:List V} (ha:H a = some (.tup xs)) (hb:H b = some (.tup ys)) (hz:xs.length + ys.length ≤ sizeLine) (q:∀ (r:Addr) (H' : Hp),Same H H'→H' r = some (.tup (xs ++ ys))→Q (.ref r) H'):rCatT0 K (.ref a) (.ref b) H Q:=by
  refine ⟨a,b,xs,ys,rfl,rfl,SqT.of ha,SqT.of hb,hz,fun z=>?_,fun _ z=>?_,fun _ _ p hp=>q p _ (same_new hp _) upd_same⟩
  · subst z; exact q b H (Same.refl _) hb
  · subst z; exact q a H (Same.refl _) (by rw [List.append_nil]; exact ha)
def BxA (H:Hp) (a:Addr) (B:List (Int × Int)):Prop:=∃ xs,H a = some (.tup xs)∧PL H xs B
theorem BxA.mono {H H' : Hp} {a:Addr} {B:List (Int × Int)} (h:BxA H a B) (s:SameT H H'):BxA H' a B:=by obtain ⟨xs,e,p⟩:=h; exact ⟨xs,s _ _ e,p.mono s⟩
def bxs:(n:Nat)→Fm Int n→List (List (Int × Int) × Int)
  | 0,f=>[([],f)]
  | n + 1,l=>List.flatMap (fun e:T3a (Fm Int n)=>(bxs n e.2.2).map fun q=>((e.1,e.2.1) :: q.1,q.2)) l
theorem bxs_app (n:Nat) (l m:List (T3a (Fm Int n))):bxs (n + 1) (show Fm Int (n + 1) from l ++ m) = bxs (n + 1) (show Fm Int (n + 1) from l) ++ bxs (n + 1) (show Fm Int (n + 1) from m):=List.flatMap_append
theorem bxs_one (n:Nat) (e:T3a (Fm Int n)):bxs (n + 1) (show Fm Int (n + 1) from [e]) = (bxs n e.2.2).map fun q=>((e.1,e.2.1) :: q.1,q.2):=by
  show List.flatMap (fun e:T3a (Fm Int n)=>(bxs n e.2.2).map fun q=>((e.1,e.2.1) :: q.1,q.2)) [e] = _
  rw [List.flatMap_singleton]
def BxL (H:Hp):List V→List (List (Int × Int) × Int)→Prop:=Paired fun x q=>∃ (t b:Addr),x = .ref t∧H t = some (.tup [.ref b,.int q.2])∧BxA H b q.1
theorem BxL.mono {H H' : Hp} {xs:List V} {L:List (List (Int × Int) × Int)} (h:BxL H xs L) (s:SameT H H'):BxL H' xs L:=Paired.mapP h fun _ _ ⟨t,b,e,z,p⟩=>⟨t,b,e,s _ _ z,p.mono s⟩
theorem BxL.length {H:Hp} {xs:List V} {L:List (List (Int × Int) × Int)} (h:BxL H xs L):xs.length = L.length:=Paired.length h
def vol (B:List (Int × Int)):Int:=B.foldl (fun v p=>v * (p.2 - p.1 + 1)) 1
theorem vol_snoc {B:List (Int × Int)} {i:Nat} {p:Int × Int} (e:B[i]? = some p):vol (B.take (i + 1)) = vol (B.take i) * (p.2 - p.1 + 1):=by unfold vol; rw [take_snoc e,List.foldl_append]; rfl
theorem vol_le {B:List (Int × Int)} (hw:∀ p ∈ B,0 ≤ p.2 - p.1∧p.2 - p.1 ≤ 10 ^ 41):∀ i,i ≤ B.length→1 ≤ vol (B.take i)∧vol (B.take i) ≤ ((2:Int) ^ 140) ^ i
  | 0,_=>⟨Int.le_refl _,Int.le_refl _⟩
  | i + 1,hi=>by
    obtain ⟨a,b⟩:=vol_le hw i (by omega)
    obtain ⟨p,ep⟩:∃ p,B[i]? = some p:=⟨_,List.getElem?_eq_getElem (by omega)⟩
    obtain ⟨w1,w2⟩:=hw p (List.mem_of_getElem? ep)
    have w3:p.2 - p.1 + 1 ≤ (2:Int) ^ 140:=by
      have:(10:Int) ^ 41 + 1 ≤ 2 ^ 140:=by decide
      omega
    rw [vol_snoc ep,Int.pow_succ]
    exact ⟨by have:=Int.mul_le_mul a (show (1:Int) ≤ p.2 - p.1 + 1 by omega) (by decide) (by omega); omega,Int.mul_le_mul b w3 (by omega) (Int.le_trans (by decide) (Int.le_trans a b))⟩
theorem vol_ok {B:List (Int × Int)} (h6:B.length ≤ 6) (hw:∀ p ∈ B,0 ≤ p.2 - p.1∧p.2 - p.1 ≤ 10 ^ 41) {i:Nat} {p:Int × Int} (ep:B[i]? = some p):IntMulOk (vol (B.take i)) (p.2 - p.1 + 1):=by
  have hi:i < B.length:=(List.getElem?_eq_some_iff.mp ep).1
  obtain ⟨a,b⟩:=vol_le hw i (by omega)
  obtain ⟨w1,w2⟩:=hw p (List.mem_of_getElem? ep)
  have c:((2:Int) ^ 140) ^ i ≤ 2 ^ 700:=by
    have:i = 0∨i = 1∨i = 2∨i = 3∨i = 4∨i = 5:=by omega
    rcases this with rfl | rfl | rfl | rfl | rfl | rfl <;> decide
  have d:(10:Int) ^ 41 + 1 < 2 ^ 140:=by decide
  refine mul_bits (m:=701) (n:=141) ?_ ?_ (by decide) (by decide)
  · have e:((vol (B.take i)).natAbs:Int) = vol (B.take i):=Int.natAbs_of_nonneg (by omega)
    have f:((2 ^ 701:Nat):Int) = 2 ^ 701:=by decide
    have g:(2:Int) ^ 700 < 2 ^ 701:=by decide
    exact Int.ofNat_lt.mp (by rw [f]; omega)
  · have e:((p.2 - p.1 + 1).natAbs:Int) = p.2 - p.1 + 1:=Int.natAbs_of_nonneg (by omega)
    have f:((2 ^ 141:Nat):Int) = 2 ^ 141:=by decide
    have g:(2:Int) ^ 140 < 2 ^ 141:=by decide
    exact Int.ofNat_lt.mp (by rw [f]; omega)
def mo (n:Nat):Int:=if n = 1 then 40 else if n = 2 then 6 else if n = 3 then 3 else 1
theorem mo_pos (n:Nat):1 ≤ mo n∧mo n ≤ 40:=by
  unfold mo
  split
  · decide
  · split
    · decide
    · split <;> decide
theorem mo_at {n:Nat} (h1:1 ≤ n) (h3:n ≤ 6):atI [V.int 40,.int 6,.int 3,.int 1,.int 1,.int 1] ((n:Int) - 1) = some (.int (mo n)):=by
  have:n = 1∨n = 2∨n = 3∨n = 4∨n = 5∨n = 6:=by omega
  rcases this with rfl | rfl | rfl | rfl | rfl | rfl
  · exact atI_nat (j:=0) rfl
  · exact atI_nat (j:=1) rfl
  · exact atI_nat (j:=2) rfl
  · exact atI_nat (j:=3) rfl
  · exact atI_nat (j:=4) rfl
  · exact atI_nat (j:=5) rfl
theorem gr_pow {ps:List (Int × Int)} {mss:List (List Int)} {b:Nat} (h:∀ j,gl ps mss j ≤ b):∀ n,gr ps mss n ≤ b ^ n
  | 0=>Nat.le_refl _
  | n + 1=>by
    show gr ps mss n * gl ps mss n ≤ b ^ n * b
    exact Nat.mul_le_mul (gr_pow h n) (h n)
theorem mo_pow {n:Nat} (h1:1 ≤ n) (h3:n ≤ 6):((mo n).toNat + 1) ^ n ≤ 64:=by
  have:n = 1∨n = 2∨n = 3∨n = 4∨n = 5∨n = 6:=by omega
  rcases this with rfl | rfl | rfl | rfl | rfl | rfl <;> decide
theorem gr_300 {ps:List (Int × Int)} {mss:List (List Int)} (hl:mss.length = ps.length) (h1:1 ≤ ps.length) (h3:ps.length ≤ 6) (hW:∀ ms ∈ mss,∃ L:List Int,L.length ≤ (mo ps.length).toNat∧∀ x ∈ ms,x ∈ L):gr ps mss ps.length ≤ 300 :=
  Nat.le_trans (gr_pow (gl_le2 hW) _) (Nat.le_trans (mo_pow h1 h3) (by decide))
theorem lay_bd {g:List Int→Int} {ps:List (Int × Int)} : ∀ {cols:List (List (Int × Int))} {qs:List (Int × Int)} {ah:List Int},ColOk cols qs→(∀ c ∈ cols,c.length ≤ (mo ps.length).toNat + 1)→(2 ≤ cols.length→2 ≤ ps.length)→BdF cols.length (lay g cols ah)
  | [],_,_,_,_,_=>trivial
  | c :: cols,_,ah,hok,h,h2=>by
    cases hok with
    | @cons _ _ p qs hne hc hok =>
      have k:=close_ok (chn3 (fun q=>lay g cols (ah ++ [q.1])) hc)
      have hc1:=h c List.mem_cons_self
      refine ⟨Nat.le_trans (close_len _) ?_,fun t ht=>?_⟩
      · rw [List.length_map]
        have hm:=mo_pos ps.length
        split
        · omega
        · have:2 ≤ ps.length:=h2 (by rw [List.length_cons]; omega)
          have e:(mo ps.length).toNat ≤ 6:=by
            unfold mo
            rw [if_neg (by omega)]
            split
            · decide
            · split <;> decide
          omega
      · obtain ⟨t',h1,h2'⟩:=k.mem t ht
        obtain ⟨q,_,rfl⟩:=List.mem_map.mp h1
        rw [← h2']
        exact lay_bd (ps:=ps) hok (fun c hc=>h c (List.mem_cons_of_mem _ hc)) (fun z=>h2 (by rw [List.length_cons]; omega))
theorem le41 (x:Int):x % 10 ^ 40 ≤ 10 ^ 41:=Int.le_trans (Int.le_of_lt (Int.emod_lt_of_pos x (by decide))) (by decide)
theorem le41b (x:Int):x % 7 ≤ 10 ^ 41:=Int.le_trans (Int.le_of_lt (Int.emod_lt_of_pos x (by decide))) (by decide)
def mpF (h:Int→Int):(n:Nat)→Fm Int n→Fm Int n
  | 0,x=>h x
  | n + 1,f=>List.map (fun t:T3a (Fm Int n)=>((t.1,t.2.1,mpF h n t.2.2):T3a (Fm Int n))) f
theorem mp_inj {h:Int→Int} (hi:∀ x y,h x = h y→x = y):∀ {n:Nat} {F G:Fm Int n},mpF h n F = mpF h n G→F = G
  | 0,_,_,e=>hi _ _ e
  | n + 1,F,G,e=>by
    have e:List.map (fun t:T3a (Fm Int n)=>((t.1,t.2.1,mpF h n t.2.2):T3a (Fm Int n))) F = List.map (fun t:T3a (Fm Int n)=>((t.1,t.2.1,mpF h n t.2.2):T3a (Fm Int n))) G:=e
    refine (List.map_inj_right fun x y z=>?_).mp e
    injection z with z1 z2
    injection z2 with z2 z3
    exact Prod.ext z1 (Prod.ext z2 (mp_inj hi z3))
theorem mp_sh {h:Int→Int} (hi:∀ x y,h x = h y→x = y):∀ {n:Nat} {F:Fm Int n} {ps:List (Int × Int)},ShOk n F ps→ShOk n (mpF h n F) ps
  | 0,_,_,hs=>hs
  | n + 1,F,ps,hs=>by
    obtain ⟨f,rfl⟩:∃ f:List (T3a (Fm Int n)),(f:Fm Int (n + 1)) = F:=⟨F,rfl⟩
    obtain ⟨p,r,rfl,hne,hch,hnb,hall⟩:ShS (ShOk n) f ps:=hs
    refine ⟨p,r,rfl,fun z=>hne (List.map_eq_nil_iff.mp z),ch3_map (mpF h n) hch,fun i a b ha hb=>?_,fun t ht=>?_⟩
    · have ha:(List.map (fun x:T3a (Fm Int n)=>x.2.2) (List.map (fun t:T3a (Fm Int n)=>((t.1,t.2.1,mpF h n t.2.2):T3a (Fm Int n))) f))[i]? = some a:=ha
      have hb:(List.map (fun x:T3a (Fm Int n)=>x.2.2) (List.map (fun t:T3a (Fm Int n)=>((t.1,t.2.1,mpF h n t.2.2):T3a (Fm Int n))) f))[i + 1]? = some b:=hb
      rw [List.getElem?_map] at ha hb
      obtain ⟨a',ha',rfl⟩:=Option.map_eq_some_iff.mp ha
      obtain ⟨b',hb',rfl⟩:=Option.map_eq_some_iff.mp hb
      have ha2:(List.map (fun t:T3a (Fm Int n)=>((t.1,t.2.1,mpF h n t.2.2):T3a (Fm Int n))) f)[i]? = some a':=ha'
      have hb2:(List.map (fun t:T3a (Fm Int n)=>((t.1,t.2.1,mpF h n t.2.2):T3a (Fm Int n))) f)[i + 1]? = some b':=hb'
      rw [List.getElem?_map] at ha2 hb2
      obtain ⟨a2,ha3,rfl⟩:=Option.map_eq_some_iff.mp ha2
      obtain ⟨b2,hb3,rfl⟩:=Option.map_eq_some_iff.mp hb2
      exact fun z=>hnb i _ _ (by rw [List.getElem?_map,ha3]; rfl) (by rw [List.getElem?_map,hb3]; rfl) (mp_inj hi z)
    · obtain ⟨u,hu,rfl⟩:=List.mem_map.mp ht
      exact mp_sh hi (hall u hu)
theorem mp_tel {h:Int→Int} {n:Nat} {F:Fm Int n} {cs:List Int} {x:Int} (ht:Tel n F cs x):Tel n (mpF h n F) cs (h x):=by
  induction ht with
  | nil x=>exact .nil _
  | @cons n f c cs x j t e1 e2 e3 _ ih =>
    refine .cons (j:=j) (t:=(t.1,t.2.1,mpF h n t.2.2)) ?_ e2 (fun i u hi eu=>?_) ih
    · show (List.map (fun t:T3a (Fm Int n)=>((t.1,t.2.1,mpF h n t.2.2):T3a (Fm Int n))) f)[j]? = _
      rw [List.getElem?_map,e1]
      rfl
    · have eu:(List.map (fun t:T3a (Fm Int n)=>((t.1,t.2.1,mpF h n t.2.2):T3a (Fm Int n))) f)[i]? = some u:=eu
      rw [List.getElem?_map] at eu
      obtain ⟨u',e,rfl⟩:=Option.map_eq_some_iff.mp eu
      exact e3 i u' hi e
theorem map_is {h:Int→Int} (hi:∀ x y,h x = h y→x = y) {n:Nat} {F:Fm Int n} {ps:List (Int × Int)} (hs:ShOk n F ps):mapF h n F = mpF h n F :=
  form_uniq (map_sh hs) (mp_sh hi hs) fun cs hc x y hx hy=>by
    obtain ⟨z,hz⟩:=tel_ex hs hc
    exact (tel_fun hx (map_tel hz hs hc)).trans (tel_fun hy (mp_tel hz)).symm
theorem pair_is {h:Int→Int→Int} (hi:∀ x y,h x x = h y y→x = y) {n:Nat} {F:Fm Int n} {ps:List (Int × Int)} (hs:ShOk n F ps):pairF h n F F = mpF (fun x=>h x x) n F :=
  form_uniq (pair_sh hs hs) (mp_sh hi hs) fun cs hc x y hx hy=>by
    obtain ⟨z,hz⟩:=tel_ex hs hc
    exact (tel_fun hx (pair_tel hz hz hs hs hc)).trans (tel_fun hy (mp_tel hz)).symm
theorem bx_mem {n:Nat} {f:List (T3a (Fm Int n))} {q:List (Int × Int) × Int} : q ∈ bxs (n + 1) (f:Fm Int (n + 1))↔∃ e ∈ f,∃ r ∈ bxs n e.2.2,q = ((e.1,e.2.1) :: r.1,r.2):=by
  constructor
  · intro h
    obtain ⟨e,he,hq⟩:=List.mem_flatMap.mp h
    obtain ⟨r,hr,rfl⟩:=List.mem_map.mp hq
    exact ⟨e,he,r,hr,rfl⟩
  · rintro ⟨e,he,r,hr,rfl⟩
    exact List.mem_flatMap.mpr ⟨e,he,List.mem_map.mpr ⟨r,hr,rfl⟩⟩
theorem mp_bxs {h:Int→Int} : ∀ {n:Nat} {F:Fm Int n},bxs n (mpF h n F) = (bxs n F).map fun q=>(q.1,h q.2)
  | 0,_=>rfl
  | n + 1,F=>by
    obtain ⟨f,rfl⟩:∃ f:List (T3a (Fm Int n)),(f:Fm Int (n + 1)) = F:=⟨F,rfl⟩
    show List.flatMap (fun e:T3a (Fm Int n)=>(bxs n e.2.2).map fun q=>((e.1,e.2.1) :: q.1,q.2)) (List.map (fun t:T3a (Fm Int n)=>((t.1,t.2.1,mpF h n t.2.2):T3a (Fm Int n))) f) = (List.flatMap (fun e:T3a (Fm Int n)=>(bxs n e.2.2).map fun q=>((e.1,e.2.1) :: q.1,q.2)) f).map (fun q=>(q.1,h q.2))
    rw [List.flatMap_map,List.map_flatMap]
    congr 1
    funext e
    show (bxs n (mpF h n e.2.2)).map _ = _
    rw [mp_bxs,List.map_map,List.map_map]
    rfl
structure BxIn (B ps:List (Int × Int)):Prop where
  len:B.length = ps.length
  get:∀ (k:Nat) (b p:Int × Int),B[k]? = some b→ps[k]? = some p→p.1 ≤ b.1∧b.1 ≤ b.2∧b.2 ≤ p.2
theorem BxIn.lows {B ps:List (Int × Int)} (h:BxIn B ps):InB (B.map (·.1)) ps:=inb_of (by rw [List.length_map,h.len]) fun j c p e1 e2=>by
  rw [List.getElem?_map] at e1
  obtain ⟨b,eb,rfl⟩:=Option.map_eq_some_iff.mp e1
  have:=h.get j b p eb e2
  exact ⟨this.1,by omega⟩
theorem BxIn.highs {B ps:List (Int × Int)} (h:BxIn B ps):InB (B.map (·.2)) ps:=inb_of (by rw [List.length_map,h.len]) fun j c p e1 e2=>by
  rw [List.getElem?_map] at e1
  obtain ⟨b,eb,rfl⟩:=Option.map_eq_some_iff.mp e1
  have:=h.get j b p eb e2
  exact ⟨by omega,this.2.2⟩
theorem BxIn.wide {B ps:List (Int × Int)} (h:BxIn B ps) (hw:∀ p ∈ ps,p.2 - p.1 ≤ 10 ^ 41):∀ b ∈ B,0 ≤ b.2 - b.1∧b.2 - b.1 ≤ 10 ^ 41:=fun b hb=>by
  obtain ⟨k,hk,e⟩:=List.getElem_of_mem hb
  have eb:B[k]? = some b:=by rw [List.getElem?_eq_getElem hk,e]
  obtain ⟨p,ep⟩:∃ p,ps[k]? = some p:=⟨_,List.getElem?_eq_getElem (by rw [← h.len]; exact hk)⟩
  have h1:=h.get k b p eb ep
  have h2:=hw p (List.mem_of_getElem? ep)
  generalize (10:Int) ^ 41 = N at h2 ⊢
  omega
theorem bx_in:∀ {n:Nat} {F:Fm Int n} {ps:List (Int × Int)},ShOk n F ps→∀ q ∈ bxs n F,BxIn q.1 ps∧Tel n F (q.1.map (·.1)) q.2∧Tel n F (q.1.map (·.2)) q.2
  | 0,F,ps,hs,q,hq=>by
    have hs:ps = []:=hs
    have hq:q ∈ [(([]:List (Int × Int)),F)]:=hq
    rw [List.mem_singleton.mp hq,hs]
    exact ⟨⟨rfl,fun k b p e=>by simp at e⟩,.nil _,.nil _⟩
  | n + 1,F,ps,hs,q,hq=>by
    obtain ⟨f,rfl⟩:∃ f:List (T3a (Fm Int n)),(f:Fm Int (n + 1)) = F:=⟨F,rfl⟩
    obtain ⟨p,r,rfl,hne,hch,hnb,hall⟩:ShS (ShOk n) f ps:=hs
    obtain ⟨e,he,q',hq',rfl⟩:=bx_mem.mp hq
    obtain ⟨j,hj,ej⟩:=List.getElem_of_mem he
    have ej:f[j]? = some e:=by rw [List.getElem?_eq_getElem hj,ej]
    obtain ⟨a1,a2,a3,-,-,-⟩:=ch3_get hch ej
    obtain ⟨b1,b2,b3⟩:=bx_in (hall e he) q' hq'
    refine ⟨⟨by rw [List.length_cons,List.length_cons,b1.len],fun k b p' e1 e2=>?_⟩,tel_at hch ej (Int.le_refl _) a2 b2,tel_at hch ej a2 (Int.le_refl _) b3⟩
    match k,e1,e2 with
    | 0,e1,e2=>cases e1; cases e2; exact ⟨a1,a2,a3⟩
    | k + 1,e1,e2=>exact b1.get k b p' (by simpa using e1) (by simpa using e2)
theorem bx_ne:∀ {n:Nat} {F:Fm Int n} {ps:List (Int × Int)},ShOk n F ps→∃ q,q ∈ bxs n F
  | 0,F,_,_=>⟨_,List.mem_singleton.mpr rfl⟩
  | n + 1,F,ps,hs=>by
    obtain ⟨f,rfl⟩:∃ f:List (T3a (Fm Int n)),(f:Fm Int (n + 1)) = F:=⟨F,rfl⟩
    obtain ⟨p,r,rfl,hne,hch,hnb,hall⟩:ShS (ShOk n) f ps:=hs
    obtain ⟨e,he⟩:=List.exists_mem_of_ne_nil f hne
    obtain ⟨q,hq⟩:=bx_ne (hall e he)
    exact ⟨_,bx_mem.mpr ⟨e,he,q,hq,rfl⟩⟩
inductive Asc:List (Int × Int)→List (Int × Int)→Prop
  | here {a b:Int × Int} {A B:List (Int × Int)} : a.1 < b.1→a.2 < b.1→Asc (a :: A) (b :: B)
  | there {a:Int × Int} {A B:List (Int × Int)} : Asc A B→Asc (a :: A) (a :: B)
theorem asc_sep {A B:List (Int × Int)} (h:Asc A B):∃ (k:Nat) (a b:Int × Int),A[k]? = some a∧B[k]? = some b∧a.1 < b.1∧a.2 < b.1∧∀ (i:Nat),i < k→A[i]? = B[i]?:=by
  induction h with
  | @here a b A B h1 h2=>exact ⟨0,a,b,rfl,rfl,h1,h2,fun i hi=>absurd hi (Nat.not_lt_zero i)⟩
  | @there a A B _ ih =>
    obtain ⟨k,x,y,e1,e2,h1,h2,h3⟩:=ih
    refine ⟨k + 1,x,y,by simpa using e1,by simpa using e2,h1,h2,fun i hi=>?_⟩
    match i with
    | 0=>rfl
    | i + 1=>simpa using h3 i (by omega)
theorem ch3_pw {α:Type} : ∀ {f:List (T3a α)} {lo hi:Int},Ch3 f lo hi→f.Pairwise fun a b=>a.1 < b.1∧a.2.1 < b.1
  | [],_,_,_=>.nil
  | t :: f,lo,hi,h=>by
    have h1:=h.1
    have h2:=h.2.1
    refine .cons (fun u hu=>?_) (ch3_pw h.2.2)
    have:=(lows_sorted h.2.2).2 u hu
    exact ⟨by omega,by omega⟩
theorem bx_asc:∀ {n:Nat} {F:Fm Int n} {ps:List (Int × Int)},ShOk n F ps→(bxs n F).Pairwise fun q r=>Asc q.1 r.1
  | 0,F,_,_=>List.pairwise_singleton _ _
  | n + 1,F,ps,hs=>by
    obtain ⟨f,rfl⟩:∃ f:List (T3a (Fm Int n)),(f:Fm Int (n + 1)) = F:=⟨F,rfl⟩
    obtain ⟨p,r,rfl,hne,hch,hnb,hall⟩:ShS (ShOk n) f ps:=hs
    show (List.flatMap (fun e:T3a (Fm Int n)=>(bxs n e.2.2).map fun q=>((e.1,e.2.1) :: q.1,q.2)) f).Pairwise _
    rw [List.pairwise_flatMap]
    refine ⟨fun e he=>?_,(ch3_pw hch).imp fun {a b} hab x hx y hy=>?_⟩
    · rw [List.pairwise_map]
      exact (bx_asc (hall e he)).imp fun h=>.there h
    · obtain ⟨x',_,rfl⟩:=List.mem_map.mp hx
      obtain ⟨y',_,rfl⟩:=List.mem_map.mp hy
      exact .here hab.1 hab.2
theorem vol_go (B:List (Int × Int)):∀ v:Int,B.foldl (fun v p=>v * (p.2 - p.1 + 1)) v = v * B.foldl (fun v p=>v * (p.2 - p.1 + 1)) 1:=by
  induction B with
  | nil=>intro v; exact (Int.mul_one v).symm
  | cons p B ih =>
    intro v
    rw [List.foldl_cons,List.foldl_cons,ih,ih (1 * (p.2 - p.1 + 1)),Int.one_mul,Int.mul_assoc]
theorem vol_cons (p:Int × Int) (B:List (Int × Int)):vol (p :: B) = (p.2 - p.1 + 1) * vol B:=by
  unfold vol
  rw [List.foldl_cons,vol_go,Int.one_mul]
def vsum:List (List (Int × Int) × Int)→Int
  | []=>0
  | q :: r=>vol q.1 + vsum r
theorem vsum_app:∀ a b:List (List (Int × Int) × Int),vsum (a ++ b) = vsum a + vsum b
  | [],b=>(Int.zero_add _).symm
  | q :: a,b=>by show vol q.1 + vsum (a ++ b) = vol q.1 + vsum a + vsum b; rw [vsum_app a b,Int.add_assoc]
theorem vsum_snoc {l:List (List (Int × Int) × Int)} {i:Nat} {q:List (Int × Int) × Int} (e:l[i]? = some q):vsum (l.take (i + 1)) = vsum (l.take i) + vol q.1:=by
  rw [take_snoc e,vsum_app]
  show _ + (vol q.1 + 0) = _
  rw [Int.add_zero]
theorem vsum_map (p:Int × Int):∀ l:List (List (Int × Int) × Int),vsum (l.map fun q=>(p :: q.1,q.2)) = (p.2 - p.1 + 1) * vsum l
  | []=>(Int.mul_zero _).symm
  | q :: l=>by
    show vol (p :: q.1) + vsum (l.map fun q=>(p :: q.1,q.2)) = (p.2 - p.1 + 1) * (vol q.1 + vsum l)
    rw [vol_cons,vsum_map p l,Int.mul_add]
theorem bx_vol:∀ {n:Nat} {F:Fm Int n} {ps:List (Int × Int)},ShOk n F ps→vsum (bxs n F) = vol ps
  | 0,F,ps,hs=>by
    have hs:ps = []:=hs
    rw [hs]
    rfl
  | n + 1,F,ps,hs=>by
    obtain ⟨f,rfl⟩:∃ f:List (T3a (Fm Int n)),(f:Fm Int (n + 1)) = F:=⟨F,rfl⟩
    obtain ⟨p,r,rfl,hne,hch,hnb,hall⟩:ShS (ShOk n) f ps:=hs
    have go:∀ (g:List (T3a (Fm Int n))) (lo hi:Int),Ch3 g lo hi→(∀ t ∈ g,ShOk n t.2.2 r)→vsum (bxs (n + 1) (g:Fm Int (n + 1))) = (hi - lo + 1) * vol r:=by
      intro g
      induction g with
      | nil =>
        intro lo hi h _
        have h:lo = hi + 1:=h
        show (0:Int) = _
        rw [show hi - lo + 1 = 0 by omega,Int.zero_mul]
      | cons t g ih =>
        intro lo hi h ha
        have h1:=h.1
        have e:bxs (n + 1) (show Fm Int (n + 1) from t :: g) = bxs (n + 1) (show Fm Int (n + 1) from [t]) ++ bxs (n + 1) (show Fm Int (n + 1) from g):=bxs_app n [t] g
        rw [e,vsum_app,bxs_one,vsum_map (t.1,t.2.1),bx_vol (ha t List.mem_cons_self),ih _ _ h.2.2 fun u hu=>ha u (List.mem_cons_of_mem _ hu),← Int.add_mul]
        congr 1
        show t.2.1 - t.1 + 1 + (hi - (t.2.1 + 1) + 1) = hi - lo + 1
        omega
    rw [go f p.1 p.2 hch hall,vol_cons]
theorem low_iff:∀ {n:Nat} {F:Fm Int n} {ps:List (Int × Int)} {k:Nat} {p:Int × Int} {m:Int},ShOk n F ps→ps[k]? = some p→(inMk n F k m↔p.1 < m∧∃ q ∈ bxs n F,∃ b,q.1[k]? = some b∧b.1 = m)
  | 0,F,ps,k,p,m,hs,ep=>by
    have hs:ps = []:=hs
    rw [hs] at ep
    simp at ep
  | n + 1,F,ps,k,p,m,hs,ep=>by
    obtain ⟨f,rfl⟩:∃ f:List (T3a (Fm Int n)),(f:Fm Int (n + 1)) = F:=⟨F,rfl⟩
    obtain ⟨p0,r,rfl,hne,hch,hnb,hall⟩:ShS (ShOk n) f ps:=hs
    match k,ep with
    | 0,ep =>
      cases ep
      show inM1 f m↔_
      match f,hne,hch,hall with
      | s :: g,_,hch,hall =>
        have h1:=hch.1
        have h2:=hch.2.1
        constructor
        · rintro ⟨t,ht,rfl⟩
          have ht:t ∈ g:=ht
          have:=(lows_sorted hch.2.2).2 t ht
          obtain ⟨q,hq⟩:=bx_ne (hall t (List.mem_cons_of_mem _ ht))
          exact ⟨by omega,_,bx_mem.mpr ⟨t,List.mem_cons_of_mem _ ht,q,hq,rfl⟩,_,rfl,rfl⟩
        · rintro ⟨hm,q,hq,b,eb,rfl⟩
          obtain ⟨e,he,q',hq',rfl⟩:=bx_mem.mp hq
          cases eb
          rcases List.mem_cons.mp he with rfl | he
          · have hm:p.1 < e.1:=hm; omega
          · exact ⟨e,he,rfl⟩
    | k + 1,ep =>
      have ep:r[k]? = some p:=by simpa using ep
      show inMS (fun x=>inMk n x k) f m↔_
      constructor
      · rintro ⟨t,ht,h⟩
        obtain ⟨a,q,hq,b,eb,e⟩:=(low_iff (hall t ht) ep).mp h
        exact ⟨a,_,bx_mem.mpr ⟨t,ht,q,hq,rfl⟩,b,by simpa using eb,e⟩
      · rintro ⟨a,q,hq,b,eb,e⟩
        obtain ⟨t,ht,q',hq',rfl⟩:=bx_mem.mp hq
        exact ⟨t,ht,(low_iff (hall t ht) ep).mpr ⟨a,q',hq',b,by simpa using eb,e⟩⟩
theorem flat_len {α β:Type} {b:Nat} {F:α→List β} : ∀ {l:List α},(∀ x ∈ l,(F x).length ≤ b)→(l.flatMap F).length ≤ l.length * b
  | [],_=>Nat.zero_le _
  | x :: l,h=>by
    have h1:=h x List.mem_cons_self
    have h2:=flat_len fun y hy=>h y (List.mem_cons_of_mem _ hy)
    rw [List.flatMap_cons,List.length_append,List.length_cons,Nat.succ_mul]
    omega
theorem lay_bx {b:Nat} {g:List Int→Int} : ∀ {cols:List (List (Int × Int))} {ps:List (Int × Int)},ColOk cols ps→(∀ c ∈ cols,c.length ≤ b)→∀ ah:List Int,(bxs cols.length (lay g cols ah)).length ≤ b ^ cols.length
  | [],_,_,_,_=>Nat.le_refl _
  | c :: cols,ps,h,hb,ah=>by
    cases h with
    | @cons _ _ p ps hne hc h =>
    have k:=close_ok (chn3 (fun q=>lay g cols (ah ++ [q.1])) hc)
    have h1:(closeF (c.map fun p=>((p.1,p.2,lay g cols (ah ++ [p.1])):T3a (Fm Int cols.length)))).length ≤ b:=Nat.le_trans (close_len _) (by rw [List.length_map]; exact hb c List.mem_cons_self)
    have h2:(bxs (cols.length + 1) (show Fm Int (cols.length + 1) from closeF (c.map fun p=>((p.1,p.2,lay g cols (ah ++ [p.1])):T3a (Fm Int cols.length))))).length ≤ (closeF (c.map fun p=>((p.1,p.2,lay g cols (ah ++ [p.1])):T3a (Fm Int cols.length)))).length * b ^ cols.length:=flat_len fun t ht=>by
      rw [List.length_map]
      obtain ⟨t',a1,a2⟩:=k.mem t ht
      obtain ⟨q,_,rfl⟩:=List.mem_map.mp a1
      rw [← a2]
      exact lay_bx h (fun c hc=>hb c (List.mem_cons_of_mem _ hc)) _
    show (bxs (cols.length + 1) _).length ≤ b ^ (cols.length + 1)
    rw [Nat.pow_succ,Nat.mul_comm]
    exact Nat.le_trans h2 (Nat.mul_le_mul_right _ h1)
theorem cells0 (H:Hp):CellsAt H [] []:=⟨(fun c hc=>by cases hc),(fun x v e=>by cases e)⟩
theorem dq_tup {K:PySem.W.Frag} {H:Hp} {n:Nat} {a b:Addr} {xs ys:List V} (ha:H a = some (.tup xs)) (hb:H b = some (.tup ys)) (hl:xs.length = ys.length) (h:∀ (j:Nat) (x y:V),xs[j]? = some x→ys[j]? = some y→DEq K H n x y true):DEq K H (n + 1) (.ref a) (.ref b) true:=by
  by_cases e:a = b
  · subst e; exact .same a
  · have:=DEq.tup (f:=fun _=>true) e (SqT.of ha) (SqT.of hb) h
    rw [List.all_eq_true.mpr (fun _ _=>rfl),hl,Bool.true_and,beq_self_eq_true] at this
    exact this
theorem dq_pair {K:PySem.W.Frag} {H:Hp} {n:Nat} {a b:Addr} {p:Int × Int} (ha:H a = some (.tup [.int p.1,.int p.2])) (hb:H b = some (.tup [.int p.1,.int p.2])):DEq K H (n + 1) (.ref a) (.ref b) true :=
  dq_tup ha hb rfl fun j x y e1 e2=>by
    rw [e1] at e2
    cases e2
    have:∃ c:Int,x = .int c:=by
      match j,e1 with
      | 0,e1=>cases e1; exact ⟨_,rfl⟩
      | 1,e1=>cases e1; exact ⟨_,rfl⟩
      | j + 2,e1=>simp at e1
    obtain ⟨c,rfl⟩:=this
    have:=DEq.flat (K:=K) (H:=H) (n:=n) (x:=.int c) (y:=.int c) rfl rfl
    rw [show eqV (.int c) (.int c) = true by simp [eqV]] at this
    exact this
theorem dq_box {K:PySem.W.Frag} {H:Hp} {n:Nat} {a b:Addr} {B:List (Int × Int)} (ha:BxA H a B) (hb:BxA H b B):DEq K H (n + 2) (.ref a) (.ref b) true:=by
  obtain ⟨xs,ea,hx⟩:=ha
  obtain ⟨ys,eb,hy⟩:=hb
  refine dq_tup ea eb (by rw [hx.length,hy.length]) fun j x y e1 e2=>?_
  obtain ⟨p,t,ep,rfl,ht⟩:=hx.get e1
  obtain ⟨p',t',ep',rfl,ht'⟩:=hy.get e2
  rw [ep] at ep'
  cases ep'
  exact dq_pair ht ht'
theorem bx_deq {K:PySem.W.Frag} {H:Hp} {xs ys:List V} {L:List (List (Int × Int) × Int)} (hx:BxL H xs L) (hy:BxL H ys L) {j:Nat} {x y:V} (e1:xs[j]? = some x) (e2:ys[j]? = some y):DEq K H 60 x y true:=by
  obtain ⟨q,eq,t,b,rfl,ht,hb⟩:=paired_get hx e1
  obtain ⟨q',eq',t',b',rfl,ht',hb'⟩:=paired_get hy e2
  rw [eq] at eq'
  cases eq'
  refine dq_tup (n:=59) ht ht' rfl fun j x y e1 e2=>?_
  match j,e1,e2 with
  | 0,e1,e2=>cases e1; cases e2; exact dq_box (n:=57) hb hb'
  | 1,e1,e2 =>
    cases e1
    cases e2
    have:=DEq.flat (K:=K) (H:=H) (n:=59) (x:=.int q.2) (y:=.int q.2) rfl rfl
    rw [show eqV (.int q.2) (.int q.2) = true by simp [eqV]] at this
    exact this
  | j + 2,e1,_=>simp at e1
theorem dq_pne {K:PySem.W.Frag} {H:Hp} {n:Nat} {t u:Addr} {a c:Int × Int} (ht:H t = some (.tup [.int a.1,.int a.2])) (hu:H u = some (.tup [.int c.1,.int c.2])) (h:a.1 ≠ c.1):DEq K H (n + 1) (.ref t) (.ref u) false:=by
  have ne:t ≠ u:=fun z=>by
    rw [z,hu] at ht
    injection ht with ht
    injection ht with ht
    injection ht with h1 h2
    injection h1 with h1
    exact h h1.symm
  have:=DEq.tup (K:=K) (n:=n) (f:=fun j=>if j = 0 then eqV (.int a.1) (.int c.1) else eqV (.int a.2) (.int c.2)) ne (SqT.of ht) (SqT.of hu) fun j x y e1 e2=>by
    match j,e1,e2 with
    | 0,e1,e2=>cases e1; cases e2; exact DEq.flat rfl rfl
    | 1,e1,e2=>cases e1; cases e2; exact DEq.flat rfl rfl
    | j + 2,e1,_=>simp at e1
  have e:eqV (.int a.1) (.int c.1) = false:=by rw [eqV_ii]; exact decide_eq_false h
  have r:((List.range (min [V.int a.1,V.int a.2].length [V.int c.1,V.int c.2].length)).all (fun j=>if j = 0 then eqV (.int a.1) (.int c.1) else eqV (.int a.2) (.int c.2)) && [V.int a.1,V.int a.2].length == [V.int c.1,V.int c.2].length) = false:=by
    rw [List.all_eq_false.mpr ⟨0,List.mem_range.mpr (by show 0 < 2; decide),by rw [if_pos rfl,e]; decide⟩]
    rfl
  rw [r] at this
  exact this
theorem BxA.lt_to {K:PySem.W.Frag} {H:Hp} {Q:VK} {a b:Addr} {A B:List (Int × Int)} (ha:BxA H a A) (hb:BxA H b B) (h:Asc A B) (q:Q (.bl true) H):rLtP K (.ref a) (.ref b) H Q:=by
  obtain ⟨xs,ea,hx⟩:=ha
  obtain ⟨ys,eb,hy⟩:=hb
  obtain ⟨k,p,r,ep,er,k1,k2,k3⟩:=asc_sep h
  obtain ⟨x,ex⟩:∃ x,xs[k]? = some x:=⟨_,List.getElem?_eq_getElem (by rw [hx.length]; exact (List.getElem?_eq_some_iff.mp ep).1)⟩
  obtain ⟨y,ey⟩:∃ y,ys[k]? = some y:=⟨_,List.getElem?_eq_getElem (by rw [hy.length]; exact (List.getElem?_eq_some_iff.mp er).1)⟩
  obtain ⟨p',t,ep',rfl,ht⟩:=hx.get ex
  obtain ⟨r',u,er',rfl,hu⟩:=hy.get ey
  rw [ep] at ep'
  cases ep'
  rw [er] at er'
  cases er'
  refine ⟨a,b,xs,ys,k,t,u,[p.1,p.2],[r.1,r.2],rfl,rfl,SqT.of ea,SqT.of eb,fun i x y hi e1 e2=>?_,ex,ey,dq_pne ht hu (Int.ne_of_lt k1),SqT.of ht,SqT.of hu,?_⟩
  · obtain ⟨p1,t1,ep1,rfl,ht1⟩:=hx.get e1
    obtain ⟨p2,t2,ep2,rfl,ht2⟩:=hy.get e2
    have:=k3 i hi
    rw [ep1,ep2] at this
    cases this
    exact dq_pair ht1 ht2
  · rw [show HT.lexLt [p.1,p.2] [r.1,r.2] = true by simp [HT.lexLt,k1,Int.ne_of_lt k1]]
    exact q
theorem pw_get {α:Type} {R:α→α→Prop} {l:List α} (h:l.Pairwise R) {i j:Nat} {x y:α} (hij:i < j) (ex:l[i]? = some x) (ey:l[j]? = some y):R x y:=by
  obtain ⟨h1,rfl⟩:=List.getElem?_eq_some_iff.mp ex
  obtain ⟨h2,rfl⟩:=List.getElem?_eq_some_iff.mp ey
  exact (List.pairwise_iff_getElem.mp h) i j h1 h2 hij
def J26 (K:PySem.W.Frag):Sp:=fun vs H Q _=>∃ (a:Addr) (ms L:List Int) (lo hi:Int),vs = [.int lo,.int hi,.ref a]∧SqL K H a (ms.map V.int)∧ms.length ≤ 400∧L.length < 64∧(∀ m ∈ ms,lo < m→m ≤ hi→m ∈ L) ∧
  ∀ (r:Addr) (H' : Hp) (cs:List Int) (ts:List V),Same H H'→H r = none→H' r = some (.lst ts)→PL H' ts (stre lo hi cs)→cs.Pairwise (· < ·)→(∀ c,c ∈ cs↔(c ∈ ms∧lo < c∧c ≤ hi))→cs.length < 64→Q (.ref r) H'
def J3 (K:PySem.W.Frag):Sp:=fun vs H Q _=>∃ (L:Type) (_:DecidableEq L) (A:Lfp L) (n:Nat) (a:Addr) (xs:List V) (ts:List (T3a (Fm L n))),vs = [.ref a]∧n ≤ 6∧H a = some (.lst xs)∧FmL (FmV A H n) H ts xs∧ts.length ≤ 900∧∀ (r:Addr) (H' : Hp),Same H H'→FmV A H' (n + 1) (closeF ts) (.ref r)→Q (.ref r) H'
def J0 (K:PySem.W.Frag):Sp:=fun vs H Q _=>∃ (a:Addr) (xs:List V) (ts:List Tri) (c:Int) (j:Nat) (t:Tri),vs = [.ref a,.int c]∧SqT K H a xs∧T3 H xs ts∧At ts c j t∧Q t.2.2 H
def J6 (K:PySem.W.Frag):Sp:=fun vs H Q _=>∃ (a:Addr) (as:List Addr) (xss:List (List Int)) (L:List Int),vs = [.ref a]∧H a = some (.lst (as.map V.ref))∧MLs H as xss∧xss.flatten.length ≤ 1000∧L.length < 64∧(∀ x ∈ xss.flatten,x ∈ L)∧∀ (l:Addr) (cs:List Int) (H' : Hp),Same H H'→H l = none→H' l = some (.lst (cs.map V.int))→cs.Pairwise (· < ·)→(∀ x,x ∈ cs↔x ∈ xss.flatten)→Q (.ref l) H'
def J27 (K:PySem.W.Frag):Sp:=fun vs H Q _=>∃ (b:Addr) (B:List (Int × Int)),vs = [.ref b]∧BxA H b B∧B.length ≤ 6∧(∀ p ∈ B,0 ≤ p.2 - p.1∧p.2 - p.1 ≤ 10 ^ 41)∧Q (.int (vol B)) H
def J4 (K:PySem.W.Frag):Sp:=fun vs H Q _=>∃ (b:Addr) (B:List (Int × Int)),vs = [.ref b]∧BxA H b B∧B.length ≤ 6∧∀ (l:Addr) (H' : Hp),Same H H'→H l = none→H' l = some (.lst ((B.map (·.1)).map V.int))→Q (.ref l) H'
def J10 (K:PySem.W.Frag):Sp:=fun vs H Q _=>∃ (a:Addr) (ns:List Int) (k:Int),vs = [.ref a,.int k]∧SqL K H a (ns.map V.int)∧0 ≤ k∧∀ r:Int,Q (.int r) H
def J18 (K:PySem.W.Frag):Sp:=fun vs H Q _=>∃ (a:Addr) (ns:List Int) (bo:Addr) (ys:List V) (ps:List (Int × Int)),vs = [.ref a,.ref bo]∧SqL K H a (ns.map V.int)∧ns.length ≤ 63∧H bo = some (.lst ys)∧PL H ys ps∧1 ≤ ps.length∧ps.length ≤ 6∧(∀ p ∈ ps,p.1 ≤ p.2) ∧
  ∀ (ma:Addr) (as:List Addr) (mss:List (List Int)) (H' : Hp),Same H H'→H' ma = some (.lst (as.map V.ref))→MLs H' as mss→mss.length = ps.length→(∀ ms ∈ mss,ms.length ≤ 56)→(∀ ms ∈ mss,∃ L:List Int,L.length ≤ (mo ps.length).toNat∧∀ m ∈ ms,m ∈ L)→Q (.ref ma) H'
def J16 (K:PySem.W.Frag):Sp:=fun vs H Q _=>∃ n:Int,vs = [.int n]∧Q (.bl true) H
def J20 (K:PySem.W.Frag):Sp:=fun vs H Q _=>∃ (a b:Addr) (cs:List Int) (as:List Addr) (mss:List (List Int)) (tw tu st:Int),vs = [.ref a,.ref b,.int tw,.int tu,.int st]∧H a = some (.lst (cs.map V.int))∧H b = some (.lst (as.map V.ref))∧MLs H as mss∧cs.length = mss.length∧cs.length ≤ 6∧(∀ ms ∈ mss,ms.length ≤ 57)∧1 ≤ tw∧tw ≤ 5∧1 ≤ tu∧tu ≤ 7∧1 ≤ st∧st ≤ 10 ^ 21∧∀ H',Same H H'→Q (.int (told mss tw tu st cs)) H'
def J19 (K:PySem.W.Frag):Sp:=fun vs H Q _=>∃ (a b:Addr) (A B:List (Int × Int)),vs = [.ref a,.ref b]∧BxA H a A∧BxA H b B∧A.length = B.length∧A.length ≤ 6∧Asc A B∧(∀ p ∈ A,p.1 ≤ p.2)∧Q (.bl false) H
def J17 (K:PySem.W.Frag):Sp:=fun vs H Q _=>∃ (b:Addr) (xs:List V) (B:List (Int × Int)),vs = [.ref b]∧(H b = some (.lst xs)∨H b = some (.tup xs))∧PL H xs B∧B.length ≤ 6∧(∀ p ∈ B,0 ≤ p.2 - p.1∧p.2 - p.1 ≤ 10 ^ 41)∧Q (.int (vol B)) H
def J5 (K:PySem.W.Frag):Sp:=fun vs H Q _=>∃ (a b:Addr) (ys:List V) (ps:List (Int × Int)) (as:List Addr) (mss:List (List Int)),vs = [.ref a,.ref b]∧H a = some (.lst ys)∧PL H ys ps∧H b = some (.lst (as.map V.ref))∧MLs H as mss∧MOK ps mss ∧
  ∀ (l:Addr) (xs:List V) (H' : Hp) (css:List (List Int)),Same H H'→H' l = some (.lst xs)→css.length = ps.length→(∀ (j:Nat) (p:Int × Int) (ms cs:List Int),ps[j]? = some p→mss[j]? = some ms→css[j]? = some cs→cs.Pairwise (· < ·)∧(∀ c,c ∈ cs↔(c ∈ ms∧p.1 < c∧c ≤ p.2))∧cs.length < 64)→CoL H' xs (List.zipWith (fun p cs=>stre p.1 p.2 cs) ps css)→Q (.ref l) H'
def J22 (K:PySem.W.Frag):Sp:=fun vs H Q _=>∃ (v r:V) (l:Addr) (cs:List Int),vs = [v,.ref l]∧SqL K H l (cs.map V.int)∧Lk K H v cs r∧Q r H
def J11 (K:PySem.W.Frag):Sp:=fun vs H Q _=>∃ (a:Addr) (ns:List Int),vs = [.ref a]∧SqL K H a (ns.map V.int)∧∀ (l:Addr) (ys:List V) (ps:List (Int × Int)) (H' : Hp),Same H H'→H' l = some (.lst ys)→PL H' ys ps→1 ≤ ps.length→ps.length ≤ 6→(∀ p ∈ ps,p.1 ≤ p.2∧p.2 - p.1 ≤ 10 ^ 41)→Q (.ref l) H'
def J12 (K:PySem.W.Frag):Sp:=fun vs H Q _=>∃ (b bo:Addr) (B ps:List (Int × Int)) (ys:List V),vs = [.ref b,.ref bo]∧BxA H b B∧H bo = some (.lst ys)∧PL H ys ps∧BxIn B ps∧ps.length ≤ 6∧Q (.bl true) H
def J7 (K:PySem.W.Frag):Sp:=fun vs H Q _=>∃ (a b:Addr) (ys:List V) (ps:List (Int × Int)) (as:List Addr) (mss:List (List Int)),vs = [.ref a,.ref b]∧H a = some (.lst ys)∧PL H ys ps∧H b = some (.lst (as.map V.ref))∧MLs H as mss∧MOK ps mss∧∀ H' : Hp,Same H H'→Q (.int ((gr ps mss ps.length:Nat):Int)) H'
def J1 (K:PySem.W.Frag) (n:Nat):Sp:=fun vs H Q _=>∃ (d:Nat) (f:Fm Int d) (v:V),vs = [v,.int (d:Int)]∧FmV LInt H d f v∧d + 1 ≤ n∧(bxs d f).length ≤ 2000∧(∀ q ∈ bxs d f,q.1.length ≤ 6)∧∀ (l:Addr) (xs:List V) (H' : Hp),Same H H'→H l = none→H' l = some (.lst xs)→BxL H' xs (bxs d f)→Q (.ref l) H'
theorem no_boxes {K:PySem.W.Frag} {vs:List V} {H:Hp} {Q:VK} {E:XK} (h:J1 K 0 vs H Q E):False:=by
  obtain ⟨d,f_,v,rfl,hf,hn,hlen,h6,q⟩:=h
  omega
def J24 (K:PySem.W.Frag) (n:Nat):Sp:=fun vs H Q _=>∃ (d:Nat) (F:Fm Int d) (v:V) (ps:List (Int × Int)) (Ls:List (List Int)),vs = [v,.int d]∧d + 1 ≤ n∧d ≤ 6∧FmV LInt H d F v∧ShOk d F ps∧BdF d F∧(∀ c m,inMk d F c m→∃ l,Ls[c]? = some l∧m ∈ l)∧(∀ l ∈ Ls,l.length ≤ 57) ∧
  ∀ (l:Addr) (rs:List Addr) (mss:List (List Int)) (H' : Hp),Same H H'→H l = none→(∀ r ∈ rs,H r = none∧r ≠ l)→MkAt d F H' l rs mss→Q (.ref l) H'
theorem no_marks_of {K:PySem.W.Frag} {vs:List V} {H:Hp} {Q:VK} {E:XK} (h:J24 K 0 vs H Q E):False:=by
  obtain ⟨d,F_,v,ps,Ls,rfl,hn,hd3,hv,hsh,hbd,hLs,h57,q⟩:=h
  omega
def J21 (K:PySem.W.Frag) (P:Program) (w:World) (mg:Str→Option Value) (base:Heap) (n:Nat):Sp:=fun vs H Q _=>∃ (c b f:Addr) (xs:List V) (cols:List (List (Int × Int))) (ah:List Int) (m:Nat) (L:Type) (_:DecidableEq L) (A:Lfp L) (g:List Int→L) (J:Hp→Prop),vs = [.ref c,.ref b,.ref f]∧cols.length + 1 ≤ n∧H c = some (.lst xs)∧CoL H xs cols∧H b = some (.lst (ah.map V.int))∧(∀ col ∈ cols,col.length ≤ 64)∧ah.length + cols.length ≤ 6∧cols.length ≤ 6∧m = ah.length + cols.length∧LfOk A P w K mg base f m g J∧J H ∧
  (∀ (v:V) (H' : Hp),(∀ d o,d ≠ b→H d = some o→H' d = some o)→FmV A H' cols.length (lay g cols ah) v→Q v H')
theorem no_layered {K:PySem.W.Frag} {P:Program} {w:World} {mg:Str→Option Value} {base:Heap} {vs:List V} {H:Hp} {Q:VK} {E:XK} (h:J21 K P w mg base 0 vs H Q E):False:=by
  obtain ⟨c,b,f_,xs,cols,ah,m,L,iL,A,g,J,rfl,hn,hc,hC,hb,h64,ha3,hc3,hm,hL,hJ,q⟩:=h
  omega
def J23 (K:PySem.W.Frag) (P:Program) (w:World) (mg:Str→Option Value) (base:Heap) (n:Nat):Sp:=fun vs H Q _=>∃ (L M:Type) (_:DecidableEq L) (_:DecidableEq M) (A:Lfp L) (B:Lfp M) (h:L→M) (J:Hp→Prop) (d:Nat) (F:Fm L d) (v:V) (f:Addr),vs = [v,.int d,.ref f]∧d + 1 ≤ n∧d ≤ 6∧FmV A H d F v∧SmF 300 d F∧ChOk A B P w K mg base f h J∧J H∧∀ (u:V) (H' : Hp),Same H H'→FmV B H' d (mapF h d F) u→Q u H'
theorem no_mapped {K:PySem.W.Frag} {P:Program} {w:World} {mg:Str→Option Value} {base:Heap} {vs:List V} {H:Hp} {Q:VK} {E:XK} (h:J23 K P w mg base 0 vs H Q E):False:=by
  obtain ⟨L,M,iL,iM,A,B,h_,J,d,F_,v,f_,rfl,hn,hd3,hv,hsm,hL,hJ,q⟩:=h
  omega
def J25 (K:PySem.W.Frag) (P:Program) (w:World) (mg:Str→Option Value) (base:Heap) (n:Nat):Sp:=fun vs H Q _=>∃ (L M N:Type) (_:DecidableEq L) (_:DecidableEq M) (_:DecidableEq N) (A:Lfp L) (B:Lfp M) (C:Lfp N) (h:L→M→N) (J:Hp→Prop) (d:Nat) (F:Fm L d) (G:Fm M d) (v u:V) (f:Addr) (ps:List (Int × Int)),vs = [v,u,.int d,.ref f]∧d + 1 ≤ n∧d ≤ 6∧FmV A H d F v∧FmV B H d G u∧ShOk d F ps∧ShOk d G ps∧SmF 300 d F∧SmF 300 d G∧PrOk A B C P w K mg base f h J∧J H∧∀ (r:V) (H' : Hp),Same H H'→FmV C H' d (pairF h d F G) r→Q r H'
theorem no_paired {K:PySem.W.Frag} {P:Program} {w:World} {mg:Str→Option Value} {base:Heap} {vs:List V} {H:Hp} {Q:VK} {E:XK} (h:J25 K P w mg base 0 vs H Q E):False:=by
  obtain ⟨L,M,N,iL,iM,iN,A,B,C,h_,J,d,F_,G_,v,u,f_,ps,rfl,hn,hd3,hv,hu,hsh,hsh',hsm,hsm',hL,hJ,q⟩:=h
  omega
def J2 (K:PySem.W.Frag) (P:Program) (w:World) (mg:Str→Option Value) (base:Heap):Sp:=fun vs H Q _=>∃ (a b f:Addr) (ys:List V) (ps:List (Int × Int)) (as:List Addr) (mss:List (List Int)) (L:Type) (_:DecidableEq L) (A:Lfp L) (g:List Int→L) (J:Hp→Prop),vs = [.ref a,.ref b,.ref f]∧H a = some (.lst ys)∧PL H ys ps∧H b = some (.lst (as.map V.ref))∧MLs H as mss∧MOK ps mss∧gr ps mss ps.length ≤ 300∧LfOk A P w K mg base f ps.length g J∧J H ∧
  ∀ (v:V) (H' : Hp) (css:List (List Int)),Same H H'→css.length = ps.length→(∀ (j:Nat) (p:Int × Int) (ms cs:List Int),ps[j]? = some p→mss[j]? = some ms→css[j]? = some cs→cs.Pairwise (· < ·)∧(∀ c,c ∈ cs↔(c ∈ ms∧p.1 < c∧c ≤ p.2))∧cs.length < 64)→FmV A H' (List.zipWith (fun p cs=>stre p.1 p.2 cs) ps css).length (lay g (List.zipWith (fun p cs=>stre p.1 p.2 cs) ps css) []) v→Q v H'
def J13 (K:PySem.W.Frag):Sp:=fun vs H Q _=>∃ (v:V) (fo bo:Addr) (xs ys:List V) (ps:List (Int × Int)) (F:Fm Int ps.length) (css:List (List Int)),vs = [v,.ref fo,.ref bo]∧FmV LInt H ps.length F v∧H fo = some (.lst xs)∧BxL H xs (bxs ps.length F)∧H bo = some (.lst ys)∧PL H ys ps∧ps.length ≤ 6∧ShOk ps.length F ps∧SmF 300 ps.length F∧BdF ps.length F∧(bxs ps.length F).length ≤ 64∧css.length = ps.length∧(∀ c m,inMk ps.length F c m→∃ l,css[c]? = some l∧m ∈ l)∧(∀ l ∈ css,l.length ≤ 57)∧(∀ z,PySem.W.tabIn K "_law_further" = some z→H z.2 = some (.tbl #[]))∧∀ H',Q (.bl true) H'
def J8 (K:PySem.W.Frag):Sp:=fun vs H Q _=>∃ (a:Addr) (ns:List Int),vs = [.ref a]∧SqL K H a (ns.map V.int)∧ns.length ≤ 63∧(∀ z,PySem.W.tabIn K "law" = some z→H z.2 = some (.tbl #[]))∧(∀ z,PySem.W.tabIn K "_law_further" = some z→H z.2 = some (.tbl #[]))∧∀ H',Q (.bl true) H'
def J14 (K:PySem.W.Frag) (f c'  : Addr) (doc pm ctv:Value):Sp:=fun vs H Q _=>∃ (x:Int),vs = [.int x]∧CloAt H f c' (PySem.W.fnMade "_law_change" "_law_further.<locals>._law_change" (defArgs Y14) (defBody Y14) (defScope Y14) [] doc pm c' ctv) "_law_further.<locals>._law_change" [] []∧Q (.int (x * 2 + 1)) H
def J15 (K:PySem.W.Frag) (f c'  : Addr) (doc pm ctv:Value):Sp:=fun vs H Q _=>∃ (x y:Int),vs = [.int x,.int y]∧CloAt H f c' (PySem.W.fnMade "_law_pair" "_law_further.<locals>._law_pair" (defArgs Y15) (defBody Y15) (defScope Y15) [] doc pm c' ctv) "_law_further.<locals>._law_pair" [] []∧Q (.int (x * 3 + y)) H
def J9 (K:PySem.W.Frag) (f c' c_0 c_1 c_2 c_3:Addr) (doc pm ctv:Value):Sp:=fun vs H Q _=>∃ (a b:Addr) (cs:List Int) (as:List Addr) (mss:List (List Int)) (tw tu st:Int),vs = [.ref a]∧CloAt H f c' (PySem.W.fnMade "_law_leaf" "law.<locals>._law_leaf" (defArgs Y9) (defBody Y9) (defScope Y9) [("_law_twist",c_1),("_law_turn",c_2),("_law_step",c_3),("_law_marks_here",c_0)] doc pm c' ctv) "law.<locals>._law_leaf" [("_law_twist",c_1),("_law_turn",c_2),("_law_step",c_3),("_law_marks_here",c_0)] [("_law_marks_here",.ref b),("_law_twist",.int tw),("_law_turn",.int tu),("_law_step",.int st)]∧H a = some (.lst (cs.map V.int))∧H b = some (.lst (as.map V.ref))∧MLs H as mss∧cs.length = mss.length∧cs.length ≤ 6∧(∀ ms ∈ mss,ms.length ≤ 57)∧1 ≤ tw∧tw ≤ 5∧1 ≤ tu∧tu ≤ 7∧1 ≤ st∧st ≤ 10 ^ 21 ∧
  ∀ H',Same H H'→Q (.int (told mss tw tu st cs)) H'
section
variable {P:Program} {w:World} {K:PySem.W.Frag} {mg:Str→Option Value} {base:Heap} {f:Addr} {fd:FuncData}
theorem O_23 (F:Fun K "stretches" "stretches" Y26 f fd) (bl:Bl K mg)  : FnOk P w K mg base CX0 1 f fd ["low", "high", "marks"] (J26 K):=by
  refine F.ok Z26 (fun vs H Q E h=>?_) (fun cdv A outer s H vs Q E hr h=>?_)
  · obtain ⟨a,ms,L,lo,hi,rfl,hS,hl,hL,hsub,q⟩:=h
    rfl
  obtain ⟨a,ms,L,lo,hi,rfl,hS,hl,hL,hsub,q⟩:=h
  refine ⟨_,(pss_cons (ps_set (i:=3) Z26.nd rfl (Or.inl rfl) (pe_callB (call_sorted_setZ (w:=w) rfl rfl) rfl bl.sorted_ PyProof.Rows.boot_sorted (pa_cons (pe_callTy (call_setZ (w:=w) rfl rfl) rfl bl.set_ PyProof.Rows.boot_set (pa_cons (pe_comp (pi_list (pv 2)) (cmpOk_free (N:=["mark", "low", "high"]) (fr:=[0,1]) (cl:=[("low",s.heap.objs.size + 1),("high",s.heap.objs.size + 1 + 1)]) rfl rfl (by decide +kernel) (by decide +kernel) rfl (by decide +kernel) rfl rfl rfl (List.forall_mem_cons.mpr ⟨rfl,List.forall_mem_cons.mpr ⟨rfl,List.forall_mem_nil _⟩⟩) rfl) rfl (fun _ _ _ _=>(pif_one (pt_chain op_lt op_le (pv 1) (pv 0) (pv 2)))) (fun _ _ _ _=>(pv 0))) pa_nil)) pa_nil)))
     (pss_cons (ps_set (i:=4) Z26.nd rfl (Or.inl rfl) (pe_op op_cat (pe_lst (pa_cons (pv 0) pa_nil)) (pv 3)))
     (pss_cons (ps_set (i:=5) Z26.nd rfl (Or.inl rfl) (pe_op op_cat (pe_comp (pi_list (pv 3)) (cmpOk_plain rfl (by decide +kernel) (by decide +kernel) (by decide +kernel) rfl) rfl (fun _ _ _ _=>pif_nil) (fun _ _ _ _=>(pe_op op_sub (pv 0) pe_int))) (pe_lst (pa_cons (pv 1) pa_nil))))
     (pss_one (ps_ret (pe_listzip rfl rfl bl.list_ rfl bl.zip_ (pa_cons (pv 4) (pa_cons (pv 5) pa_nil)))))))),?_⟩
  refine ⟨_,rfl,a,rfl,⟨_,hS⟩,comp_list (xs:=ms.map V.int) (fun D i zs H2=>Same H H2∧H2 D = some (.lst zs)∧zs = ((ms.take i).filter (fun t=>decide (lo < t) && decide (t ≤ hi))).map V.int∧zs.length ≤ i)
    (fun D hD=>⟨same_new hD _,upd_same,rfl,Nat.zero_le _⟩) (fun D i zs H2 hD _ h=>h.1.seq hS) (fun D i x zs H2 hD e h=>?_) (fun D zs H2 hD h=>?_)⟩
  · obtain ⟨sm2,eD,hz,hlz⟩:=h
    obtain ⟨c,rfl,ec⟩:=of_map e
    have hi' : i < (ms.map V.int).length:=(List.getElem?_eq_some_iff.mp e).1
    have hi2:i < ms.length:=by rw [List.length_map] at hi'; exact hi'
    have hno:(decide (lo < c) && decide (c ≤ hi)) = false→CNext (fun D i zs H2=>Same H H2∧H2 D = some (.lst zs)∧zs = ((ms.take i).filter (fun t=>decide (lo < t) && decide (t ≤ hi))).map V.int∧zs.length ≤ i) D i (ms.map V.int).length H2:=fun hf=>by
      refine CNext.mk (zs:=zs) hi' ⟨sm2,eD,?_,by omega⟩
      rw [take_snoc ec,List.filter_append,List.filter_cons_of_neg (by simpa using hf)]
      simpa using hz
    refine ⟨_,rfl,_,rfl,_,_,rfl,rfl,_,rfl,?_⟩
    refine ite2 (fun g1=>?_) (fun g1=>?_)
    · refine ⟨_,rfl,_,_,rfl,rfl,_,rfl,?_⟩
      refine ite2 (fun g2=>?_) (fun g2=>hno (by rw [Bool.eq_false_iff.mpr g2,Bool.and_false]))
      refine ⟨_,rfl,CYes.mk hi' eD (small1000 (by omega)) ⟨sm2.upd hD,upd_same,?_,by rw [List.length_append,List.length_singleton]; omega⟩⟩
      rw [take_snoc ec,List.filter_append,List.filter_cons_of_pos (by rw [g1,g2]; rfl),hz]
      simp
    · exact ⟨_,rfl,iteF (hno (by rw [Bool.eq_false_iff.mpr g1,Bool.false_and]))⟩
  · obtain ⟨s2,eD,hz,hlz⟩:=h
    rw [List.length_map] at hlz hz
    rw [List.take_length] at hz
    rw [hz] at eD
    generalize hks:ms.filter (fun t=>decide (lo < t) && decide (t ≤ hi)) = ks at eD hz
    have hmem:∀ c,c ∈ ks↔(c ∈ ms∧lo < c∧c ≤ hi):=fun c=>by rw [← hks,List.mem_filter]; simp
    have hkl:ks.length ≤ ms.length:=by rw [← hks]; exact List.length_filter_le ..
    refine ⟨D,ks,rfl,SqL.of eD,by omega,fun l hl'=>?_⟩
    have s3:Same H (upd H2 l (SetZ w l ks)):=s2.trans (same_new hl' _)
    refine ⟨l,ks,L,rfl,upd_same,hL,fun k hk=>let ⟨a1,a2,a3⟩:=(hmem k).mp hk; hsub k a1 a2 a3,fun D2 cs hD2 pw mem=>?_⟩
    have s4:=s3.trans (same_new hD2 (.lst (cs.map V.int)))
    have e4:upd (upd H2 l (SetZ w l ks)) D2 (.lst (cs.map V.int)) D2 = some (.lst (cs.map V.int)):=upd_same
    generalize upd (upd H2 l (SetZ w l ks)) D2 (.lst (cs.map V.int)) = H3 at s4 e4 ⊢
    have hcl:cs.length < 64:=Nat.lt_of_le_of_lt (nodup_sub_len (pw.imp fun h=>Int.ne_of_lt h) fun k hk=>let ⟨a1,a2,a3⟩:=(hmem k).mp ((mem k).mp hk); hsub k a1 a2 a3) hL
    refine ⟨_,rfl,(by show 1 ≤ sizeLine; decide),fun t1 ht1=>?_⟩
    have e5:=ret_r1 (o:=.lst [.int lo]) e4 ht1
    have s5:=s4.trans (same_new ht1 (.lst [.int lo]))
    refine ⟨_,rfl,t1,D2,_,_,rfl,rfl,upd_same,e5,Nat.le_of_lt (small1000 (by rw [List.length_map]; show 1 + cs.length ≤ 1000; omega)),fun t2 ht2=>?_⟩
    have e6:=ret_r1 (o:=.lst ([V.int lo] ++ cs.map V.int)) e5 ht2
    have s6:=s5.trans (same_new ht2 (.lst ([V.int lo] ++ cs.map V.int)))
    have e7:upd (upd H3 t1 (.lst [.int lo])) t2 (.lst ([V.int lo] ++ cs.map V.int)) t2 = some (.lst ([V.int lo] ++ cs.map V.int)):=upd_same
    generalize upd (upd H3 t1 (.lst [.int lo])) t2 (.lst ([V.int lo] ++ cs.map V.int)) = H4 at s6 e6 e7 ⊢
    refine ⟨_,rfl,D2,rfl,⟨_,SqL.of e6⟩,comp_list (xs:=cs.map V.int) (fun D i zs H5=>Same H4 H5∧H5 D = some (.lst zs)∧zs = ((cs.take i).map (· - 1)).map V.int∧zs.length ≤ i)
      (fun D hD=>⟨same_new hD _,upd_same,rfl,Nat.zero_le _⟩) (fun D i zs H5 hD _ h=>SqL.of (h.1 _ _ e6)) (fun D i x zs H5 hD e h=>?_) (fun D zs H5 hD h=>?_)⟩
    · obtain ⟨sm2,eD5,hz5,hlz5⟩:=h
      obtain ⟨c,rfl,ec⟩:=of_map e
      have hi' : i < (cs.map V.int).length:=(List.getElem?_eq_some_iff.mp e).1
      have hi2:i < cs.length:=by rw [List.length_map] at hi'; exact hi'
      refine ⟨_,rfl,_,_,rfl,rfl,CYes.mk hi' eD5 (small1000 (by omega)) ⟨sm2.upd hD,upd_same,?_,by rw [List.length_append,List.length_singleton]; omega⟩⟩
      rw [take_snoc ec,List.map_append,List.map_append,hz5]
      rfl
    · obtain ⟨sm5,eD5,hz5,hlz5⟩:=h
      rw [List.length_map,List.take_length] at hz5
      rw [hz5] at eD5
      refine ⟨_,rfl,(by show 1 ≤ sizeLine; decide),fun t3 ht3=>?_⟩
      have s7:=sm5.trans (same_new ht3 (.lst [.int hi]))
      refine ⟨D,t3,_,_,rfl,rfl,ret_r1 eD5 ht3,upd_same,Nat.le_of_lt (small1000 (by rw [List.length_map,List.length_map]; show cs.length + 1 ≤ 1000; omega)),fun t4 ht4=>?_⟩
      have s8:=s7.trans (same_new ht4 (.lst ((cs.map (· - 1)).map V.int ++ [.int hi])))
      have e8:upd (upd H5 t3 (.lst [.int hi])) t4 (.lst ((cs.map (· - 1)).map V.int ++ [.int hi])) t4 = some (.lst ((cs.map (· - 1)).map V.int ++ [.int hi])):=upd_same
      generalize upd (upd H5 t3 (.lst [.int hi])) t4 (.lst ((cs.map (· - 1)).map V.int ++ [.int hi])) = H6 at s8 e8 ⊢
      have e9:=s8 _ _ e7
      refine ⟨_,rfl,_,rfl,t2,t4,(lo :: cs).map V.int,(cs.map (· - 1) ++ [hi]).map V.int,rfl,SqL.of e9,by rw [List.map_append]; exact SqL.of e8,fun D9 ts H9 hlen k9 hD9 eD9 f9=>?_⟩
      have s9:Same H H9:=(s6.trans s8).trans fun c o e=>k9 c o e
      refine q D9 H9 cs (ts.map V.ref) s9 ((s6.trans s8).free hD9) eD9 (PL.of_get (by rw [hlen,stre_len]; simp) fun j p hj=>?_) pw (fun c=>(mem c).trans (hmem c)) hcl
      obtain ⟨z1,z2⟩:=zip_get hj
      obtain ⟨T,h1,_,h2⟩:=f9 j _ _ z1 z2
      exact ⟨T,h1,h2⟩
theorem O_3 (F:Fun K "closed" "closed" Y3 f fd) (bl:Bl K mg)  : FnOk P w K mg base CX0 1 f fd ["triples"] (J3 K):=by
  refine F.ok Z3 (fun vs H Q E h=>?_) (fun cdv A outer s H vs Q E hr h=>?_)
  · obtain ⟨L,iL,A,n,a,xs,ts,rfl,hn,ha,hT,hl,q⟩:=h
    rfl
  obtain ⟨L,iL,A,n,a,xs,ts,rfl,hn,ha,hT,hl,q⟩:=h
  refine ⟨_,(pss_cons (ps_set (i:=1) Z3.nd rfl (Or.inl rfl) (pe_lst pa_nil))
     (pss_cons (ps_for PassesOwn.never rfl (pi_list (pv 0)) (pg_tup rfl (pgs_cons (pg_name (i:=2) Z3.nd rfl (Or.inl rfl)) (pgs_cons (pg_name (i:=3) Z3.nd rfl (Or.inl rfl)) (pgs_cons (pg_name (i:=4) Z3.nd rfl (Or.inl rfl)) pgs_nil))))
     (pss_one (ps_if (PW.pt (pw_and (pt_truth (pv 1) (by intro _; rfl)) (pw_and1 (pt_cmpR (op_eqF hr) (pe_ix ix_tup (pe_ix ix_list (pv 1) (pe_un un_neg pe_int) (fun _ _=>rfl)) pe_int (fun _ _=>rfl)) (pv 4) (nomark _)))))
     (pss_one (ps_asg (pe_tup (pa_cons (pe_ix ix_tup (pe_ix ix_list (pv 1) (pe_un un_neg pe_int) (fun _ _=>rfl)) pe_int (fun _ _=>rfl)) (pa_cons (pv 3) (pa_cons (pv 4) pa_nil)))) (pg_sub (pv 1) (pe_un un_neg pe_int) set_list)))
     (pss_one (ps_expr (pe_bm PySem.F.plainAttrs_list PySem.F.slot_list_append PySem.F.type_list_append mt_append (pv 1) (pa_cons (pe_tup (pa_cons (pv 2) (pa_cons (pv 3) (pa_cons (pv 4) pa_nil)))) pa_nil)))))))
     (pss_one (ps_ret (pe_callTy call_tuple_of rfl bl.tuple_ PyProof.Rows.boot_tuple (pa_cons (pv 1) pa_nil)))))),?_⟩
  refine ⟨(by show 0 ≤ sizeLine; decide),fun l hl'=>?_⟩
  have s0:Same H (upd H l (.lst [])):=same_new hl' _
  refine ⟨_,rfl,a,rfl,⟨_,SqL.of (s0 _ _ ha)⟩,for_list (xs:=xs) (fun i σ H'=>Same H H'∧∃ (zs:List V) (c2 c3 c4:Option V),H' l = some (.lst zs)∧FmL (FmV A H' n) H' ((ts.take i).foldl cstep []) zs∧zs.length ≤ i∧σ = [some (.ref a),some (.ref l),c2,c3,c4])
    ⟨s0,[],none,none,none,upd_same,FmL.nil,Nat.zero_le _,rfl⟩ (fun i σ H' _ h=>SqL.of (h.1 _ _ ha)) (fun i y σ H' e h=>?_) (fun σ H' h=>?_)⟩
  · obtain ⟨sm,zs,c2,c3,c4,el,hz,hzl,rfl⟩:=h
    have hi:i < xs.length:=(List.getElem?_eq_some_iff.mp e).1
    obtain ⟨t,et⟩:∃ t,ts[i]? = some t:=⟨_,List.getElem?_eq_getElem (by rw [← hT.1]; exact hi)⟩
    obtain ⟨r,u,ex,er,hu⟩:=hT.2 i t et
    rw [e] at ex
    cases ex
    have er':=sm _ _ er
    have hu':=FmV.mono sm.tups hu
    have efold:(ts.take (i + 1)).foldl cstep [] = cstep ((ts.take i).foldl cstep []) t:=by rw [take_snoc et,List.foldl_append]; rfl
    rw [efold]
    generalize (ts.take i).foldl cstep [] = F at hz
    have hli:i < 900:=by have:=hT.1; omega
    refine ⟨r,_,rfl,SqT.of er',rfl,_,_,rfl,_,_,rfl,_,_,rfl,rfl,?_⟩
    have put:cstep F t = F ++ [t]→∀ t',H' t' = none→Same H (upd (upd H' t' (.tup [.int t.1,.int t.2.1,u])) l (.lst (zs ++ [.ref t'])))∧∃ (zs2:List V) (c2 c3 c4:Option V),upd (upd H' t' (.tup [.int t.1,.int t.2.1,u])) l (.lst (zs ++ [.ref t'])) l = some (.lst zs2) ∧
        FmL (FmV A (upd (upd H' t' (.tup [.int t.1,.int t.2.1,u])) l (.lst (zs ++ [.ref t']))) n) (upd (upd H' t' (.tup [.int t.1,.int t.2.1,u])) l (.lst (zs ++ [.ref t']))) (cstep F t) zs2∧zs2.length ≤ i + 1∧[some (V.ref a),some (V.ref l),some (V.int t.1),some (V.int t.2.1),some u] = [some (.ref a),some (.ref l),c2,c3,c4]:=fun ec t' ht=>by
      have e3:upd H' t' (.tup [.int t.1,.int t.2.1,u]) l = some (.lst zs):=ret_r1 el ht
      have st1:SameT H' (upd (upd H' t' (.tup [.int t.1,.int t.2.1,u])) l (.lst (zs ++ [.ref t']))):=(sameT_new ht).trans (sameT_lst e3)
      refine ⟨(sm.trans (same_new ht _)).upd hl',zs ++ [.ref t'],_,_,_,upd_same,?_,by rw [List.length_append,List.length_singleton]; omega,rfl⟩
      rw [ec]
      exact (hz.mono (fun _ _ q=>FmV.mono st1 q) st1).snoc (sameT_lst e3 _ _ upd_same) (FmV.mono st1 hu')
    refine ⟨_,rfl,!zs.isEmpty,.inl ⟨zs,SqL.of el,rfl⟩,?_⟩
    rcases List.eq_nil_or_concat F with hF | ⟨F',lt,hF⟩
    · subst hF
      have hz0:zs = []:=List.eq_nil_of_length_eq_zero hz.1
      have eE:(!zs.isEmpty) = false:=by rw [hz0]; rfl
      rw [eE]
      refine iteF (iteF ?_)
      refine ⟨_,rfl,.inl ⟨rfl,_,SqL.of el⟩,_,rfl,_,rfl,_,rfl,(by show 3 ≤ sizeLine; decide),fun t' ht=>?_⟩
      refine ⟨l,zs,_,rfl,rfl,ret_r1 el ht,small1000 (by omega),?_⟩
      exact put rfl t' ht
    · rw [List.concat_eq_append] at hF
      subst hF
      obtain ⟨ys,rl,ul,rfl,hy,hrl,hul⟩:=hz.init
      have eE:(!(ys ++ [V.ref rl]).isEmpty) = true:=by cases ys <;> rfl
      rw [eE]
      refine iteT ?_
      refine ⟨_,rfl,_,rfl,l,_,_,_,rfl,rfl,SqL.of el,atI_last _ _,rl,_,_,_,rfl,rfl,SqT.of hrl,rfl,_,rfl,FmV.eq_to (by omega) hul hu' ?_⟩
      refine ⟨_,rfl,?_⟩
      refine ite2 (fun d=>?_) (fun d=>?_)
      · have d' : lt.2.2 = t.2.2:=dec_t d
        have ec:cstep (F' ++ [lt]) t = F' ++ [(lt.1,t.2.1,t.2.2)]:=by
          unfold cstep
          rw [List.getLast?_concat]
          simp only
          rw [if_pos d',List.dropLast_concat]
        refine ⟨_,rfl,_,rfl,l,_,_,_,rfl,rfl,SqL.of el,atI_last _ _,rl,_,_,_,rfl,rfl,SqT.of hrl,rfl,_,rfl,_,rfl,(by show 3 ≤ sizeLine; decide),fun t' ht=>?_⟩
        have e3:upd H' t' (.tup [.int lt.1,.int t.2.1,u]) l = some (.lst (ys ++ [.ref rl])):=ret_r1 el ht
        refine ⟨_,rfl,_,rfl,l,_,_,_,rfl,rfl,e3,ixN_last (by simp),?_⟩
        rw [set_last]
        have st1:SameT H' (upd (upd H' t' (.tup [.int lt.1,.int t.2.1,u])) l (.lst (ys ++ [.ref t']))):=(sameT_new ht).trans (sameT_lst e3)
        refine ⟨(sm.trans (same_new ht _)).upd hl',ys ++ [.ref t'],_,_,_,upd_same,?_,by rw [List.length_append,List.length_singleton] at hzl ⊢; omega,rfl⟩
        rw [ec]
        exact (hy.mono (fun _ _ q=>FmV.mono st1 q) st1).snoc (t:=(lt.1,t.2.1,t.2.2)) (sameT_lst e3 _ _ upd_same) (FmV.mono st1 hu')
      · have d' : lt.2.2 ≠ t.2.2:=dec_f d
        have ec:cstep (F' ++ [lt]) t = F' ++ [lt] ++ [t]:=by
          unfold cstep
          rw [List.getLast?_concat]
          simp only
          rw [if_neg d']
        refine ⟨_,rfl,.inl ⟨rfl,_,SqL.of el⟩,_,rfl,_,rfl,_,rfl,(by show 3 ≤ sizeLine; decide),fun t' ht=>?_⟩
        refine ⟨l,_,_,rfl,rfl,ret_r1 el ht,small1000 (by omega),?_⟩
        exact put ec t' ht
  · obtain ⟨sm,zs,c2,c3,c4,el,hz,hzl,rfl⟩:=h
    have hz' : FmL (FmV A H' n) H' (closeF ts) zs:=by
      have e:ts.take xs.length = ts:=by rw [hT.1]; exact List.take_length
      rw [e] at hz
      exact hz
    refine ⟨_,rfl,l,zs,rfl,.inl ⟨SqL.of el,fun t' ht=>?_⟩⟩
    have st:=same_new ht (.tup zs)
    exact q t' _ (sm.trans st) ⟨t',zs,rfl,upd_same,hz'.mono (fun _ _ z=>FmV.mono st.tups z) st.tups⟩
theorem O_0 (F:Fun K "beneath_code" "beneath_code" Y0 f fd) (bl:Bl K mg)  : FnOk P w K mg base CX0 1 f fd ["form", "code"] (J0 K):=by
  refine F.ok Z0 (fun vs H Q E h=>?_) (fun cdv A outer s H vs Q E hr h=>?_)
  · obtain ⟨a,xs,ts,c,j,t,rfl,hS,hT,hA,q⟩:=h
    rfl
  obtain ⟨a,xs,ts,c,j,t,rfl,hS,hT,hA,q⟩:=h
  refine ⟨_,(pss_cons (ps_set (i:=2) Z0.nd rfl (Or.inl rfl) pe_int)
     (pss_cons (ps_while PassesOwn.never (pt_cmpR op_lt (pe_ix ix_tup (pe_ix ix_tup (pv 0) (pv 2) (fun _ _=>rfl)) pe_int (fun _ _=>rfl)) (pv 1) (nomark _))
     (pss_one (ps_aug (i:=2) Z0.nd rfl (Or.inl rfl) pe_int ip_add)))
     (pss_one (ps_ret (pe_ix ix_tup (pe_ix ix_tup (pv 0) (pv 2) (fun _ _=>rfl)) pe_int (fun _ _=>rfl)))))),?_⟩
  have get:∀ i:Nat,i ≤ j→∃ (u:Tri) (r:Addr),ts[i]? = some u∧atI xs (i:Int) = some (.ref r)∧H r = some (.tup [.int u.1,.int u.2.1,u.2.2]):=fun i hi=>by
    have hj:=(List.getElem?_eq_some_iff.mp hA.at_).1
    have e:=List.getElem?_eq_getElem (l:=ts) (i:=i) (by omega)
    obtain ⟨r,a,b⟩:=hT.2 i _ e
    exact ⟨_,r,e,atI_nat a,b⟩
  refine ⟨fun m σ H'=>∃ i:Nat,i ≤ j∧m = j - i∧H' = H∧σ = [some (.ref a),some (.int c),some (.int i)],⟨j,0,Nat.zero_le _,rfl,rfl,rfl⟩,?_⟩
  rintro m σ H' ⟨i,hi,rfl,rfl,rfl⟩
  obtain ⟨u,r,eu,ex,er⟩:=get i hi
  refine ⟨_,rfl,_,rfl,a,_,_,_,rfl,rfl,hS,ex,r,_,_,_,rfl,rfl,SqT.of er,rfl,_,rfl,_,_,rfl,rfl,_,rfl,?_⟩
  refine ite2 (fun g=>?_) (fun g=>?_)
  · have g' : u.2.1 < c:=dec_t g
    have hij:i ≠ j:=fun h=>by
      subst h
      rw [hA.at_] at eu; cases eu
      have:=hA.le
      omega
    refine ⟨fun σ' H''=>H'' = H'∧σ' = [some (.ref a),some (.int c),some (.int ((i + 1:Nat):Int))],?_,?_⟩
    · rintro σ' H'' ⟨rfl,rfl⟩
      exact ⟨j - (i + 1),by omega,i + 1,by omega,rfl,rfl,rfl⟩
    · exact ⟨_,rfl,_,_,rfl,rfl,rfl,rfl⟩
  · have hij:i = j:=by
      by_cases h:i < j
      · exact absurd (hA.lt i u h eu) (dec_f g)
      · omega
    subst hij
    rw [hA.at_] at eu; cases eu
    exact ⟨_,rfl,_,rfl,a,_,_,_,rfl,rfl,hS,ex,r,_,_,_,rfl,rfl,SqT.of er,rfl,q⟩
theorem O_6 (F:Fun K "gathered" "gathered" Y6 f fd) (bl:Bl K mg)  : FnOk P w K mg base CX0 1 f fd ["lists"] (J6 K):=by
  refine F.ok Z6 (fun vs H Q E h=>?_) (fun cdv A outer s H vs Q E hr h=>?_)
  · obtain ⟨a,as,xss,L,rfl,ea,hav,hlen,hL,hsub,q⟩:=h
    rfl
  obtain ⟨a,as,xss,L,rfl,ea,hav,hlen,hL,hsub,q⟩:=h
  refine ⟨_,(pss_cons (ps_set (i:=1) Z6.nd rfl (Or.inl rfl) (pe_lst pa_nil))
     (pss_cons (ps_for PassesOwn.never rfl (pi_list (pv 0)) (pg_name (i:=2) Z6.nd rfl (Or.inl rfl))
     (pss_one (ps_expr (pe_bm PySem.F.plainAttrs_list PySem.F.slot_list_extend PySem.F.type_list_extend mt_extend (pv 1) (pa_cons (pv 2) pa_nil)))))
     (pss_one (ps_ret (pe_callB (call_sorted_setZ (w:=w) rfl rfl) rfl bl.sorted_ PyProof.Rows.boot_sorted (pa_cons (pe_callTy (call_setZ (w:=w) rfl rfl) rfl bl.set_ PyProof.Rows.boot_set (pa_cons (pv 1) pa_nil)) pa_nil)))))),?_⟩
  refine ⟨(by show 0 ≤ sizeLine; decide),fun nb hnb=>?_⟩
  have s0:Same H (upd H nb (.lst [])):=same_new hnb _
  have e0:upd H nb (.lst []) nb = some (.lst [] ):=upd_same
  generalize upd H nb (.lst []) = H0 at s0 e0 ⊢
  have flat_snoc:∀ (A:List (List Int)) (x:List Int),(A ++ [x]).flatten = A.flatten ++ x:=fun A x=>by rw [List.flatten_append]; simp
  refine ⟨_,rfl,a,rfl,⟨_,SqL.of (s0 _ _ ea)⟩,for_list (xs:=as.map V.ref) (fun i σ H'=>Same H H'∧H' nb = some (.lst ((xss.take i).flatten.map V.int))∧∃ c2:Option V,σ = [some (.ref a),some (.ref nb),c2]) ⟨s0,e0,_,rfl⟩ (fun i σ H' _ h=>SqL.of (h.1 _ _ ea)) (fun i y σ H' e h=>?_) (fun σ H' h=>?_)⟩
  · obtain ⟨sm,enb,c2,rfl⟩:=h
    obtain ⟨r,rfl,er⟩:=of_ref e
    obtain ⟨xs,ex⟩:∃ xs,xss[i]? = some xs:=⟨_,List.getElem?_eq_getElem (by rw [← hav.1]; exact (List.getElem?_eq_some_iff.mp er).1)⟩
    obtain ⟨r',er',hr⟩:=hav.2 i xs ex
    rw [er] at er'
    cases er'
    have hle:(xss.take i).flatten.length + xs.length ≤ 1000:=by
      have h0:xss.flatten = (xss.take (i + 1)).flatten ++ (xss.drop (i + 1)).flatten:=by rw [← List.flatten_append,List.take_append_drop]
      have h1:((xss.take (i + 1)).flatten).length ≤ xss.flatten.length:=by rw [h0,List.length_append]; omega
      rw [take_snoc ex,flat_snoc,List.length_append] at h1
      omega
    refine ⟨_,rfl,.inl ⟨rfl,_,SqL.of enb⟩,_,rfl,nb,r,_,_,rfl,rfl,enb,sm _ _ hr,Nat.le_of_lt (small1000 (by rw [List.length_map,List.length_map]; omega)),sm.upd hnb,?_,_,rfl⟩
    rw [upd_same,take_snoc ex,flat_snoc,List.map_append]
  · obtain ⟨sm,enb,c2,rfl⟩:=h
    rw [List.length_map,hav.1,List.take_length] at enb
    refine ⟨_,rfl,nb,xss.flatten,rfl,SqL.of enb,(by omega),fun l hl'=>?_⟩
    have s3:=same_new hl' (SetZ w l xss.flatten)
    refine ⟨l,xss.flatten,L,rfl,upd_same,hL,hsub,fun D2 cs hD2 pw mem=>?_⟩
    exact q D2 cs _ ((sm.trans s3).trans (same_new hD2 _)) (sm.free (s3.free hD2)) upd_same pw mem
theorem O_24 (F:Fun K "volume" "volume" Y27 f fd) (bl:Bl K mg)  : FnOk P w K mg base CX0 1 f fd ["box"] (J27 K):=by
  refine F.ok Z27 (fun vs H Q E h=>?_) (fun cdv A outer s H vs Q E hr h=>?_)
  · obtain ⟨b,B,rfl,⟨xs,hb,hP⟩,h6,hw,q⟩:=h
    rfl
  obtain ⟨b,B,rfl,⟨xs,hb,hP⟩,h6,hw,q⟩:=h
  refine ⟨_,(pss_cons (ps_set (i:=1) Z27.nd rfl (Or.inl rfl) pe_int)
     (pss_cons (ps_for PassesOwn.never rfl (pi_tup (pv 0)) (pg_tup rfl (pgs_cons (pg_name (i:=2) Z27.nd rfl (Or.inl rfl)) (pgs_cons (pg_name (i:=3) Z27.nd rfl (Or.inl rfl)) pgs_nil)))
     (pss_one (ps_aug (i:=1) Z27.nd rfl (Or.inl rfl) (pe_op op_add (pe_op op_sub (pv 3) (pv 2)) pe_int) ip_mul)))
     (pss_one (ps_ret (pv 1))))),?_⟩
  have hxl:=hP.length
  refine ⟨_,rfl,b,rfl,⟨_,SqT.of hb⟩,for_tup (xs:=xs) (fun i σ H'=>H' = H∧∃ (c2 c3:Option V),σ = [some (.ref b),some (.int (vol (B.take i))),c2,c3]) ⟨rfl,none,none,rfl⟩ (fun i σ H' _ h=>by rw [h.1]; exact SqT.of hb) (fun i x σ H' e h=>?_) (fun σ H' h=>?_)⟩
  · obtain ⟨e1,c2,c3,rfl⟩:=h
    rw [e1]
    obtain ⟨p,t,ep,rfl,ht⟩:=hP.get e
    refine ⟨t,_,rfl,SqT.of ht,rfl,_,_,rfl,_,_,rfl,rfl,?_⟩
    refine ⟨_,rfl,_,rfl,_,rfl,_,_,rfl,rfl,_,_,rfl,rfl,_,_,rfl,rfl,vol_ok h6 hw ep,rfl,some (.int p.1),some (.int p.2),?_⟩
    rw [vol_snoc ep]
    rfl
  · obtain ⟨e1,c2,c3,rfl⟩:=h
    rw [e1,hxl,List.take_length]
    exact ⟨_,rfl,q⟩
theorem O_4 (F:Fun K "corner" "corner" Y4 f fd) (bl:Bl K mg)  : FnOk P w K mg base CX0 1 f fd ["box"] (J4 K):=by
  refine F.ok Z4 (fun vs H Q E h=>?_) (fun cdv A outer s H vs Q E hr h=>?_)
  · obtain ⟨b,B,rfl,⟨xs,hb,hP⟩,h6,q⟩:=h
    rfl
  obtain ⟨b,B,rfl,⟨xs,hb,hP⟩,h6,q⟩:=h
  refine ⟨_,(pss_one (ps_ret (pe_compG (pi_tup (pv 0)) (cmpOkG_plain (N:=["low", "high"]) (k:=2) rfl rfl (by decide +kernel) (by decide +kernel) (by decide +kernel)) rfl (fun _ _ _ _=>(gTupK (K:=K) (n:=2) rfl rfl (pgs_cons (pg_name (i:=0) (show (["low", "high"]:List Str).Nodup by decide +kernel) rfl (Or.inl rfl) (Or.inr rfl)) (pgs_cons (pg_name (i:=1) (show (["low", "high"]:List Str).Nodup by decide +kernel) rfl (Or.inl rfl) (Or.inr rfl)) pgs_nil)))) (fun _ _ _ _=>pif_nil) (fun _ _ _ _=>(pv 0))))),?_⟩
  have hxl:=hP.length
  refine ⟨_,rfl,b,rfl,⟨_,SqT.of hb⟩,compG_tup (xs:=xs) (fun D i zs H'=>Same H H'∧H' D = some (.lst zs)∧zs = ((B.take i).map (·.1)).map V.int)
    (fun D hD=>⟨same_new hD _,upd_same,rfl⟩) (fun D i zs H' hD _ h=>SqT.of (h.1 _ _ hb)) (fun D i x zs H' hD e h ss hss=>?_) (fun D zs H' hD h=>?_)⟩
  · obtain ⟨sm,eD,rfl⟩:=h
    have hi:i < xs.length:=(List.getElem?_eq_some_iff.mp e).1
    obtain ⟨p,t,ep,rfl,ht⟩:=hP.get e
    obtain ⟨t0,t1,rfl⟩:∃ t0 t1,ss = [t0,t1]:=by
      match ss,hss with
      | [t0,t1],_=>exact ⟨t0,t1,rfl⟩
    refine ⟨t,_,rfl,SqT.of (sm _ _ ht),rfl,_,_,rfl,_,_,rfl,rfl,⟨[some (.int p.1),some (.int p.2)],rfl,rfl⟩,?_⟩
    refine ⟨_,rfl,CYes.mk hi eD (small1000 (by rw [List.length_map,List.length_map,List.length_take]; omega)) ⟨sm.upd hD,upd_same,?_⟩⟩
    rw [take_snoc ep,List.map_append,List.map_append]
    rfl
  · obtain ⟨sm,eD,rfl⟩:=h
    rw [hxl,List.take_length] at eD
    exact q D H' sm hD eD
theorem O_9 (F:Fun K "_law_at" "_law_at" Y10 f fd) (bl:Bl K mg)  : FnOk P w K mg base CX0 1 f fd ["_law_script", "_law_k"] (J10 K):=by
  refine F.ok Z10 (fun vs H Q E h=>?_) (fun cdv A outer s H vs Q E hr h=>?_)
  · obtain ⟨a,ns,k,rfl,hS,h0,q⟩:=h
    rfl
  obtain ⟨a,ns,k,rfl,hS,h0,q⟩:=h
  refine ⟨_,(pss_cons (ps_if (pt_cmpR op_lt (pv 1) (pe_callB call_len_seq rfl bl.len_ PySem.boot_len (pa_cons (pv 0) pa_nil)) (nomark _))
     (pss_one (ps_ret (pe_ix ix_list (pv 0) (pv 1) (fun _ _=>rfl))))
     pss_nil)
     (pss_one (ps_ret pe_int))),?_⟩
  refine ⟨_,rfl,_,rfl,a,_,rfl,.inl hS,_,_,rfl,rfl,_,rfl,?_⟩
  refine ite2 (fun c=>?_) (fun c=>?_)
  · have c' : k < (((ns.map V.int).length:Nat):Int):=dec_t c
    rw [List.length_map] at c'
    have hk:k.toNat < ns.length:=by omega
    have hv:atI (ns.map V.int) k = some (.int ns[k.toNat]):=by
      have z:atI (ns.map V.int) ((k.toNat:Nat):Int) = some (.int ns[k.toNat]):=atI_nat (by rw [List.getElem?_map,List.getElem?_eq_getElem hk]; rfl)
      rw [show ((k.toNat:Nat):Int) = k by omega] at z
      exact z
    exact ⟨_,rfl,_,rfl,a,_,_,_,rfl,rfl,hS,hv,q _⟩
  · exact q 0
theorem O_15 (F:Fun K "_law_marks" "_law_marks" Y18 f fd) (bl:Bl K mg)  : FnOk P w K mg base CX0 1 f fd ["_law_script", "_law_bounds_here"] (J18 K):=by
  refine F.ok Z18 (fun vs H Q E h=>?_) (fun cdv A outer s H vs Q E hr h=>?_)
  · obtain ⟨a,ns,bo,ys,ps,rfl,hS,h63,hbo,hP0,h1,h3,hle,q⟩:=h
    rfl
  obtain ⟨a,ns,bo,ys,ps,rfl,hS,h63,hbo,hP0,h1,h3,hle,q⟩:=h
  refine ⟨_,(pss_cut (ps_set (i:=2) Z18.nd rfl (Or.inl rfl) (pe_ix ix_list (pe_lst (pa_cons pe_int (pa_cons pe_int (pa_cons pe_int (pa_cons pe_int (pa_cons pe_int (pa_cons pe_int pa_nil))))))) (pe_op op_sub (pe_callB call_len_seq rfl bl.len_ PySem.boot_len (pa_cons (pv 1) pa_nil)) pe_int) (fun _ _=>rfl)))
     (pss_cut (ps_comp (i:=3) Z18.nd rfl (Or.inl rfl) (pi_list (pv 1)) (cmpOk_plain rfl (by decide +kernel) (by decide +kernel) (by decide +kernel) rfl) rfl (fun _ _ _ _=>pif_nil) (fun _ _ _ _=>(pe_lst pa_nil)))
     (pss_cons (ps_for PassesOwn.never rfl (pi_range2 rfl bl.range_ (pa_cons pe_int (pa_cons (pe_callB (call_min2 rfl) rfl bl.min_ PyProof.Rows.boot_min (pa_cons (pe_callB call_len_seq rfl bl.len_ PySem.boot_len (pa_cons (pv 0) pa_nil)) (pa_cons pe_int pa_nil))) pa_nil))) (pg_name (i:=4) Z18.nd rfl (Or.inl rfl))
     (pss_cut (ps_set (i:=5) Z18.nd rfl (Or.inl rfl) (pe_ix ix_list (pv 3) (pe_op op_mod (pv 4) (pe_callB call_len_seq rfl bl.len_ PySem.boot_len (pa_cons (pv 1) pa_nil))) (fun _ _=>rfl)))
     (pss_cut (ps_set (i:=6) Z18.nd rfl (Or.inl rfl) (pe_ix ix_list (pv 1) (pe_op op_mod (pv 4) (pe_callB call_len_seq rfl bl.len_ PySem.boot_len (pa_cons (pv 1) pa_nil))) (fun _ _=>rfl)))
     (pss_one (ps_if (pt_cmpR op_lt (pe_callB call_len_seq rfl bl.len_ PySem.boot_len (pa_cons (pv 5) pa_nil)) (pv 2) (nomark _))
     (pss_one (ps_expr (pe_bm PySem.F.plainAttrs_list PySem.F.slot_list_append PySem.F.type_list_append mt_append (pv 5) (pa_cons (pe_op op_add (pe_op op_sub (pe_ix ix_tup (pv 6) pe_int (fun _ _=>rfl)) pe_int) (pe_op op_mod (pe_ix ix_list (pv 0) (pv 4) (fun _ _=>rfl)) (pe_op op_add (pe_op op_sub (pe_ix ix_tup (pv 6) pe_int (fun _ _=>rfl)) (pe_ix ix_tup (pv 6) pe_int (fun _ _=>rfl))) pe_int))) pa_nil))))
     (pss_one (ps_expr (pe_bm PySem.F.plainAttrs_list PySem.F.slot_list_append PySem.F.type_list_append mt_append (pv 5) (pa_cons (pe_ix ix_list (pv 5) (pe_op op_mod (pe_ix ix_list (pv 0) (pv 4) (fun _ _=>rfl)) (pv 2)) (fun _ _=>rfl)) pa_nil)))))))))
     (pss_one (ps_ret (pv 3)))))),?_⟩
  have hsl:(ns.map V.int).length = ns.length:=List.length_map _
  have hyl:=hP0.length
  refine ⟨fun σ' H'=>Same H H'∧σ' = [some (.ref a),some (.ref bo),some (.int (mo ps.length)),none,none,none,none],?_,?_⟩
  · refine ⟨(by show 6 ≤ sizeLine; decide),fun t ht=>?_⟩
    have s0:=same_new ht (.lst [.int 40,.int 6,.int 3,.int 1,.int 1,.int 1])
    have et:upd H t (.lst [.int 40,.int 6,.int 3,.int 1,.int 1,.int 1]) t = some (.lst [.int 40,.int 6,.int 3,.int 1,.int 1,.int 1]):=upd_same
    generalize upd H t (.lst [.int 40,.int 6,.int 3,.int 1,.int 1,.int 1]) = H1 at s0 et ⊢
    exact ⟨_,rfl,bo,_,rfl,.inl (SqL.of (s0 _ _ hbo)),_,_,rfl,rfl,t,_,_,_,rfl,rfl,SqL.of et,by rw [hyl]; exact mo_at h1 h3,s0,rfl⟩
  rintro σ1 H1 ⟨s1,rfl⟩
  have ebo:=s1 _ _ hbo
  have hP:PL H1 ys ps:=PL.mono hP0 s1.tups
  refine ⟨fun σ' H'=>Same H1 H'∧∃ (ma:Addr) (as:List Addr),H1 ma = none∧H' ma = some (.lst (as.map V.ref))∧as.Nodup∧(∀ r ∈ as,H1 r = none∧r ≠ ma)∧MLs H' as (List.replicate ps.length [])∧σ' = [some (.ref a),some (.ref bo),some (.int (mo ps.length)),some (.ref ma),none,none,none],?_,?_⟩
  · refine ⟨_,rfl,bo,rfl,⟨_,SqL.of ebo⟩,comp_list (xs:=ys) (fun D i zs H'=>Same H1 H'∧H' D = some (.lst zs)∧∃ as:List Addr,zs = as.map V.ref∧as.Nodup∧(∀ r ∈ as,H1 r = none∧r ≠ D)∧MLs H' as (List.replicate i []))
      (fun D hD=>⟨same_new hD _,upd_same,[],rfl,List.nodup_nil,(fun r hr=>by cases hr),rfl,(fun j ms e=>by simp at e)⟩) (fun D i zs H' hD _ h=>SqL.of (h.1 _ _ ebo)) (fun D i x zs H' hD e h=>?_) (fun D zs H' hD h=>?_)⟩
    · obtain ⟨sm,eD,as,rfl,nd,hfr,hM⟩:=h
      have hi:i < ys.length:=(List.getElem?_eq_some_iff.mp e).1
      refine ⟨(by show 0 ≤ sizeLine; decide),fun t ht=>?_⟩
      have u1:=same_new ht (.lst [])
      have e1:upd H' t (.lst []) t = some (.lst ((([]:List Int)).map V.int)):=upd_same
      generalize upd H' t (.lst []) = H2 at u1 e1 ⊢
      have ntD:t ≠ D:=fun z=>by rw [z,eD] at ht; cases ht
      have hal:as.length = i:=by rw [hM.1]; simp
      have nt:t ∉ as:=fun z=>by
        obtain ⟨j,hj⟩:=List.mem_iff_getElem?.mp z
        have hj2:j < i:=by have:=(List.getElem?_eq_some_iff.mp hj).1; omega
        obtain ⟨r,er,hr⟩:=hM.2 j [] (by rw [List.getElem?_replicate,if_pos hj2])
        rw [hj] at er
        cases er
        rw [ht] at hr
        cases hr
      refine CYes.mk hi (u1 _ _ eD) (small1000 (by rw [List.length_map]; omega)) ⟨(sm.trans u1).upd hD,upd_same,as ++ [t],by simp,?_,fun r hr=>?_,?_⟩
      · rw [List.nodup_append]
        refine ⟨nd,by simp,fun u hu v hv=>?_⟩
        have:v = t:=by simpa using hv
        subst this
        exact fun z=>nt (z ▸ hu)
      · rcases List.mem_append.mp hr with hr | hr
        · exact hfr r hr
        · have:r = t:=by simpa using hr
          subst this
          exact ⟨sm.free ht,ntD⟩
      · refine ⟨by simp [hal],fun j ms ej=>?_⟩
        have hms:ms = []∧j < i + 1:=by
          rw [List.getElem?_replicate] at ej
          split at ej
          · rename_i h; cases ej; exact ⟨rfl,h⟩
          · cases ej
        obtain ⟨rfl,hj⟩:=hms
        by_cases hji:j < i
        · obtain ⟨r,er,hr⟩:=hM.2 j [] (by rw [List.getElem?_replicate,if_pos hji])
          exact ⟨r,by rw [List.getElem?_append_left (by omega)]; exact er,(upd_ne (hfr r (List.mem_of_getElem? er)).2).trans (u1 _ _ hr)⟩
        · have:j = as.length:=by omega
          subst this
          exact ⟨t,by simp,(upd_ne ntD).trans e1⟩
    · obtain ⟨sm,eD,as,rfl,nd,hfr,hM⟩:=h
      rw [hyl] at hM
      exact ⟨sm,D,as,hD,eD,nd,hfr,hM,rfl⟩
  rintro σ2 H2 ⟨s2,ma,as,nma,ema,nd,hfr,hM0,rfl⟩
  have hal:as.length = ps.length:=by rw [hM0.1]; simp
  have nz:∀ b o,H1 b = some o→b ∉ as:=fun b o e z=>by rw [(hfr b z).1] at e; cases e
  have nma' : ma ∉ as:=fun z=>(hfr ma z).2 rfl
  have mo1:=mo_pos ps.length
  refine ⟨_,rfl,a,_,rfl,.inl ((s1.trans s2).seq hS),_,_,rfl,_,_,rfl,⟨by decide,by decide,?_,?_⟩,for_range (fun i σ H'=>(∀ b o,b ∉ as→H2 b = some o→H' b = some o)∧∃ (c4 c5 c6:Option V) (mss:List (List Int)),MLs H' as mss∧mss.length = ps.length∧(∀ ms ∈ mss,ms.length ≤ i)∧(∀ ms ∈ mss,∀ m ∈ ms,m ∈ ms.take (mo ps.length).toNat)∧σ = [some (.ref a),some (.ref bo),some (.int (mo ps.length)),some (.ref ma),c4,c5,c6])
      ⟨fun b o _ e=>e,none,none,none,List.replicate ps.length [],hM0,by simp,(fun ms hms=>by rw [List.eq_of_mem_replicate hms]; exact Nat.le_refl _),(fun ms hms m hm=>by rw [List.eq_of_mem_replicate hms] at hm; cases hm),rfl⟩ (fun i σ H' hi h=>?_) (fun σ H' h=>?_)⟩
  · rw [hsl]; split <;> omega
  · rw [hsl]; split <;> omega
  · obtain ⟨kp,c4,c5,c6,mss,hM,hml,hle2,hW,rfl⟩:=h
    have hi56:i < 56:=by
      rw [hsl] at hi
      split at hi <;> omega
    have n1:=Int.emod_nonneg (13 + (i:Int)) (show ((ps.length:Nat):Int) ≠ 0 by omega)
    have n2:=Int.emod_lt_of_pos (13 + (i:Int)) (show (0:Int) < ((ps.length:Nat):Int) by omega)
    obtain ⟨j,hj⟩:∃ j:Nat,(13 + (i:Int)) % ((ys.length:Nat):Int) = (j:Int):=⟨((13 + (i:Int)) % ((ys.length:Nat):Int)).toNat,by rw [hyl]; omega⟩
    have hj3:j < ps.length:=by rw [hyl] at hj; omega
    obtain ⟨x,ex⟩:∃ x,ys[j]? = some x:=⟨_,List.getElem?_eq_getElem (by omega)⟩
    obtain ⟨p,t,ep,rfl,ht⟩:=hP.get ex
    obtain ⟨ms,em⟩:∃ ms,mss[j]? = some ms:=⟨_,List.getElem?_eq_getElem (by omega)⟩
    obtain ⟨r,er,hr⟩:=hM.2 j ms em
    have ebo':=kp _ _ (nz _ _ ebo) (s2 _ _ ebo)
    have ema':=kp _ _ nma' ema
    have ht':=kp _ _ (nz _ _ ht) (s2 _ _ ht)
    have hplen:=hle p (List.mem_of_getElem? ep)
    have hS' : SqL K H' a (ns.map V.int):=(s1.trans (fun b o e=>kp b o (nz b o e) (s2 b o e):Same H1 H')).seq hS
    obtain ⟨v,ev⟩:∃ v,ns[13 + i]? = some v:=⟨_,List.getElem?_eq_getElem (by rw [hsl] at hi; split at hi <;> omega)⟩
    have hixm:atI (as.map V.ref) ((13 + (i:Int)) % ((ys.length:Nat):Int)) = some (.ref r):=by rw [hj]; exact atI_nat (get_ref er)
    have hixa:atI (ns.map V.int) (13 + (i:Int)) = some (.int v):=by have:=atI_nat (get_map ev); rw [show ((13 + i:Nat):Int) = 13 + (i:Int) by omega] at this; exact this
    have hms:=hle2 ms (List.mem_of_getElem? em)
    have hWm:=hW ms (List.mem_of_getElem? em)
    refine ⟨fun σ' H3=>H3 = H'∧σ' = [some (.ref a),some (.ref bo),some (.int (mo ps.length)),some (.ref ma),some (.int (13 + (i:Int))),some (.ref r),c6],?_,?_⟩
    · exact ⟨_,rfl,_,rfl,_,rfl,bo,_,rfl,.inl (SqL.of ebo'),_,_,rfl,rfl,(by rw [hyl]; omega),ma,_,_,_,rfl,rfl,SqL.of ema',hixm,rfl,rfl⟩
    rintro σ3 H3 ⟨e3,rfl⟩
    rw [e3]
    clear e3
    refine ⟨fun σ' H3=>H3 = H'∧σ' = [some (.ref a),some (.ref bo),some (.int (mo ps.length)),some (.ref ma),some (.int (13 + (i:Int))),some (.ref r),some (.ref t)],?_,?_⟩
    · exact ⟨_,rfl,_,rfl,_,rfl,bo,_,rfl,.inl (SqL.of ebo'),_,_,rfl,rfl,(by rw [hyl]; omega),bo,_,_,_,rfl,rfl,SqL.of ebo',by rw [hj]; exact atI_nat ex,rfl,rfl⟩
    rintro σ3 H3 ⟨e3,rfl⟩
    rw [e3]
    clear e3
    have hlm:(ms.map V.int).length = ms.length:=List.length_map _
    have put:∀ y:Int,(ms.length < (mo ps.length).toNat∨y ∈ ms.take (mo ps.length).toNat)→(∀ b o,b ∉ as→H2 b = some o→upd H' r (.lst (ms.map V.int ++ [.int y])) b = some o)∧∃ (c4 c5 c6:Option V) (mss' : List (List Int)),MLs (upd H' r (.lst (ms.map V.int ++ [.int y]))) as mss'∧mss'.length = ps.length∧(∀ ms ∈ mss',ms.length ≤ i + 1)∧(∀ ms ∈ mss',∀ m ∈ ms,m ∈ ms.take (mo ps.length).toNat) ∧
        [some (V.ref a),some (V.ref bo),some (V.int (mo ps.length)),some (V.ref ma),some (V.int (13 + (i:Int))),some (V.ref r),some (V.ref t)] = [some (.ref a),some (.ref bo),some (.int (mo ps.length)),some (.ref ma),c4,c5,c6]:=fun y hy=>by
      refine ⟨fun b o hb e=>(upd_ne (fun z=>hb (by rw [z]; exact List.mem_of_getElem? er))).trans (kp b o hb e),_,_,_,mss.set j (ms ++ [y]),?_,by rw [List.length_set]; exact hml,fun ms' h'=>?_,fun ms' h'=>?_,rfl⟩
      · have:=MLs.app (ms':=ms ++ [y]) nd hM er em
        rw [List.map_append] at this
        exact this
      · rcases mem_set h' with rfl | h'
        · rw [List.length_append,List.length_singleton]; omega
        · exact Nat.le_succ_of_le (hle2 ms' h')
      · rcases mem_set h' with rfl | h'
        · intro m hm
          by_cases hl:ms.length < (mo ps.length).toNat
          · rw [List.take_of_length_le (by rw [List.length_append,List.length_singleton]; omega)]
            exact hm
          · rw [List.take_append_of_le_length (by omega)]
            rcases List.mem_append.mp hm with hm | hm
            · exact hWm m hm
            · rw [List.mem_singleton.mp hm]
              exact hy.resolve_left hl
        · exact hW ms' h'
    refine ⟨_,rfl,r,_,rfl,.inl (SqL.of hr),_,rfl,_,_,rfl,rfl,_,rfl,?_⟩
    refine ite2 (fun g=>?_) (fun g=>?_)
    · have g' : ((ms.map V.int).length:Int) < mo ps.length:=dec_t g
      refine ⟨_,rfl,.inl ⟨rfl,_,SqL.of hr⟩,?_⟩
      refine ⟨_,rfl,t,_,_,_,rfl,rfl,SqT.of ht',rfl,_,_,rfl,rfl,_,rfl,_,rfl,a,_,_,_,rfl,rfl,hS',hixa,_,rfl,t,_,_,_,rfl,rfl,SqT.of ht',rfl,_,rfl,t,_,_,_,rfl,rfl,SqT.of ht',rfl,_,_,rfl,rfl,_,_,rfl,rfl,_,_,rfl,rfl,(by omega),_,_,rfl,rfl,?_⟩
      exact ⟨r,_,_,rfl,rfl,hr,small1000 (by omega),put _ (.inl (by omega))⟩
    · have g' : ¬ ((ms.map V.int).length:Int) < mo ps.length:=dec_f g
      have v0:=Int.emod_nonneg v (show mo ps.length ≠ 0 by omega)
      have v1:=Int.emod_lt_of_pos v (show 0 < mo ps.length by omega)
      obtain ⟨y,ey⟩:∃ y,ms[(v % mo ps.length).toNat]? = some y:=⟨_,List.getElem?_eq_getElem (by omega)⟩
      have hiy:atI (ms.map V.int) (v % mo ps.length) = some (.int y):=by
        have:=atI_nat (get_map ey)
        rw [show (((v % mo ps.length).toNat:Nat):Int) = v % mo ps.length by omega] at this
        exact this
      refine ⟨_,rfl,.inl ⟨rfl,_,SqL.of hr⟩,?_⟩
      refine ⟨_,rfl,_,rfl,_,rfl,a,_,_,_,rfl,rfl,hS',hixa,_,rfl,_,_,rfl,rfl,(by omega),r,_,_,_,rfl,rfl,SqL.of hr,hiy,?_⟩
      refine ⟨r,_,_,rfl,rfl,hr,small1000 (by omega),put y (.inr ?_)⟩
      refine List.mem_of_getElem? (i:=(v % mo ps.length).toNat) ?_
      rw [List.getElem?_take,if_pos (by omega)]
      exact ey
  · obtain ⟨kp,c4,c5,c6,mss,hM,hml,hle2,hW,rfl⟩:=h
    refine ⟨_,rfl,q ma as mss H' (s1.trans fun b o e=>kp b o (nz b o e) (s2 b o e)) (kp _ _ nma' ema) hM hml (fun ms hms=>Nat.le_trans (hle2 ms hms) (by rw [hsl]; split <;> omega)) fun ms hms=>⟨ms.take (mo ps.length).toNat,by rw [List.length_take]; omega,hW ms hms⟩⟩
theorem O_13 (F:Fun K "_law_int" "_law_int" Y16 f fd) (bl:Bl K mg)  : FnOk P w K mg base CX0 1 f fd ["_law_found"] (J16 K):=by
  refine F.ok Z16 (fun vs H Q E h=>?_) (fun cdv A outer s H vs Q E hr h=>?_)
  · obtain ⟨n,rfl,q⟩:=h
    rfl
  obtain ⟨n,rfl,q⟩:=h
  refine ⟨_,(pss_one (ps_ret (pe_and (pe_callB call_isinst rfl bl.isinstance_ PyProof.Rows.boot_isinstance (pa_cons (pv 0) (pa_cons (pe_bltn (v:=.ty "int") rfl bl.int_ PyProof.Rows.boot_int rfl) pa_nil))) (pe_one (pe_not (pe_callB call_isinst rfl bl.isinstance_ PyProof.Rows.boot_isinstance (pa_cons (pv 0) (pa_cons (pe_bltn (v:=.ty "bool") rfl bl.bool_ PyProof.Rows.boot_bool rfl) pa_nil)))))))),?_⟩
  exact ⟨_,rfl,_, "int",_,true,rfl,.int _,(by first | rfl | with_unfolding_all rfl | decide +kernel),_,rfl,iteT ⟨_,rfl,_, "bool",_,false,rfl,.int _,(by first | rfl | with_unfolding_all rfl | decide +kernel),_,rfl,q⟩⟩
theorem O_17 (F:Fun K "_law_told" "_law_told" Y20 f fd) (bl:Bl K mg)  : FnOk P w K mg base CX0 1 f fd ["_law_codes", "_law_marks_here", "_law_twist", "_law_turn", "_law_step"] (J20 K):=by
  refine F.ok Z20 (fun vs H Q E h=>?_) (fun cdv A outer s H vs Q E hr h=>?_)
  · obtain ⟨a,b,cs,as,mss,tw,tu,st,rfl,ha,hb,hM,hcl,hc3,h56,h1,h2,h3,h4,h5,h6,q⟩:=h
    rfl
  obtain ⟨a,b,cs,as,mss,tw,tu,st,rfl,ha,hb,hM,hcl,hc3,h56,h1,h2,h3,h4,h5,h6,q⟩:=h
  refine ⟨_,(pss_cons (ps_set (i:=5) Z20.nd rfl (Or.inl rfl) pe_int)
     (pss_cons (ps_for PassesOwn.never rfl (pi_range1 rfl bl.range_ (pa_cons (pe_callB call_len_seq rfl bl.len_ PySem.boot_len (pa_cons (pv 0) pa_nil)) pa_nil)) (pg_name (i:=6) Z20.nd rfl (Or.inr rfl))
     (pss_cons (ps_set (i:=7) Z20.nd rfl (Or.inl rfl) (pe_callB call_len_seq rfl bl.len_ PySem.boot_len (pa_cons (pe_comp (pi_list (pe_ix ix_list (pv 1) (pv 6) (fun _ _=>rfl))) (cmpOk_free (N:=["_law_mark", "_law_codes", "_law_k"]) (fr:=[0,6]) (cl:=[("_law_k",s.heap.objs.size + 1 + 1),("_law_codes",s.heap.objs.size + 1)]) rfl rfl (by decide +kernel) (by decide +kernel) rfl (by decide +kernel) rfl rfl rfl (List.forall_mem_cons.mpr ⟨rfl,List.forall_mem_cons.mpr ⟨rfl,List.forall_mem_nil _⟩⟩) rfl) rfl (fun _ _ _ _=>(pif_one (pt_cmpR op_le (pv 0) (pe_ix (ix_listK (K:=K) rfl) (pv 1) (pv 2) (fun _ _=>rfl)) (nomark _)))) (fun _ _ _ _=>(pv 0))) pa_nil)))
     (pss_one (ps_set (i:=5) Z20.nd rfl (Or.inl rfl) (pe_op op_add (pe_op op_mul (pv 5) (pv 2)) (pe_op op_mul (pe_op op_mod (pe_op op_add pe_int (pv 5)) pe_int) (pv 7)))))))
     (pss_one (ps_ret (pe_op op_mul (pe_op op_mod (pv 5) (pv 3)) (pv 4)))))),?_⟩
  have hsl:(cs.map V.int).length = cs.length:=List.length_map _
  refine ⟨_,rfl,a,_,rfl,.inl (SqL.of ha),_,rfl,(by show -(2 ^ 62) ≤ (((cs.map V.int).length:Nat):Int); omega),(by show (((cs.map V.int).length:Nat):Int) < 2 ^ 62; omega),for_range (fun i σ H'=>Same H H'∧∃ c6 c7:Option V,σ = [some (.ref a),some (.ref b),some (.int tw),some (.int tu),some (.int st),some (.int (tolk mss tw cs i)),c6,c7])
    ⟨fun _ _ e=>e,none,none,rfl⟩ (fun i σ H' hi h=>?_) (fun σ H' h=>?_)⟩
  · obtain ⟨sm,c6,c7,rfl⟩:=h
    have hi2:i < cs.length:=by rw [hsl] at hi; omega
    obtain ⟨c,ec⟩:∃ c,cs[i]? = some c:=⟨_,List.getElem?_eq_getElem hi2⟩
    obtain ⟨ms,em⟩:∃ ms,mss[i]? = some ms:=⟨_,List.getElem?_eq_getElem (by omega)⟩
    obtain ⟨r,er,hr'⟩:=hM.2 i ms em
    have hml:=h56 ms (List.mem_of_getElem? em)
    have eB:below (mss.getD i []) (cs.getD i 0) = ((ms.filter fun m=>decide (m ≤ c)).length:Int):=by
      have g1:mss.getD i [] = ms:=by rw [List.getD_eq_getElem?_getD,em]; rfl
      have g2:cs.getD i 0 = c:=by rw [List.getD_eq_getElem?_getD,ec]; rfl
      rw [g1,g2]
      rfl
    refine ⟨_,rfl,_,rfl,b,_,_,_,rfl,rfl,SqL.of (sm _ _ hb),getI (get_ref er),r,rfl,⟨_,SqL.of (sm _ _ hr')⟩,comp_list (xs:=ms.map V.int) (fun D j zs H2=>Same H' H2∧H2 D = some (.lst zs)∧zs = ((ms.take j).filter fun m=>decide (m ≤ c)).map V.int∧zs.length ≤ j)
      (fun D hD=>⟨same_new hD _,upd_same,rfl,Nat.zero_le _⟩) (fun D j zs H2 hD _ h=>SqL.of (h.1 _ _ (sm _ _ hr'))) (fun D j x zs H2 hD e h=>?_) (fun D zs H2 hD h=>?_)⟩
    · obtain ⟨s2,eD,hz,hlz⟩:=h
      obtain ⟨x,rfl,ex⟩:=of_map e
      have hj:j < (ms.map V.int).length:=(List.getElem?_eq_some_iff.mp e).1
      have hj2:j < ms.length:=by rw [List.length_map] at hj; exact hj
      refine ⟨_,rfl,_,rfl,_,rfl,a,_,_,_,rfl,rfl,SqL.of (s2 _ _ (sm _ _ ha)),getI (get_map ec),_,_,rfl,rfl,_,rfl,?_⟩
      refine ite2 (fun g=>?_) (fun g=>?_)
      · refine ⟨_,rfl,CYes.mk hj eD (small1000 (by omega)) ⟨s2.upd hD,upd_same,?_,by rw [List.length_append,List.length_singleton]; omega⟩⟩
        rw [take_snoc ex,List.filter_append,List.filter_cons_of_pos (by exact g),hz]
        simp
      · refine CNext.mk (zs:=zs) hj ⟨s2,eD,?_,by omega⟩
        rw [take_snoc ex,List.filter_append,List.filter_cons_of_neg (by exact g)]
        simpa using hz
    · obtain ⟨s2,eD,hz,hlz⟩:=h
      rw [List.length_map,List.take_length] at hz
      have hzl:(zs.length:Int) = below (mss.getD i []) (cs.getD i 0):=by rw [eB,hz,List.length_map]
      obtain ⟨t0,t1⟩:=tolk_le (cs:=cs) h56 h1 h2 i
      have p4:(5:Int) ^ i ≤ 3125:=by
        have:i = 0∨i = 1∨i = 2∨i = 3∨i = 4∨i = 5:=by omega
        rcases this with rfl | rfl | rfl | rfl | rfl | rfl <;> decide
      have m0:=Int.emod_nonneg (1 + tolk mss tw cs i) (show (3:Int) ≠ 0 by decide)
      have m1:=Int.emod_lt_of_pos (1 + tolk mss tw cs i) (show (0:Int) < 3 by decide)
      refine ⟨D,_,rfl,.inl (SqL.of eD),?_⟩
      refine ⟨_,rfl,_,rfl,_,_,rfl,rfl,.inl ⟨by omega,by omega⟩,_,rfl,_,_,rfl,rfl,_,_,rfl,rfl,(by show (0:Int) < 3; decide),_,rfl,_,_,rfl,rfl,.inl ⟨by omega,by omega⟩,_,_,rfl,rfl,sm.trans s2,some (.int (0 + (i:Int))),some (.int (zs.length:Int)),?_⟩
      rw [hzl]
      rfl
  · obtain ⟨sm,c6,c7,rfl⟩:=h
    rw [show ((((cs.map V.int).length:Nat):Int)).toNat = cs.length by rw [hsl]; rfl]
    have m0:=Int.emod_nonneg (tolk mss tw cs cs.length) (show tu ≠ 0 by omega)
    have m1:=Int.emod_lt_of_pos (tolk mss tw cs cs.length) (show 0 < tu by omega)
    exact ⟨_,rfl,_,rfl,_,_,rfl,rfl,(by omega),_,rfl,_,_,rfl,rfl,.inl ⟨by omega,by omega⟩,q H' sm⟩
theorem O_16 (F:Fun K "_law_meet" "_law_meet" Y19 f fd) (bl:Bl K mg)  : FnOk P w K mg base CX0 1 f fd ["_law_one", "_law_other"] (J19 K):=by
  refine F.ok Z19 (fun vs H Q E h=>?_) (fun cdv A outer s H vs Q E hr h=>?_)
  · obtain ⟨a,b,A_,B,rfl,⟨xs,ha,hA⟩,⟨ys,hb,hB⟩,hl,h6,hasc,hle,q⟩:=h
    rfl
  obtain ⟨a,b,A_,B,rfl,⟨xs,ha,hA⟩,⟨ys,hb,hB⟩,hl,h6,hasc,hle,q⟩:=h
  refine ⟨_,(pss_cons (ps_for PassesOwn.never rfl (pi_range1 rfl bl.range_ (pa_cons (pe_callB call_len_seq rfl bl.len_ PySem.boot_len (pa_cons (pv 0) pa_nil)) pa_nil)) (pg_name (i:=2) Z19.nd rfl (Or.inl rfl))
     (pss_one (ps_if (PW.pt (pw_or (pt_cmpR op_lt (pe_ix ix_tup (pe_ix ix_tup (pv 0) (pv 2) (fun _ _=>rfl)) pe_int (fun _ _=>rfl)) (pe_ix ix_tup (pe_ix ix_tup (pv 1) (pv 2) (fun _ _=>rfl)) pe_int (fun _ _=>rfl)) (nomark _)) (pw_or1 (pt_cmpR op_lt (pe_ix ix_tup (pe_ix ix_tup (pv 1) (pv 2) (fun _ _=>rfl)) pe_int (fun _ _=>rfl)) (pe_ix ix_tup (pe_ix ix_tup (pv 0) (pv 2) (fun _ _=>rfl)) pe_int (fun _ _=>rfl)) (nomark _)))))
     (pss_one (ps_ret pe_bl))
     pss_nil)))
     (pss_one (ps_ret pe_bl))),?_⟩
  have hxl:=hA.length
  have hyl:=hB.length
  obtain ⟨k_,p,r,ep,er,k1,k2,k3⟩:=asc_sep hasc
  have hk:k_ < A_.length:=(List.getElem?_eq_some_iff.mp ep).1
  refine ⟨_,rfl,a,_,rfl,.inr (SqT.of ha),_,rfl,(by show -(2 ^ 62) ≤ ((xs.length:Nat):Int); omega),(by show ((xs.length:Nat):Int) < 2 ^ 62; omega),for_range (fun i σ H'=>H' = H∧i ≤ k_∧∃ c2:Option V,σ = [some (.ref a),some (.ref b),c2]) ⟨rfl,Nat.zero_le _,none,rfl⟩ (fun i σ H' hi h=>?_) (fun σ H' h=>?_)⟩
  · obtain ⟨e1,hik,c2,rfl⟩:=h
    rw [e1]
    obtain ⟨x,ex⟩:∃ x,xs[i]? = some x:=⟨_,List.getElem?_eq_getElem (by omega)⟩
    obtain ⟨y,ey⟩:∃ y,ys[i]? = some y:=⟨_,List.getElem?_eq_getElem (by omega)⟩
    obtain ⟨p1,t,ep1,rfl,ht⟩:=hA.get ex
    obtain ⟨p2,t2,ep2,rfl,ht2⟩:=hB.get ey
    refine ⟨_,rfl,_,rfl,a,_,_,_,rfl,rfl,SqT.of ha,getI ex,t,_,_,_,rfl,rfl,SqT.of ht,rfl,_,rfl,_,rfl,b,_,_,_,rfl,rfl,SqT.of hb,getI ey,t2,_,_,_,rfl,rfl,SqT.of ht2,rfl,_,_,rfl,rfl,_,rfl,?_⟩
    by_cases hi2:i = k_
    · subst hi2
      rw [ep] at ep1
      cases ep1
      rw [er] at ep2
      cases ep2
      refine ite2 (fun _=>q) (fun g=>absurd k2 (dec_f g))
    · have e:=k3 i (by omega)
      rw [ep1,ep2] at e
      cases e
      have hp:=hle p1 (List.mem_of_getElem? ep1)
      refine ite2 (fun g=>absurd (dec_t g) (by omega)) fun _=>?_
      refine ⟨_,rfl,_,rfl,b,_,_,_,rfl,rfl,SqT.of hb,getI ey,t2,_,_,_,rfl,rfl,SqT.of ht2,rfl,_,rfl,_,rfl,a,_,_,_,rfl,rfl,SqT.of ha,getI ex,t,_,_,_,rfl,rfl,SqT.of ht,rfl,_,_,rfl,rfl,_,rfl,?_⟩
      refine ite2 (fun g=>absurd (dec_t g) (by omega)) fun _=>?_
      exact ⟨rfl,by omega,_,rfl⟩
  · obtain ⟨e1,hik,c2,rfl⟩:=h
    omega
theorem O_14 (F:Fun K "_law_many" "_law_many" Y17 f fd) (bl:Bl K mg)  : FnOk P w K mg base CX0 1 f fd ["_law_box_here"] (J17 K):=by
  refine F.ok Z17 (fun vs H Q E h=>?_) (fun cdv A outer s H vs Q E hr h=>?_)
  · obtain ⟨b,xs,B,rfl,hb,hP,h6,hw,q⟩:=h
    rfl
  obtain ⟨b,xs,B,rfl,hb,hP,h6,hw,q⟩:=h
  refine ⟨_,(pss_cons (ps_set (i:=1) Z17.nd rfl (Or.inl rfl) pe_int)
     (pss_cons (ps_for PassesOwn.never rfl (pi_seq (pv 0)) (pg_name (i:=2) Z17.nd rfl (Or.inl rfl))
     (pss_one (ps_set (i:=1) Z17.nd rfl (Or.inl rfl) (pe_op op_mulO (pv 1) (pe_op op_add (pe_op op_sub (pe_ix ix_tup (pv 2) pe_int (fun _ _=>rfl)) (pe_ix ix_tup (pv 2) pe_int (fun _ _=>rfl))) pe_int)))))
     (pss_one (ps_ret (pv 1))))),?_⟩
  have hxl:=hP.length
  rcases hb with hb | hb
  · refine .inl ⟨_,rfl,b,rfl,⟨_,SqL.of hb⟩,for_list (xs:=xs) (fun i σ H'=>H' = H∧∃ (c2:Option V),σ = [some (.ref b),some (.int (vol (B.take i))),c2]) ⟨rfl,none,rfl⟩ (fun i σ H' _ h=>by rw [h.1]; exact SqL.of hb) (fun i x σ H' e h=>?_) (fun σ H' h=>?_)⟩
    · obtain ⟨e1,c2,rfl⟩:=h
      rw [e1]
      obtain ⟨p,t,ep,rfl,ht⟩:=hP.get e
      refine ⟨_,rfl,_,rfl,t,_,_,_,rfl,rfl,SqT.of ht,rfl,_,rfl,t,_,_,_,rfl,rfl,SqT.of ht,rfl,_,_,rfl,rfl,_,_,rfl,rfl,_,_,rfl,rfl,vol_ok h6 hw ep,rfl,some (.ref t),?_⟩
      rw [vol_snoc ep]
      rfl
    · obtain ⟨e1,c2,rfl⟩:=h
      rw [e1,hxl,List.take_length]
      exact ⟨_,rfl,q⟩
  · refine .inr ⟨_,rfl,b,rfl,⟨_,SqT.of hb⟩,for_tup (xs:=xs) (fun i σ H'=>H' = H∧∃ (c2:Option V),σ = [some (.ref b),some (.int (vol (B.take i))),c2]) ⟨rfl,none,rfl⟩ (fun i σ H' _ h=>by rw [h.1]; exact SqT.of hb) (fun i x σ H' e h=>?_) (fun σ H' h=>?_)⟩
    · obtain ⟨e1,c2,rfl⟩:=h
      rw [e1]
      obtain ⟨p,t,ep,rfl,ht⟩:=hP.get e
      refine ⟨_,rfl,_,rfl,t,_,_,_,rfl,rfl,SqT.of ht,rfl,_,rfl,t,_,_,_,rfl,rfl,SqT.of ht,rfl,_,_,rfl,rfl,_,_,rfl,rfl,_,_,rfl,rfl,vol_ok h6 hw ep,rfl,some (.ref t),?_⟩
      rw [vol_snoc ep]
      rfl
    · obtain ⟨e1,c2,rfl⟩:=h
      rw [e1,hxl,List.take_length]
      exact ⟨_,rfl,q⟩
theorem O_5 (F:Fun K "cut_columns" "cut_columns" Y5 f fd) (bl:Bl K mg) (c_stretches:Callee P w K mg base 1 "stretches" ["low", "high", "marks"] (J26 K)):FnOk P w K mg base CX0 2 f fd ["bounds", "marks"] (J5 K):=by
  refine F.ok Z5 (fun vs H Q E h=>?_) (fun cdv A outer s H vs Q E hr h=>?_)
  · obtain ⟨a,b,ys,ps,as,mss,rfl,ha,hP,hb,hM,hok,q⟩:=h
    rfl
  obtain ⟨a,b,ys,ps,as,mss,rfl,ha,hP,hb,hM,hok,q⟩:=h
  refine ⟨_,(pss_one (ps_ret (pe_compG (pi_zip rfl bl.zip_ (pa_cons (pv 0) (pa_cons (pv 1) pa_nil))) (cmpOkG_plain (N:=["bound", "cuts"]) (k:=2) rfl rfl (by decide +kernel) (by decide +kernel) (by decide +kernel)) rfl (fun _ _ _ _=>(gTupK (K:=K) (n:=2) rfl rfl (pgs_cons (pg_name (i:=0) (show (["bound", "cuts"]:List Str).Nodup by decide +kernel) rfl (Or.inl rfl) (Or.inr rfl)) (pgs_cons (pg_name (i:=1) (show (["bound", "cuts"]:List Str).Nodup by decide +kernel) rfl (Or.inl rfl) (Or.inr rfl)) pgs_nil)))) (fun _ _ _ _=>pif_nil) (fun _ _ _ _=>(pe_fn c_stretches hr rfl (pa_cons (pe_ix (ix_tupK (K:=K) rfl) (pv 0) pe_int (fun _ _=>rfl)) (pa_cons (pe_ix (ix_tupK (K:=K) rfl) (pv 0) pe_int (fun _ _=>rfl)) (pa_cons (pv 1) pa_nil)))))))),?_⟩
  obtain ⟨ok1,ok2,ok3⟩:=hok
  have hyl:=hP.length
  have hal:=hM.1
  refine ⟨_,rfl,_,rfl,a,b,rfl,⟨_,SqL.of ha⟩,⟨_,SqL.of hb⟩,compG_zip (xs:=ys) (ys:=as.map V.ref) (fun D i zs H'=>Same H H'∧H' D = some (.lst zs)∧∃ css:List (List Int),css.length = i∧(∀ (j:Nat) (p:Int × Int) (ms cs:List Int),ps[j]? = some p→mss[j]? = some ms→css[j]? = some cs→cs.Pairwise (· < ·)∧(∀ c,c ∈ cs↔(c ∈ ms∧p.1 < c∧c ≤ p.2))∧cs.length < 64)∧RefL zs (List.zipWith (fun p cs=>stre p.1 p.2 cs) (ps.take i) css) (fun r c=>r ≠ D∧∃ ts,H' r = some (.lst ts)∧PL H' ts c))
    (fun D hD=>⟨same_new hD _,upd_same,[],rfl,(fun j p ms cs _ _ e=>by simp at e),RefL.nil⟩) (fun D i zs H' hD _ h=>⟨SqL.of (h.1 _ _ ha),SqL.of (h.1 _ _ hb)⟩) (fun D i x y zs H' T hD ex ey h hT ts hts=>?_) (fun D zs H' hD h=>?_)⟩
  · obtain ⟨sm,eD,css,hcs,hpr,hz⟩:=h
    obtain ⟨p,t,ep,rfl,ht⟩:=hP.get ex
    obtain ⟨r,rfl,er⟩:=of_ref ey
    have hi:i < as.length:=(List.getElem?_eq_some_iff.mp er).1
    obtain ⟨ms,em⟩:∃ ms,mss[i]? = some ms:=⟨_,List.getElem?_eq_getElem (by omega)⟩
    obtain ⟨r',er',hr⟩:=hM.2 i ms em
    rw [er] at er'
    cases er'
    have s2:=sm.trans (same_new hT (.tup [.ref t,.ref r]))
    have eT:upd H' T (.tup [.ref t,.ref r]) T = some (.tup [.ref t,.ref r]):=upd_same
    have u2:=same_new hT (.tup [.ref t,.ref r])
    have eD2:=u2 _ _ eD
    generalize upd H' T (.tup [.ref t,.ref r]) = H2 at s2 eT eD2 u2 ⊢
    obtain ⟨t0,t1,rfl⟩:∃ t0 t1,ts = [t0,t1]:=by
      match ts,hts with
      | [t0,t1],_=>exact ⟨t0,t1,rfl⟩
    refine ⟨T,_,rfl,SqT.of eT,rfl,_,_,rfl,_,_,rfl,rfl,⟨[some (.ref t),some (.ref r)],rfl,rfl⟩,?_⟩
    have hml:=ok3 ms (List.mem_of_getElem? em)
    refine ⟨_,rfl,t,_,_,_,rfl,rfl,SqT.of (s2 _ _ ht),rfl,_,rfl,t,_,_,_,rfl,rfl,SqT.of (s2 _ _ ht),rfl,_,rfl,r,ms,ms,p.1,p.2,rfl,SqL.of (s2 _ _ hr),by omega,by omega,fun m hm _ _=>hm,fun r2 H3 cs ts2 s3 hr2 er2 hp2 hpw hmem hcl=>?_⟩
    have eD3:=s3 _ _ eD2
    have hlz:zs.length = i:=by rw [hz.1,List.length_zipWith,List.length_take]; omega
    have hmin:i < min ys.length (as.map V.ref).length:=by rw [List.length_map]; omega
    have nrD:r2 ≠ D:=fun z=>by rw [z,eD2] at hr2; cases hr2
    refine CYes.mk hmin eD3 (small1000 (by omega)) ⟨(s2.trans s3).upd hD,upd_same,css ++ [cs],by rw [List.length_append,hcs]; rfl,fun j p' ms' cs' ep' em' ec'=>?_,?_⟩
    · by_cases hj:j < css.length
      · rw [List.getElem?_append_left hj] at ec'
        exact hpr j p' ms' cs' ep' em' ec'
      · have hj2:j = css.length:=by
          have:=(List.getElem?_eq_some_iff.mp ec').1
          simp at this; omega
        subst hj2
        simp at ec'
        subst ec'
        rw [hcs] at ep' em'
        rw [ep] at ep'
        cases ep'
        rw [em] at em'
        cases em'
        exact ⟨hpw,hmem,hcl⟩
    · rw [take_snoc ep,List.zipWith_append (by rw [List.length_take]; omega)]
      have hz2:RefL (zs ++ [.ref r2]) (List.zipWith (fun p cs=>stre p.1 p.2 cs) (ps.take i) css ++ [stre p.1 p.2 cs]) (fun r c=>r ≠ D∧∃ ts,H3 r = some (.lst ts)∧PL H3 ts c) :=
        RefL.snoc (RefL.mono hz fun x c k=>⟨k.1,let ⟨ts,e1,e2⟩:=k.2; ⟨ts,s3 _ _ (u2 _ _ e1),PL.mono e2 (u2.trans s3).tups⟩⟩) ⟨nrD,ts2,er2,hp2⟩
      have st:SameT H3 (upd H3 D (.lst (zs ++ [.ref r2]))):=sameT_lst eD3
      exact RefL.mono hz2 fun x c k=>⟨k.1,let ⟨ts,e1,e2⟩:=k.2; ⟨ts,(upd_ne k.1).trans e1,PL.mono e2 st⟩⟩
  · obtain ⟨sm,eD,css,hcs,hpr,hz⟩:=h
    have e:min ys.length (as.map V.ref).length = ps.length:=by rw [List.length_map]; omega
    rw [e] at hcs
    rw [e,List.take_length] at hz
    exact q D zs H' css sm eD hcs hpr (RefL.mono hz fun x c k=>k.2)
theorem O_19 (F:Fun K "look" "look" Y22 f fd) (bl:Bl K mg) (c_beneath_code:Callee P w K mg base 1 "beneath_code" ["form", "code"] (J0 K)):FnOk P w K mg base CX0 2 f fd ["form", "codes"] (J22 K):=by
  refine F.ok Z22 (fun vs H Q E h=>?_) (fun cdv A outer s H vs Q E hr h=>?_)
  · obtain ⟨v,r,l,cs,rfl,hS,hL,q⟩:=h
    rfl
  obtain ⟨v,r,l,cs,rfl,hS,hL,q⟩:=h
  refine ⟨_,(pss_cons (ps_set (i:=2) Z22.nd rfl (Or.inl rfl) (pv 0))
     (pss_cons (ps_for PassesOwn.never rfl (pi_list (pv 1)) (pg_name (i:=3) Z22.nd rfl (Or.inl rfl))
     (pss_one (ps_set (i:=2) Z22.nd rfl (Or.inl rfl) (pe_fn c_beneath_code hr rfl (pa_cons (pv 2) (pa_cons (pv 3) pa_nil))))))
     (pss_one (ps_ret (pv 2))))),?_⟩
  refine ⟨_,rfl,_,rfl,l,rfl,⟨_,hS⟩,for_list (xs:=cs.map V.int) (fun i σ H'=>H' = H∧∃ (u:V) (c3:Option V),Lk K H u (cs.drop i) r∧σ = [some v,some (.ref l),some u,c3]) ⟨rfl,v,_,hL,rfl⟩ (fun i σ H' _ h=>by rw [h.1]; exact hS) (fun i y σ H' e h=>?_) (fun σ H' h=>?_)⟩
  · obtain ⟨e0,u,c3,hu,rfl⟩:=h
    rw [e0]
    obtain ⟨c,rfl,ec⟩:=of_map e
    have ed:cs.drop i = c :: cs.drop (i + 1):=by
      obtain ⟨hi,rfl⟩:=List.getElem?_eq_some_iff.mp ec
      exact List.drop_eq_getElem_cons hi
    rw [ed] at hu
    obtain ⟨a,xs,ts,j,t,rfl,h1,h2,h3,h4⟩:=hu.cons_inv
    exact ⟨_,rfl,_,rfl,a,xs,ts,c,j,t,rfl,h1,h2,h3,rfl,_,_,h4,rfl⟩
  · obtain ⟨e0,u,c3,hu,rfl⟩:=h
    rw [e0]
    rw [List.length_map,List.drop_length] at hu
    cases hu
    exact ⟨_,rfl,q⟩
theorem O_10 (F:Fun K "_law_bounds" "_law_bounds" Y11 f fd) (bl:Bl K mg) (c__law_at:Callee P w K mg base 1 "_law_at" ["_law_script", "_law_k"] (J10 K)):FnOk P w K mg base CX0 2 f fd ["_law_script"] (J11 K):=by
  refine F.ok Z11 (fun vs H Q E h=>?_) (fun cdv A outer s H vs Q E hr h=>?_)
  · obtain ⟨a,ns,rfl,hS,q⟩:=h
    rfl
  obtain ⟨a,ns,rfl,hS,q⟩:=h
  refine ⟨_,(pss_cons (ps_set (i:=1) Z11.nd rfl (Or.inl rfl) (pe_lst pa_nil))
     (pss_cons (ps_for PassesOwn.never rfl (pi_range1 rfl bl.range_ (pa_cons (pe_op op_add pe_int (pe_op op_mod (pe_fn c__law_at hr rfl (pa_cons (pv 0) (pa_cons pe_int pa_nil))) pe_int)) pa_nil)) (pg_name (i:=2) Z11.nd rfl (Or.inl rfl))
     (pss_cut (ps_set (i:=3) Z11.nd rfl (Or.inl rfl) (pe_op op_sub (pe_op op_mod (pe_fn c__law_at hr rfl (pa_cons (pv 0) (pa_cons (pe_op op_add pe_int (pe_op op_mul pe_int (pv 2))) pa_nil))) (pe_op op_pow pe_int pe_int)) (pe_op op_mul pe_int (pe_op op_pow pe_int pe_int))))
     (pss_cut (ps_set (i:=4) Z11.nd rfl (Or.inl rfl) (pe_op op_mod (pe_fn c__law_at hr rfl (pa_cons (pv 0) (pa_cons (pe_op op_add pe_int (pe_op op_mul pe_int (pv 2))) pa_nil))) (pe_op op_pow pe_int pe_int)))
     (pss_cut (ps_if (pt_cmpR op_eq (pe_op op_mod (pv 4) pe_int) pe_int (nomark _))
     (pss_one (ps_set (i:=4) Z11.nd rfl (Or.inl rfl) (pe_op op_mod (pe_op op_fdiv (pv 4) pe_int) pe_int)))
     pss_nil)
     (pss_one (ps_expr (pe_bm PySem.F.plainAttrs_list PySem.F.slot_list_append PySem.F.type_list_append mt_append (pv 1) (pa_cons (pe_tup (pa_cons (pv 3) (pa_cons (pe_op op_add (pv 3) (pv 4)) pa_nil))) pa_nil))))))))
     (pss_one (ps_ret (pv 1))))),?_⟩
  refine ⟨(by show 0 ≤ sizeLine; decide),fun l hl=>?_⟩
  have s0:Same H (upd H l (.lst [])):=same_new hl _
  refine ⟨_,rfl,a,ns,0,rfl,s0.seq hS,by decide,fun r0=>?_⟩
  have h0:=Int.emod_nonneg r0 (show (6:Int) ≠ 0 by decide)
  have h1:=Int.emod_lt_of_pos r0 (show (0:Int) < 6 by decide)
  refine ⟨_,_,rfl,rfl,(by show (0:Int) < 6; decide),_,_,rfl,rfl,_,rfl,(by show -(2 ^ 62) ≤ 1 + r0 % 6; omega),(by show 1 + r0 % 6 < 2 ^ 62; omega),for_range (fun i σ H'=>∃ (c2 c3 c4:Option V) (ys:List V) (ps:List (Int × Int)),σ = [some (.ref a),some (.ref l),c2,c3,c4]∧Same H H'∧H' l = some (.lst ys)∧PL H' ys ps∧ps.length = i∧∀ p ∈ ps,p.1 ≤ p.2∧p.2 - p.1 ≤ 10 ^ 41)
    ⟨none,none,none,[],[],rfl,s0,upd_same,.nil,rfl,fun p hp=>by cases hp⟩ (fun i σ H' hi h=>?_) (fun σ H' h=>?_)⟩
  · obtain ⟨c2,c3,c4,ys,ps,rfl,sm,el,hP,hpl,hle⟩:=h
    have hi3:i < 6:=by omega
    have k0:(0:Int) ≤ 1 + 2 * (0 + (i:Int)):=by omega
    have k1:(0:Int) ≤ 2 + 2 * (0 + (i:Int)):=by omega
    refine ⟨fun σ' H2=>H2 = H'∧∃ lo:Int,σ' = [some (.ref a),some (.ref l),some (.int (0 + (i:Int))),some (.int lo),c4],?_,?_⟩
    · exact ⟨_,rfl,_,rfl,_,_,rfl,rfl,.inl ⟨by decide,by decide⟩,_,_,rfl,rfl,a,ns,_,rfl,sm.seq hS,k0,fun r=>⟨_,_,rfl,rfl,⟨by decide,by decide,by decide⟩,_,_,rfl,rfl,p10 _,_,_,rfl,rfl,⟨by decide,by decide,by decide⟩,_,_,rfl,rfl,.inl ⟨by decide,by decide⟩,_,_,rfl,rfl,rfl,_,rfl⟩⟩
    rintro σ1 H1 ⟨e1,lo,rfl⟩
    rw [e1]
    clear e1
    refine ⟨fun σ' H2=>H2 = H'∧∃ wd:Int,(0 ≤ wd∧wd ≤ 10 ^ 41)∧σ' = [some (.ref a),some (.ref l),some (.int (0 + (i:Int))),some (.int lo),some (.int wd)],?_,?_⟩
    · exact ⟨_,rfl,_,rfl,_,_,rfl,rfl,.inl ⟨by decide,by decide⟩,_,_,rfl,rfl,a,ns,_,rfl,sm.seq hS,k1,fun r=>⟨_,_,rfl,rfl,⟨by decide,by decide,by decide⟩,_,_,rfl,rfl,p10 _,rfl,_,⟨Int.emod_nonneg _ (Int.ne_of_gt (p10 _)),le41 _⟩,rfl⟩⟩
    rintro σ2 H2 ⟨e2,wd,hw,rfl⟩
    rw [e2]
    clear e2
    refine ⟨fun σ' H2=>H2 = H'∧∃ wd:Int,(0 ≤ wd∧wd ≤ 10 ^ 41)∧σ' = [some (.ref a),some (.ref l),some (.int (0 + (i:Int))),some (.int lo),some (.int wd)],?_,?_⟩
    · refine ⟨_,rfl,_,_,rfl,rfl,(by show (0:Int) < 3; decide),rfl,_,rfl,?_⟩
      refine ite2 (fun _=>?_) (fun _=>⟨rfl,wd,hw,rfl⟩)
      exact ⟨_,rfl,_,_,rfl,rfl,⟨by decide,by decide⟩,_,_,rfl,rfl,(by show (0:Int) < 7; decide),rfl,_,⟨Int.emod_nonneg _ (by decide),le41b _⟩,rfl⟩
    rintro σ3 H3 ⟨e3,wd,hw,rfl⟩
    rw [e3]
    clear e3
    refine ⟨_,rfl,.inl ⟨rfl,_,SqL.of el⟩,_,rfl,_,rfl,_,rfl,_,_,rfl,rfl,small2,fun t ht=>?_⟩
    have u1:=same_new ht (.tup [.int lo,.int (lo + wd)])
    have e1:upd H' t (.tup [.int lo,.int (lo + wd)]) t = some (.tup [.int lo,.int (lo + wd)]):=upd_same
    generalize upd H' t (.tup [.int lo,.int (lo + wd)]) = H4 at u1 e1 ⊢
    have ntl:t ≠ l:=fun z=>by rw [z,el] at ht; cases ht
    have hyl:=hP.length
    refine ⟨l,_,_,rfl,rfl,u1 _ _ el,small1000 (by omega),_,_,_,ys ++ [.ref t],ps ++ [(lo,lo + wd)],rfl,(sm.trans u1).upd hl,upd_same,?_,by simp [hpl],fun p hp=>?_⟩
    · refine PL.snoc (PL.mono hP fun b o e=>?_) ((upd_ne ntl).trans e1)
      have:b ≠ l:=fun z=>by rw [z,el] at e; cases e
      exact (upd_ne this).trans (u1 _ _ e)
    · rcases List.mem_append.mp hp with hp | hp
      · exact hle p hp
      · rw [show p = (lo,lo + wd) by simpa using hp]
        refine ⟨?_,?_⟩
        · show lo ≤ lo + wd
          omega
        · show lo + wd - lo ≤ 10 ^ 41
          rw [show lo + wd - lo = wd by omega]
          exact hw.2
  · obtain ⟨c2,c3,c4,ys,ps,rfl,sm,el,hP,hpl,hle⟩:=h
    exact ⟨_,rfl,q l ys ps H' sm el hP (by omega) (by omega) hle⟩
theorem O_11 (F:Fun K "_law_box" "_law_box" Y12 f fd) (bl:Bl K mg) (c__law_int:Callee P w K mg base 1 "_law_int" ["_law_found"] (J16 K)):FnOk P w K mg base CX0 2 f fd ["_law_box_here", "_law_bounds_here"] (J12 K):=by
  refine F.ok Z12 (fun vs H Q E h=>?_) (fun cdv A outer s H vs Q E hr h=>?_)
  · obtain ⟨b,bo,B,ps,ys,rfl,⟨xs,hb,hP⟩,hbo,hPy,hin,h6,q⟩:=h
    rfl
  obtain ⟨b,bo,B,ps,ys,rfl,⟨xs,hb,hP⟩,hbo,hPy,hin,h6,q⟩:=h
  refine ⟨_,(pss_cons (ps_if (PW.pt (pw_or (pt_not (pt_val (pe_callB call_isinst rfl bl.isinstance_ PyProof.Rows.boot_isinstance (pa_cons (pv 0) (pa_cons (pe_bltn (v:=.ty "tuple") rfl bl.tuple_ PyProof.Rows.boot_tuple rfl) pa_nil))))) (pw_or1 (pt_cmpR op_ne (pe_callB call_len_seq rfl bl.len_ PySem.boot_len (pa_cons (pv 0) pa_nil)) (pe_callB call_len_seq rfl bl.len_ PySem.boot_len (pa_cons (pv 1) pa_nil)) (nomark _)))))
     (pss_one (ps_ret pe_bl))
     pss_nil)
     (pss_cons (ps_for PassesOwn.never rfl (pi_range1 rfl bl.range_ (pa_cons (pe_callB call_len_seq rfl bl.len_ PySem.boot_len (pa_cons (pv 0) pa_nil)) pa_nil)) (pg_name (i:=2) Z12.nd rfl (Or.inl rfl))
     (pss_cons (ps_set (i:=3) Z12.nd rfl (Or.inl rfl) (pe_ix ix_tup (pv 0) (pv 2) (fun _ _=>rfl)))
     (pss_cons (ps_if (PW.pt (pw_or (pt_not (pt_val (pe_callB call_isinst rfl bl.isinstance_ PyProof.Rows.boot_isinstance (pa_cons (pv 3) (pa_cons (pe_bltn (v:=.ty "tuple") rfl bl.tuple_ PyProof.Rows.boot_tuple rfl) pa_nil))))) (pw_or (pt_cmpR op_ne (pe_callB call_len_seq rfl bl.len_ PySem.boot_len (pa_cons (pv 3) pa_nil)) pe_int (nomark _)) (pw_or (pt_not (pt_val (pe_fn c__law_int hr rfl (pa_cons (pe_ix ix_tup (pv 3) pe_int (fun _ _=>rfl)) pa_nil)))) (pw_or1 (pt_not (pt_val (pe_fn c__law_int hr rfl (pa_cons (pe_ix ix_tup (pv 3) pe_int (fun _ _=>rfl)) pa_nil)))))))))
     (pss_one (ps_ret pe_bl))
     pss_nil)
     (pss_one (ps_if (PW.pt (pw_or (pt_cmpR op_lt (pe_ix ix_tup (pv 3) pe_int (fun _ _=>rfl)) (pe_ix ix_tup (pe_ix ix_list (pv 1) (pv 2) (fun _ _=>rfl)) pe_int (fun _ _=>rfl)) (nomark _)) (pw_or (pt_cmpR op_lt (pe_ix ix_tup (pv 3) pe_int (fun _ _=>rfl)) (pe_ix ix_tup (pv 3) pe_int (fun _ _=>rfl)) (nomark _)) (pw_or1 (pt_cmpR op_lt (pe_ix ix_tup (pe_ix ix_list (pv 1) (pv 2) (fun _ _=>rfl)) pe_int (fun _ _=>rfl)) (pe_ix ix_tup (pv 3) pe_int (fun _ _=>rfl)) (nomark _))))))
     (pss_one (ps_ret pe_bl))
     pss_nil)))))
     (pss_one (ps_ret pe_bl)))),?_⟩
  have hxl:=hP.length
  have hyl:=hPy.length
  have hbl:=hin.len
  refine ⟨_,rfl,_, "tuple",_,true,rfl,.tup hb,(by first | rfl | with_unfolding_all rfl | decide +kernel),_,rfl,iteF ?_⟩
  refine ⟨_,rfl,b,_,rfl,.inr (SqT.of hb),_,rfl,bo,_,rfl,.inl (SqL.of hbo),rfl,_,rfl,ite2 (fun g=>absurd g (by rw [dec_ii,hxl,hyl,hbl]; simp)) fun _=>?_⟩
  refine ⟨_,rfl,b,_,rfl,.inr (SqT.of hb),_,rfl,(by show -(2 ^ 62) ≤ ((xs.length:Nat):Int); omega),(by show ((xs.length:Nat):Int) < 2 ^ 62; omega),for_range (fun i σ H'=>H' = H∧∃ c2 c3:Option V,σ = [some (.ref b),some (.ref bo),c2,c3]) ⟨rfl,none,none,rfl⟩ (fun i σ H' hi h=>?_) (fun σ H' h=>?_)⟩
  · obtain ⟨e1,c2,c3,rfl⟩:=h
    rw [e1]
    obtain ⟨x,ex⟩:∃ x,xs[i]? = some x:=⟨_,List.getElem?_eq_getElem (by omega)⟩
    obtain ⟨y,ey⟩:∃ y,ys[i]? = some y:=⟨_,List.getElem?_eq_getElem (by omega)⟩
    obtain ⟨p,t,ep,rfl,ht⟩:=hP.get ex
    obtain ⟨p2,t2,ep2,rfl,ht2⟩:=hPy.get ey
    have g:=hin.get i p p2 ep ep2
    refine ⟨_,rfl,_,rfl,b,_,_,_,rfl,rfl,SqT.of hb,getI ex,?_⟩
    refine ⟨_,rfl,_, "tuple",_,true,rfl,.tup ht,(by first | rfl | with_unfolding_all rfl | decide +kernel),_,rfl,iteF ?_⟩
    refine ⟨_,rfl,t,_,rfl,.inr (SqT.of ht),rfl,_,rfl,ite2 (fun g=>absurd g (by simp)) fun _=>?_⟩
    refine ⟨_,rfl,t,_,_,_,rfl,rfl,SqT.of ht,rfl,p.1,rfl,_,rfl,iteF ?_⟩
    refine ⟨_,rfl,t,_,_,_,rfl,rfl,SqT.of ht,rfl,p.2,rfl,_,rfl,iteF ?_⟩
    refine ⟨_,rfl,t,_,_,_,rfl,rfl,SqT.of ht,rfl,_,rfl,_,rfl,bo,_,_,_,rfl,rfl,SqL.of hbo,getI ey,t2,_,_,_,rfl,rfl,SqT.of ht2,rfl,_,_,rfl,rfl,_,rfl,ite2 (fun g'=>absurd (dec_t g') (by omega)) fun _=>?_⟩
    refine ⟨_,rfl,t,_,_,_,rfl,rfl,SqT.of ht,rfl,_,rfl,t,_,_,_,rfl,rfl,SqT.of ht,rfl,_,_,rfl,rfl,_,rfl,ite2 (fun g'=>absurd (dec_t g') (by omega)) fun _=>?_⟩
    refine ⟨_,rfl,_,rfl,bo,_,_,_,rfl,rfl,SqL.of hbo,getI ey,t2,_,_,_,rfl,rfl,SqT.of ht2,rfl,_,rfl,t,_,_,_,rfl,rfl,SqT.of ht,rfl,_,_,rfl,rfl,_,rfl,ite2 (fun g'=>absurd (dec_t g') (by omega)) fun _=>?_⟩
    exact ⟨rfl,_,_,rfl⟩
  · obtain ⟨e1,c2,c3,rfl⟩:=h
    rw [e1]
    exact q
theorem O_7 (F:Fun K "grain" "grain" Y7 f fd) (bl:Bl K mg) (c_cut_columns:Callee P w K mg base 2 "cut_columns" ["bounds", "marks"] (J5 K)):FnOk P w K mg base CX0 3 f fd ["bounds", "marks"] (J7 K):=by
  refine F.ok Z7 (fun vs H Q E h=>?_) (fun cdv A outer s H vs Q E hr h=>?_)
  · obtain ⟨a,b,ys,ps,as,mss,rfl,ha,hP,hb,hM,hok,q⟩:=h
    rfl
  obtain ⟨a,b,ys,ps,as,mss,rfl,ha,hP,hb,hM,hok,q⟩:=h
  refine ⟨_,(pss_cons (ps_set (i:=2) Z7.nd rfl (Or.inl rfl) pe_int)
     (pss_cons (ps_for PassesOwn.never rfl (pi_list (pe_fn c_cut_columns hr rfl (pa_cons (pv 0) (pa_cons (pv 1) pa_nil)))) (pg_name (i:=3) Z7.nd rfl (Or.inl rfl))
     (pss_one (ps_aug (i:=2) Z7.nd rfl (Or.inl rfl) (pe_callB call_len_seq rfl bl.len_ PySem.boot_len (pa_cons (pv 3) pa_nil)) ip_mul)))
     (pss_one (ps_ret (pv 2))))),?_⟩
  refine ⟨_,rfl,_,rfl,a,b,ys,ps,as,mss,rfl,ha,hP,hb,hM,hok,fun l xs H1 css s1 el hcs hpr hx=>?_⟩
  obtain ⟨ok1,ok2,ok3⟩:=hok
  have hxl:xs.length = ps.length:=by rw [hx.1,List.length_zipWith]; omega
  refine ⟨l,rfl,⟨_,SqL.of el⟩,for_list (xs:=xs) (fun i σ H'=>H' = H1∧∃ c3:Option V,σ = [some (.ref a),some (.ref b),some (.int ((gr ps mss i:Nat):Int)),c3]) ⟨rfl,none,rfl⟩ (fun i σ H' _ h=>by rw [h.1]; exact SqL.of el) (fun i y σ H' e h=>?_) (fun σ H' h=>?_)⟩
  · obtain ⟨e1,c3,rfl⟩:=h
    rw [e1]
    obtain ⟨r,n,rfl,en,ts,hr,hp⟩:=RefL.get hx e
    have hi:i < xs.length:=(List.getElem?_eq_some_iff.mp e).1
    obtain ⟨p,ep⟩:∃ p,ps[i]? = some p:=⟨_,List.getElem?_eq_getElem (by omega)⟩
    obtain ⟨cs,ec⟩:∃ cs,css[i]? = some cs:=⟨_,List.getElem?_eq_getElem (by omega)⟩
    obtain ⟨ms,em⟩:∃ ms,mss[i]? = some ms:=⟨_,List.getElem?_eq_getElem (by omega)⟩
    obtain ⟨hpw,hmem,_⟩:=hpr i p ms cs ep em ec
    rw [List.getElem?_zipWith,ep,ec] at en
    have en:stre p.1 p.2 cs = n:=Option.some.inj en
    have hl:ts.length = gl ps mss i:=by
      rw [hp.length,← en,stre_len,dd_len hpw hmem]
      unfold gl
      rw [List.getD_eq_getElem?_getD,ep,List.getD_eq_getElem?_getD,em]
      rfl
    have b1:=gr_le (ps:=ps) ok3 i
    have b2:(58:Nat) ^ i ≤ 58 ^ 6:=Nat.pow_le_pow_right (by decide) (by omega)
    have b3:(58:Nat) ^ 3 < 2 ^ 64:=by decide
    refine ⟨_,rfl,_,rfl,r,_,rfl,.inl (SqL.of hr),_,_,rfl,rfl,CMul.ok (.inl ⟨by omega,by omega⟩),rfl,some (.ref r),?_⟩
    rw [hl]
    show [some (V.ref a),some (.ref b),some (.int (((gr ps mss i:Nat):Int) * ((gl ps mss i:Nat):Int))),some (.ref r)] = _
    rw [show gr ps mss (i + 1) = gr ps mss i * gl ps mss i from rfl,Int.natCast_mul]
  · obtain ⟨e1,c3,rfl⟩:=h
    rw [e1,hxl]
    exact ⟨_,rfl,q H1 s1⟩
theorem O_1 {k n:Nat} (F:Fun K "boxes" "boxes" Y1 f fd) (bl:Bl K mg) (c_boxes:Callee P w K mg base k "boxes" ["form", "deep"] (J1 K n)):FnOk P w K mg base CX0 (k + 1) f fd ["form", "deep"] (J1 K (n + 1)):=by
  refine F.ok Z1 (fun vs H Q E h=>?_) (fun cdv A outer s H vs Q E hr h=>?_)
  · obtain ⟨d,f_,v,rfl,hf,hn,hlen,h6,q⟩:=h
    rfl
  obtain ⟨d,f_,v,rfl,hf,hn,hlen,h6,q⟩:=h
  refine ⟨_,(pss_cons (ps_if (pt_cmpR op_eq (pv 1) pe_int (nomark _))
     (pss_one (ps_ret (pe_lst (pa_cons (pe_tup (pa_cons (pe_tup pa_nil) (pa_cons (pv 0) pa_nil))) pa_nil))))
     pss_nil)
     (pss_cons (ps_set (i:=2) Z1.nd rfl (Or.inl rfl) (pe_lst pa_nil))
     (pss_cons (ps_for PassesOwn.never rfl (pi_tup (pv 0)) (pg_tup rfl (pgs_cons (pg_name (i:=3) Z1.nd rfl (Or.inl rfl)) (pgs_cons (pg_name (i:=4) Z1.nd rfl (Or.inl rfl)) (pgs_cons (pg_name (i:=5) Z1.nd rfl (Or.inl rfl)) pgs_nil))))
     (pss_one (ps_for PassesOwn.never rfl (pi_list (pe_fn c_boxes hr rfl (pa_cons (pv 5) (pa_cons (pe_op op_sub (pv 1) pe_int) pa_nil)))) (pg_tup rfl (pgs_cons (pg_name (i:=6) Z1.nd rfl (Or.inl rfl)) (pgs_cons (pg_name (i:=7) Z1.nd rfl (Or.inl rfl)) pgs_nil)))
     (pss_one (ps_expr (pe_bm PySem.F.plainAttrs_list PySem.F.slot_list_append PySem.F.type_list_append mt_append (pv 2) (pa_cons (pe_tup (pa_cons (pe_op op_catT0 (pe_tup (pa_cons (pe_tup (pa_cons (pv 3) (pa_cons (pv 4) pa_nil))) pa_nil)) (pv 6)) (pa_cons (pv 7) pa_nil))) pa_nil)))))))
     (pss_one (ps_ret (pv 2)))))),?_⟩
  cases d with
  | zero =>
    have hf:v = .int f_:=hf
    subst hf
    refine ⟨_,rfl,rfl,_,rfl,iteTS rfl ?_⟩
    refine ⟨(by show 0 ≤ sizeLine; decide),fun b hb=>?_⟩
    have s1:=same_new hb (.tup [])
    have e1:upd H b (.tup []) b = some (.tup []):=upd_same
    generalize upd H b (.tup []) = H1 at s1 e1 ⊢
    refine ⟨_,rfl,small2,fun t ht=>?_⟩
    have s2:=same_new ht (.tup [.ref b,.int f_])
    have e2:upd H1 t (.tup [.ref b,.int f_]) t = some (.tup [.ref b,.int f_]):=upd_same
    generalize upd H1 t (.tup [.ref b,.int f_]) = H2 at s2 e2 ⊢
    refine ⟨(by show 1 ≤ sizeLine; decide),fun l hl=>?_⟩
    have s3:=same_new hl (.lst [V.ref t])
    have s:=(s1.trans s2).trans s3
    exact q l _ _ s ((s1.trans s2).free hl) upd_same (.cons ⟨t,b,rfl,s3 _ _ e2,⟨[],s3 _ _ (s2 _ _ e1),.nil⟩⟩ .nil)
  | succ d =>
    obtain ⟨r,xs,rfl,er,hp⟩:=hf
    obtain ⟨L,hL⟩:∃ L:List (T3a (Fm Int d)),L = f_:=⟨f_,rfl⟩
    have hp:FmL (FmV LInt H d) H L xs:=by rw [hL]; exact hp
    have hlen:(bxs (d + 1) (show Fm Int (d + 1) from L)).length ≤ 2000:=by rw [hL]; exact hlen
    have h6:∀ q ∈ bxs (d + 1) (show Fm Int (d + 1) from L),q.1.length ≤ 6:=by rw [hL]; exact h6
    have q:∀ (l:Addr) (xs:List V) (H' : Hp),Same H H'→H l = none→H' l = some (.lst xs)→BxL H' xs (bxs (d + 1) (show Fm Int (d + 1) from L))→Q (.ref l) H':=by rw [hL]; exact q
    have hxl:xs.length = L.length:=hp.1
    refine ⟨_,rfl,rfl,_,rfl,iteFS (fun z=>by have:=V.int.inj z; omega) ?_⟩
    refine ⟨(by show 0 ≤ sizeLine; decide),fun l hl=>?_⟩
    have s0:Same H (upd H l (.lst [])):=same_new hl _
    have e0:upd H l (.lst []) l = some (.lst []):=upd_same
    generalize upd H l (.lst []) = H0 at s0 e0 ⊢
    refine ⟨_,rfl,r,rfl,⟨_,SqT.of (s0 _ _ er)⟩,for_tup (xs:=xs) (fun i σ H'=>Same H H'∧∃ (ys:List V) (c3 c4 c5 c6 c7:Option V),H' l = some (.lst ys)∧BxL H' ys (bxs (d + 1) (show Fm Int (d + 1) from L.take i))∧σ = [some (.ref r),some (.int ((d + 1:Nat):Int)),some (.ref l),c3,c4,c5,c6,c7]) ⟨s0,[],_,_,_,_,_,e0,.nil,rfl⟩ (fun i σ H' _ h=>SqT.of (h.1 _ _ er)) (fun i x σ H' ex hh=>?_) (fun σ H' hh=>?_)⟩
    · obtain ⟨sm,ys,c3,c4,c5,c6,c7,el,hy,rfl⟩:=hh
      obtain ⟨e,ee⟩:∃ e,L[i]? = some e:=⟨_,List.getElem?_eq_getElem (by have:=(List.getElem?_eq_some_iff.mp ex).1; omega)⟩
      obtain ⟨t,u,ex',et,hu⟩:=hp.2 i e ee
      rw [ex] at ex'
      cases ex'
      have es:bxs (d + 1) (show Fm Int (d + 1) from L.take (i + 1)) = bxs (d + 1) (show Fm Int (d + 1) from L.take i) ++ ((bxs d e.2.2).map fun q=>((e.1,e.2.1) :: q.1,q.2)):=by
        rw [take_snoc ee,bxs_app,bxs_one]
      have hsub:∀ q ∈ (bxs d e.2.2).map (fun q=>((e.1,e.2.1) :: q.1,q.2)),q ∈ bxs (d + 1) (show Fm Int (d + 1) from L):=fun q hq=>List.mem_flatMap.mpr ⟨e,List.mem_of_getElem? ee,hq⟩
      have hl1:(bxs (d + 1) (show Fm Int (d + 1) from L.take i)).length + (bxs d e.2.2).length ≤ 2000:=by
        have e3:bxs (d + 1) (show Fm Int (d + 1) from L) = bxs (d + 1) (show Fm Int (d + 1) from L.take (i + 1)) ++ bxs (d + 1) (show Fm Int (d + 1) from L.drop (i + 1)):=by rw [← bxs_app,List.take_append_drop]
        have:=congrArg List.length e3
        rw [es,List.length_append,List.length_append,List.length_map] at this
        omega
      have h6' : ∀ q ∈ bxs d e.2.2,q.1.length ≤ 6:=fun q hq=>by
        have:=h6 _ (hsub _ (List.mem_map.mpr ⟨q,hq,rfl⟩))
        have:q.1.length + 1 ≤ 6:=this
        omega
      have h5' : ∀ q ∈ bxs d e.2.2,q.1.length ≤ 5:=fun q hq=>by
        have:=h6 _ (hsub _ (List.mem_map.mpr ⟨q,hq,rfl⟩))
        have:q.1.length + 1 ≤ 6:=this
        omega
      refine ⟨t,_,rfl,SqT.of (sm _ _ et),rfl,_,_,rfl,_,_,rfl,_,_,rfl,rfl,?_⟩
      refine ⟨_,rfl,_,rfl,_,_,rfl,rfl,d,e.2.2,u,(by show [u,V.int (((d + 1:Nat):Int) - 1)] = [u,V.int (d:Int)]; rw [show ((d + 1:Nat):Int) - 1 = (d:Int) by omega]),FmV.mono sm.tups hu,by omega,by omega,h6',fun l2 zs H2 s2 f2 e2 hz=>?_⟩
      have el2:=s2 _ _ el
      have nl:l ≠ l2:=fun z=>by rw [← z,el] at f2; cases f2
      refine ⟨l2,rfl,⟨_,SqL.of e2⟩,for_list (xs:=zs) (fun k σ H3=>Same H H3∧SameT H2 H3∧H3 l2 = some (.lst zs)∧∃ (ys:List V) (c6 c7:Option V),H3 l = some (.lst ys)∧BxL H3 ys (bxs (d + 1) (show Fm Int (d + 1) from L.take i) ++ ((bxs d e.2.2).take k).map fun q=>((e.1,e.2.1) :: q.1,q.2))∧σ = [some (.ref r),some (.int ((d + 1:Nat):Int)),some (.ref l),some (.int e.1),some (.int e.2.1),some u,c6,c7]) ⟨sm.trans s2,(fun _ _ h=>h),e2,ys,_,_,el2,by rw [List.take_zero,List.map_nil,List.append_nil]; exact hy.mono s2.tups,rfl⟩ (fun k σ H3 _ h=>SqL.of h.2.2.1) (fun k x σ H3 ex2 hh=>?_) (fun σ H3 hh=>?_)⟩
      · obtain ⟨sm3,st3,el3,ys3,c6,c7,ey3,hy3,rfl⟩:=hh
        obtain ⟨q2,eq2,t2,b2,rfl,et2,hb2⟩:=paired_get (hz.mono st3) ex2
        have hk:k < (bxs d e.2.2).length:=(List.getElem?_eq_some_iff.mp eq2).1
        have hq3:=h5' q2 (List.mem_of_getElem? eq2)
        refine ⟨t2,_,rfl,SqT.of et2,rfl,_,_,rfl,_,_,rfl,rfl,?_⟩
        refine ⟨_,rfl,.inl ⟨rfl,_,SqL.of ey3⟩,_,rfl,_,rfl,small2,fun p hp_=>?_⟩
        have u1:=same_new hp_ (.tup [.int e.1,.int e.2.1])
        have g1:upd H3 p (.tup [.int e.1,.int e.2.1]) p = some (.tup [.int e.1,.int e.2.1]):=upd_same
        generalize upd H3 p (.tup [.int e.1,.int e.2.1]) = H4 at u1 g1 ⊢
        refine ⟨(by show 1 ≤ sizeLine; decide),fun p2 hp2=>?_⟩
        have u2:=same_new hp2 (.tup [V.ref p])
        have g2:upd H4 p2 (.tup [V.ref p]) p2 = some (.tup [V.ref p]):=upd_same
        generalize upd H4 p2 (.tup [V.ref p]) = H5 at u2 g2 ⊢
        obtain ⟨bs,ebs,hbs⟩:=hb2
        have u12:=u1.trans u2
        refine ⟨_,rfl,catT0_to g2 (u12 _ _ ebs) (Nat.le_of_lt (small1000 (by rw [hbs.length,List.length_singleton]; omega))) fun p3 H6 u3 g3=>?_⟩
        have u13:=u12.trans u3
        refine ⟨_,rfl,small2,fun tt_ htt=>?_⟩
        have u4:=same_new htt (.tup [.ref p3,.int q2.2])
        have g4:upd H6 tt_ (.tup [.ref p3,.int q2.2]) tt_ = some (.tup [.ref p3,.int q2.2]):=upd_same
        generalize upd H6 tt_ (.tup [.ref p3,.int q2.2]) = H7 at u4 g4 ⊢
        have u14:=u13.trans u4
        have ey7:=u14 _ _ ey3
        refine ⟨l,_,_,rfl,rfl,ey7,small2000 (by rw [hy3.length,List.length_append,List.length_map,List.length_take]; omega),?_⟩
        have st7:SameT H7 (upd H7 l (.lst (ys3 ++ [.ref tt_]))):=sameT_lst ey7
        refine ⟨(sm3.trans u14).upd hl,(st3.trans u14.tups).trans st7,(upd_ne nl.symm).trans (u14 _ _ el3),ys3 ++ [.ref tt_],_,_,upd_same,?_,rfl⟩
        rw [take_snoc eq2,List.map_append,← List.append_assoc]
        refine paired_app (hy3.mono (u14.tups.trans st7)) (.cons ⟨tt_,p3,rfl,st7 _ _ g4,⟨_,st7 _ _ (u4 _ _ g3),?_⟩⟩ .nil)
        have pl1:PL H7 [V.ref p] [(e.1,e.2.1)]:=.cons ⟨p,rfl,u4 _ _ (u3 _ _ (u2 _ _ g1))⟩ .nil
        exact (PL.app pl1 (hbs.mono u14.tups)).mono st7
      · obtain ⟨sm3,st3,el3,ys3,c6,c7,ey3,hy3,rfl⟩:=hh
        rw [hz.length,List.take_length] at hy3
        exact ⟨sm3,ys3,_,_,_,_,_,ey3,by rw [es]; exact hy3,rfl⟩
    · obtain ⟨sm,ys,c3,c4,c5,c6,c7,el,hy,rfl⟩:=hh
      rw [hxl,List.take_length] at hy
      exact ⟨_,rfl,q l ys H' sm hl el hy⟩
theorem O_21 {k n:Nat} (F:Fun K "marks_of" "marks_of" Y24 f fd) (bl:Bl K mg) (c_marks_of:Callee P w K mg base k "marks_of" ["form", "deep"] (J24 K n)) (c_gathered:Callee P w K mg base k "gathered" ["lists"] (J6 K)):FnOk P w K mg base CX0 (k + 1) f fd ["form", "deep"] (J24 K (n + 1)):=by
  refine F.ok Z24 (fun vs H Q E h=>?_) (fun cdv A outer s H vs Q E hr h=>?_)
  · obtain ⟨d,F_,v,ps,Ls,rfl,hn,hd3,hv,hsh,hbd,hLs,h57,q⟩:=h
    rfl
  obtain ⟨d,F_,v,ps,Ls,rfl,hn,hd3,hv,hsh,hbd,hLs,h57,q⟩:=h
  refine ⟨_,(pss_cons (ps_if (pt_cmpR op_eq (pv 1) pe_int (nomark _))
     (pss_one (ps_ret (pe_lst pa_nil)))
     pss_nil)
     (pss_cut (ps_set (i:=2) Z24.nd rfl (Or.inl rfl) (pe_lst (pa_cons (pe_compG (pi_tup (pe_slice sl_tup (pv 0) (po_some pe_int) po_none)) (cmpOkG_plain (N:=["low", "high", "beneath"]) (k:=3) rfl rfl (by decide +kernel) (by decide +kernel) (by decide +kernel)) rfl (fun _ _ _ _=>(gTupK (K:=K) (n:=3) rfl rfl (pgs_cons (pg_name (i:=0) (show (["low", "high", "beneath"]:List Str).Nodup by decide +kernel) rfl (Or.inl rfl) (Or.inr rfl)) (pgs_cons (pg_name (i:=1) (show (["low", "high", "beneath"]:List Str).Nodup by decide +kernel) rfl (Or.inl rfl) (Or.inr rfl)) (pgs_cons (pg_name (i:=2) (show (["low", "high", "beneath"]:List Str).Nodup by decide +kernel) rfl (Or.inl rfl) (Or.inr rfl)) pgs_nil))))) (fun _ _ _ _=>pif_nil) (fun _ _ _ _=>(pv 0))) pa_nil)))
     (pss_cut (ps_compG (i:=3) Z24.nd rfl (Or.inl rfl) (pi_tup (pv 0)) (cmpOkG_free (N:=["low", "high", "beneath", "deep"]) (k:=3) (fr:=[1]) (cl:=[("deep",s.heap.objs.size + 1)]) rfl rfl (by decide +kernel) (by decide +kernel) rfl rfl (List.forall_mem_cons.mpr ⟨rfl,List.forall_mem_nil _⟩) rfl) rfl (fun _ _ _ _=>(gTupK (K:=K) (n:=3) rfl rfl (pgs_cons (pg_name (i:=0) (show (["low", "high", "beneath", "deep"]:List Str).Nodup by decide +kernel) rfl (Or.inl rfl) (Or.inr rfl)) (pgs_cons (pg_name (i:=1) (show (["low", "high", "beneath", "deep"]:List Str).Nodup by decide +kernel) rfl (Or.inl rfl) (Or.inr rfl)) (pgs_cons (pg_name (i:=2) (show (["low", "high", "beneath", "deep"]:List Str).Nodup by decide +kernel) rfl (Or.inl rfl) (Or.inr rfl)) pgs_nil))))) (fun _ _ _ _=>pif_nil) (fun _ _ _ _=>(pe_fn c_marks_of hr rfl (pa_cons (pv 2) (pa_cons (pe_op op_sub (pv 3) pe_int) pa_nil)))))
     (pss_cut (ps_for PassesOwn.never rfl (pi_range1 rfl bl.range_ (pa_cons (pe_op op_sub (pv 1) pe_int) pa_nil)) (pg_name (i:=4) Z24.nd rfl (Or.inr rfl))
     (pss_one (ps_expr (pe_bm PySem.F.plainAttrs_list PySem.F.slot_list_append PySem.F.type_list_append mt_append (pv 2) (pa_cons (pe_fn c_gathered hr rfl (pa_cons (pe_comp (pi_list (pv 3)) (cmpOk_free (N:=["lists", "column"]) (fr:=[4]) (cl:=[("column",s.heap.objs.size + 1 + 1)]) rfl rfl (by decide +kernel) (by decide +kernel) rfl (by decide +kernel) rfl rfl rfl (List.forall_mem_cons.mpr ⟨rfl,List.forall_mem_nil _⟩) rfl) rfl (fun _ _ _ _=>pif_nil) (fun _ _ _ _=>(pe_ix (ix_listK (K:=K) rfl) (pv 0) (pv 1) (fun _ _=>rfl)))) pa_nil)) pa_nil)))))
     (pss_one (ps_ret (pv 2))))))),?_⟩
  cases d with
  | zero =>
    refine ⟨_,rfl,rfl,_,rfl,iteTS rfl ⟨(by show 0 ≤ sizeLine; decide),fun l hl=>?_⟩⟩
    exact q l [] [] _ (same_new hl _) hl (fun r hr=>by cases hr) ⟨upd_same,⟨rfl,fun j ms e=>by simp at e⟩,rfl,fun c ms e=>by simp at e⟩
  | succ d =>
    obtain ⟨f_,rfl⟩:∃ f:List (T3a (Fm Int d)),(f:Fm Int (d + 1)) = F_:=⟨F_,rfl⟩
    obtain ⟨p,r,rfl,hne,hch,hnb,hall⟩:ShS (ShOk d) f_ ps:=hsh
    obtain ⟨hlen,hbd'⟩:BdS (α:=Fm Int d) (if d = 0 then 64 else 10) (BdF d) f_:=hbd
    obtain ⟨a,xs,rfl,ha,hG⟩:∃ (a:Addr) (xs:List V),v = .ref a∧H a = some (.tup xs)∧FmL (FmV LInt H d) H f_ xs:=hv
    have hxl:=hG.1
    have h64:f_.length ≤ 64:=by split at hlen <;> omega
    refine ⟨_,rfl,rfl,_,rfl,iteFS (fun z=>by have:=V.int.inj z; omega) ?_⟩
    refine ⟨fun σ' H'=>Same H H'∧∃ l r0:Addr,H l = none∧H r0 = none∧r0 ≠ l∧H' l = some (.lst [.ref r0])∧H' r0 = some (.lst ((f_.tail.map (·.1)).map V.int))∧σ' = [some (.ref a),some (.int ((d + 1:Nat):Int)),some (.ref l),none,none],?_,?_⟩
    · obtain ⟨x0,xs',exs⟩:∃ x0 xs',xs = x0 :: xs':=by
        cases xs with
        | nil=>exact absurd (List.eq_nil_of_length_eq_zero hxl.symm) hne
        | cons x0 xs'=>exact ⟨x0,xs',rfl⟩
      have hcut:cutV xs (some 1) none = xs.tail:=by rw [exs]; exact cut_tail _ _
      refine ⟨_,rfl,_,rfl,a,xs,rfl,SqT.of ha,(fun z=>absurd z.1 (by rw [exs]; simp [HT.sIx])),fun a2 ha2=>?_⟩
      rw [hcut]
      have u1:Same H (upd H a2 (.tup xs.tail)):=same_new ha2 _
      have e1:upd H a2 (.tup xs.tail) a2 = some (.tup xs.tail):=upd_same
      generalize upd H a2 (.tup xs.tail) = H0 at u1 e1 ⊢
      refine ⟨a2,rfl,⟨_,SqT.of e1⟩,compG_tup (xs:=xs.tail) (fun D i zs H'=>Same H0 H'∧H' D = some (.lst zs)∧zs = ((f_.tail.take i).map (·.1)).map V.int)
        (fun D hD=>⟨same_new hD _,upd_same,rfl⟩) (fun D i zs H' hD _ h=>SqT.of (h.1 _ _ e1)) (fun D i x zs H' hD e h ss hss=>?_) (fun D zs H' hD h=>?_)⟩
      · obtain ⟨sm,eD,rfl⟩:=h
        have hi:i < xs.tail.length:=(List.getElem?_eq_some_iff.mp e).1
        have e' : xs[i + 1]? = some x:=by rw [List.getElem?_tail] at e; exact e
        obtain ⟨t,et⟩:∃ t,f_[i + 1]? = some t:=⟨_,List.getElem?_eq_getElem (by have:=(List.getElem?_eq_some_iff.mp e').1; omega)⟩
        have ett:f_.tail[i]? = some t:=by rw [List.getElem?_tail]; exact et
        obtain ⟨rr,u,ex,er,hu⟩:=hG.2 (i + 1) t et
        rw [e'] at ex
        cases ex
        obtain ⟨t0,t1,t2,rfl⟩:∃ t0 t1 t2,ss = [t0,t1,t2]:=by
          match ss,hss with
          | [t0,t1,t2],_=>exact ⟨t0,t1,t2,rfl⟩
        refine ⟨rr,_,rfl,SqT.of (sm _ _ (u1 _ _ er)),rfl,_,_,rfl,_,_,rfl,_,_,rfl,rfl,⟨[some (.int t.1),some (.int t.2.1),some u],rfl,rfl⟩,?_⟩
        refine ⟨_,rfl,CYes.mk hi eD (small1000 (by rw [List.length_map,List.length_map,List.length_take]; rw [List.length_tail] at hi; omega)) ⟨sm.upd hD,upd_same,?_⟩⟩
        rw [take_snoc ett,List.map_append,List.map_append]
        rfl
      · obtain ⟨sm,eD,rfl⟩:=h
        rw [show xs.tail.length = f_.tail.length by rw [List.length_tail,List.length_tail,hxl],List.take_length] at eD
        refine ⟨(by show 1 ≤ sizeLine; decide),fun l hl=>?_⟩
        have s2:=u1.trans sm
        exact ⟨s2.trans (same_new hl _),l,D,s2.free hl,u1.free hD,(fun z=>by rw [z,hl] at eD; cases eD),upd_same,(same_new hl _) _ _ eD,rfl⟩
    rintro σ1 H1 ⟨s1,l,r0,hl,hr0,nr0,el,er0,rfl⟩
    have ha1:=s1 _ _ ha
    refine ⟨fun σ' H'=>Same H1 H'∧∃ (fu:Addr) (zs:List V),H' fu = some (.lst zs)∧zs.length = f_.length∧H1 fu = none∧(∀ (j:Nat) (t:T3a (Fm Int d)),f_[j]? = some t→∃ (r:Addr) (rs:List Addr) (mss:List (List Int)),zs[j]? = some (.ref r)∧H1 r = none∧(∀ q ∈ rs,H1 q = none)∧MkAt d t.2.2 H' r rs mss)∧σ' = [some (.ref a),some (.int ((d + 1:Nat):Int)),some (.ref l),some (.ref fu),none],?_,?_⟩
    · refine ⟨_,rfl,a,rfl,⟨_,SqT.of ha1⟩,compG_tup (xs:=xs) (fun D i zs H'=>Same H1 H'∧H' D = some (.lst zs)∧zs.length = i∧∀ (j:Nat) (t:T3a (Fm Int d)),j < i→f_[j]? = some t→∃ (r:Addr) (rs:List Addr) (mss:List (List Int)),zs[j]? = some (.ref r)∧H1 r = none∧(∀ q ∈ rs,H1 q = none)∧r ≠ D∧(∀ q ∈ rs,q ≠ D)∧MkAt d t.2.2 H' r rs mss)
        (fun D hD=>⟨same_new hD _,upd_same,rfl,fun j t hj=>absurd hj (Nat.not_lt_zero j)⟩) (fun D i zs H' hD _ h=>SqT.of (h.1 _ _ ha1)) (fun D i x zs H' hD e h ss hss=>?_) (fun D zs H' hD h=>?_)⟩
      · obtain ⟨sm,eD,hzl,hz⟩:=h
        have hi:i < xs.length:=(List.getElem?_eq_some_iff.mp e).1
        obtain ⟨t,et⟩:∃ t,f_[i]? = some t:=⟨_,List.getElem?_eq_getElem (by omega)⟩
        obtain ⟨rr,u,ex,er,hu⟩:=hG.2 i t et
        rw [e] at ex
        cases ex
        obtain ⟨t0,t1,t2,rfl⟩:∃ t0 t1 t2,ss = [t0,t1,t2]:=by
          match ss,hss with
          | [t0,t1,t2],_=>exact ⟨t0,t1,t2,rfl⟩
        have s1m:=s1.trans sm
        have tm:=List.mem_of_getElem? et
        refine ⟨rr,_,rfl,SqT.of (s1m _ _ er),rfl,_,_,rfl,_,_,rfl,_,_,rfl,rfl,⟨[some (.int t.1),some (.int t.2.1),some u],rfl,rfl⟩,?_⟩
        refine ⟨_,rfl,_,rfl,_,_,rfl,rfl,d,t.2.2,u,r,Ls.tail,by simp,by omega,by omega,FmV.mono s1m.tups hu,hall t tm,hbd' t tm,fun c m hm=>?_,fun l hl=>h57 l (List.mem_of_mem_tail hl),fun l2 rs2 mss2 H3 s3 hl2 hrs2 hMk=>?_⟩
        · obtain ⟨ll,e1,e2⟩:=hLs (c + 1) m ⟨t,tm,hm⟩
          exact ⟨ll,by rw [List.getElem?_tail]; exact e1,e2⟩
        · have nD:l2 ≠ D:=fun z=>by rw [z,eD] at hl2; cases hl2
          have nDs:∀ q ∈ rs2,q ≠ D:=fun q hq z=>by have h0:=(hrs2 q hq).1; rw [z,eD] at h0; cases h0
          refine CYes.mk hi (s3 _ _ eD) (small1000 (by omega)) ⟨(sm.trans s3).upd hD,upd_same,by rw [List.length_append,hzl]; rfl,fun j t' hj et'=>?_⟩
          by_cases hji:j < i
          · obtain ⟨r,rs,mss,a1,a2,a3,a4,a5,a6⟩:=hz j t' hji et'
            refine ⟨r,rs,mss,by rw [List.getElem?_append_left (by omega)]; exact a1,a2,a3,a4,a5,a6.keep fun b o hb eb=>?_⟩
            have nb:b ≠ D:=by
              rcases hb with rfl | hb
              · exact a4
              · exact a5 b hb
            exact (upd_ne nb).trans (s3 _ _ eb)
          · have hj2:j = i:=by omega
            subst hj2
            rw [et] at et'
            cases et'
            refine ⟨l2,rs2,mss2,by rw [← hzl]; simp,sm.free hl2,fun q hq=>sm.free (hrs2 q hq).1,nD,nDs,hMk.keep fun b o hb eb=>?_⟩
            have nb:b ≠ D:=by
              rcases hb with rfl | hb
              · exact nD
              · exact nDs b hb
            exact (upd_ne nb).trans eb
      · obtain ⟨sm,eD,hzl,hz⟩:=h
        refine ⟨sm,D,zs,eD,by omega,hD,fun j t et=>?_,rfl⟩
        obtain ⟨r,rs,mss,a1,a2,a3,a4,a5,a6⟩:=hz j t (by have:=(List.getElem?_eq_some_iff.mp et).1; omega) et
        exact ⟨r,rs,mss,a1,a2,a3,a6⟩
    rintro σ2 H2 ⟨s2,fu,zs,efu,hzl,hfu,hz,rfl⟩
    have nl1:∀ {b:Addr},H1 b = none→b ≠ l:=fun e z=>by rw [z,el] at e; cases e
    refine ⟨fun σ' H'=>(∀ b o,b ≠ l→H2 b = some o→H' b = some o)∧∃ (rs:List Addr) (mss:List (List Int)) (c4:Option V),H' l = some (.lst (rs.map V.ref))∧(∀ q ∈ rs,q ≠ l∧H q = none)∧MLs H' rs mss∧mss.length = d + 1∧(∀ (c:Nat) (ms:List Int),mss[c]? = some ms→ms.Pairwise (· < ·)∧∀ m,m ∈ ms↔inMk (d + 1) (f_:Fm Int (d + 1)) c m)∧σ' = [some (.ref a),some (.int ((d + 1:Nat):Int)),some (.ref l),some (.ref fu),c4],?_,?_⟩
    · refine ⟨_,rfl,_,_,rfl,rfl,_,rfl,(by show -(2 ^ 62) ≤ ((d + 1:Nat):Int) - 1; omega),(by show ((d + 1:Nat):Int) - 1 < 2 ^ 62; omega),for_range (fun i σ H'=>(∀ b o,b ≠ l→H2 b = some o→H' b = some o)∧∃ (rs:List Addr) (mss:List (List Int)) (c4:Option V),H' l = some (.lst (rs.map V.ref))∧(∀ q ∈ rs,q ≠ l∧H q = none)∧MLs H' rs mss∧mss.length = i + 1∧(∀ (c:Nat) (ms:List Int),mss[c]? = some ms→ms.Pairwise (· < ·)∧∀ m,m ∈ ms↔inMk (d + 1) (f_:Fm Int (d + 1)) c m)∧σ = [some (.ref a),some (.int ((d + 1:Nat):Int)),some (.ref l),some (.ref fu),c4])
        ⟨fun b o _ e=>e,[r0],[f_.tail.map (·.1)],none,s2 _ _ el,(fun q hq=>by rw [List.mem_singleton.mp hq]; exact ⟨nr0,hr0⟩),⟨rfl,fun j ms e=>?_⟩,rfl,fun c ms e=>?_,rfl⟩ (fun i σ H' hi h=>?_) (fun σ H' h=>?_)⟩
      · match j,e with
        | 0,e=>cases e; exact ⟨r0,rfl,s2 _ _ er0⟩
        | j + 1,e=>simp at e
      · match c,e with
        | 0,e =>
          cases e
          refine ⟨tail_sorted hch,fun m=>?_⟩
          show m ∈ f_.tail.map (·.1)↔inM1 f_ m
          exact List.mem_map
        | c + 1,e=>simp at e
      · obtain ⟨kp,rs,mss,c4,el',hrs,hM,hml,hpr,rfl⟩:=h
        have hid:i < d:=by omega
        have h10:f_.length ≤ 10:=by rw [if_neg (by omega)] at hlen; exact hlen
        have efu':=kp _ _ (nl1 hfu) efu
        have hz' : ∀ (j:Nat) (t:T3a (Fm Int d)),f_[j]? = some t→∃ (r:Addr) (rs:List Addr) (mss:List (List Int)),zs[j]? = some (.ref r)∧MkAt d t.2.2 H' r rs mss:=fun j t et=>by
          obtain ⟨r,rs,mss,a1,a2,a3,a4⟩:=hz j t et
          refine ⟨r,rs,mss,a1,a4.keep fun b o hb eb=>kp b o ?_ eb⟩
          rcases hb with rfl | hb
          · exact nl1 a2
          · exact nl1 (a3 b hb)
        refine ⟨_,rfl,.inl ⟨rfl,_,SqL.of el'⟩,_,rfl,fu,rfl,⟨_,SqL.of efu'⟩,comp_list (xs:=zs) (fun D j ws H3=>Same H' H3∧H3 D = some (.lst ws)∧∃ (as:List Addr) (xss:List (List Int)),ws = as.map V.ref∧(∀ q ∈ as,q ≠ D)∧MLs H3 as xss∧xss.length = j∧∀ (e:Nat) (t:T3a (Fm Int d)) (ms:List Int),f_[e]? = some t→xss[e]? = some ms→ms.Pairwise (· < ·)∧∀ m,m ∈ ms↔inMk d t.2.2 i m)
          (fun D hD=>⟨same_new hD _,upd_same,[],[],rfl,(fun q hq=>by cases hq),⟨rfl,fun j ms e=>by simp at e⟩,rfl,fun e t ms _ h=>by simp at h⟩) (fun D j ws H3 hD _ h=>SqL.of (h.1 _ _ efu')) (fun D j x ws H3 hD e h=>?_) (fun D ws H3 hD h=>?_)⟩
        · obtain ⟨s3,eD,as,xss,rfl,hasD,hM3,hxl3,hx3⟩:=h
          have hj:j < zs.length:=(List.getElem?_eq_some_iff.mp e).1
          obtain ⟨t,et⟩:∃ t,f_[j]? = some t:=⟨_,List.getElem?_eq_getElem (by omega)⟩
          obtain ⟨r,rs',mss',a1,a2,a3,a4,a5⟩:=hz' j t et
          rw [e] at a1
          cases a1
          obtain ⟨ms,em⟩:∃ ms,mss'[i]? = some ms:=⟨_,List.getElem?_eq_getElem (by omega)⟩
          obtain ⟨q',eq',hq'⟩:=a3.2 i ms em
          have nqD:q' ≠ D:=fun z=>by rw [z,hD] at hq'; cases hq'
          have hal:as.length = j:=by rw [hM3.1]; exact hxl3
          obtain ⟨m1,m2⟩:=mls_put (zs:=as.map V.ref ++ [.ref q']) hM3 hasD (Same.refl H3) (s3 _ _ hq') nqD
          refine ⟨_,rfl,_,rfl,r,_,_,_,rfl,rfl,SqL.of (s3 _ _ a2),getI (get_ref eq'),CYes.mk hj eD (small1000 (by rw [List.length_map]; omega)) ⟨s3.upd hD,upd_same,as ++ [q'],xss ++ [ms],by rw [List.map_append]; rfl,m2,m1,by rw [List.length_append,hxl3]; rfl,fun e2 t2 ms2 et2 em2=>?_⟩⟩
          by_cases he:e2 < xss.length
          · rw [List.getElem?_append_left he] at em2
            exact hx3 e2 t2 ms2 et2 em2
          · have he2:e2 = xss.length:=by
              have:=(List.getElem?_eq_some_iff.mp em2).1
              simp at this; omega
            subst he2
            simp at em2
            subst em2
            rw [hxl3,et] at et2
            cases et2
            exact a5 i ms em
        · obtain ⟨s3,eD,as,xss,rfl,hasD,hM3,hxl3,hx3⟩:=h
          have inX:∀ x,x ∈ xss.flatten↔inMk (d + 1) (f_:Fm Int (d + 1)) (i + 1) x:=fun x=>by
            rw [List.mem_flatten]
            constructor
            · rintro ⟨ms,hms,hx⟩
              obtain ⟨e,ee⟩:=List.getElem?_of_mem hms
              obtain ⟨t,et⟩:∃ t,f_[e]? = some t:=⟨_,List.getElem?_eq_getElem (by have:=(List.getElem?_eq_some_iff.mp ee).1; omega)⟩
              exact ⟨t,List.mem_of_getElem? et,((hx3 e t ms et ee).2 x).mp hx⟩
            · rintro ⟨t,ht,hx⟩
              obtain ⟨e,et⟩:=List.getElem?_of_mem ht
              obtain ⟨ms,ee⟩:∃ ms,xss[e]? = some ms:=⟨_,List.getElem?_eq_getElem (by have:=(List.getElem?_eq_some_iff.mp et).1; omega)⟩
              exact ⟨ms,List.mem_of_getElem? ee,((hx3 e t ms et ee).2 x).mpr hx⟩
          have subL:∀ x ∈ xss.flatten,x ∈ (Ls[i + 1]?).getD []:=fun x hx=>by
            obtain ⟨ll,e1,e2⟩:=hLs (i + 1) x ((inX x).mp hx)
            rw [e1]
            exact e2
          have lenL:((Ls[i + 1]?).getD []).length ≤ 57:=by
            cases e:Ls[i + 1]? with
            | none=>exact Nat.zero_le _
            | some ll=>exact h57 ll (List.mem_of_getElem? e)
          have len57:∀ ms ∈ xss,ms.length ≤ 57:=fun ms hms=>by
            obtain ⟨e,ee⟩:=List.getElem?_of_mem hms
            obtain ⟨t,et⟩:∃ t,f_[e]? = some t:=⟨_,List.getElem?_eq_getElem (by have:=(List.getElem?_eq_some_iff.mp ee).1; omega)⟩
            exact Nat.le_trans (nodup_sub_len ((hx3 e t ms et ee).1.imp fun h=>Int.ne_of_lt h) fun x hx=>subL x (List.mem_flatten.mpr ⟨ms,hms,hx⟩)) lenL
          have hfl:xss.flatten.length ≤ 1000:=Nat.le_trans (flat_le len57) (by rw [hxl3]; omega)
          refine ⟨D,as,xss,_,rfl,eD,hM3,hfl,by omega,subL,fun l3 cs H4 s4 hl3 el3 pw mem=>?_⟩
          have s34:=s3.trans s4
          have nl3:l3 ≠ l:=fun z=>by rw [z,s3 _ _ el'] at hl3; cases hl3
          have hrl:rs.length = i + 1:=by rw [hM.1]; exact hml
          refine ⟨l,_,_,rfl,rfl,s34 _ _ el',small1000 (by rw [List.length_map]; omega),?_⟩
          obtain ⟨m1,m2⟩:=mls_put (zs:=rs.map V.ref ++ [.ref l3]) hM (fun q hq=>(hrs q hq).1) s34 el3 nl3
          have frH:H l3 = none:=by
            have f0:H' l3 = none:=s3.free hl3
            cases e:H l3 with
            | none=>rfl
            | some o=>rw [kp l3 o nl3 (s2 _ _ (s1 _ _ e))] at f0; cases f0
          refine ⟨fun b o hb e=>(upd_ne hb).trans (s34 _ _ (kp b o hb e)),rs ++ [l3],mss ++ [cs],_,by rw [List.map_append]; exact upd_same,fun q hq=>⟨m2 q hq,?_⟩,m1,by rw [List.length_append,hml]; rfl,fun c ms e=>?_,rfl⟩
          · rcases List.mem_append.mp hq with hq | hq
            · exact (hrs q hq).2
            · rw [List.mem_singleton.mp hq]; exact frH
          · by_cases hc:c < mss.length
            · rw [List.getElem?_append_left hc] at e
              exact hpr c ms e
            · have hc2:c = mss.length:=by
                have:=(List.getElem?_eq_some_iff.mp e).1
                simp at this; omega
              subst hc2
              simp at e
              subst e
              rw [hml]
              exact ⟨pw,fun m=>(mem m).trans (inX m)⟩
      · obtain ⟨kp,rs,mss,c4,el',hrs,hM,hml,hpr,rfl⟩:=h
        exact ⟨kp,rs,mss,c4,el',hrs,hM,by rw [hml]; omega,hpr,rfl⟩
    rintro σ3 H3 ⟨kp,rs,mss,c4,el',hrs,hM,hml,hpr,rfl⟩
    refine ⟨_,rfl,q l rs mss H3 (fun b o e=>kp b o (fun z=>by rw [z,hl] at e; cases e) (s2 _ _ (s1 _ _ e))) hl (fun q hq=>⟨(hrs q hq).2,(hrs q hq).1⟩) ⟨el',hM,hml,hpr⟩⟩
theorem O_18 {k n:Nat} (F:Fun K "layered" "layered" Y21 f fd) (bl:Bl K mg) (c_closed:Callee P w K mg base k "closed" ["triples"] (J3 K)) (c_layered:Callee P w K mg base k "layered" ["columns", "ahead", "leaf"] (J21 K P w mg base n)) (hk:3 ≤ k):FnOk P w K mg base CX0 (k + 1) f fd ["columns", "ahead", "leaf"] (J21 K P w mg base (n + 1)):=by
  refine F.ok Z21 (fun vs H Q E h=>?_) (fun cdv A outer s H vs Q E hr h=>?_)
  · obtain ⟨c,b,f_,xs,cols,ah,m,L,iL,A,g,J,rfl,hn,hc,hC,hb,h64,ha3,hc3,hm,hL,hJ,q⟩:=h
    rfl
  obtain ⟨c,b,f_,xs,cols,ah,m,L,iL,A,g,J,rfl,hn,hc,hC,hb,h64,ha3,hc3,hm,hL,hJ,q⟩:=h
  refine ⟨_,(pss_cons (ps_if (pt_not (pt_truth (pv 0) (by intro _; rfl)))
     (pss_one (ps_ret (pe_held (k:=3) (i:=2) (hr.mono hk) rfl (Or.inr (Or.inl rfl)) (pa_cons (pv 1) pa_nil))))
     pss_nil)
     (pss_one (ps_ret (pe_fn c_closed hr rfl (pa_cons (pe_compG (pi_list (pe_ix ix_list (pv 0) pe_int (fun _ _=>rfl))) (cmpOkG_free (N:=["low", "high", "columns", "ahead", "leaf"]) (k:=2) (fr:=[0,1,2]) (cl:=[("leaf",s.heap.objs.size + 1 + 1 + 1),("columns",s.heap.objs.size + 1),("ahead",s.heap.objs.size + 1 + 1)]) rfl rfl (by decide +kernel) (by decide +kernel) rfl rfl (List.forall_mem_cons.mpr ⟨rfl,List.forall_mem_cons.mpr ⟨rfl,List.forall_mem_cons.mpr ⟨rfl,List.forall_mem_nil _⟩⟩⟩) rfl) rfl (fun _ _ _ _=>(gTupK (K:=K) (n:=2) rfl rfl (pgs_cons (pg_name (i:=0) (show (["low", "high", "columns", "ahead", "leaf"]:List Str).Nodup by decide +kernel) rfl (Or.inl rfl) (Or.inr rfl)) (pgs_cons (pg_name (i:=1) (show (["low", "high", "columns", "ahead", "leaf"]:List Str).Nodup by decide +kernel) rfl (Or.inl rfl) (Or.inr rfl)) pgs_nil)))) (fun _ _ _ _=>pif_nil) (fun _ _ _ _=>(pe_tup (pa_cons (pv 0) (pa_cons (pv 1) (pa_cons (pe_fn c_layered hr rfl (pa_cons (pe_slice (sl_listK (K:=K) rfl) (pv 2) (po_some pe_int) po_none) (pa_cons (pe_op op_cat (pv 3) (pe_lst (pa_cons (pv 0) pa_nil))) (pa_cons (pv 4) pa_nil)))) pa_nil)))))) pa_nil))))),?_⟩
  cases cols with
  | nil =>
    have hx:xs = []:=List.eq_nil_of_length_eq_zero hC.1
    subst hx
    obtain ⟨sp,hF,hsp⟩:=hL.fn
    refine ⟨_,rfl,_,.inl ⟨_,SqL.of hc,rfl⟩,iteT ?_⟩
    exact ⟨f_,sp,rfl,hL.ob H hJ,hF,_,rfl,hL.ob H hJ,hsp H b ah _ hJ (by rw [hm]; rfl) hb fun v H' h' hv=>q v H' h' hv⟩
  | cons col cols =>
    obtain ⟨r,ex,ts,er,hp⟩:=hC.2 0 col rfl
    obtain ⟨xs',rfl⟩:∃ xs',xs = .ref r :: xs':=by
      cases xs with
      | nil=>cases ex
      | cons x xs'=>cases ex; exact ⟨xs',rfl⟩
    have hC' : CoL H xs' cols:=⟨by simpa using hC.1,fun j c e=>by simpa using hC.2 (j + 1) c (by simpa using e)⟩
    have hcl:col.length ≤ 64:=h64 col List.mem_cons_self
    have htl:ts.length = col.length:=hp.length
    have hc3' : cols.length ≤ 5:=by rw [List.length_cons] at hc3; omega
    refine ⟨_,rfl,_,.inl ⟨_,SqL.of hc,rfl⟩,iteF ?_⟩
    refine ⟨_,rfl,c,_,_,_,rfl,rfl,SqL.of hc,atI_nat (j:=0) rfl,r,rfl,⟨_,SqL.of er⟩,compG_list (xs:=ts) (fun D i zs H'=>Same H H'∧H' D = some (.lst zs)∧FmL (FmV A H' cols.length) H' ((col.take i).map fun p=>(p.1,p.2,lay g cols (ah ++ [p.1]))) zs∧zs.length ≤ i)
      (fun D hD=>⟨same_new hD _,upd_same,FmL.nil,Nat.zero_le _⟩) (fun D i zs H' hD _ h=>SqL.of (h.1 _ _ er)) (fun D i x zs H' hD e h ss hss=>?_) (fun D zs H' hD h=>?_)⟩
    · obtain ⟨sm,eD,hz,hzl⟩:=h
      obtain ⟨p,t,ep,rfl,ht⟩:=hp.get e
      have hi:i < ts.length:=(List.getElem?_eq_some_iff.mp e).1
      obtain ⟨t0,t1,rfl⟩:∃ t0 t1,ss = [t0,t1]:=by
        match ss,hss with
        | [t0,t1],_=>exact ⟨t0,t1,rfl⟩
      refine ⟨t,_,rfl,SqT.of (sm _ _ ht),rfl,_,_,rfl,_,_,rfl,rfl,⟨[some (.int p.1),some (.int p.2)],rfl,rfl⟩,?_⟩
      refine ⟨_,rfl,_,rfl,_,rfl,_,rfl,c,_,rfl,SqL.of (sm _ _ hc),fun c2 hc2=>?_⟩
      rw [cut_tail]
      have s2:Same H' (upd H' c2 (.lst xs')):=same_new hc2 _
      have ec2:upd H' c2 (.lst xs') c2 = some (.lst xs'):=upd_same
      generalize upd H' c2 (.lst xs') = H2 at s2 ec2 ⊢
      refine ⟨_,rfl,_,rfl,(by show 1 ≤ sizeLine; decide),fun t1 ht1=>?_⟩
      have s3:Same H2 (upd H2 t1 (.lst [.int p.1])):=same_new ht1 _
      have e1:upd H2 t1 (.lst [.int p.1]) t1 = some (.lst [.int p.1]):=upd_same
      generalize upd H2 t1 (.lst [.int p.1]) = H3 at s3 e1 ⊢
      refine ⟨b,t1,_,_,rfl,rfl,s3 _ _ (s2 _ _ (sm _ _ hb)),e1,Nat.le_of_lt (small1000 (by rw [List.length_map]; show ah.length + 1 ≤ 1000; omega)),fun t2 ht2=>?_⟩
      have s4:Same H3 (upd H3 t2 (.lst (ah.map V.int ++ [.int p.1]))):=same_new ht2 _
      have e2:upd H3 t2 (.lst (ah.map V.int ++ [.int p.1])) t2 = some (.lst ((ah ++ [p.1]).map V.int)):=by rw [List.map_append]; exact upd_same
      generalize upd H3 t2 (.lst (ah.map V.int ++ [.int p.1])) = H4 at s4 e2 ⊢
      have s24:Same H' H4:=(s2.trans s3).trans s4
      have f2:H' t2 = none:=(s2.trans s3).free ht2
      refine ⟨_,rfl,c2,t2,f_,xs',cols,ah ++ [p.1],m,L,iL,A,g,J,rfl,by rw [List.length_cons] at hn; omega,s4 _ _ (s3 _ _ ec2),hC'.same (sm.trans s24),e2,fun z hz=>h64 z (List.mem_cons_of_mem _ hz),by rw [List.length_append,List.length_singleton]; rw [List.length_cons] at ha3; omega,by omega,by rw [List.length_append,List.length_singleton]; rw [List.length_cons] at hm; omega,hL,hL.st _ _ hJ (sm.trans s24),fun v H5 h5 hv=>?_⟩
      have s5:Same H' H5:=fun d o ed=>h5 d o (fun z=>by rw [z,f2] at ed; cases ed) (s24 _ _ ed)
      refine ⟨(by show 3 ≤ sizeLine; decide),fun t3 ht3=>?_⟩
      have s6:Same H5 (upd H5 t3 (.tup [.int p.1,.int p.2,v])):=same_new ht3 _
      have e3:upd H5 t3 (.tup [.int p.1,.int p.2,v]) t3 = some (.tup [.int p.1,.int p.2,v]):=upd_same
      generalize upd H5 t3 (.tup [.int p.1,.int p.2,v]) = H6 at s6 e3 ⊢
      have s56:=s5.trans s6
      have eD6:=s56 _ _ eD
      refine CYes.mk hi eD6 (small1000 (by omega)) ⟨(sm.trans s56).upd hD,upd_same,?_,by rw [List.length_append,List.length_singleton]; omega⟩
      have st:SameT H6 (upd H6 D (.lst (zs ++ [.ref t3]))):=sameT_lst eD6
      rw [take_snoc ep,List.map_append]
      exact (hz.mono (fun _ _ z=>FmV.mono (s56.tups.trans st) z) (s56.tups.trans st)).snoc (st _ _ e3) (FmV.mono (s6.tups.trans st) hv)
    · obtain ⟨sm,eD,hz,hzl⟩:=h
      rw [htl,List.take_length] at hz
      refine ⟨L,iL,A,cols.length,D,zs,_,rfl,by omega,eD,hz,by rw [List.length_map]; omega,fun r2 H2 s2 hf=>?_⟩
      exact q _ H2 (fun d o _ ed=>(sm.trans s2) _ _ ed) hf
theorem O_20 {k n:Nat} (F:Fun K "mapped" "mapped" Y23 f fd) (bl:Bl K mg) (c_closed:Callee P w K mg base k "closed" ["triples"] (J3 K)) (c_mapped:Callee P w K mg base k "mapped" ["form", "deep", "change"] (J23 K P w mg base n)) (hk:3 ≤ k):FnOk P w K mg base CX0 (k + 1) f fd ["form", "deep", "change"] (J23 K P w mg base (n + 1)):=by
  refine F.ok Z23 (fun vs H Q E h=>?_) (fun cdv A outer s H vs Q E hr h=>?_)
  · obtain ⟨L,M,iL,iM,A,B,h_,J,d,F_,v,f_,rfl,hn,hd3,hv,hsm,hL,hJ,q⟩:=h
    rfl
  obtain ⟨L,M,iL,iM,A,B,h_,J,d,F_,v,f_,rfl,hn,hd3,hv,hsm,hL,hJ,q⟩:=h
  refine ⟨_,(pss_cons (ps_if (pt_cmpR op_eq (pv 1) pe_int (nomark _))
     (pss_one (ps_ret (pe_held (k:=3) (i:=2) (hr.mono hk) rfl (Or.inr (Or.inl rfl)) (pa_cons (pv 0) pa_nil))))
     pss_nil)
     (pss_one (ps_ret (pe_fn c_closed hr rfl (pa_cons (pe_compG (pi_tup (pv 0)) (cmpOkG_free (N:=["low", "high", "beneath", "deep", "change"]) (k:=3) (fr:=[1,2]) (cl:=[("deep",s.heap.objs.size + 1),("change",s.heap.objs.size + 1 + 1)]) rfl rfl (by decide +kernel) (by decide +kernel) rfl rfl (List.forall_mem_cons.mpr ⟨rfl,List.forall_mem_cons.mpr ⟨rfl,List.forall_mem_nil _⟩⟩) rfl) rfl (fun _ _ _ _=>(gTupK (K:=K) (n:=3) rfl rfl (pgs_cons (pg_name (i:=0) (show (["low", "high", "beneath", "deep", "change"]:List Str).Nodup by decide +kernel) rfl (Or.inl rfl) (Or.inr rfl)) (pgs_cons (pg_name (i:=1) (show (["low", "high", "beneath", "deep", "change"]:List Str).Nodup by decide +kernel) rfl (Or.inl rfl) (Or.inr rfl)) (pgs_cons (pg_name (i:=2) (show (["low", "high", "beneath", "deep", "change"]:List Str).Nodup by decide +kernel) rfl (Or.inl rfl) (Or.inr rfl)) pgs_nil))))) (fun _ _ _ _=>pif_nil) (fun _ _ _ _=>(pe_tup (pa_cons (pv 0) (pa_cons (pv 1) (pa_cons (pe_fn c_mapped hr rfl (pa_cons (pv 2) (pa_cons (pe_op op_sub (pv 3) pe_int) (pa_cons (pv 4) pa_nil)))) pa_nil)))))) pa_nil))))),?_⟩
  cases d with
  | zero =>
    obtain ⟨sp,hF,hsp⟩:=hL.fn
    refine ⟨_,rfl,rfl,_,rfl,iteTS rfl ?_⟩
    exact ⟨f_,sp,rfl,hL.ob H hJ,hF,_,rfl,hL.ob H hJ,hsp H v F_ _ hJ hv fun u H' s' hu=>q u H' s' hu⟩
  | succ d =>
    obtain ⟨G,rfl⟩:∃ G:List (T3a (Fm L d)),(G:Fm L (d + 1)) = F_:=⟨F_,rfl⟩
    obtain ⟨hlen,hsm'⟩:SmS 300 (SmF 300 d) G:=hsm
    obtain ⟨a,xs,rfl,ha,hG⟩:∃ (a:Addr) (xs:List V),v = .ref a∧H a = some (.tup xs)∧FmL (FmV A H d) H G xs:=hv
    have hxl:=hG.1
    refine ⟨_,rfl,rfl,_,rfl,iteFS (fun z=>by have:=V.int.inj z; omega) ?_⟩
    refine ⟨_,rfl,a,rfl,⟨_,SqT.of ha⟩,compG_tup (xs:=xs) (fun D i zs H'=>Same H H'∧H' D = some (.lst zs)∧FmL (FmV B H' d) H' ((G.take i).map fun t=>(t.1,t.2.1,mapF h_ d t.2.2)) zs∧zs.length ≤ i)
      (fun D hD=>⟨same_new hD _,upd_same,FmL.nil,Nat.zero_le _⟩) (fun D i zs H' hD _ h=>SqT.of (h.1 _ _ ha)) (fun D i x zs H' hD e h ss hss=>?_) (fun D zs H' hD h=>?_)⟩
    · obtain ⟨sm,eD,hz,hzl⟩:=h
      have hi:i < xs.length:=(List.getElem?_eq_some_iff.mp e).1
      obtain ⟨t,et⟩:∃ t,G[i]? = some t:=⟨_,List.getElem?_eq_getElem (by omega)⟩
      obtain ⟨r,u,ex,er,hu⟩:=hG.2 i t et
      rw [e] at ex
      cases ex
      obtain ⟨t0,t1,t2,rfl⟩:∃ t0 t1 t2,ss = [t0,t1,t2]:=by
        match ss,hss with
        | [t0,t1,t2],_=>exact ⟨t0,t1,t2,rfl⟩
      have er':=sm _ _ er
      have hu':=FmV.mono sm.tups hu
      refine ⟨r,_,rfl,SqT.of er',rfl,_,_,rfl,_,_,rfl,_,_,rfl,rfl,⟨[some (.int t.1),some (.int t.2.1),some u],rfl,rfl⟩,?_⟩
      refine ⟨_,rfl,_,rfl,_,rfl,_,rfl,_,_,rfl,rfl,_,rfl,L,M,iL,iM,A,B,h_,J,d,t.2.2,u,f_,by simp,by omega,by omega,hu',hsm' t (List.mem_of_getElem? et),hL,hL.st _ _ hJ sm,fun v H5 s5 hv=>?_⟩
      refine ⟨(by show 3 ≤ sizeLine; decide),fun t3 ht3=>?_⟩
      have s6:Same H5 (upd H5 t3 (.tup [.int t.1,.int t.2.1,v])):=same_new ht3 _
      have e3:upd H5 t3 (.tup [.int t.1,.int t.2.1,v]) t3 = some (.tup [.int t.1,.int t.2.1,v]):=upd_same
      generalize upd H5 t3 (.tup [.int t.1,.int t.2.1,v]) = H6 at s6 e3 ⊢
      have s56:=s5.trans s6
      have eD6:=s56 _ _ eD
      refine CYes.mk hi eD6 (small1000 (by omega)) ⟨(sm.trans s56).upd hD,upd_same,?_,by rw [List.length_append,List.length_singleton]; omega⟩
      have st:SameT H6 (upd H6 D (.lst (zs ++ [.ref t3]))):=sameT_lst eD6
      rw [take_snoc et,List.map_append]
      exact (hz.mono (fun _ _ z=>FmV.mono (s56.tups.trans st) z) (s56.tups.trans st)).snoc (st _ _ e3) (FmV.mono (s6.tups.trans st) hv)
    · obtain ⟨sm,eD,hz,hzl⟩:=h
      rw [hxl,List.take_length] at hz
      refine ⟨M,iM,B,d,D,zs,_,rfl,by omega,eD,hz,by rw [List.length_map]; omega,fun r2 H2 s2 hf=>?_⟩
      exact q _ H2 (sm.trans s2) hf
theorem O_22 {k n:Nat} (F:Fun K "paired" "paired" Y25 f fd) (bl:Bl K mg) (c_closed:Callee P w K mg base k "closed" ["triples"] (J3 K)) (c_paired:Callee P w K mg base k "paired" ["one", "other", "deep", "pair"] (J25 K P w mg base n)) (hk:3 ≤ k):FnOk P w K mg base CX0 (k + 1) f fd ["one", "other", "deep", "pair"] (J25 K P w mg base (n + 1)):=by
  refine F.ok Z25 (fun vs H Q E h=>?_) (fun cdv A outer s H vs Q E hr h=>?_)
  · obtain ⟨L,M,N,iL,iM,iN,A,B,C,h_,J,d,F_,G_,v,u,f_,ps,rfl,hn,hd3,hv,hu,hsh,hsh',hsm,hsm',hL,hJ,q⟩:=h
    rfl
  obtain ⟨L,M,N,iL,iM,iN,A,B,C,h_,J,d,F_,G_,v,u,f_,ps,rfl,hn,hd3,hv,hu,hsh,hsh',hsm,hsm',hL,hJ,q⟩:=h
  refine ⟨_,(pss_cons (ps_if (pt_cmpR op_eq (pv 2) pe_int (nomark _))
     (pss_one (ps_ret (pe_held (k:=3) (i:=3) (hr.mono hk) rfl (Or.inl rfl) (pa_cons (pv 0) (pa_cons (pv 1) pa_nil)))))
     pss_nil)
     (pss_cons (ps_set (i:=4) Z25.nd rfl (Or.inl rfl) (pe_lst pa_nil))
     (pss_cons (ps_set (i:=5) Z25.nd rfl (Or.inl rfl) (pe_ix ix_tup (pe_ix ix_tup (pv 0) pe_int (fun _ _=>rfl)) pe_int (fun _ _=>rfl)))
     (pss_cons (ps_set (i:=6) Z25.nd rfl (Or.inl rfl) pe_int)
     (pss_cons (ps_set (i:=7) Z25.nd rfl (Or.inl rfl) pe_int)
     (pss_cons (ps_while PassesOwn.never (pt_cmpR op_lt (pv 6) (pe_callB call_len_seq rfl bl.len_ PySem.boot_len (pa_cons (pv 0) pa_nil)) (nomark _))
     (pss_cut (ps_set (i:=8) Z25.nd rfl (Or.inl rfl) (pe_callB (call_min2 rfl) rfl bl.min_ PyProof.Rows.boot_min (pa_cons (pe_ix ix_tup (pe_ix ix_tup (pv 0) (pv 6) (fun _ _=>rfl)) pe_int (fun _ _=>rfl)) (pa_cons (pe_ix ix_tup (pe_ix ix_tup (pv 1) (pv 7) (fun _ _=>rfl)) pe_int (fun _ _=>rfl)) pa_nil))))
     (pss_cut (ps_expr (pe_bm PySem.F.plainAttrs_list PySem.F.slot_list_append PySem.F.type_list_append mt_append (pv 4) (pa_cons (pe_tup (pa_cons (pv 5) (pa_cons (pv 8) (pa_cons (pe_fn c_paired hr rfl (pa_cons (pe_ix ix_tup (pe_ix ix_tup (pv 0) (pv 6) (fun _ _=>rfl)) pe_int (fun _ _=>rfl)) (pa_cons (pe_ix ix_tup (pe_ix ix_tup (pv 1) (pv 7) (fun _ _=>rfl)) pe_int (fun _ _=>rfl)) (pa_cons (pe_op op_sub (pv 2) pe_int) (pa_cons (pv 3) pa_nil))))) pa_nil)))) pa_nil)))
     (pss_cut (ps_if (pt_cmpR op_eq (pe_ix ix_tup (pe_ix ix_tup (pv 0) (pv 6) (fun _ _=>rfl)) pe_int (fun _ _=>rfl)) (pv 8) (nomark _))
     (pss_one (ps_aug (i:=6) Z25.nd rfl (Or.inl rfl) pe_int ip_add))
     pss_nil)
     (pss_cut (ps_if (pt_cmpR op_eq (pe_ix ix_tup (pe_ix ix_tup (pv 1) (pv 7) (fun _ _=>rfl)) pe_int (fun _ _=>rfl)) (pv 8) (nomark _))
     (pss_one (ps_aug (i:=7) Z25.nd rfl (Or.inl rfl) pe_int ip_add))
     pss_nil)
     (pss_one (ps_set (i:=5) Z25.nd rfl (Or.inl rfl) (pe_op op_add (pv 8) pe_int))))))))
     (pss_one (ps_ret (pe_fn c_closed hr rfl (pa_cons (pv 4) pa_nil)))))))))),?_⟩
  cases d with
  | zero =>
    obtain ⟨sp,hF,hsp⟩:=hL.fn
    refine ⟨_,rfl,rfl,_,rfl,iteTS rfl ?_⟩
    exact ⟨f_,sp,rfl,hL.ob H hJ,hF,_,rfl,_,rfl,hL.ob H hJ,hsp H v u F_ G_ _ hJ hv hu fun r H' s' hr=>q r H' s' hr⟩
  | succ d =>
    obtain ⟨f,rfl⟩:∃ f:List (T3a (Fm L d)),(f:Fm L (d + 1)) = F_:=⟨F_,rfl⟩
    obtain ⟨g,rfl⟩:∃ g:List (T3a (Fm M d)),(g:Fm M (d + 1)) = G_:=⟨G_,rfl⟩
    obtain ⟨hlen,hsmf⟩:SmS 300 (SmF 300 d) f:=hsm
    obtain ⟨hlen',hsmg⟩:SmS 300 (SmF 300 d) g:=hsm'
    obtain ⟨p,r,rfl,hne,hch,hnb,hall⟩:ShS (ShOk d) f ps:=hsh
    obtain ⟨p',r',e,hne',hch',hnb',hall'⟩:ShS (ShOk d) g (p :: r):=hsh'
    cases e
    obtain ⟨a,xs,rfl,ha,hf⟩:∃ (a:Addr) (xs:List V),v = .ref a∧H a = some (.tup xs)∧FmL (FmV A H d) H f xs:=hv
    obtain ⟨b,ys,rfl,hb,hg⟩:∃ (a:Addr) (xs:List V),u = .ref a∧H a = some (.tup xs)∧FmL (FmV B H d) H g xs:=hu
    have hxl:=hf.1
    have hyl:=hg.1
    obtain ⟨z,ez,hz,epF⟩:=pair_one (h:=h_) hch hne hch'
    refine ⟨_,rfl,rfl,_,rfl,iteFS (fun z=>by have:=V.int.inj z; omega) ?_⟩
    obtain ⟨t0,f',rfl⟩:∃ t0 f',f = t0 :: f':=by
      cases f with
      | nil=>exact absurd rfl hne
      | cons t0 f'=>exact ⟨t0,f',rfl⟩
    obtain ⟨r0,u0,ex0,er0,_⟩:=hf.2 0 t0 rfl
    have et0:t0.1 = p.1:=hch.1
    generalize ef:t0 :: f' = f at *
    refine ⟨(by show 0 ≤ sizeLine; decide),fun l hl=>?_⟩
    have s0:Same H (upd H l (.lst [])):=same_new hl _
    have el0:upd H l (.lst []) l = some (.lst []):=upd_same
    generalize upd H l (.lst []) = H0 at s0 el0 ⊢
    refine ⟨_,rfl,a,_,_,_,rfl,rfl,SqT.of (s0 _ _ ha),atI_nat (j:=0) ex0,r0,_,_,_,rfl,rfl,SqT.of (s0 _ _ er0),rfl,?_⟩
    rw [et0]
    refine ⟨fun m σ H'=>∃ (i j:Nat) (lo:Int) (acc:List (T3a (Fm N d))) (zs:List V) (c8:Option V),m = (f.length - i) + (g.length - j)∧i ≤ f.length∧j ≤ g.length∧Same H H'∧H' l = some (.lst zs)∧FmL (FmV C H' d) H' acc zs∧z = acc ++ zipT (pairF h_ d) lo (f.drop i) (g.drop j)∧Cov (f.drop i) lo p.2∧Cov (g.drop j) lo p.2∧acc.length ≤ i + j∧σ = [some (.ref a),some (.ref b),some (.int ((d + 1:Nat):Int)),some (.ref f_),some (.ref l),some (.int lo),some (.int (i:Int)),some (.int (j:Int)),c8],
      ⟨f.length + g.length,0,0,p.1,[],[],none,rfl,Nat.zero_le _,Nat.zero_le _,s0,el0,FmL.nil,ez,hch.cov,hch'.cov,Nat.zero_le _,rfl⟩,?_⟩
    rintro m σ H' ⟨i,j,lo,acc,zs,c8,rfl,hi,hj,sm,el,hz',hacc,cf,cg,hal,rfl⟩
    refine ⟨_,rfl,_,rfl,a,_,rfl,.inr (SqT.of (sm _ _ ha)),_,_,rfl,rfl,_,rfl,?_⟩
    refine ite2 (fun gd=>?_) (fun gd=>?_)
    · have hi2:i < f.length:=by have:(i:Int) < ((xs.length:Nat):Int):=dec_t gd; omega
      have hj2:j < g.length:=by
        by_cases hjg:j < g.length
        · exact hjg
        · exfalso
          rw [List.drop_eq_nil_of_le (by omega)] at cg
          have cg:lo = p.2 + 1:=cg
          obtain ⟨s_,es⟩:∃ s_,f[i]? = some s_:=⟨_,List.getElem?_eq_getElem hi2⟩
          rw [drop_at es] at cf
          have c1:=cf.1
          have c2:=cf.2.le
          omega
      obtain ⟨s_,es⟩:∃ s_,f[i]? = some s_:=⟨_,List.getElem?_eq_getElem hi2⟩
      obtain ⟨t_,et⟩:∃ t_,g[j]? = some t_:=⟨_,List.getElem?_eq_getElem hj2⟩
      obtain ⟨r1,u1,ex1,er1,hu1⟩:=hf.2 i s_ es
      obtain ⟨r2,u2,ex2,er2,hu2⟩:=hg.2 j t_ et
      have ms:=List.mem_of_getElem? es
      have mt:=List.mem_of_getElem? et
      rw [drop_at es] at cf hacc
      rw [drop_at et] at cg hacc
      obtain ⟨cf1,cf2⟩:=cf
      obtain ⟨cg1,cg2⟩:=cg
      obtain ⟨hi',ehi⟩:∃ hi' : Int,hi' = if t_.2.1 < s_.2.1 then t_.2.1 else s_.2.1:=⟨_,rfl⟩
      refine ⟨fun σ' H''=>∃ m',m' < (f.length - i) + (g.length - j)∧∃ (i j:Nat) (lo:Int) (acc:List (T3a (Fm N d))) (zs:List V) (c8:Option V),m' = (f.length - i) + (g.length - j)∧i ≤ f.length∧j ≤ g.length∧Same H H''∧H'' l = some (.lst zs)∧FmL (FmV C H'' d) H'' acc zs∧z = acc ++ zipT (pairF h_ d) lo (f.drop i) (g.drop j)∧Cov (f.drop i) lo p.2∧Cov (g.drop j) lo p.2∧acc.length ≤ i + j∧σ' = [some (.ref a),some (.ref b),some (.int ((d + 1:Nat):Int)),some (.ref f_),some (.ref l),some (.int lo),some (.int (i:Int)),some (.int (j:Int)),c8],fun σ' H'' hh=>hh,?_⟩
      refine ⟨fun σ' H''=>H'' = H'∧σ' = [some (.ref a),some (.ref b),some (.int ((d + 1:Nat):Int)),some (.ref f_),some (.ref l),some (.int lo),some (.int (i:Int)),some (.int (j:Int)),some (.int hi')],?_,?_⟩
      · refine ⟨_,rfl,_,rfl,a,_,_,_,rfl,rfl,SqT.of (sm _ _ ha),atI_nat ex1,r1,_,_,_,rfl,rfl,SqT.of (sm _ _ er1),rfl,_,rfl,_,rfl,b,_,_,_,rfl,rfl,SqT.of (sm _ _ hb),atI_nat ex2,r2,_,_,_,rfl,rfl,SqT.of (sm _ _ er2),rfl,_,_,rfl,rfl,?_⟩
        rw [ehi]
        rfl
      rintro σ3 H3 ⟨e3,rfl⟩
      rw [e3]
      clear e3
      refine ⟨fun σ' H''=>Same H H''∧∃ zs' : List V,H'' l = some (.lst zs')∧FmL (FmV C H'' d) H'' (acc ++ [(lo,hi',pairF h_ d s_.2.2 t_.2.2)]) zs'∧σ' = [some (.ref a),some (.ref b),some (.int ((d + 1:Nat):Int)),some (.ref f_),some (.ref l),some (.int lo),some (.int (i:Int)),some (.int (j:Int)),some (.int hi')],?_,?_⟩
      · refine ⟨_,rfl,.inl ⟨rfl,_,SqL.of el⟩,_,rfl,_,rfl,_,rfl,_,rfl,a,_,_,_,rfl,rfl,SqT.of (sm _ _ ha),atI_nat ex1,r1,_,_,_,rfl,rfl,SqT.of (sm _ _ er1),rfl,_,rfl,_,rfl,b,_,_,_,rfl,rfl,SqT.of (sm _ _ hb),atI_nat ex2,r2,_,_,_,rfl,rfl,SqT.of (sm _ _ er2),rfl,_,rfl,_,_,rfl,rfl,_,rfl,L,M,N,iL,iM,iN,A,B,C,h_,J,d,s_.2.2,t_.2.2,u1,u2,f_,r,by simp,by omega,by omega,FmV.mono sm.tups hu1,FmV.mono sm.tups hu2,hall s_ ms,hall' t_ mt,hsmf s_ ms,hsmg t_ mt,hL,hL.st _ _ hJ sm,fun v H5 s5 hv=>?_⟩
        refine ⟨(by show 3 ≤ sizeLine; decide),fun t3 ht3=>?_⟩
        have s6:Same H5 (upd H5 t3 (.tup [.int lo,.int hi',v])):=same_new ht3 _
        have e3:upd H5 t3 (.tup [.int lo,.int hi',v]) t3 = some (.tup [.int lo,.int hi',v]):=upd_same
        generalize upd H5 t3 (.tup [.int lo,.int hi',v]) = H6 at s6 e3 ⊢
        have s56:=s5.trans s6
        have el6:=s56 _ _ el
        refine ⟨l,zs,_,rfl,rfl,el6,small1000 (by have:=hz'.1; omega),?_⟩
        have st:SameT H6 (upd H6 l (.lst (zs ++ [.ref t3]))):=sameT_lst el6
        exact ⟨(sm.trans s56).upd hl,_,upd_same,(hz'.mono (fun _ _ z=>FmV.mono (s56.tups.trans st) z) (s56.tups.trans st)).snoc (t:=(lo,hi',pairF h_ d s_.2.2 t_.2.2)) (st _ _ e3) (FmV.mono (s6.tups.trans st) hv),rfl⟩
      rintro σ3 H3 ⟨s3,zs',el3,hz3,rfl⟩
      refine ⟨fun σ' H''=>H'' = H3∧σ' = [some (.ref a),some (.ref b),some (.int ((d + 1:Nat):Int)),some (.ref f_),some (.ref l),some (.int lo),some (.int ((if s_.2.1 ≤ t_.2.1 then i + 1 else i:Nat):Int)),some (.int (j:Int)),some (.int hi')],?_,?_⟩
      · refine ⟨_,rfl,_,rfl,a,_,_,_,rfl,rfl,SqT.of (s3 _ _ ha),atI_nat ex1,r1,_,_,_,rfl,rfl,SqT.of (s3 _ _ er1),rfl,_,rfl,rfl,_,rfl,?_⟩
        refine ite2 (fun gg=>?_) (fun gg=>?_)
        · have gg:s_.2.1 = hi':=V.int.inj (dec_t gg)
          have e:s_.2.1 ≤ t_.2.1:=by split at ehi <;> omega
          rw [if_pos e]
          exact ⟨_,rfl,_,_,rfl,rfl,rfl,rfl⟩
        · have gg:¬ s_.2.1 = hi':=fun z=>dec_f gg (by rw [z])
          have e:¬ s_.2.1 ≤ t_.2.1:=by split at ehi <;> omega
          rw [if_neg e]
          exact ⟨rfl,rfl⟩
      rintro σ4 H4 ⟨e4,rfl⟩
      rw [e4]
      clear e4
      refine ⟨fun σ' H''=>H'' = H3∧σ' = [some (.ref a),some (.ref b),some (.int ((d + 1:Nat):Int)),some (.ref f_),some (.ref l),some (.int lo),some (.int ((if s_.2.1 ≤ t_.2.1 then i + 1 else i:Nat):Int)),some (.int ((if t_.2.1 ≤ s_.2.1 then j + 1 else j:Nat):Int)),some (.int hi')],?_,?_⟩
      · refine ⟨_,rfl,_,rfl,b,_,_,_,rfl,rfl,SqT.of (s3 _ _ hb),atI_nat ex2,r2,_,_,_,rfl,rfl,SqT.of (s3 _ _ er2),rfl,_,rfl,rfl,_,rfl,?_⟩
        refine ite2 (fun gg=>?_) (fun gg=>?_)
        · have gg:t_.2.1 = hi':=V.int.inj (dec_t gg)
          have e:t_.2.1 ≤ s_.2.1:=by split at ehi <;> omega
          rw [if_pos e]
          exact ⟨_,rfl,_,_,rfl,rfl,rfl,rfl⟩
        · have gg:¬ t_.2.1 = hi':=fun z=>dec_f gg (by rw [z])
          have e:¬ t_.2.1 ≤ s_.2.1:=by split at ehi <;> omega
          rw [if_neg e]
          exact ⟨rfl,rfl⟩
      rintro σ4 H4 ⟨e4,rfl⟩
      rw [e4]
      clear e4
      refine ⟨_,rfl,_,_,rfl,rfl,_,?_,_,_,_,_,_,_,rfl,?_,?_,s3,el3,hz3,?_,?_,?_,?_,rfl⟩
      · split <;> split <;> omega
      · split <;> omega
      · split <;> omega
      · rw [hacc,zipT,List.append_assoc]
        show _ = acc ++ (lo,hi',pairF h_ d s_.2.2 t_.2.2) :: _
        rw [ehi]
        by_cases q1:s_.2.1 < t_.2.1
        · have e1:(if t_.2.1 < s_.2.1 then t_.2.1 else s_.2.1) = s_.2.1:=if_neg (by omega)
          have e2:(if s_.2.1 ≤ t_.2.1 then i + 1 else i) = i + 1:=if_pos (by omega)
          have e3:(if t_.2.1 ≤ s_.2.1 then j + 1 else j) = j:=if_neg (by omega)
          rw [if_pos q1,e1,e2,e3,drop_at et]
          rfl
        · rw [if_neg q1]
          by_cases q2:t_.2.1 < s_.2.1
          · have e2:(if s_.2.1 ≤ t_.2.1 then i + 1 else i) = i:=if_neg (by omega)
            have e3:(if t_.2.1 ≤ s_.2.1 then j + 1 else j) = j + 1:=if_pos (by omega)
            rw [if_pos q2,if_pos q2,e2,e3,drop_at es]
            rfl
          · have e2:(if s_.2.1 ≤ t_.2.1 then i + 1 else i) = i + 1:=if_pos (by omega)
            have e3:(if t_.2.1 ≤ s_.2.1 then j + 1 else j) = j + 1:=if_pos (by omega)
            rw [if_neg q2,if_neg q2,e2,e3]
            rfl
      · rw [ehi]
        by_cases q1:s_.2.1 ≤ t_.2.1
        · rw [if_pos q1,if_neg (by omega)]
          exact cf2.cov
        · rw [if_neg q1,if_pos (by omega),drop_at es]
          exact ⟨by omega,cf2⟩
      · rw [ehi]
        by_cases q1:t_.2.1 ≤ s_.2.1
        · rw [if_pos q1]
          have e:(if t_.2.1 < s_.2.1 then t_.2.1 else s_.2.1) = t_.2.1:=by split <;> omega
          rw [e]
          exact cg2.cov
        · rw [if_neg q1,if_neg (by omega),drop_at et]
          exact ⟨by omega,cg2⟩
      · rw [List.length_append,List.length_singleton]
        split <;> split <;> omega
    · have hi2:i = f.length:=by have:¬ (i:Int) < ((xs.length:Nat):Int):=dec_f gd; omega
      rw [hi2,List.drop_length,zipT,List.append_nil] at hacc
      rw [← hacc] at hz'
      refine ⟨_,rfl,N,iN,C,d,l,zs,z,rfl,by omega,el,hz',by have:=hz.len; omega,fun r2 H2 s2 hfm=>?_⟩
      refine q _ H2 (sm.trans s2) ?_
      rw [← epF] at hfm
      exact hfm
theorem O_2 (F:Fun K "built" "built" Y2 f fd) (bl:Bl K mg) (c_layered:Callee P w K mg base 10 "layered" ["columns", "ahead", "leaf"] (J21 K P w mg base 7)) (c_grain:Callee P w K mg base 10 "grain" ["bounds", "marks"] (J7 K)) (c_cut_columns:Callee P w K mg base 10 "cut_columns" ["bounds", "marks"] (J5 K)):FnOk P w K mg base CX0 11 f fd ["bounds", "marks", "leaf"] (J2 K P w mg base):=by
  refine F.ok Z2 (fun vs H Q E h=>?_) (fun cdv A outer s H vs Q E hr h=>?_)
  · obtain ⟨a,b,f_,ys,ps,as,mss,L,iL,A,g,J,rfl,ha,hP,hb,hM,hok,hg,hL,hJ,q⟩:=h
    rfl
  obtain ⟨a,b,f_,ys,ps,as,mss,L,iL,A,g,J,rfl,ha,hP,hb,hM,hok,hg,hL,hJ,q⟩:=h
  refine ⟨_,(pss_cons (ps_if (pt_cmpR op_gt (pe_fn c_grain hr rfl (pa_cons (pv 0) (pa_cons (pv 1) pa_nil))) (pe_gl rfl bl.MOST_GRAIN_) (nomark _))
     (pss_one ps_never)
     pss_nil)
     (pss_one (ps_ret (pe_fn c_layered hr rfl (pa_cons (pe_fn c_cut_columns hr rfl (pa_cons (pv 0) (pa_cons (pv 1) pa_nil))) (pa_cons (pe_lst pa_nil) (pa_cons (pv 2) pa_nil))))))),?_⟩
  have hyl:=hP.length
  obtain ⟨ok1,ok2,ok3⟩:=hok
  refine ⟨_,rfl,_,rfl,a,b,ys,ps,as,mss,rfl,ha,hP,hb,hM,⟨ok1,ok2,ok3⟩,fun H1 s1=>?_⟩
  refine ⟨_,_,rfl,rfl,_,rfl,?_⟩
  refine ite2 (fun g=>absurd (dec_t g) (by omega)) (fun _=>?_)
  refine ⟨_,rfl,_,rfl,a,b,ys,ps,as,mss,rfl,s1 _ _ ha,hP.mono s1.tups,s1 _ _ hb,hM.same s1,⟨ok1,ok2,ok3⟩,fun l xs H2 css s2 el hcs hpr hx=>?_⟩
  refine ⟨(by show 0 ≤ sizeLine; decide),fun t ht=>?_⟩
  have s3:Same H2 (upd H2 t (.lst [])):=same_new ht _
  have et:upd H2 t (.lst []) t = some (.lst []):=upd_same
  generalize upd H2 t (.lst []) = H3 at s3 et ⊢
  have s13:=(s1.trans s2).trans s3
  have hzl:(List.zipWith (fun p cs=>stre p.1 p.2 cs) ps css).length = ps.length:=by rw [List.length_zipWith]; omega
  refine ⟨_,rfl,l,t,f_,xs,_,[],ps.length,L,iL,A,g,J,rfl,by omega,s3 _ _ el,hx.same s3,et,fun col hcol=>?_,by rw [hzl]; show 0 + ps.length ≤ 6; omega,by omega,by rw [hzl]; show ps.length = 0 + ps.length; omega,hL,hL.st _ _ hJ s13,fun v H4 h4 hv=>?_⟩
  · obtain ⟨j,ej⟩:=List.getElem?_of_mem hcol
    have hj:j < (List.zipWith (fun p cs=>stre p.1 p.2 cs) ps css).length:=(List.getElem?_eq_some_iff.mp ej).1
    obtain ⟨p,ep⟩:∃ p,ps[j]? = some p:=⟨_,List.getElem?_eq_getElem (by omega)⟩
    obtain ⟨cs,ec⟩:∃ cs,css[j]? = some cs:=⟨_,List.getElem?_eq_getElem (by omega)⟩
    obtain ⟨ms,em⟩:∃ ms,mss[j]? = some ms:=⟨_,List.getElem?_eq_getElem (by omega)⟩
    rw [List.getElem?_zipWith,ep,ec] at ej
    have ej:stre p.1 p.2 cs = col:=Option.some.inj ej
    rw [← ej,stre_len]
    have:=(hpr j p ms cs ep em ec).2.2
    omega
  · exact q v H4 css (fun d o ed=>h4 d o (fun z=>by have f:=(s1.trans s2).free ht; rw [z,f] at ed; cases ed) (s13 _ _ ed)) hcs hpr hv
theorem clo_law_further__law_change {c'  : Addr} {doc pm ctv:Value} (bl:Bl K mg)  (inj:∀ x y c,([]:List (Str × Addr)).lookup x = some c→([]:List (Str × Addr)).lookup y = some c→x = y):HFn P w K mg base 3 f (J14 K f c'  doc pm ctv):=by
  refine clo_ok (x := "_law_change") (qual := "_law_further.<locals>._law_change") (st:=Y14) (c':=c') (cl:=[]) (doc:=doc) (pm:=pm) (ctv:=ctv) Z14 inj (fun us hu=>match us,hu with | [u0],_=>rfl) (fun vs H Q E h=>?_) (fun A outer s H vs Q E hr h=>?_)
  · obtain ⟨x,rfl,hclo,q⟩:=h
    rfl
  obtain ⟨x,rfl,hclo,q⟩:=h
  refine ⟨_,hclo,free_of rfl,fun hcs=>⟨_,(pss_one (ps_ret (pe_op op_add (pe_op op_mul (pv 0) pe_int) pe_int))),?_⟩⟩
  exact ⟨_,rfl,_,_,rfl,rfl,.inr ⟨by decide,by decide⟩,_,_,rfl,rfl,fun _=>q⟩
theorem clo_law_further__law_pair {c'  : Addr} {doc pm ctv:Value} (bl:Bl K mg)  (inj:∀ x y c,([]:List (Str × Addr)).lookup x = some c→([]:List (Str × Addr)).lookup y = some c→x = y):HFn P w K mg base 3 f (J15 K f c'  doc pm ctv):=by
  refine clo_ok (x := "_law_pair") (qual := "_law_further.<locals>._law_pair") (st:=Y15) (c':=c') (cl:=[]) (doc:=doc) (pm:=pm) (ctv:=ctv) Z15 inj (fun us hu=>match us,hu with | [u0,u1],_=>rfl) (fun vs H Q E h=>?_) (fun A outer s H vs Q E hr h=>?_)
  · obtain ⟨x,y,rfl,hclo,q⟩:=h
    rfl
  obtain ⟨x,y,rfl,hclo,q⟩:=h
  refine ⟨_,hclo,free_of rfl,fun hcs=>⟨_,(pss_one (ps_ret (pe_op op_add (pe_op op_mul (pv 0) pe_int) (pv 1)))),?_⟩⟩
  exact ⟨_,rfl,_,_,rfl,rfl,.inr ⟨by decide,by decide⟩,_,rfl,_,_,rfl,rfl,fun _=>q⟩
theorem O_12 (F:Fun K "_law_further" "_law_further" Y13 f fd) (bl:Bl K mg) (c_boxes:Callee P w K mg base 10 "boxes" ["form", "deep"] (J1 K 7)) (c_marks_of:Callee P w K mg base 10 "marks_of" ["form", "deep"] (J24 K 7)) (c_mapped:Callee P w K mg base 10 "mapped" ["form", "deep", "change"] (J23 K P w mg base 7)) (c_paired:Callee P w K mg base 10 "paired" ["one", "other", "deep", "pair"] (J25 K P w mg base 7)) {cL tP:Addr} (hcd:fd.code = .ref cL) (ht:PySem.W.tabIn K "_law_further" = some (cL,tP)) (hT:PySem.W.CodeHd base cL tP∧base.BuiltinsAt mg tP):FnOk P w K mg base CX0 11 f fd ["_law_form", "_law_found", "_law_bounds_here"] (J13 K):=by
  refine F.okT hcd Z13 (fun vs H Q E h=>?_) (fun A outer s H vs Q E hr h=>?_)
  · obtain ⟨v,fo,bo,xs,ys,ps,F_,css,rfl,hv,hfo,hX,hbo,hPy,h6,hsh,hsm,hbd,hbl,hcl,hLs,h57,hP,q⟩:=h
    rfl
  obtain ⟨v,fo,bo,xs,ys,ps,F_,css,rfl,hv,hfo,hX,hbo,hPy,h6,hsh,hsm,hbd,hbl,hcl,hLs,h57,hP,q⟩:=h
  refine ⟨_,(pss_cut (ps_set (i:=3) Z13.nd rfl (Or.inl rfl) (pe_callB call_len_seq rfl bl.len_ PySem.boot_len (pa_cons (pv 2) pa_nil)))
     (pss_cut (ps_def (i:=4) (clos:=[]) Z13.nd rfl (Or.inl rfl) rfl hT.1 hT.2 rfl (List.forall_mem_nil _))
     (pss_cut (ps_def (i:=5) (clos:=[]) Z13.nd rfl (Or.inl rfl) rfl hT.1 hT.2 rfl (List.forall_mem_nil _))
     (pss_cut (ps_if (pt_cmpR (op_neDL hr) (pe_fn c_boxes hr rfl (pa_cons (pe_fn c_mapped hr rfl (pa_cons (pv 0) (pa_cons (pv 3) (pa_cons (pv 4) pa_nil)))) (pa_cons (pv 3) pa_nil))) (pe_comp (pi_list (pv 1)) (cmpOk_plain rfl (by decide +kernel) (by decide +kernel) (by decide +kernel) rfl) rfl (fun _ _ _ _=>pif_nil) (fun _ _ _ _=>(pe_tup (pa_cons (pe_ix (ix_tupK (K:=K) rfl) (pv 0) pe_int (fun _ _=>rfl)) (pa_cons (pe_op op_add (pe_op op_mul (pe_ix (ix_tupK (K:=K) rfl) (pv 0) pe_int (fun _ _=>rfl)) pe_int) pe_int) pa_nil))))) (nomark _))
     (pss_one (ps_ret pe_bl))
     pss_nil)
     (pss_cut (ps_if (pt_cmpR (op_neDL hr) (pe_fn c_boxes hr rfl (pa_cons (pe_fn c_paired hr rfl (pa_cons (pv 0) (pa_cons (pv 0) (pa_cons (pv 3) (pa_cons (pv 5) pa_nil))))) (pa_cons (pv 3) pa_nil))) (pe_comp (pi_list (pv 1)) (cmpOk_plain rfl (by decide +kernel) (by decide +kernel) (by decide +kernel) rfl) rfl (fun _ _ _ _=>pif_nil) (fun _ _ _ _=>(pe_tup (pa_cons (pe_ix (ix_tupK (K:=K) rfl) (pv 0) pe_int (fun _ _=>rfl)) (pa_cons (pe_op op_mul (pe_ix (ix_tupK (K:=K) rfl) (pv 0) pe_int (fun _ _=>rfl)) pe_int) pa_nil))))) (nomark _))
     (pss_one (ps_ret pe_bl))
     pss_nil)
     (pss_cut (ps_set (i:=6) Z13.nd rfl (Or.inl rfl) (pe_lst pa_nil))
     (pss_cut (ps_for PassesOwn.never rfl (pi_range1 rfl bl.range_ (pa_cons (pv 3) pa_nil)) (pg_name (i:=7) Z13.nd rfl (Or.inr rfl))
     (pss_cut (ps_set (i:=8) Z13.nd rfl (Or.inl rfl) (pe_callB (call_sorted_setZ (w:=w) rfl rfl) rfl bl.sorted_ PyProof.Rows.boot_sorted (pa_cons (pe_callTy (call_setZ (w:=w) rfl rfl) rfl bl.set_ PyProof.Rows.boot_set (pa_cons (pe_comp (pi_list (pv 1)) (cmpOk_free (N:=["_law_part", "_law_k"]) (fr:=[7]) (cl:=[("_law_k",s.heap.objs.size + 1 + 1)]) rfl rfl (by decide +kernel) (by decide +kernel) rfl (by decide +kernel) rfl rfl rfl (List.forall_mem_cons.mpr ⟨rfl,List.forall_mem_nil _⟩) rfl) rfl (fun _ _ _ _=>pif_nil) (fun _ _ _ _=>(pe_ix (ix_tupK (K:=K) rfl) (pe_ix (ix_tupK (K:=K) rfl) (pe_ix (ix_tupK (K:=K) rfl) (pv 0) pe_int (fun _ _=>rfl)) (pv 1) (fun _ _=>rfl)) pe_int (fun _ _=>rfl)))) pa_nil)) pa_nil)))
     (pss_one (ps_expr (pe_bm PySem.F.plainAttrs_list PySem.F.slot_list_append PySem.F.type_list_append mt_append (pv 6) (pa_cons (pe_comp (pi_list (pv 8)) (cmpOk_free (N:=["_law_low", "_law_bounds_here", "_law_k"]) (fr:=[2,7]) (cl:=[("_law_k",s.heap.objs.size + 1 + 1),("_law_bounds_here",s.heap.objs.size + 1)]) rfl rfl (by decide +kernel) (by decide +kernel) rfl (by decide +kernel) rfl rfl rfl (List.forall_mem_cons.mpr ⟨rfl,List.forall_mem_cons.mpr ⟨rfl,List.forall_mem_nil _⟩⟩) rfl) rfl (fun _ _ _ _=>(pif_one (pt_cmpR op_gt (pv 0) (pe_ix (ix_tupK (K:=K) rfl) (pe_ix (ix_listK (K:=K) rfl) (pv 1) (pv 2) (fun _ _=>rfl)) pe_int (fun _ _=>rfl)) (nomark _)))) (fun _ _ _ _=>(pv 0))) pa_nil))))))
     (pss_one (ps_ret (pe_cmpR (op_eqDL hr) (pe_fn c_marks_of hr rfl (pa_cons (pv 0) (pa_cons (pv 3) pa_nil))) (pv 6) (nomark _))))))))))),?_⟩
  have hPt:H tP = some (.tbl #[]):=hP _ ht
  have hyl:=hPy.length
  have hxl:=hX.length
  have b6:∀ q ∈ bxs ps.length F_,q.1.length ≤ 6:=fun q hq=>by rw [(bx_in hsh q hq).1.len]; exact h6
  refine ⟨fun σ' H'=>H' = H∧σ' = [some v,some (.ref fo),some (.ref bo),some (.int (ps.length:Int)),none,none,none,none,none],?_,?_⟩
  · refine ⟨_,rfl,bo,_,rfl,.inl (SqL.of hbo),rfl,?_⟩
    rw [hyl]
    rfl
  rintro σ1 H1 ⟨e1,rfl⟩
  rw [e1]
  clear e1
  refine ⟨fun σ' H'=>(∀ b o,(∀ z,o ≠ .tbl z)→H b = some o→H' b = some o)∧∃ (f1 ca:Addr) (da pa ta:Value) (oa:Obj),H' tP = some (.tbl (#[] ++ #[rawInt 151,rawInt 4,.ref ca]))∧H' f1 = some (.frz (PySem.W.fnMade "_law_change" "_law_further.<locals>._law_change" (defArgs Y14) (defBody Y14) (defScope Y14) [] da pa ca ta) TTh)∧H' ca = some (.frz oa TTh)∧CodeO oa "_law_further.<locals>._law_change" ∧ σ' = [some v,some (.ref fo),some (.ref bo),some (.int (ps.length:Int)),some (.ref f1),none,none,none,none],?_,?_⟩
  · refine ⟨#[],hPt,trivial,rfl,fun f_ c' oc doc pm ctv hf hc ne n1 n2 ho inj=>⟨fun b o ho' e=>?_,f_,c',doc,pm,ctv,oc,(upd_ne n1.symm).trans ((upd_ne n2.symm).trans upd_same),upd_same,(upd_ne ne.symm).trans upd_same,ho,rfl⟩⟩
    rw [upd_ne (ne_of_none e hf),upd_ne (ne_of_none e hc),upd_ne fun z=>by rw [z,hPt] at e; cases e; exact ho' _ rfl]
    exact e
  rintro σ1 H1 ⟨s1,f1,ca,da,pa,ta,oa,hPt1,hfA1,hcA1,hkA,rfl⟩
  refine ⟨fun σ' H'=>(∀ b o,(∀ z,o ≠ .tbl z)→H1 b = some o→H' b = some o)∧∃ (f2 cb:Addr) (db pb tb:Value) (ob:Obj),H' f2 = some (.frz (PySem.W.fnMade "_law_pair" "_law_further.<locals>._law_pair" (defArgs Y15) (defBody Y15) (defScope Y15) [] db pb cb tb) TTh)∧H' cb = some (.frz ob TTh)∧CodeO ob "_law_further.<locals>._law_pair" ∧ σ' = [some v,some (.ref fo),some (.ref bo),some (.int (ps.length:Int)),some (.ref f1),some (.ref f2),none,none,none],?_,?_⟩
  · refine ⟨_,hPt1,trivial,rfl,fun f_ c' oc doc pm ctv hf hc ne n1 n2 ho inj=>⟨fun b o ho' e=>?_,f_,c',doc,pm,ctv,oc,upd_same,(upd_ne ne.symm).trans upd_same,ho,rfl⟩⟩
    rw [upd_ne (ne_of_none e hf),upd_ne (ne_of_none e hc),upd_ne fun z=>by rw [z,hPt1] at e; cases e; exact ho' _ rfl]
    exact e
  rintro σ2 H2 ⟨s2,f2,cb,db,pb,tb,ob,hfB,hcB,hkB,rfl⟩
  have nt:∀ {o:Obj} {z:Array Value},HO.frz o TTh ≠ .tbl z:=fun {o z} q=>by cases q
  have ntl:∀ {o:List V} {z:Array Value},HO.lst o ≠ .tbl z:=fun {o z} q=>by cases q
  have s12:∀ b o,(∀ z,o ≠ .tbl z)→H b = some o→H2 b = some o:=fun b o h e=>s2 b o h (s1 b o h e)
  have t2:SameT H H2:=fun b xs e=>s12 b _ (fun z=>by intro q; cases q) e
  have hfA:=s2 _ _ (fun z=>nt) hfA1
  have hcA:=s2 _ _ (fun z=>nt) hcA1
  have hfo2:=s12 _ _ (fun z=>ntl) hfo
  have hbo2:=s12 _ _ (fun z=>ntl) hbo
  have hv2:=FmV.mono t2 hv
  have hX2:=hX.mono t2
  have hP2:PL H2 ys ps:=PL.mono hPy t2
  clear hv hfo hX hbo hPy hfA1 hcA1 hPt hPt1 hP s1 s2 s12 t2
  obtain ⟨JA,hJA⟩:∃ J:Hp→Prop,J = (fun H=>CloAt H f1 ca (PySem.W.fnMade "_law_change" "_law_further.<locals>._law_change" (defArgs Y14) (defBody Y14) (defScope Y14) [] da pa ca ta) "_law_further.<locals>._law_change" [] []):=⟨_,rfl⟩
  obtain ⟨JB,hJB⟩:∃ J:Hp→Prop,J = (fun H=>CloAt H f2 cb (PySem.W.fnMade "_law_pair" "_law_further.<locals>._law_pair" (defArgs Y15) (defBody Y15) (defScope Y15) [] db pb cb tb) "_law_further.<locals>._law_pair" [] []):=⟨_,rfl⟩
  have inj0:∀ x y c,([]:List (Str × Addr)).lookup x = some c→([]:List (Str × Addr)).lookup y = some c→x = y:=fun x y c e=>by cases e
  have hnA:=clo_law_further__law_change (f:=f1) (c':=ca) (doc:=da) (pm:=pa) (ctv:=ta) (P:=P) (w:=w) (K:=K) (mg:=mg) (base:=base) bl inj0
  have hnB:=clo_law_further__law_pair (f:=f2) (c':=cb) (doc:=db) (pm:=pb) (ctv:=tb) (P:=P) (w:=w) (K:=K) (mg:=mg) (base:=base) bl inj0
  have hCA:ChOk LInt LInt P w K mg base f1 (fun x=>x * 2 + 1) JA:=by
    rw [hJA]
    exact ⟨⟨_,hnA,fun H v x Q hJ hv q=>⟨x,by rw [show v = .int x from hv],hJ,q _ H (Same.refl _) rfl⟩⟩,fun H hJ=>⟨_,_,hJ.1,rfl⟩,fun H H' hJ s=>hJ.same s⟩
  have hCB:PrOk LInt LInt LInt P w K mg base f2 (fun x y=>x * 3 + y) JB:=by
    rw [hJB]
    exact ⟨⟨_,hnB,fun H v u x y Q hJ hv hu q=>⟨x,y,by rw [show v = .int x from hv,show u = .int y from hu],hJ,q _ H (Same.refl _) rfl⟩⟩,fun H hJ=>⟨_,_,hJ.1,rfl⟩,fun H H' hJ s=>hJ.same s⟩
  have jA:JA H2:=by rw [hJA]; exact ⟨hfA,⟨oa,hcA,hkA⟩,cells0 _⟩
  have jB:JB H2:=by rw [hJB]; exact ⟨hfB,⟨ob,hcB,hkB⟩,cells0 _⟩
  refine ⟨fun σ' H'=>Same H2 H'∧σ' = [some v,some (.ref fo),some (.ref bo),some (.int (ps.length:Int)),some (.ref f1),some (.ref f2),none,none,none],?_,?_⟩
  · refine ⟨_,rfl,_,rfl,_,rfl,Int,Int,_,_,LInt,LInt,fun x=>x * 2 + 1,JA,ps.length,F_,v,f1,rfl,by omega,h6,hv2,hsm,hCA,jA,fun u H3 s3 hu=>?_⟩
    rw [map_is (fun x y e=>by omega) hsh] at hu
    refine ⟨_,rfl,ps.length,_,u,rfl,hu,by omega,by rw [mp_bxs,List.length_map]; omega,fun q hq=>?_,fun l zs H4 s4 _ el hz=>?_⟩
    · rw [mp_bxs] at hq
      obtain ⟨q',hq',rfl⟩:=List.mem_map.mp hq
      exact b6 q' hq'
    rw [mp_bxs] at hz
    have s24:=s3.trans s4
    refine ⟨_,rfl,fo,rfl,⟨_,SqL.of (s24 _ _ hfo2)⟩,comp_list (xs:=xs) (fun D i ws H'=>Same H4 H'∧H' D = some (.lst ws)∧BxL H' ws (((bxs ps.length F_).take i).map fun q=>(q.1,q.2 * 2 + 1))∧ws.length ≤ i)
      (fun D hD=>⟨same_new hD _,upd_same,.nil,Nat.zero_le _⟩) (fun D i ws H' hD _ h=>SqL.of (h.1 _ _ (s24 _ _ hfo2))) (fun D i x ws H' hD e h=>?_) (fun D ws H' hD h=>?_)⟩
    · obtain ⟨sm,eD,hw,hwl⟩:=h
      have hi:i < xs.length:=(List.getElem?_eq_some_iff.mp e).1
      obtain ⟨q2,eq2,t2,b2,rfl,et2,hb2⟩:=paired_get (hX2.mono (s24.trans sm).tups) e
      refine ⟨_,rfl,t2,_,_,_,rfl,rfl,SqT.of et2,rfl,_,rfl,t2,_,_,_,rfl,rfl,SqT.of et2,rfl,_,_,rfl,rfl,.inr ⟨by decide,by decide⟩,_,_,rfl,rfl,small2,fun p hp=>?_⟩
      have u1:=same_new hp (.tup [.ref b2,.int (q2.2 * 2 + 1)])
      have g1:upd H' p (.tup [.ref b2,.int (q2.2 * 2 + 1)]) p = some (.tup [.ref b2,.int (q2.2 * 2 + 1)]):=upd_same
      generalize upd H' p (.tup [.ref b2,.int (q2.2 * 2 + 1)]) = H5 at u1 g1 ⊢
      have st5:SameT H5 (upd H5 D (.lst (ws ++ [.ref p]))):=sameT_lst (u1 _ _ eD)
      refine CYes.mk hi (u1 _ _ eD) (small1000 (by omega)) ⟨(sm.trans u1).upd hD,upd_same,?_,by rw [List.length_append,List.length_singleton]; omega⟩
      rw [take_snoc eq2,List.map_append]
      exact paired_app (hw.mono (u1.tups.trans st5)) (.cons ⟨p,b2,rfl,st5 _ _ g1,hb2.mono (u1.tups.trans st5)⟩ .nil)
    · obtain ⟨sm,eD,hw,hwl⟩:=h
      rw [hxl,List.take_length] at hw
      refine ⟨l,D,_,_,rfl,rfl,SqL.of (sm _ _ el),SqL.of eD,.inr ⟨by rw [hz.length,hw.length],fun _=>true,fun j x y e1 e2=>bx_deq (hz.mono sm.tups) hw e1 e2,?_⟩⟩
      rw [if_pos rfl,List.all_eq_true.mpr (fun _ _=>rfl)]
      exact ⟨_,rfl,iteF ⟨s24.trans sm,rfl⟩⟩
  rintro σ3 H3 ⟨s3,rfl⟩
  refine ⟨fun σ' H'=>Same H2 H'∧σ' = [some v,some (.ref fo),some (.ref bo),some (.int (ps.length:Int)),some (.ref f1),some (.ref f2),none,none,none],?_,?_⟩
  · refine ⟨_,rfl,_,rfl,_,rfl,_,rfl,Int,Int,Int,_,_,_,LInt,LInt,LInt,fun x y=>x * 3 + y,JB,ps.length,F_,F_,v,v,f2,ps,rfl,by omega,h6,FmV.mono s3.tups hv2,FmV.mono s3.tups hv2,hsh,hsh,hsm,hsm,hCB,hCB.st _ _ jB s3,fun u H4 s4 hu=>?_⟩
    rw [pair_is (fun x y e=>by omega) hsh,show (fun x:Int=>x * 3 + x) = fun x=>x * 4 from funext fun x=>by omega] at hu
    refine ⟨_,rfl,ps.length,_,u,rfl,hu,by omega,by rw [mp_bxs,List.length_map]; omega,fun q hq=>?_,fun l zs H5 s5 _ el hz=>?_⟩
    · rw [mp_bxs] at hq
      obtain ⟨q',hq',rfl⟩:=List.mem_map.mp hq
      exact b6 q' hq'
    rw [mp_bxs] at hz
    have s25:=(s3.trans s4).trans s5
    refine ⟨_,rfl,fo,rfl,⟨_,SqL.of (s25 _ _ hfo2)⟩,comp_list (xs:=xs) (fun D i ws H'=>Same H5 H'∧H' D = some (.lst ws)∧BxL H' ws (((bxs ps.length F_).take i).map fun q=>(q.1,q.2 * 4))∧ws.length ≤ i)
      (fun D hD=>⟨same_new hD _,upd_same,.nil,Nat.zero_le _⟩) (fun D i ws H' hD _ h=>SqL.of (h.1 _ _ (s25 _ _ hfo2))) (fun D i x ws H' hD e h=>?_) (fun D ws H' hD h=>?_)⟩
    · obtain ⟨sm,eD,hw,hwl⟩:=h
      have hi:i < xs.length:=(List.getElem?_eq_some_iff.mp e).1
      obtain ⟨q2,eq2,t2,b2,rfl,et2,hb2⟩:=paired_get (hX2.mono (s25.trans sm).tups) e
      refine ⟨_,rfl,t2,_,_,_,rfl,rfl,SqT.of et2,rfl,_,rfl,t2,_,_,_,rfl,rfl,SqT.of et2,rfl,_,_,rfl,rfl,.inr ⟨by decide,by decide⟩,small2,fun p hp=>?_⟩
      have u1:=same_new hp (.tup [.ref b2,.int (q2.2 * 4)])
      have g1:upd H' p (.tup [.ref b2,.int (q2.2 * 4)]) p = some (.tup [.ref b2,.int (q2.2 * 4)]):=upd_same
      generalize upd H' p (.tup [.ref b2,.int (q2.2 * 4)]) = H6 at u1 g1 ⊢
      have st5:SameT H6 (upd H6 D (.lst (ws ++ [.ref p]))):=sameT_lst (u1 _ _ eD)
      refine CYes.mk hi (u1 _ _ eD) (small1000 (by omega)) ⟨(sm.trans u1).upd hD,upd_same,?_,by rw [List.length_append,List.length_singleton]; omega⟩
      rw [take_snoc eq2,List.map_append]
      exact paired_app (hw.mono (u1.tups.trans st5)) (.cons ⟨p,b2,rfl,st5 _ _ g1,hb2.mono (u1.tups.trans st5)⟩ .nil)
    · obtain ⟨sm,eD,hw,hwl⟩:=h
      rw [hxl,List.take_length] at hw
      refine ⟨l,D,_,_,rfl,rfl,SqL.of (sm _ _ el),SqL.of eD,.inr ⟨by rw [hz.length,hw.length],fun _=>true,fun j x y e1 e2=>bx_deq (hz.mono sm.tups) hw e1 e2,?_⟩⟩
      rw [if_pos rfl,List.all_eq_true.mpr (fun _ _=>rfl)]
      exact ⟨_,rfl,iteF ⟨s25.trans sm,rfl⟩⟩
  rintro σ4 H4 ⟨s4,rfl⟩
  refine ⟨fun σ' H'=>Same H2 H'∧∃ du:Addr,H2 du = none∧H' du = some (.lst [])∧σ' = [some v,some (.ref fo),some (.ref bo),some (.int (ps.length:Int)),some (.ref f1),some (.ref f2),some (.ref du),none,none],?_,?_⟩
  · exact ⟨(by show 0 ≤ sizeLine; decide),fun du hdu=>⟨s4.trans (same_new hdu _),du,s4.free hdu,upd_same,rfl⟩⟩
  rintro σ5 H5 ⟨s5,du,hdu,edu,rfl⟩
  refine ⟨fun σ' H'=>Same H2 H'∧∃ (c7 c8:Option V) (rs:List Addr) (dss:List (List Int)),H' du = some (.lst (rs.map V.ref))∧(∀ r ∈ rs,r ≠ du)∧MLs H' rs dss∧dss.length = ps.length∧(∀ (c:Nat) (ms:List Int),dss[c]? = some ms→ms.Pairwise (· < ·)∧∀ m,m ∈ ms↔inMk ps.length F_ c m)∧σ' = [some v,some (.ref fo),some (.ref bo),some (.int (ps.length:Int)),some (.ref f1),some (.ref f2),some (.ref du),c7,c8],?_,?_⟩
  · refine ⟨_,rfl,_,rfl,(by show -(2 ^ 62) ≤ ((ps.length:Nat):Int); omega),(by show ((ps.length:Nat):Int) < 2 ^ 62; omega),for_range (fun i σ' H'=>Same H2 H'∧∃ (c7 c8:Option V) (rs:List Addr) (dss:List (List Int)),H' du = some (.lst (rs.map V.ref))∧(∀ r ∈ rs,r ≠ du)∧MLs H' rs dss∧dss.length = i∧(∀ (c:Nat) (ms:List Int),dss[c]? = some ms→ms.Pairwise (· < ·)∧∀ m,m ∈ ms↔inMk ps.length F_ c m)∧σ' = [some v,some (.ref fo),some (.ref bo),some (.int (ps.length:Int)),some (.ref f1),some (.ref f2),some (.ref du),c7,c8])
      ⟨s5,none,none,[],[],edu,(fun r hr=>by cases hr),⟨rfl,fun j ms e=>by simp at e⟩,rfl,(fun c ms e=>by simp at e),rfl⟩ (fun i σ H' hi h=>?_) (fun σ H' h=>?_)⟩
    · obtain ⟨sm,c7,c8,rs,dss,eu,hrs,hM,hdl,hds,rfl⟩:=h
      have hi2:i < ps.length:=by omega
      obtain ⟨p,ep⟩:∃ p,ps[i]? = some p:=⟨_,List.getElem?_eq_getElem hi2⟩
      obtain ⟨ks,ek⟩:∃ ks,css[i]? = some ks:=⟨_,List.getElem?_eq_getElem (by omega)⟩
      obtain ⟨y,ey⟩:∃ y,ys[i]? = some y:=⟨_,List.getElem?_eq_getElem (by omega)⟩
      obtain ⟨p',tp,ep',rfl,htp⟩:=hP2.get ey
      rw [ep] at ep'
      cases ep'
      have hk57:=h57 ks (List.mem_of_getElem? ek)
      have lowb:∀ q ∈ bxs ps.length F_,∃ b,q.1[i]? = some b∧p.1 ≤ b.1:=fun q hq=>by
        obtain ⟨hin,_,_⟩:=bx_in hsh q hq
        obtain ⟨b,eb⟩:∃ b,q.1[i]? = some b:=⟨_,List.getElem?_eq_getElem (by rw [hin.len]; exact hi2)⟩
        exact ⟨b,eb,(hin.get i b p eb ep).1⟩
      refine ⟨fun σ' H3=>Same H' H3∧∃ (lo:Addr) (ls:List Int),H' lo = none∧H3 lo = some (.lst (ls.map V.int))∧ls.length ≤ 64∧ls.Pairwise (· < ·)∧(∀ m,m ∈ ls↔∃ q ∈ bxs ps.length F_,∃ b,q.1[i]? = some b∧b.1 = m)∧σ' = [some v,some (.ref fo),some (.ref bo),some (.int (ps.length:Int)),some (.ref f1),some (.ref f2),some (.ref du),some (.int (0 + (i:Int))),some (.ref lo)],?_,?_⟩
      · refine ⟨_,rfl,fo,rfl,⟨_,SqL.of (sm _ _ hfo2)⟩,comp_list (xs:=xs) (fun D j zs H3=>Same H' H3∧H3 D = some (.lst zs)∧∃ ls:List Int,zs = ls.map V.int∧ls.length = j∧∀ m,m ∈ ls↔∃ q ∈ (bxs ps.length F_).take j,∃ b,q.1[i]? = some b∧b.1 = m)
          (fun D hD=>⟨same_new hD _,upd_same,[],rfl,rfl,fun m=>by simp⟩) (fun D j zs H3 hD _ h=>SqL.of (h.1 _ _ (sm _ _ hfo2))) (fun D j x zs H3 hD e h=>?_) (fun D zs H3 hD h=>?_)⟩
        · obtain ⟨s3',eD,ls,rfl,hll,hmem⟩:=h
          have hj:j < xs.length:=(List.getElem?_eq_some_iff.mp e).1
          obtain ⟨q2,eq2,t2,b2,rfl,et2,⟨bs,hb2,hPb⟩⟩:=paired_get (hX2.mono (sm.trans s3').tups) e
          obtain ⟨b,eb,_⟩:=lowb q2 (List.mem_of_getElem? eq2)
          obtain ⟨yb,eyb⟩:∃ yb,bs[i]? = some yb:=⟨_,List.getElem?_eq_getElem (by rw [hPb.length]; exact (List.getElem?_eq_some_iff.mp eb).1)⟩
          obtain ⟨pb',tb',epb,rfl,htb⟩:=hPb.get eyb
          rw [eb] at epb
          cases epb
          refine ⟨_,rfl,t2,_,_,_,rfl,rfl,SqT.of et2,rfl,_,rfl,b2,_,_,_,rfl,rfl,SqT.of hb2,getI eyb,tb',_,_,_,rfl,rfl,SqT.of htb,rfl,?_⟩
          refine CYes.mk hj eD (small1000 (by rw [List.length_map]; omega)) ⟨s3'.upd hD,upd_same,ls ++ [b.1],by rw [List.map_append]; rfl,by rw [List.length_append,List.length_singleton,hll],fun m=>?_⟩
          rw [List.mem_append,hmem m,take_snoc eq2,List.mem_singleton]
          constructor
          · rintro (⟨q,hq,h⟩ | rfl)
            · exact ⟨q,List.mem_append_left _ hq,h⟩
            · exact ⟨q2,List.mem_append_right _ (List.mem_singleton.mpr rfl),b,eb,rfl⟩
          · rintro ⟨q,hq,b',eb',e'⟩
            rcases List.mem_append.mp hq with hq | hq
            · exact .inl ⟨q,hq,b',eb',e'⟩
            · rw [List.mem_singleton.mp hq,eb] at eb'
              cases eb'
              exact .inr e'.symm
        · obtain ⟨s3',eD,ls,rfl,hll,hmem⟩:=h
          rw [hxl,List.take_length] at hmem
          refine ⟨D,ls,rfl,SqL.of eD,by omega,fun l hl=>?_⟩
          have s6:=same_new hl (SetZ w l ls)
          refine ⟨l,ls,p.1 :: ks,rfl,upd_same,by rw [List.length_cons]; omega,fun m hm=>?_,fun D2 cs hD2 pw mem=>⟨(s3'.trans s6).trans (same_new hD2 _),D2,cs,s3'.free (s6.free hD2),upd_same,?_,pw,fun m=>(mem m).trans (hmem m),rfl⟩⟩
          · obtain ⟨q,hq,b,eb,rfl⟩:=(hmem m).mp hm
            obtain ⟨b',eb',hle⟩:=lowb q hq
            rw [eb] at eb'
            cases eb'
            by_cases hlt:p.1 < b.1
            · obtain ⟨l',el',hml⟩:=hLs i b.1 ((low_iff hsh ep).mpr ⟨hlt,q,hq,b,eb,rfl⟩)
              rw [ek] at el'
              cases el'
              exact List.mem_cons_of_mem _ hml
            · rw [show b.1 = p.1 by omega]
              exact List.mem_cons_self
          · have:=nodup_sub_len (pw.imp fun h=>Int.ne_of_lt h) fun x hx=>(mem x).mp hx
            omega
      rintro σ6 H6 ⟨s6,lo,ls,hlo,elo,hll,hpw,hmem,rfl⟩
      have s26:=sm.trans s6
      refine ⟨_,rfl,.inl ⟨rfl,_,SqL.of (s6 _ _ eu)⟩,_,rfl,lo,rfl,⟨_,SqL.of elo⟩,comp_list (xs:=ls.map V.int) (fun D j zs H7=>Same H6 H7∧H7 D = some (.lst zs)∧zs = ((ls.take j).filter fun m=>decide (m > p.1)).map V.int∧zs.length ≤ j)
        (fun D hD=>⟨same_new hD _,upd_same,rfl,Nat.zero_le _⟩) (fun D j zs H7 hD _ h=>SqL.of (h.1 _ _ elo)) (fun D j x zs H7 hD e h=>?_) (fun D zs H7 hD h=>?_)⟩
      · obtain ⟨s7,eD,hz,hlz⟩:=h
        obtain ⟨x,rfl,ex⟩:=of_map e
        have hj:j < (ls.map V.int).length:=(List.getElem?_eq_some_iff.mp e).1
        have hj2:j < ls.length:=by rw [List.length_map] at hj; exact hj
        have s27:=s26.trans s7
        refine ⟨_,rfl,_,rfl,_,rfl,bo,_,_,_,rfl,rfl,SqL.of (s27 _ _ hbo2),getI ey,tp,_,_,_,rfl,rfl,SqT.of (s27 _ _ htp),rfl,_,_,rfl,rfl,_,rfl,?_⟩
        refine ite2 (fun g=>?_) (fun g=>?_)
        · refine ⟨_,rfl,CYes.mk hj eD (small1000 (by omega)) ⟨s7.upd hD,upd_same,?_,by rw [List.length_append,List.length_singleton]; omega⟩⟩
          rw [take_snoc ex,List.filter_append,List.filter_cons_of_pos (by exact g),hz]
          simp
        · refine CNext.mk (zs:=zs) hj ⟨s7,eD,?_,by omega⟩
          rw [take_snoc ex,List.filter_append,List.filter_cons_of_neg (by exact g)]
          simpa using hz
      · obtain ⟨s7,eD,hz,hlz⟩:=h
        rw [List.length_map,List.take_length] at hz
        rw [hz] at eD
        have eu7:=s7 _ _ (s6 _ _ eu)
        have nD:D ≠ du:=fun z=>by rw [z,s6 _ _ eu] at hD; cases hD
        have hrl:=hM.1
        obtain ⟨m1,m2⟩:=mls_put (l:=du) (t:=D) (zs:=rs.map V.ref ++ [.ref D]) hM hrs (s6.trans s7) eD nD
        refine ⟨du,_,_,rfl,rfl,eu7,small1000 (by rw [List.length_map]; omega),(s26.trans s7).upd hdu,_,_,rs ++ [D],dss ++ [ls.filter fun m=>decide (m > p.1)],upd_same.trans (by rw [List.map_append]; rfl),m2,m1,by rw [List.length_append,List.length_singleton,hdl],fun c ms e=>?_,rfl⟩
        by_cases hc:c < dss.length
        · rw [List.getElem?_append_left hc] at e
          exact hds c ms e
        · have hc2:c = i:=by
            have:=(List.getElem?_eq_some_iff.mp e).1
            rw [List.length_append,List.length_singleton] at this
            omega
          subst hc2
          rw [List.getElem?_append_right (by omega),hdl,Nat.sub_self] at e
          cases e
          refine ⟨hpw.sublist List.filter_sublist,fun m=>?_⟩
          rw [List.mem_filter,hmem m,low_iff hsh ep,decide_eq_true_iff]
          exact ⟨fun h=>⟨h.2,h.1⟩,fun h=>⟨h.2,h.1⟩⟩
    · obtain ⟨sm,c7,c8,rs,dss,eu,hrs,hM,hdl,hds,rfl⟩:=h
      exact ⟨sm,c7,c8,rs,dss,eu,hrs,hM,by omega,hds,rfl⟩
  rintro σ6 H6 ⟨s6,c7,c8,rs,dss,eu,hrs,hM,hdl,hds,rfl⟩
  refine ⟨_,rfl,_,rfl,ps.length,F_,v,ps,css,rfl,by omega,h6,FmV.mono s6.tups hv2,hsh,hbd,hLs,h57,fun l rl fss H7 s7 hl hrl ⟨el,hR,hfl,hfs⟩=>?_⟩
  have hr1:=hR.1
  have hr2:=hM.1
  refine ⟨_,rfl,l,du,_,_,rfl,rfl,SqL.of el,SqL.of (s7 _ _ eu),.inr ⟨by rw [List.length_map,List.length_map]; omega,fun _=>true,fun j x y e1 e2=>?_,?_⟩⟩
  · obtain ⟨r1,rfl,er1⟩:=of_ref e1
    obtain ⟨r2,rfl,er2⟩:=of_ref e2
    obtain ⟨ms,em⟩:∃ ms,fss[j]? = some ms:=⟨_,List.getElem?_eq_getElem (by have:=(List.getElem?_eq_some_iff.mp er1).1; omega)⟩
    obtain ⟨ds,ed⟩:∃ ds,dss[j]? = some ds:=⟨_,List.getElem?_eq_getElem (by have:=(List.getElem?_eq_some_iff.mp er2).1; omega)⟩
    obtain ⟨r1',er1',hm1⟩:=hR.2 j ms em
    obtain ⟨r2',er2',hm2⟩:=(hM.same s7).2 j ds ed
    rw [er1] at er1'
    rw [er2] at er2'
    cases er1'
    cases er2'
    obtain ⟨a1,a2⟩:=hfs j ms em
    obtain ⟨b1,b2⟩:=hds j ds ed
    have:ms = ds:=sorted_uniq a1 b1 fun m=>(a2 m).trans (b2 m).symm
    subst this
    exact deq_ints hm1 hm2
  · rw [if_neg Bool.false_ne_true,List.all_eq_true.mpr (fun _ _=>rfl)]
    exact q _
theorem clo_law__law_leaf {c' c_0 c_1 c_2 c_3:Addr} {doc pm ctv:Value} (bl:Bl K mg) (c__law_told:Callee P w K mg base 2 "_law_told" ["_law_codes", "_law_marks_here", "_law_twist", "_law_turn", "_law_step"] (J20 K)) (inj:∀ x y c,([("_law_twist",c_1),("_law_turn",c_2),("_law_step",c_3),("_law_marks_here",c_0)]:List (Str × Addr)).lookup x = some c→([("_law_twist",c_1),("_law_turn",c_2),("_law_step",c_3),("_law_marks_here",c_0)]:List (Str × Addr)).lookup y = some c→x = y):HFn P w K mg base 3 f (J9 K f c' c_0 c_1 c_2 c_3 doc pm ctv):=by
  have Z9:=@Z9 c_0 c_1 c_2 c_3
  refine clo_ok (x := "_law_leaf") (qual := "law.<locals>._law_leaf") (st:=Y9) (c':=c') (cl:=[("_law_twist",c_1),("_law_turn",c_2),("_law_step",c_3),("_law_marks_here",c_0)]) (doc:=doc) (pm:=pm) (ctv:=ctv) Z9 inj (fun us hu=>match us,hu with | [u0],_=>rfl) (fun vs H Q E h=>?_) (fun A outer s H vs Q E hr h=>?_)
  · obtain ⟨a,b,cs,as,mss,tw,tu,st,rfl,hclo,ha,hb,hM,hcl,hc3,h56,h1,h2,h3,h4,h5,h6,q⟩:=h
    rfl
  obtain ⟨a,b,cs,as,mss,tw,tu,st,rfl,hclo,ha,hb,hM,hcl,hc3,h56,h1,h2,h3,h4,h5,h6,q⟩:=h
  refine ⟨_,hclo,free_of rfl,fun hcs=>⟨_,(pss_one (ps_ret (pe_fn c__law_told hr rfl (pa_cons (pv 0) (pa_cons (pv 1) (pa_cons (pv 2) (pa_cons (pv 3) (pa_cons (pv 4) pa_nil)))))))),?_⟩⟩
  have fz:=hclo.2.2.fzs
  have out:∀ {d:Addr} {xs:List V},H d = some (.lst xs)→hideL H [c_1,c_2,c_3,c_0] d = some (.lst xs):=fun {d xs} e=>by
    rw [hideL_out fun m=>?_]
    · exact e
    · obtain ⟨o,e2⟩:=fz d m
      rw [e] at e2
      cases e2
  show _
  refine ⟨_,rfl,_,rfl,_,rfl,_,rfl,_,rfl,a,b,cs,as,mss,tw,tu,st,rfl,out ha,out hb,⟨hM.1,fun j ms e=>let ⟨r,e1,e2⟩:=hM.2 j ms e; ⟨r,e1,out e2⟩⟩,hcl,hc3,h56,h1,h2,h3,h4,h5,h6,fun H1 s1=>?_⟩
  refine fun _=>q _ fun d o e=>?_
  by_cases hm:d ∈ [c_1,c_2,c_3,c_0]
  · exact (backL_in hm).trans e
  · exact (backL_out hm).trans (s1 _ _ ((hideL_out hm).trans e))
theorem O_8 (F:Fun K "law" "law" Y8 f fd) (bl:Bl K mg) (c__law_bounds:Callee P w K mg base 11 "_law_bounds" ["_law_script"] (J11 K)) (c__law_marks:Callee P w K mg base 11 "_law_marks" ["_law_script", "_law_bounds_here"] (J18 K)) (c_built:Callee P w K mg base 11 "built" ["bounds", "marks", "leaf"] (J2 K P w mg base)) (c_boxes:Callee P w K mg base 11 "boxes" ["form", "deep"] (J1 K 7)) (c__law_told:Callee P w K mg base 11 "_law_told" ["_law_codes", "_law_marks_here", "_law_twist", "_law_turn", "_law_step"] (J20 K)) (c_volume:Callee P w K mg base 11 "volume" ["box"] (J27 K)) (c__law_further:Callee P w K mg base 11 "_law_further" ["_law_form", "_law_found", "_law_bounds_here"] (J13 K)) (c__law_at:Callee P w K mg base 11 "_law_at" ["_law_script", "_law_k"] (J10 K)) (c__law_many:Callee P w K mg base 11 "_law_many" ["_law_box_here"] (J17 K)) (c__law_box:Callee P w K mg base 11 "_law_box" ["_law_box_here", "_law_bounds_here"] (J12 K)) (c__law_int:Callee P w K mg base 11 "_law_int" ["_law_found"] (J16 K)) (c__law_meet:Callee P w K mg base 11 "_law_meet" ["_law_one", "_law_other"] (J19 K)) (c_look:Callee P w K mg base 11 "look" ["form", "codes"] (J22 K)) (c_corner:Callee P w K mg base 11 "corner" ["box"] (J4 K)) {cL tP:Addr} (hcd:fd.code = .ref cL) (ht:PySem.W.tabIn K "law" = some (cL,tP)) (hT:PySem.W.CodeHd base cL tP∧base.BuiltinsAt mg tP) (nt_law_further:∀ z,PySem.W.tabIn K "_law_further" = some z→z.2 ≠ tP) (d__law_told:Callee P w K mg base 2 "_law_told" ["_law_codes", "_law_marks_here", "_law_twist", "_law_turn", "_law_step"] (J20 K)):FnOk P w K mg base CX0 12 f fd ["_law_script"] (J8 K):=by
  refine F.okT hcd Z8 (fun vs H Q E h=>?_) (fun A outer s H vs Q E hr h=>?_)
  · obtain ⟨a,ns,rfl,hS,h63,hP,hP',q⟩:=h
    rfl
  obtain ⟨a,ns,rfl,hS,h63,hP,hP',q⟩:=h
  refine ⟨_,(pss_cut (ps_set (i:=1) Z8.nd rfl (Or.inl rfl) (pe_fn c__law_bounds hr rfl (pa_cons (pv 0) pa_nil)))
     (pss_cut (ps_set (i:=2) Z8.nd rfl (Or.inr rfl) (pe_fn c__law_marks hr rfl (pa_cons (pv 0) (pa_cons (pv 1) pa_nil))))
     (pss_cut (ps_set (i:=3) Z8.nd rfl (Or.inr rfl) (pe_op op_add pe_int (pe_op op_mod (pe_op op_fdiv (pe_fn c__law_at hr rfl (pa_cons (pv 0) (pa_cons pe_int pa_nil))) pe_int) pe_int)))
     (pss_cut (ps_set (i:=4) Z8.nd rfl (Or.inr rfl) (pe_op op_add pe_int (pe_op op_mod (pe_op op_fdiv (pe_fn c__law_at hr rfl (pa_cons (pv 0) (pa_cons pe_int pa_nil))) pe_int) pe_int)))
     (pss_cut (ps_set (i:=5) Z8.nd rfl (Or.inr rfl) (pe_op op_add pe_int (pe_op op_mod (pe_fn c__law_at hr rfl (pa_cons (pv 0) (pa_cons pe_int pa_nil))) (pe_op op_pow pe_int pe_int))))
     (pss_cut (ps_def (i:=6) (clos:=[("_law_twist",s.heap.objs.size + 1 + 1 + 1 + 1),("_law_turn",s.heap.objs.size + 1 + 1 + 1),("_law_step",s.heap.objs.size + 1 + 1),("_law_marks_here",s.heap.objs.size + 1)]) Z8.nd rfl (Or.inl rfl) rfl hT.1 hT.2 rfl (List.forall_mem_cons.mpr ⟨rfl,List.forall_mem_cons.mpr ⟨rfl,List.forall_mem_cons.mpr ⟨rfl,List.forall_mem_cons.mpr ⟨rfl,List.forall_mem_nil _⟩⟩⟩⟩))
     (pss_cut (ps_set (i:=7) Z8.nd rfl (Or.inl rfl) (pe_fnZ (zs:=[("_law_marks_here",2,s.heap.objs.size + 1),("_law_twist",3,s.heap.objs.size + 1 + 1 + 1 + 1),("_law_turn",4,s.heap.objs.size + 1 + 1 + 1),("_law_step",5,s.heap.objs.size + 1 + 1)]) c_built hr rfl (pa_cons (pe_callTy call_list_of rfl bl.list_ PyProof.Rows.boot_list (pa_cons (pv 1) pa_nil)) (pa_cons (pe_comp (pi_list (pv 2)) (cmpOk_plain rfl (by decide +kernel) (by decide +kernel) (by decide +kernel) rfl) rfl (fun _ _ _ _=>pif_nil) (fun _ _ _ _=>(pe_callTy (call_list_ofK (K:=K) rfl) rfl bl.list_ PyProof.Rows.boot_list (pa_cons (pv 0) pa_nil)))) (pa_cons (pv 6) pa_nil))) (List.forall_mem_cons.mpr ⟨⟨rfl,Or.inl rfl,rfl,Or.inl rfl⟩,List.forall_mem_cons.mpr ⟨⟨rfl,Or.inl rfl,rfl,Or.inl rfl⟩,List.forall_mem_cons.mpr ⟨⟨rfl,Or.inl rfl,rfl,Or.inl rfl⟩,List.forall_mem_cons.mpr ⟨⟨rfl,Or.inl rfl,rfl,Or.inl rfl⟩,List.forall_mem_nil _⟩⟩⟩⟩)))
     (pss_cut (ps_set (i:=8) Z8.nd rfl (Or.inl rfl) (pe_fn c_boxes hr rfl (pa_cons (pv 7) (pa_cons (pe_callB call_len_seq rfl bl.len_ PySem.boot_len (pa_cons (pv 1) pa_nil)) pa_nil))))
     (pss_cut (ps_if (pt_not (pt_val (pe_callB call_isinst rfl bl.isinstance_ PyProof.Rows.boot_isinstance (pa_cons (pv 8) (pa_cons (pe_bltn (v:=.ty "list") rfl bl.list_ PyProof.Rows.boot_list rfl) pa_nil)))))
     (pss_one (ps_ret pe_bl))
     pss_nil)
     (pss_cut (ps_set (i:=9) Z8.nd rfl (Or.inl rfl) pe_int)
     (pss_cut (ps_set (i:=10) Z8.nd rfl (Or.inl rfl) (pe_lst pa_nil))
     (pss_cut (ps_for PassesOwn.never rfl (pi_list (pv 8)) (pg_name (i:=11) Z8.nd rfl (Or.inl rfl))
     (pss_cut (ps_if (PW.pt (pw_or (pt_not (pt_val (pe_callB call_isinst rfl bl.isinstance_ PyProof.Rows.boot_isinstance (pa_cons (pv 11) (pa_cons (pe_bltn (v:=.ty "tuple") rfl bl.tuple_ PyProof.Rows.boot_tuple rfl) pa_nil))))) (pw_or (pt_cmpR op_ne (pe_callB call_len_seq rfl bl.len_ PySem.boot_len (pa_cons (pv 11) pa_nil)) pe_int (nomark _)) (pw_or (pt_not (pt_val (pe_fn c__law_box hr rfl (pa_cons (pe_ix ix_tup (pv 11) pe_int (fun _ _=>rfl)) (pa_cons (pv 1) pa_nil))))) (pw_or1 (pt_not (pt_val (pe_fn c__law_int hr rfl (pa_cons (pe_ix ix_tup (pv 11) pe_int (fun _ _=>rfl)) pa_nil)))))))))
     (pss_one (ps_ret pe_bl))
     pss_nil)
     (pss_cut (ps_set (i:=12) Z8.nd rfl (Or.inl rfl) (pe_ix ix_tup (pv 11) pe_int (fun _ _=>rfl)))
     (pss_cut (ps_comp (i:=13) Z8.nd rfl (Or.inl rfl) (pi_tup (pv 12)) (cmpOk_plain rfl (by decide +kernel) (by decide +kernel) (by decide +kernel) rfl) rfl (fun _ _ _ _=>pif_nil) (fun _ _ _ _=>(pe_ix (ix_tupK (K:=K) rfl) (pv 0) pe_int (fun _ _=>rfl))))
     (pss_cut (ps_for PassesOwn.never rfl (pi_list (pv 10)) (pg_name (i:=14) Z8.nd rfl (Or.inl rfl))
     (pss_one (ps_if (PW.pt (pw_or (pt_not (pt_cmpR (op_ltP hr) (pv 14) (pv 12) (nomark _))) (pw_or1 (pt_val (pe_fn c__law_meet hr rfl (pa_cons (pv 14) (pa_cons (pv 12) pa_nil)))))))
     (pss_one (ps_ret pe_bl))
     pss_nil)))
     (pss_cut (ps_expr (pe_bm PySem.F.plainAttrs_list PySem.F.slot_list_append PySem.F.type_list_append mt_append (pv 10) (pa_cons (pv 12) pa_nil)))
     (pss_cut (ps_if (PW.pt (pw_or (pt_cmpR op_ne (pe_ix ix_tup (pv 11) pe_int (fun _ _=>rfl)) (pe_heldZ (k:=3) (i:=6) (zs:=[("_law_marks_here",2,s.heap.objs.size + 1),("_law_twist",3,s.heap.objs.size + 1 + 1 + 1 + 1),("_law_turn",4,s.heap.objs.size + 1 + 1 + 1),("_law_step",5,s.heap.objs.size + 1 + 1)]) (hr.mono (by decide)) rfl (Or.inl rfl) (pa_cons (pv 13) pa_nil) (List.forall_mem_cons.mpr ⟨⟨rfl,Or.inl rfl,rfl,Or.inl rfl⟩,List.forall_mem_cons.mpr ⟨⟨rfl,Or.inl rfl,rfl,Or.inl rfl⟩,List.forall_mem_cons.mpr ⟨⟨rfl,Or.inl rfl,rfl,Or.inl rfl⟩,List.forall_mem_cons.mpr ⟨⟨rfl,Or.inl rfl,rfl,Or.inl rfl⟩,List.forall_mem_nil _⟩⟩⟩⟩)) (nomark _)) (pw_or1 (pt_cmpR (op_neF hr) (pe_ix ix_tup (pv 11) pe_int (fun _ _=>rfl)) (pe_fn c_look hr rfl (pa_cons (pv 7) (pa_cons (pe_callTy call_list_of rfl bl.list_ PyProof.Rows.boot_list (pa_cons (pv 13) pa_nil)) pa_nil))) (nomark _)))))
     (pss_one (ps_ret pe_bl))
     pss_nil)
     (pss_cut (ps_if (pt_cmpR op_ne (pe_ix ix_tup (pv 11) pe_int (fun _ _=>rfl)) (pe_heldZ (k:=3) (i:=6) (zs:=[("_law_marks_here",2,s.heap.objs.size + 1),("_law_twist",3,s.heap.objs.size + 1 + 1 + 1 + 1),("_law_turn",4,s.heap.objs.size + 1 + 1 + 1),("_law_step",5,s.heap.objs.size + 1 + 1)]) (hr.mono (by decide)) rfl (Or.inl rfl) (pa_cons (pe_comp (pi_tup (pv 12)) (cmpOk_plain rfl (by decide +kernel) (by decide +kernel) (by decide +kernel) rfl) rfl (fun _ _ _ _=>pif_nil) (fun _ _ _ _=>(pe_ix (ix_tupK (K:=K) rfl) (pv 0) pe_int (fun _ _=>rfl)))) pa_nil) (List.forall_mem_cons.mpr ⟨⟨rfl,Or.inl rfl,rfl,Or.inl rfl⟩,List.forall_mem_cons.mpr ⟨⟨rfl,Or.inl rfl,rfl,Or.inl rfl⟩,List.forall_mem_cons.mpr ⟨⟨rfl,Or.inl rfl,rfl,Or.inl rfl⟩,List.forall_mem_cons.mpr ⟨⟨rfl,Or.inl rfl,rfl,Or.inl rfl⟩,List.forall_mem_nil _⟩⟩⟩⟩)) (nomark _))
     (pss_one (ps_ret pe_bl))
     pss_nil)
     (pss_cut (ps_set (i:=15) Z8.nd rfl (Or.inl rfl) (pe_fn c_volume hr rfl (pa_cons (pv 12) pa_nil)))
     (pss_cut (ps_if (PW.pt (pw_or (pt_not (pt_val (pe_fn c__law_int hr rfl (pa_cons (pv 15) pa_nil)))) (pw_or (pt_cmpR op_ne (pv 15) (pe_fn c__law_many hr rfl (pa_cons (pv 12) pa_nil)) (nomark _)) (pw_or1 (pt_cmpR (op_neL hr) (pe_fn c_corner hr rfl (pa_cons (pv 12) pa_nil)) (pv 13) (nomark _))))))
     (pss_one (ps_ret pe_bl))
     pss_nil)
     (pss_one (ps_set (i:=9) Z8.nd rfl (Or.inl rfl) (pe_op op_add (pv 9) (pv 15))))))))))))))
     (pss_one (ps_ret (pe_and (pe_cmpR op_eq (pv 9) (pe_fn c__law_many hr rfl (pa_cons (pv 1) pa_nil)) (nomark _)) (pe_one (pe_fn c__law_further hr rfl (pa_cons (pv 7) (pa_cons (pv 8) (pa_cons (pv 1) pa_nil)))))))))))))))))))),?_⟩
  have hPt:H tP = some (.tbl #[]):=hP _ ht
  refine ⟨fun σ' H'=>Same H H'∧∃ (bo:Addr) (ys:List V) (ps:List (Int × Int)),H' bo = some (.lst ys)∧PL H' ys ps∧1 ≤ ps.length∧ps.length ≤ 6∧(∀ p ∈ ps,p.1 ≤ p.2∧p.2 - p.1 ≤ 10 ^ 41)∧σ' = [some (.ref a),some (.ref bo),none,none,none,none,none,none,none,none,none,none,none,none,none,none],?_,?_⟩
  · exact ⟨_,rfl,a,ns,rfl,hS,fun l ys ps H' s' el hP h1 h3 hle=>⟨s',l,ys,ps,el,hP,h1,h3,hle,rfl⟩⟩
  rintro σ1 H1 ⟨s1,bo,ys,ps,ebo1,hPs1,h1,h3,hlw,rfl⟩
  have hle:∀ p ∈ ps,p.1 ≤ p.2:=fun p hp=>(hlw p hp).1
  have hwd:∀ p ∈ ps,p.2 - p.1 ≤ 10 ^ 41:=fun p hp=>(hlw p hp).2
  refine ⟨fun σ' H'=>Same H1 H'∧∃ (ma:Addr) (as:List Addr) (mss:List (List Int)),H' ma = some (.lst (as.map V.ref))∧MLs H' as mss∧mss.length = ps.length∧(∀ ms ∈ mss,ms.length ≤ 56)∧(∀ ms ∈ mss,∃ L:List Int,L.length ≤ (mo ps.length).toNat∧∀ m ∈ ms,m ∈ L)∧σ' = [some (.ref a),some (.ref bo),some (.ref ma),none,none,none,none,none,none,none,none,none,none,none,none,none],?_,?_⟩
  · exact ⟨_,rfl,_,rfl,a,ns,bo,ys,ps,rfl,s1.seq hS,h63,ebo1,hPs1,h1,h3,hle,fun ma as mss H' s' em hM hml h56 hW=>⟨s',ma,as,mss,em,hM,hml,h56,hW,rfl⟩⟩
  rintro σ2 H4 ⟨s2,ma,as,mss,ema,hM,hml,h56,hW,rfl⟩
  have s04:=s1.trans s2
  have ebo:=s2 _ _ ebo1
  have hPs:PL H4 ys ps:=PL.mono hPs1 s2.tups
  refine ⟨fun σ' H'=>H' = H4∧∃ tw:Int,1 ≤ tw∧tw ≤ 4∧σ' = [some (.ref a),some (.ref bo),some (.ref ma),some (.int tw),none,none,none,none,none,none,none,none,none,none,none,none],?_,?_⟩
  · refine ⟨_,rfl,a,ns,0,rfl,s04.seq hS,by decide,fun r=>⟨_,_,rfl,rfl,⟨by decide,by decide⟩,_,_,rfl,rfl,(by show (0:Int) < 4; decide),_,_,rfl,rfl,rfl,1 + r / 6 % 4,?_,?_,rfl⟩⟩
    · have:=Int.emod_nonneg (r / 6) (show (4:Int) ≠ 0 by decide); omega
    · have:=Int.emod_lt_of_pos (r / 6) (show (0:Int) < 4 by decide); omega
  rintro σ3 H3 ⟨e3,tw,w1,w2,rfl⟩
  rw [e3]
  clear e3
  refine ⟨fun σ' H'=>H' = H4∧∃ tu:Int,1 ≤ tu∧tu ≤ 5∧σ' = [some (.ref a),some (.ref bo),some (.ref ma),some (.int tw),some (.int tu),none,none,none,none,none,none,none,none,none,none,none],?_,?_⟩
  · refine ⟨_,rfl,a,ns,0,rfl,s04.seq hS,by decide,fun r=>⟨_,_,rfl,rfl,⟨by decide,by decide⟩,_,_,rfl,rfl,(by show (0:Int) < 5; decide),_,_,rfl,rfl,rfl,1 + r / 24 % 5,?_,?_,rfl⟩⟩
    · have:=Int.emod_nonneg (r / 24) (show (5:Int) ≠ 0 by decide); omega
    · have:=Int.emod_lt_of_pos (r / 24) (show (0:Int) < 5 by decide); omega
  rintro σ3 H3 ⟨e3,tu,u1,u2,rfl⟩
  rw [e3]
  clear e3
  refine ⟨fun σ' H'=>H' = H4∧∃ st:Int,1 ≤ st∧st ≤ 10 ^ 21∧σ' = [some (.ref a),some (.ref bo),some (.ref ma),some (.int tw),some (.int tu),some (.int st),none,none,none,none,none,none,none,none,none,none],?_,?_⟩
  · refine ⟨_,rfl,a,ns,2,rfl,s04.seq hS,by decide,fun r=>⟨_,_,rfl,rfl,⟨by decide,by decide,by decide⟩,_,_,rfl,rfl,p10 _,_,_,rfl,rfl,rfl,_,?_,?_,rfl⟩⟩
    · have:=Int.emod_nonneg r (show (10:Int) ^ 20 ≠ 0 by decide)
      show (1:Int) ≤ 1 + r % 10 ^ 20
      omega
    · have:=Int.emod_lt_of_pos r (show (0:Int) < 10 ^ 20 by decide)
      show 1 + r % 10 ^ 20 ≤ (10:Int) ^ 21
      omega
  rintro σ3 H3 ⟨e3,st,t1,t2,rfl⟩
  rw [e3]
  clear e3
  have hPt5:=s04 _ _ hPt
  refine ⟨fun σ' H'=>(∀ b o,b ≠ tP→H4 b = some o→H' b = some o)∧∃ (f1 ca:Addr) (da pa ta:Value) (oa:Obj),(∀ x y c,([("_law_twist",s.heap.objs.size + 1 + 1 + 1 + 1),("_law_turn",s.heap.objs.size + 1 + 1 + 1),("_law_step",s.heap.objs.size + 1 + 1),("_law_marks_here",s.heap.objs.size + 1)]:List (Str × Addr)).lookup x = some c→([("_law_twist",s.heap.objs.size + 1 + 1 + 1 + 1),("_law_turn",s.heap.objs.size + 1 + 1 + 1),("_law_step",s.heap.objs.size + 1 + 1),("_law_marks_here",s.heap.objs.size + 1)]:List (Str × Addr)).lookup y = some c→x = y)∧H' f1 = some (.frz (PySem.W.fnMade "_law_leaf" "law.<locals>._law_leaf" (defArgs Y9) (defBody Y9) (defScope Y9) [("_law_twist",s.heap.objs.size + 1 + 1 + 1 + 1),("_law_turn",s.heap.objs.size + 1 + 1 + 1),("_law_step",s.heap.objs.size + 1 + 1),("_law_marks_here",s.heap.objs.size + 1)] da pa ca ta) TTh)∧H' ca = some (.frz oa TTh)∧CodeO oa "law.<locals>._law_leaf" ∧ σ' = [some (.ref a),some (.ref bo),some (.ref ma),some (.int tw),some (.int tu),some (.int st),some (.ref f1),none,none,none,none,none,none,none,none,none],?_,?_⟩
  · refine ⟨#[],hPt5,trivial,rfl,fun f_ c' oc doc pm ctv hf hc ne n1 n2 ho inj=>⟨fun b o ho' e=>?_,f_,c',doc,pm,ctv,oc,inj,upd_same,(upd_ne ne.symm).trans upd_same,ho,rfl⟩⟩
    rw [upd_ne (ne_of_none e hf),upd_ne (ne_of_none e hc),upd_ne ho']
    exact e
  rintro σ3 H7 ⟨s7a,f1,ca,da,pa,ta,oa,injA,hfA,hcA,hkA,rfl⟩
  have ntl:∀ {o:List V} {z:Array Value},HO.lst o ≠ .tbl z:=fun {o z} q=>by cases q
  have hnA:=clo_law__law_leaf (f:=f1) (c':=ca) (doc:=da) (pm:=pa) (ctv:=ta) (P:=P) (w:=w) (base:=base) bl d__law_told injA
  have s7:∀ b o,(∀ z,o ≠ .tbl z)→H4 b = some o→H7 b = some o:=fun b o ho e=>s7a b o (fun z=>by rw [z,hPt5] at e; cases e; exact ho _ rfl) e
  have hPt7:∀ z,PySem.W.tabIn K "_law_further" = some z→H7 z.2 = some (.tbl #[]):=fun z e=>s7a _ _ (nt_law_further z e) (s04 _ _ (hP' z e))
  have t7:SameT H4 H7:=fun b xs e=>s7 b _ (fun z=>by intro q; cases q) e
  have ebo7:=s7 _ _ (fun z=>ntl) ebo
  have ema7:=s7 _ _ (fun z=>ntl) ema
  have hP7:PL H7 ys ps:=PL.mono hPs t7
  have hyl:=hP7.length
  have hM7:MLs H7 as mss:=hM.keep fun r hr o e=>by
    obtain ⟨j,ej⟩:=List.getElem?_of_mem hr
    obtain ⟨ms,em⟩:∃ ms,mss[j]? = some ms:=⟨_,List.getElem?_eq_getElem (by have:=(List.getElem?_eq_some_iff.mp ej).1; rw [← hM.1]; exact this)⟩
    obtain ⟨r',er',hr'⟩:=hM.2 j ms em
    rw [ej] at er'
    cases er'
    rw [hr'] at e
    cases e
    exact s7 _ _ (fun z=>ntl) hr'
  have hal2:=hM.1
  have h57:∀ ms ∈ mss,ms.length ≤ 57:=fun ms hm=>Nat.le_succ_of_le (h56 ms hm)
  have hgr:gr ps mss ps.length ≤ 300:=gr_300 hml h1 h3 hW
  have cL:∀ (H:Hp) (rest:St) (os:List Obj),os.length = ([("_law_marks_here",2,s.heap.objs.size + 1),("_law_twist",3,s.heap.objs.size + 1 + 1 + 1 + 1),("_law_turn",4,s.heap.objs.size + 1 + 1 + 1),("_law_step",5,s.heap.objs.size + 1 + 1)]:List (Str × Nat × Addr)).length→(∀ (j:Nat) (z:Str × Nat × Addr),([("_law_marks_here",2,s.heap.objs.size + 1),("_law_twist",3,s.heap.objs.size + 1 + 1 + 1 + 1),("_law_turn",4,s.heap.objs.size + 1 + 1 + 1),("_law_step",5,s.heap.objs.size + 1 + 1)]:List (Str × Nat × Addr))[j]? = some z→∃ o w,os[j]? = some o∧o.data = .cell w∧∀ v,(some (.ref a) :: some (.ref bo) :: some (.ref ma) :: some (.int tw) :: some (.int tu) :: some (.int st) :: rest:St)[z.2.1]? = some (some v)→∃ u,w = some u∧RelV v u)→CellsAt (frzL H ((([("_law_marks_here",2,s.heap.objs.size + 1),("_law_twist",3,s.heap.objs.size + 1 + 1 + 1 + 1),("_law_turn",4,s.heap.objs.size + 1 + 1 + 1),("_law_step",5,s.heap.objs.size + 1 + 1)]:List (Str × Nat × Addr)).map (·.2.2)).zip os)) [("_law_twist",s.heap.objs.size + 1 + 1 + 1 + 1),("_law_turn",s.heap.objs.size + 1 + 1 + 1),("_law_step",s.heap.objs.size + 1 + 1),("_law_marks_here",s.heap.objs.size + 1)] [("_law_marks_here",.ref ma),("_law_twist",.int tw),("_law_turn",.int tu),("_law_step",.int st)]:=fun H rest os hos hcell =>
    cells_of hos (by simp; omega) hcell (fun c hc=>by simp only [List.map_cons,List.map_nil,List.mem_cons,List.not_mem_nil,or_false] at hc; rcases hc with rfl | rfl | rfl | rfl <;> simp) (fun x v e=>by
      have m:=PySem.mem_of_lookup e
      simp only [List.mem_cons,List.not_mem_nil,or_false,Prod.mk.injEq] at m
      rcases m with ⟨rfl,rfl⟩ | ⟨rfl,rfl⟩ | ⟨rfl,rfl⟩ | ⟨rfl,rfl⟩
      · exact ⟨_,List.mem_of_getElem? (i:=0) rfl,rfl,rfl⟩
      · exact ⟨_,List.mem_of_getElem? (i:=1) rfl,rfl,rfl⟩
      · exact ⟨_,List.mem_of_getElem? (i:=2) rfl,rfl,rfl⟩
      · exact ⟨_,List.mem_of_getElem? (i:=3) rfl,rfl,rfl⟩)
  obtain ⟨JA,hJA⟩:∃ J:Hp→Prop,J = (fun H=>CloAt H f1 ca (PySem.W.fnMade "_law_leaf" "law.<locals>._law_leaf" (defArgs Y9) (defBody Y9) (defScope Y9) [("_law_twist",s.heap.objs.size + 1 + 1 + 1 + 1),("_law_turn",s.heap.objs.size + 1 + 1 + 1),("_law_step",s.heap.objs.size + 1 + 1),("_law_marks_here",s.heap.objs.size + 1)] da pa ca ta) "law.<locals>._law_leaf" [("_law_twist",s.heap.objs.size + 1 + 1 + 1 + 1),("_law_turn",s.heap.objs.size + 1 + 1 + 1),("_law_step",s.heap.objs.size + 1 + 1),("_law_marks_here",s.heap.objs.size + 1)] [("_law_marks_here",.ref ma),("_law_twist",.int tw),("_law_turn",.int tu),("_law_step",.int st)]∧H ma = some (.lst (as.map V.ref))∧MLs H as mss):=⟨_,rfl⟩
  have hLS:LfS P w K mg base f1 ps.length (told mss tw tu st) JA:=by
    rw [hJA]
    refine ⟨⟨_,hnA,fun H a cs Q hJ hl ha q=>⟨a,ma,cs,as,mss,tw,tu,st,rfl,hJ.1,ha,hJ.2.1,hJ.2.2,by omega,by omega,h57,w1,by omega,u1,by omega,t1,t2,q⟩⟩,fun H hJ=>⟨_,_,hJ.1.1,rfl⟩,fun H H' hJ s=>⟨hJ.1.same s,s _ _ hJ.2.1,hJ.2.2.same s⟩⟩
  have hLA:LfOk LInt P w K mg base f1 ps.length (told mss tw tu st) JA:=by
    obtain ⟨sp,hF,hsp⟩:=hLS.fn
    exact ⟨⟨sp,hF,fun H a cs Q hJ hl ha q=>hsp H a cs Q hJ hl ha fun H' s'=>q _ H' (fun b o _ e=>s' b o e) rfl⟩,hLS.ob,hLS.st⟩
  refine ⟨fun σ' H'=>Same H7 H'∧∃ (FA:Fm Int ps.length) (v:V) (css:List (List Int)),FmV LInt H' ps.length FA v∧ShOk ps.length FA ps∧(∀ cs,InB cs ps→Tel ps.length FA cs (told mss tw tu st cs))∧SmF 300 ps.length FA∧BdF ps.length FA∧(bxs ps.length FA).length ≤ 64∧css.length = ps.length∧(∀ c m,inMk ps.length FA c m→∃ l,css[c]? = some l∧m ∈ l)∧(∀ l ∈ css,l.length ≤ 57)∧σ' = [some (.ref a),some (.ref bo),some (.ref ma),some (.int tw),some (.int tu),some (.int st),some (.ref f1),some (v),none,none,none,none,none,none,none,none],?_,?_⟩
  · refine ⟨_,rfl,bo,_,rfl,.inl (SqL.of ebo7),fun l hl=>?_⟩
    have s9:Same H7 (upd H7 l (.lst ys)):=same_new hl _
    have el:upd H7 l (.lst ys) l = some (.lst ys):=upd_same
    generalize upd H7 l (.lst ys) = H9 at s9 el ⊢
    have ema9:=s9 _ _ ema7
    refine ⟨_,rfl,ma,rfl,⟨_,SqL.of ema9⟩,comp_list (xs:=as.map V.ref) (fun D i zs H'=>Same H9 H'∧H' D = some (.lst zs)∧∃ as2:List Addr,zs = as2.map V.ref∧(∀ r ∈ as2,r ≠ D)∧MLs H' as2 (mss.take i))
      (fun D hD=>⟨same_new hD _,upd_same,[],rfl,(fun r hr=>by cases hr),rfl,(fun j ms e=>by simp at e)⟩) (fun D i zs H' hD _ h=>SqL.of (h.1 _ _ ema9)) (fun D i x zs H' hD e h=>?_) (fun D zs H' hD h=>?_)⟩
    · obtain ⟨sm,eD,as2,rfl,hfr2,hM2⟩:=h
      obtain ⟨r,rfl,er⟩:=of_ref e
      have hi:i < (as.map V.ref).length:=(List.getElem?_eq_some_iff.mp e).1
      have hi2:i < mss.length:=by rw [List.length_map] at hi; omega
      obtain ⟨ms,em⟩:∃ ms,mss[i]? = some ms:=⟨_,List.getElem?_eq_getElem hi2⟩
      obtain ⟨r',er',hr⟩:=hM7.2 i ms em
      rw [er] at er'
      cases er'
      refine ⟨_,rfl,r,_,rfl,.inl (SqL.of (sm _ _ (s9 _ _ hr))),fun t ht=>?_⟩
      have v1:=same_new ht (.lst (ms.map V.int))
      have e1:upd H' t (.lst (ms.map V.int)) t = some (.lst (ms.map V.int)):=upd_same
      generalize upd H' t (.lst (ms.map V.int)) = H2 at v1 e1 ⊢
      have ntD:t ≠ D:=fun z=>by rw [z,eD] at ht; cases ht
      have hl2:as2.length = i:=by rw [hM2.1,List.length_take]; omega
      refine CYes.mk hi (v1 _ _ eD) (small1000 (by rw [List.length_map]; omega)) ⟨(sm.trans v1).upd hD,upd_same,as2 ++ [t],by simp,fun r hr=>?_,mls_snoc em hM2 hl2 hfr2 v1 ntD e1⟩
      rcases List.mem_append.mp hr with hr | hr
      · exact hfr2 r hr
      · rw [show r = t by simpa using hr]; exact ntD
    · obtain ⟨sm,eD,as2,rfl,hfr2,hM2⟩:=h
      rw [List.length_map,hal2,List.take_length] at hM2
      refine ⟨_,rfl,fun os hos hfree hcell=>?_⟩
      have sz:=frz_same hos hfree
      have s7n:Same H7 H':=s9.trans sm
      refine ⟨l,D,f1,ys,ps,as2,mss,Int,_,LInt,told mss tw tu st,JA,rfl,sz _ _ (sm _ _ el),PL.mono hP7 (s7n.trans sz).tups,sz _ _ eD,hM2.same sz,⟨hml.symm,h3,h57⟩,hgr,hLA,by rw [hJA]; exact ⟨⟨sz _ _ (s7n _ _ hfA),⟨oa,sz _ _ (s7n _ _ hcA),hkA⟩,cL _ _ os hos hcell⟩,sz _ _ (s7n _ _ ema7),hM7.same (s7n.trans sz)⟩,fun v Hb css sb hcs hpr hv=>?_⟩
      have s7h:=s7n.trans (hide_same hos hfree sb)
      have hvh:=FmV.mono (hide_tups hos sb) hv
      have hCol:=col_ok hcs hle (pr_in hml hpr)
      have hzl:(List.zipWith (fun p cs=>stre p.1 p.2 cs) ps css).length = ps.length:=by rw [List.length_zipWith]; omega
      have hsubA:SubM mss mss:=fun j ms my' e1 e2 m hm=>by rw [e1] at e2; cases e2; exact hm
      have hcol:∀ c ∈ (List.zipWith (fun p cs=>stre p.1 p.2 cs) ps css),c.length ≤ (mo ps.length).toNat + 1:=fun col hcol=>by
        obtain ⟨j,ej⟩:=List.getElem?_of_mem hcol
        have hj:j < ps.length:=by have:=(List.getElem?_eq_some_iff.mp ej).1; omega
        obtain ⟨p,ep⟩:∃ p,ps[j]? = some p:=⟨_,List.getElem?_eq_getElem (by omega)⟩
        obtain ⟨cs,ec⟩:∃ cs,css[j]? = some cs:=⟨_,List.getElem?_eq_getElem (by omega)⟩
        obtain ⟨ms,em⟩:∃ ms,mss[j]? = some ms:=⟨_,List.getElem?_eq_getElem (by omega)⟩
        rw [List.getElem?_zipWith,ep,ec] at ej
        have ej:stre p.1 p.2 cs = col:=Option.some.inj ej
        obtain ⟨k1,k2,_⟩:=hpr j p ms cs ep em ec
        obtain ⟨L,l1,l2⟩:=hW ms (List.mem_of_getElem? em)
        rw [← ej,stre_len]
        have:=nodup_sub_len (k1.imp fun h=>Int.ne_of_lt h) fun x hx=>l2 x ((k2 x).mp hx).1
        omega
      obtain ⟨FA,fmA,hShA,hSm,hBd,hBx,hTelA⟩:∃ F:Fm Int ps.length,FmV LInt (hideL Hb (([("_law_marks_here",2,s.heap.objs.size + 1),("_law_twist",3,s.heap.objs.size + 1 + 1 + 1 + 1),("_law_turn",4,s.heap.objs.size + 1 + 1 + 1),("_law_step",5,s.heap.objs.size + 1 + 1)]:List (Str × Nat × Addr)).map (·.2.2))) ps.length F v∧ShOk ps.length F ps∧SmF 300 ps.length F∧BdF ps.length F∧(bxs ps.length F).length ≤ ((mo ps.length).toNat + 1) ^ ps.length∧∀ cs,InB cs ps→Tel ps.length F cs (told mss tw tu st cs):=by
        generalize hB:(mo ps.length).toNat + 1 = b at hcol
        have h300:∀ c ∈ (List.zipWith (fun p cs=>stre p.1 p.2 cs) ps css),c.length ≤ 300:=cols_le hcs hml hpr
        have hbd:=lay_bd (g:=told mss tw tu st) (ps:=ps) (ah:=[]) hCol (by rw [hB]; exact hcol) (by rw [hzl]; exact id)
        have key:∃ F:Fm Int (List.zipWith (fun p cs=>stre p.1 p.2 cs) ps css).length,FmV LInt (hideL Hb (([("_law_marks_here",2,s.heap.objs.size + 1),("_law_twist",3,s.heap.objs.size + 1 + 1 + 1 + 1),("_law_turn",4,s.heap.objs.size + 1 + 1 + 1),("_law_step",5,s.heap.objs.size + 1 + 1)]:List (Str × Nat × Addr)).map (·.2.2))) (List.zipWith (fun p cs=>stre p.1 p.2 cs) ps css).length F v∧ShOk (List.zipWith (fun p cs=>stre p.1 p.2 cs) ps css).length F ps∧SmF 300 (List.zipWith (fun p cs=>stre p.1 p.2 cs) ps css).length F∧BdF (List.zipWith (fun p cs=>stre p.1 p.2 cs) ps css).length F∧(bxs (List.zipWith (fun p cs=>stre p.1 p.2 cs) ps css).length F).length ≤ b ^ (List.zipWith (fun p cs=>stre p.1 p.2 cs) ps css).length∧∀ cs,InB cs ps→Tel (List.zipWith (fun p cs=>stre p.1 p.2 cs) ps css).length F cs (told mss tw tu st cs):=by
          refine ⟨_,hvh,lay_sh hCol [],lay_sm hCol h300 [],hbd,lay_bx hCol hcol [],fun cs hin=>?_⟩
          have:=lay_tel (g:=told mss tw tu st) hCol [] cs hin
          rw [List.nil_append,told_sub hcs hml hml hin hsubA hpr] at this
          exact this
        rw [hzl] at key
        exact key
      refine ⟨s7h,FA,v,css,fmA,hShA,hTelA,hSm,hBd,Nat.le_trans hBx (mo_pow h1 h3),hcs,fun c m hm=>?_,fun l hl=>?_,rfl⟩
      · obtain ⟨cs,p,x,y,hin,hc,hp,hlt,hx,hy,hxy⟩:=(mk_iff hShA).mp hm
        obtain ⟨ks,ek⟩:∃ ks,css[c]? = some ks:=⟨_,List.getElem?_eq_getElem (by have:=(List.getElem?_eq_some_iff.mp hp).1; omega)⟩
        have hin2:=inb_set hin hc hp hlt
        rw [tel_fun hx (hTelA cs hin),tel_fun hy (hTelA _ hin2)] at hxy
        exact ⟨ks,ek,((due_iff hcs hml hle hpr ek).mpr ⟨cs,p,hin,hc,hp,hlt,hxy⟩).1⟩
      · obtain ⟨j,ej⟩:=List.getElem?_of_mem hl
        have hj:j < ps.length:=by have:=(List.getElem?_eq_some_iff.mp ej).1; omega
        obtain ⟨p,ep⟩:∃ p,ps[j]? = some p:=⟨_,List.getElem?_eq_getElem (by omega)⟩
        obtain ⟨ms,em⟩:∃ ms,mss[j]? = some ms:=⟨_,List.getElem?_eq_getElem (by omega)⟩
        obtain ⟨k1,k2,_⟩:=hpr j p ms l ep em ej
        exact Nat.le_trans (nodup_sub_len (k1.imp fun h=>Int.ne_of_lt h) fun x hx=>((k2 x).mp hx).1) (h57 ms (List.mem_of_getElem? em))
  rintro σ4 H8 ⟨s78,FA,v,css,fmA,hShA,hTelA,hSm,hBd,h64,hcl,hLs,hc57,rfl⟩
  refine ⟨fun σ' H'=>Same H8 H'∧∃ (fo:Addr) (xs:List V),H' fo = some (.lst xs)∧BxL H' xs (bxs ps.length FA)∧σ' = [some (.ref a),some (.ref bo),some (.ref ma),some (.int tw),some (.int tu),some (.int st),some (.ref f1),some (v),some (.ref fo),none,none,none,none,none,none,none],?_,?_⟩
  · exact ⟨_,rfl,_,rfl,bo,_,rfl,.inl (SqL.of (s78 _ _ ebo7)),ps.length,FA,v,by rw [hyl],fmA,by omega,by omega,(fun q hq=>by rw [(bx_in hShA q hq).1.len]; exact h3),fun l xs H' s' _ el hX=>⟨s',l,xs,el,hX,rfl⟩⟩
  rintro σ5 H9 ⟨s89,fo,xs,efo,hX,rfl⟩
  have s79:=s78.trans s89
  have fm9:=FmV.mono s89.tups fmA
  have hxl:=hX.length
  have ebo9:=s79 _ _ ebo7
  have hP9:PL H9 ys ps:=PL.mono hP7 s79.tups
  obtain ⟨spA,hFA,hspA⟩:=hLS.fn
  have jz:∀ (H' : Hp) (rest:St) (os:List Obj),Same H7 H'→os.length = ([("_law_marks_here",2,s.heap.objs.size + 1),("_law_twist",3,s.heap.objs.size + 1 + 1 + 1 + 1),("_law_turn",4,s.heap.objs.size + 1 + 1 + 1),("_law_step",5,s.heap.objs.size + 1 + 1)]:List (Str × Nat × Addr)).length→(∀ z ∈ ([("_law_marks_here",2,s.heap.objs.size + 1),("_law_twist",3,s.heap.objs.size + 1 + 1 + 1 + 1),("_law_turn",4,s.heap.objs.size + 1 + 1 + 1),("_law_step",5,s.heap.objs.size + 1 + 1)]:List (Str × Nat × Addr)),H' z.2.2 = none)→(∀ (j:Nat) (z:Str × Nat × Addr),([("_law_marks_here",2,s.heap.objs.size + 1),("_law_twist",3,s.heap.objs.size + 1 + 1 + 1 + 1),("_law_turn",4,s.heap.objs.size + 1 + 1 + 1),("_law_step",5,s.heap.objs.size + 1 + 1)]:List (Str × Nat × Addr))[j]? = some z→∃ o w,os[j]? = some o∧o.data = .cell w∧∀ v,(some (.ref a) :: some (.ref bo) :: some (.ref ma) :: some (.int tw) :: some (.int tu) :: some (.int st) :: rest:St)[z.2.1]? = some (some v)→∃ u,w = some u∧RelV v u)→JA (frzL H' ((([("_law_marks_here",2,s.heap.objs.size + 1),("_law_twist",3,s.heap.objs.size + 1 + 1 + 1 + 1),("_law_turn",4,s.heap.objs.size + 1 + 1 + 1),("_law_step",5,s.heap.objs.size + 1 + 1)]:List (Str × Nat × Addr)).map (·.2.2)).zip os)):=fun H' rest os s hos hfree hcell=>by
    have sz7:=s.trans (frz_same hos hfree)
    rw [hJA]
    exact ⟨⟨sz7 _ _ hfA,⟨oa,sz7 _ _ hcA,hkA⟩,cL _ _ os hos hcell⟩,sz7 _ _ ema7,hM7.same sz7⟩
  refine ⟨fun σ' H'=>H' = H9∧σ' = [some (.ref a),some (.ref bo),some (.ref ma),some (.int tw),some (.int tu),some (.int st),some (.ref f1),some (v),some (.ref fo),none,none,none,none,none,none,none],?_,?_⟩
  · exact ⟨_,rfl,_, "list",_,true,rfl,.lst efo,(by first | rfl | with_unfolding_all rfl | decide +kernel),_,rfl,iteF ⟨rfl,rfl⟩⟩
  rintro σ6 H' ⟨e6,rfl⟩
  rw [e6]
  clear e6
  refine ⟨fun σ' H'=>H' = H9∧σ' = [some (.ref a),some (.ref bo),some (.ref ma),some (.int tw),some (.int tu),some (.int st),some (.ref f1),some (v),some (.ref fo),some (.int 0),none,none,none,none,none,none],?_,?_⟩
  · exact ⟨rfl,rfl⟩
  rintro σ6 H' ⟨e6,rfl⟩
  rw [e6]
  clear e6
  refine ⟨fun σ' H'=>Same H9 H'∧∃ ah:Addr,H9 ah = none∧H' ah = some (.lst [])∧σ' = [some (.ref a),some (.ref bo),some (.ref ma),some (.int tw),some (.int tu),some (.int st),some (.ref f1),some (v),some (.ref fo),some (.int 0),some (.ref ah),none,none,none,none,none],?_,?_⟩
  · exact ⟨(by show 0 ≤ sizeLine; decide),fun ah hah=>⟨same_new hah _,ah,hah,upd_same,rfl⟩⟩
  rintro σ6 H10 ⟨s910,ah,hah,eah0,rfl⟩
  refine ⟨fun σ' H'=>Same H9 H'∧∃ c11 c12 c13 c14 c15:Option V,σ' = [some (.ref a),some (.ref bo),some (.ref ma),some (.int tw),some (.int tu),some (.int st),some (.ref f1),some (v),some (.ref fo),some (.int (vol ps)),some (.ref ah),c11,c12,c13,c14,c15],?_,?_⟩
  · refine ⟨_,rfl,fo,rfl,⟨_,SqL.of (s910 _ _ efo)⟩,for_list (xs:=xs) (fun i σ' H'=>Same H9 H'∧∃ (hs:List V) (c11 c12 c13 c14 c15:Option V),H' ah = some (.lst hs)∧Paired (fun x q=>∃ b:Addr,x = .ref b∧BxA H' b q.1) hs ((bxs ps.length FA).take i)∧σ' = [some (.ref a),some (.ref bo),some (.ref ma),some (.int tw),some (.int tu),some (.int st),some (.ref f1),some (v),some (.ref fo),some (.int (vsum ((bxs ps.length FA).take i))),some (.ref ah),c11,c12,c13,c14,c15])
      ⟨s910,[],none,none,none,none,none,eah0,.nil,rfl⟩ (fun i σ H' _ h=>SqL.of (h.1 _ _ efo)) (fun i x σ H' ex h=>?_) (fun σ H' h=>?_)⟩
    · obtain ⟨sm,hs,c11,c12,c13,c14,c15,eah,hhs,rfl⟩:=h
      obtain ⟨qb,eqb,t,b,rfl,et,hbx⟩:=paired_get (hX.mono sm.tups) ex
      have hqm:=List.mem_of_getElem? eqb
      have hiB:i < (bxs ps.length FA).length:=(List.getElem?_eq_some_iff.mp eqb).1
      obtain ⟨hin,telL,telH⟩:=bx_in hShA qb hqm
      have hwide:=hin.wide hwd
      have hql:=hin.len
      have s7m:=s79.trans sm
      have hgL:qb.2 = told mss tw tu st (qb.1.map (·.1)):=tel_fun telL (hTelA _ hin.lows)
      have hgH:qb.2 = told mss tw tu st (qb.1.map (·.2)):=tel_fun telH (hTelA _ hin.highs)
      refine ⟨fun σ' H3=>H3 = H'∧σ' = [some (.ref a),some (.ref bo),some (.ref ma),some (.int tw),some (.int tu),some (.int st),some (.ref f1),some (v),some (.ref fo),some (.int (vsum ((bxs ps.length FA).take i))),some (.ref ah),some (.ref t),c12,c13,c14,c15],?_,?_⟩
      · refine ⟨_,rfl,_, "tuple",_,true,rfl,.tup et,(by first | rfl | with_unfolding_all rfl | decide +kernel),_,rfl,iteF ?_⟩
        refine ⟨_,rfl,t,_,rfl,.inr (SqT.of et),rfl,_,rfl,ite2 (fun g=>absurd g (by simp)) fun _=>?_⟩
        refine ⟨_,rfl,t,_,_,_,rfl,rfl,SqT.of et,rfl,_,rfl,b,bo,qb.1,ps,ys,rfl,hbx,sm _ _ ebo9,PL.mono hP9 sm.tups,hin,h3,_,rfl,iteF ?_⟩
        exact ⟨_,rfl,t,_,_,_,rfl,rfl,SqT.of et,rfl,qb.2,rfl,_,rfl,iteF ⟨rfl,rfl⟩⟩
      rintro σ7 H3 ⟨e3,rfl⟩
      rw [e3]
      clear e3
      refine ⟨fun σ' H3=>H3 = H'∧σ' = [some (.ref a),some (.ref bo),some (.ref ma),some (.int tw),some (.int tu),some (.int st),some (.ref f1),some (v),some (.ref fo),some (.int (vsum ((bxs ps.length FA).take i))),some (.ref ah),some (.ref t),some (.ref b),c13,c14,c15],?_,?_⟩
      · exact ⟨_,rfl,t,_,_,_,rfl,rfl,SqT.of et,rfl,rfl,rfl⟩
      rintro σ7 H3 ⟨e3,rfl⟩
      rw [e3]
      clear e3
      obtain ⟨bs,ebs,hPb⟩:=id hbx
      have hbsl:=hPb.length
      refine ⟨fun σ' H3=>Same H' H3∧∃ lo:Addr,H' lo = none∧H3 lo = some (.lst ((qb.1.map (·.1)).map V.int))∧σ' = [some (.ref a),some (.ref bo),some (.ref ma),some (.int tw),some (.int tu),some (.int st),some (.ref f1),some (v),some (.ref fo),some (.int (vsum ((bxs ps.length FA).take i))),some (.ref ah),some (.ref t),some (.ref b),some (.ref lo),c14,c15],?_,?_⟩
      · refine ⟨_,rfl,b,rfl,⟨_,SqT.of ebs⟩,comp_tup (xs:=bs) (fun D j zs H3=>Same H' H3∧H3 D = some (.lst zs)∧zs = ((qb.1.take j).map (·.1)).map V.int∧zs.length ≤ j)
          (fun D hD=>⟨same_new hD _,upd_same,rfl,Nat.zero_le _⟩) (fun D j zs H3 hD _ h=>SqT.of (h.1 _ _ ebs)) (fun D j x zs H3 hD e h=>?_) (fun D zs H3 hD h=>?_)⟩
        · obtain ⟨s3,eD,hz,hzl⟩:=h
          have hj:j < bs.length:=(List.getElem?_eq_some_iff.mp e).1
          obtain ⟨p,tp,ep,rfl,htp⟩:=hPb.get e
          refine ⟨_,rfl,tp,_,_,_,rfl,rfl,SqT.of (s3 _ _ htp),rfl,CYes.mk hj eD (small1000 (by omega)) ⟨s3.upd hD,upd_same,?_,by rw [List.length_append,List.length_singleton]; omega⟩⟩
          rw [take_snoc ep,List.map_append,List.map_append,hz]
          rfl
        · obtain ⟨s3,eD,hz,hzl⟩:=h
          rw [hbsl,List.take_length] at hz
          rw [hz] at eD
          exact ⟨s3,D,hD,eD,rfl⟩
      rintro σ7 H11 ⟨s11,lo,hlo,elo,rfl⟩
      have nla:lo ≠ ah:=fun z=>by rw [z,eah] at hlo; cases hlo
      have s7n:=s7m.trans s11
      have ebs11:=s11 _ _ ebs
      have et11:=s11 _ _ et
      have hPb11:PL H11 bs qb.1:=PL.mono hPb s11.tups
      have hbx11:=hbx.mono s11.tups
      refine ⟨fun σ' H3=>H3 = H11∧∃ c14:Option V,σ' = [some (.ref a),some (.ref bo),some (.ref ma),some (.int tw),some (.int tu),some (.int st),some (.ref f1),some (v),some (.ref fo),some (.int (vsum ((bxs ps.length FA).take i))),some (.ref ah),some (.ref t),some (.ref b),some (.ref lo),c14,c15],?_,?_⟩
      · refine ⟨_,rfl,ah,rfl,⟨_,SqL.of (s11 _ _ eah)⟩,for_list (xs:=hs) (fun j σ' H3=>H3 = H11∧∃ c14:Option V,σ' = [some (.ref a),some (.ref bo),some (.ref ma),some (.int tw),some (.int tu),some (.int st),some (.ref f1),some (v),some (.ref fo),some (.int (vsum ((bxs ps.length FA).take i))),some (.ref ah),some (.ref t),some (.ref b),some (.ref lo),c14,c15]) ⟨rfl,_,rfl⟩ (fun j σ H3 _ h=>by rw [h.1]; exact SqL.of (s11 _ _ eah)) (fun j y σ H3 e h=>?_) (fun σ H3 h=>h)⟩
        obtain ⟨e3,c14',rfl⟩:=h
        rw [e3]
        clear e3
        obtain ⟨qo,eqo,bo',rfl,hbo'⟩:=paired_get hhs e
        have hj:j < i:=by have:=(List.getElem?_eq_some_iff.mp eqo).1; rw [List.length_take] at this; omega
        have eqo' : (bxs ps.length FA)[j]? = some qo:=by rw [List.getElem?_take,if_pos hj] at eqo; exact eqo
        have hasc:Asc qo.1 qb.1:=pw_get (bx_asc hShA) hj eqo' eqb
        obtain ⟨hin',_,_⟩:=bx_in hShA qo (List.mem_of_getElem? eqo')
        have hql':=hin'.len
        have hw':=hin'.wide hwd
        have hbo11:=hbo'.mono s11.tups
        refine ⟨_,rfl,_,rfl,hbo11.lt_to hbx11 hasc ⟨_,rfl,iteF ?_⟩⟩
        exact ⟨_,rfl,_,rfl,bo',b,qo.1,qb.1,rfl,hbo11,hbx11,by omega,by omega,hasc,(fun p hp=>by have:=(hw' p hp).1; omega),_,rfl,iteF ⟨rfl,_,rfl⟩⟩
      rintro σ7 H3 ⟨e3,c14',rfl⟩
      rw [e3]
      clear e3
      have eah11:=s11 _ _ eah
      have hhl:hs.length ≤ 64:=by rw [Paired.length hhs,List.length_take]; omega
      refine ⟨fun σ' H3=>Same H9 H3∧SameT H11 H3∧H3 ah = some (.lst (hs ++ [.ref b]))∧H3 lo = some (.lst ((qb.1.map (·.1)).map V.int))∧σ' = [some (.ref a),some (.ref bo),some (.ref ma),some (.int tw),some (.int tu),some (.int st),some (.ref f1),some (v),some (.ref fo),some (.int (vsum ((bxs ps.length FA).take i))),some (.ref ah),some (.ref t),some (.ref b),some (.ref lo),c14',c15],?_,?_⟩
      · exact ⟨_,rfl,.inl ⟨rfl,_,SqL.of eah11⟩,_,rfl,ah,_,_,rfl,rfl,eah11,small1000 (by omega),(sm.trans s11).upd hah,sameT_lst eah11,upd_same,(upd_ne nla).trans elo,rfl⟩
      rintro σ7 H12 ⟨s912,t1112,eah12,elo12,rfl⟩
      have s712:=s79.trans s912
      have et12:=t1112 _ _ et11
      have ebs12:=t1112 _ _ ebs11
      have hPb12:PL H12 bs qb.1:=PL.mono hPb11 t1112
      have hhs12:Paired (fun x q=>∃ b:Addr,x = .ref b∧BxA H12 b q.1) (hs ++ [.ref b]) ((bxs ps.length FA).take (i + 1)):=by
        rw [take_snoc eqb]
        exact paired_app (Paired.mapP hhs fun _ _ ⟨b',e',p'⟩=>⟨b',e',p'.mono (s11.tups.trans t1112)⟩) (.cons ⟨b,rfl,hbx11.mono t1112⟩ .nil)
      have hlm:(qb.1.map (·.1)).length = ps.length:=by rw [List.length_map]; exact hql
      have hlm2:(qb.1.map (·.2)).length = ps.length:=by rw [List.length_map]; exact hql
      refine ⟨fun σ' H3=>Same H12 H3∧σ' = [some (.ref a),some (.ref bo),some (.ref ma),some (.int tw),some (.int tu),some (.int st),some (.ref f1),some (v),some (.ref fo),some (.int (vsum ((bxs ps.length FA).take i))),some (.ref ah),some (.ref t),some (.ref b),some (.ref lo),c14',c15],?_,?_⟩
      · refine ⟨_,rfl,t,_,_,_,rfl,rfl,SqT.of et12,rfl,f1,spA,rfl,⟨_,_,s712 _ _ hfA,rfl⟩,hFA,_,rfl,⟨_,_,s712 _ _ hfA,rfl⟩,fun os hos hfree hcell=>hspA _ lo _ _ (jz H12 _ os s712 hos hfree hcell) hlm (frz_same hos hfree _ _ elo12) fun H13z s13z=>?_⟩
        have s13:=hide_same hos hfree s13z
        generalize hideL H13z _ = H13 at s13 ⊢
        refine ⟨rfl,_,rfl,?_⟩
        rw [dec_ii,← hgL]
        refine ite2 (fun g=>absurd g (by simp)) fun _=>?_
        refine ⟨_,rfl,t,_,_,_,rfl,rfl,SqT.of (s13 _ _ et12),rfl,_,rfl,_,rfl,lo,_,rfl,.inl (SqL.of (s13 _ _ elo12)),fun l2 hl2=>?_⟩
        have s14:=same_new hl2 (.lst ((qb.1.map (·.1)).map V.int))
        have el2:upd H13 l2 (.lst ((qb.1.map (·.1)).map V.int)) l2 = some (.lst ((qb.1.map (·.1)).map V.int)):=upd_same
        generalize upd H13 l2 (.lst ((qb.1.map (·.1)).map V.int)) = H14 at s14 el2 ⊢
        obtain ⟨u,hu,hlk⟩:=tel_lk (K:=K) telL (FmV.mono ((s912.trans s13).trans s14).tups fm9)
        have hu:u = .int qb.2:=hu
        subst hu
        refine ⟨v,_,l2,_,rfl,SqL.of el2,hlk,.inl ⟨rfl,_,rfl,?_⟩⟩
        exact ite2 (fun g=>absurd g (by simp)) fun _=>⟨s13.trans s14,rfl⟩
      rintro σ7 H13 ⟨s13,rfl⟩
      refine ⟨fun σ' H3=>Same H12 H3∧σ' = [some (.ref a),some (.ref bo),some (.ref ma),some (.int tw),some (.int tu),some (.int st),some (.ref f1),some (v),some (.ref fo),some (.int (vsum ((bxs ps.length FA).take i))),some (.ref ah),some (.ref t),some (.ref b),some (.ref lo),c14',c15],?_,?_⟩
      · refine ⟨_,rfl,t,_,_,_,rfl,rfl,SqT.of (s13 _ _ et12),rfl,f1,spA,rfl,⟨_,_,s13 _ _ (s712 _ _ hfA),rfl⟩,hFA,_,rfl,b,rfl,⟨_,SqT.of (s13 _ _ ebs12)⟩,comp_tup (xs:=bs) (fun D j zs H3=>Same H13 H3∧H3 D = some (.lst zs)∧zs = ((qb.1.take j).map (·.2)).map V.int∧zs.length ≤ j)
          (fun D hD=>⟨same_new hD _,upd_same,rfl,Nat.zero_le _⟩) (fun D j zs H3 hD _ h=>SqT.of (h.1 _ _ (s13 _ _ ebs12))) (fun D j x zs H3 hD e h=>?_) (fun D zs H3 hD h=>?_)⟩
        · obtain ⟨s3,eD,hz,hzl⟩:=h
          have hj:j < bs.length:=(List.getElem?_eq_some_iff.mp e).1
          obtain ⟨p,tp,ep,rfl,htp⟩:=hPb12.get e
          refine ⟨_,rfl,tp,_,_,_,rfl,rfl,SqT.of (s3 _ _ (s13 _ _ htp)),rfl,CYes.mk hj eD (small1000 (by omega)) ⟨s3.upd hD,upd_same,?_,by rw [List.length_append,List.length_singleton]; omega⟩⟩
          rw [take_snoc ep,List.map_append,List.map_append,hz]
          rfl
        · obtain ⟨s3,eD,hz,hzl⟩:=h
          rw [hbsl,List.take_length] at hz
          rw [hz] at eD
          refine ⟨⟨_,_,s3 _ _ (s13 _ _ (s712 _ _ hfA)),rfl⟩,fun os hos hfree hcell=>hspA _ D _ _ (jz H3 _ os ((s712.trans s13).trans s3) hos hfree hcell) hlm2 (frz_same hos hfree _ _ eD) fun H14z s14z=>?_⟩
          have s14:=hide_same hos hfree s14z
          generalize hideL H14z _ = H14 at s14 ⊢
          refine ⟨rfl,_,rfl,?_⟩
          rw [dec_ii,← hgH]
          exact ite2 (fun g=>absurd g (by simp)) fun _=>⟨(s13.trans s3).trans s14,rfl⟩
      rintro σ7 H14 ⟨s14,rfl⟩
      have hbx14:BxA H14 b qb.1:=⟨bs,s14 _ _ ebs12,PL.mono hPb12 s14.tups⟩
      refine ⟨fun σ' H3=>H3 = H14∧σ' = [some (.ref a),some (.ref bo),some (.ref ma),some (.int tw),some (.int tu),some (.int st),some (.ref f1),some (v),some (.ref fo),some (.int (vsum ((bxs ps.length FA).take i))),some (.ref ah),some (.ref t),some (.ref b),some (.ref lo),c14',some (.int (vol qb.1))],?_,?_⟩
      · exact ⟨_,rfl,b,qb.1,rfl,hbx14,by omega,hwide,rfl,rfl⟩
      rintro σ7 H3 ⟨e3,rfl⟩
      rw [e3]
      clear e3
      refine ⟨fun σ' H3=>Same H14 H3∧σ' = [some (.ref a),some (.ref bo),some (.ref ma),some (.int tw),some (.int tu),some (.int st),some (.ref f1),some (v),some (.ref fo),some (.int (vsum ((bxs ps.length FA).take i))),some (.ref ah),some (.ref t),some (.ref b),some (.ref lo),c14',some (.int (vol qb.1))],?_,?_⟩
      · refine ⟨_,rfl,vol qb.1,rfl,_,rfl,iteF ?_⟩
        refine ⟨_,rfl,_,rfl,b,bs,qb.1,rfl,.inr (s14 _ _ ebs12),PL.mono hPb12 s14.tups,by omega,hwide,rfl,_,rfl,ite2 (fun g=>absurd g (by simp)) fun _=>?_⟩
        refine ⟨_,rfl,b,qb.1,rfl,hbx14,by omega,fun l H15 s15 hl el=>?_⟩
        refine ⟨_,rfl,l,lo,_,_,rfl,rfl,SqL.of el,SqL.of (s15 _ _ (s14 _ _ elo12)),.inr ⟨rfl,fun _=>true,(fun j x y e1 e2=>?_),?_⟩⟩
        · rw [e1] at e2
          cases e2
          obtain ⟨c,rfl,_⟩:=of_map e1
          have:=EqI.flat (K:=K) (H:=H15) (x:=.int c) (y:=.int c) rfl rfl
          rw [show eqV (.int c) (.int c) = true by simp [eqV]] at this
          exact this
        · rw [if_pos rfl,List.all_eq_true.mpr (fun _ _=>rfl)]
          exact ⟨_,rfl,iteF ⟨s15,rfl⟩⟩
      rintro σ7 H15 ⟨s15,rfl⟩
      have s1215:=s14.trans s15
      refine ⟨_,rfl,_,rfl,_,_,rfl,rfl,s912.trans s1215,_,some (.ref t),some (.ref b),some (.ref lo),c14',some (.int (vol qb.1)),s1215 _ _ eah12,Paired.mapP hhs12 fun _ _ ⟨b',e',p'⟩=>⟨b',e',p'.mono s1215.tups⟩,?_⟩
      rw [vsum_snoc eqb]
      rfl
    · obtain ⟨sm,hs,c11,c12,c13,c14,c15,eah,hhs,rfl⟩:=h
      rw [hxl,List.take_length,bx_vol hShA]
      exact ⟨sm,_,_,_,_,_,rfl⟩
  rintro σ7 H11 ⟨s911,c11,c12,c13,c14,c15,rfl⟩
  have s711:=s79.trans s911
  refine ⟨_,rfl,_,rfl,bo,ys,ps,rfl,.inl (s711 _ _ ebo7),PL.mono hP7 s711.tups,h3,(fun p hp=>⟨by have:=hle p hp; omega,hwd p hp⟩),rfl,_,rfl,iteTS ?_ ?_⟩
  · simp
  exact ⟨_,rfl,_,rfl,_,rfl,v,fo,bo,xs,ys,ps,FA,css,rfl,FmV.mono s911.tups fm9,s911 _ _ efo,hX.mono s911.tups,s711 _ _ ebo7,PL.mono hP7 s711.tups,h3,hShA,hSm,hBd,h64,hcl,hLs,hc57,(fun z e=>s711 _ _ (hPt7 z e)),fun H'=>q H'⟩
end
theorem ls0 {P:List Value→Prop} (h:P []):∀ us:List Value,us.length = 0→P us:=fun us e=>by
  cases us
  · exact h
  · cases e
theorem lsS {P:List Value→Prop} {n:Nat} (h:∀ a us,us.length = n→P (a :: us)):∀ us:List Value,us.length = n + 1→P us:=fun us e=>by
  cases us
  · cases e
  · exact h _ _ (Nat.succ.inj e)
theorem ls1 {P:List Value→Prop} (h:∀ a,P [a]):∀ us:List Value,us.length = 1→P us:=lsS fun a=>ls0 (P:=fun v=>P (a :: v)) (h a)
theorem ls2 {P:List Value→Prop} (h:∀ a b,P [a,b]):∀ us:List Value,us.length = 2→P us:=lsS fun a=>ls1 (P:=fun v=>P (a :: v)) (h a)
theorem ls3 {P:List Value→Prop} (h:∀ a b c,P [a,b,c]):∀ us:List Value,us.length = 3→P us:=lsS fun a=>ls2 (P:=fun v=>P (a :: v)) (h a)
theorem ls4 {P:List Value→Prop} (h:∀ a b c d,P [a,b,c,d]):∀ us:List Value,us.length = 4→P us:=lsS fun a=>ls3 (P:=fun v=>P (a :: v)) (h a)
theorem ls5 {P:List Value→Prop} (h:∀ a b c d e,P [a,b,c,d,e]):∀ us:List Value,us.length = 5→P us:=lsS fun a=>ls4 (P:=fun v=>P (a :: v)) (h a)
theorem lb1 {fd:FuncData} {ps:List Str} (h:∀ a,bindArgs fd ⟨[a],[]⟩ = pure (ps.zip [a])):∀ us:List Value,us.length = 1→bindArgs fd ⟨us,[]⟩ = pure (ps.zip us):=ls1 (P:=fun us=>bindArgs fd ⟨us,[]⟩ = pure (ps.zip us)) h
theorem lb2 {fd:FuncData} {ps:List Str} (h:∀ a b,bindArgs fd ⟨[a,b],[]⟩ = pure (ps.zip [a,b])):∀ us:List Value,us.length = 2→bindArgs fd ⟨us,[]⟩ = pure (ps.zip us):=ls2 (P:=fun us=>bindArgs fd ⟨us,[]⟩ = pure (ps.zip us)) h
theorem lb3 {fd:FuncData} {ps:List Str} (h:∀ a b c,bindArgs fd ⟨[a,b,c],[]⟩ = pure (ps.zip [a,b,c])):∀ us:List Value,us.length = 3→bindArgs fd ⟨us,[]⟩ = pure (ps.zip us):=ls3 (P:=fun us=>bindArgs fd ⟨us,[]⟩ = pure (ps.zip us)) h
theorem lb4 {fd:FuncData} {ps:List Str} (h:∀ a b c d,bindArgs fd ⟨[a,b,c,d],[]⟩ = pure (ps.zip [a,b,c,d])):∀ us:List Value,us.length = 4→bindArgs fd ⟨us,[]⟩ = pure (ps.zip us):=ls4 (P:=fun us=>bindArgs fd ⟨us,[]⟩ = pure (ps.zip us)) h
theorem lb5 {fd:FuncData} {ps:List Str} (h:∀ a b c d e,bindArgs fd ⟨[a,b,c,d,e],[]⟩ = pure (ps.zip [a,b,c,d,e])):∀ us:List Value,us.length = 5→bindArgs fd ⟨us,[]⟩ = pure (ps.zip us):=ls5 (P:=fun us=>bindArgs fd ⟨us,[]⟩ = pure (ps.zip us)) h
abbrev GIn (K:PySem.W.Frag) (x:Str) (f:Addr):Prop:=PySem.W.nsIn K mainGlobals x = some (some (.ref f))
section
variable {CX:CXT} {P:Program} {w:World} {K:PySem.W.Frag} {mg:Str→Option Value} {base:Heap} {j k:Nat} {C f:Addr} {fd:FuncData} {x m:Str} {ps:List Str} {sp:Sp}
theorem _root_.L2.Callee.up (c:Callee P w K mg base j x ps sp) (h:j ≤ k:=by decide):Callee P w K mg base k x ps sp:=c.mono h
theorem mkC {h:Heap} {q:Str} {st:Stmt} (X:K.In h) (G:h.Ns mainGlobals mg) (F:Fun K m q st f fd) (a:GIn K x f) (O:FnOk P w K mg base CX0 k f fd ps sp) (b:Binds K fd ps []):Callee P w K mg base k x ps sp:=⟨_,_,O,b,F.kp,PySem.W.mg_of X G a⟩
end
theorem all_mk {l:PySem.W.OpenLaw} {w:World} {K:PySem.W.Frag} {h:Heap} {mg:Str→Option Value} {fa f0 f1 f2 f3 f4 f5 f6 f7 f8 f9 f10 f11 f12 f13 f14 f15 f16 f17 f18 f19 f20 f21 f22 f23 f24:Addr} (X:K.In h) (G:h.Ns mainGlobals mg) (hfa:mg "law" = some (.ref fa))
    {fd0 fd1 fd2 fd3 fd4 fd5 fd6 fd7 fd8 fd9 fd10 fd11 fd12 fd13 fd14 fd15 fd16 fd17 fd18 fd19 fd20 fd21 fd22:FuncData}
    (a0:GIn K "stretches" f0) (F0:Fun K "stretches" "stretches" Y26 f0 fd0)
    (a1:GIn K "grain" f1) (F1:Fun K "grain" "grain" Y7 f1 fd1)
    (a2:GIn K "cut_columns" f2) (F2:Fun K "cut_columns" "cut_columns" Y5 f2 fd2)
    (a3:GIn K "built" f3) (F3:Fun K "built" "built" Y2 f3 fd3)
    (a4:GIn K "layered" f4) (F4:Fun K "layered" "layered" Y21 f4 fd4)
    (a5:GIn K "closed" f5) (F5:Fun K "closed" "closed" Y3 f5 fd5)
    (a6:GIn K "look" f6) (F6:Fun K "look" "look" Y22 f6 fd6)
    (a7:GIn K "beneath_code" f7) (F7:Fun K "beneath_code" "beneath_code" Y0 f7 fd7)
    (a8:GIn K "mapped" f8) (F8:Fun K "mapped" "mapped" Y23 f8 fd8)
    (a9:GIn K "paired" f9) (F9:Fun K "paired" "paired" Y25 f9 fd9)
    (a10:GIn K "boxes" f10) (F10:Fun K "boxes" "boxes" Y1 f10 fd10)
    (a11:GIn K "marks_of" f11) (F11:Fun K "marks_of" "marks_of" Y24 f11 fd11)
    (a12:GIn K "gathered" f12) (F12:Fun K "gathered" "gathered" Y6 f12 fd12)
    (a13:GIn K "volume" f13) (F13:Fun K "volume" "volume" Y27 f13 fd13)
    (a14:GIn K "corner" f14) (F14:Fun K "corner" "corner" Y4 f14 fd14)
    (a15:GIn K "_law_at" f15) (F15:Fun K "_law_at" "_law_at" Y10 f15 fd15)
    (a16:GIn K "_law_bounds" f16) (F16:Fun K "_law_bounds" "_law_bounds" Y11 f16 fd16)
    (a17:GIn K "_law_marks" f17) (F17:Fun K "_law_marks" "_law_marks" Y18 f17 fd17)
    (a18:GIn K "_law_int" f18) (F18:Fun K "_law_int" "_law_int" Y16 f18 fd18)
    (a19:GIn K "_law_told" f19) (F19:Fun K "_law_told" "_law_told" Y20 f19 fd19)
    (a20:GIn K "_law_box" f20) (F20:Fun K "_law_box" "_law_box" Y12 f20 fd20)
    (a21:GIn K "_law_meet" f21) (F21:Fun K "_law_meet" "_law_meet" Y19 f21 fd21)
    (a22:GIn K "_law_many" f22) (F22:Fun K "_law_many" "_law_many" Y17 f22 fd22)
    {cL23 tP23:Addr} {ocL23 kVL23 dcL23 pmL23 ctL23 o1L23:Value} {odL23 anL23 o2L23:Option Addr} {slL23 o3L23:Array (Option Value)} {vsL23:Array Value} (a23:GIn K "_law_further" f23) (lL23:K.lookup f23 = some ⟨ocL23,odL23,.func (PySem.W.fnOf "_law_further" "_law_further" (defArgs Y13) (defBody Y13) (defScope Y13) .none kVL23 dcL23 pmL23 anL23 (.ref cL23) ctL23),slL23⟩) (cdL23:PySem.W.codeIn K (.ref cL23) "_law_further" = true) (kpL23:PySem.W.keepIn K (.ref f23) = true) (lcL23:K.lookup cL23 = some ⟨o1L23,o2L23,.fields vsL23,o3L23⟩) (lpL23:vsL23[11]? = some (.ref tP23))
    {cL tP:Addr} {ocL kVL dcL pmL ctL o1L:Value} {odL anL o2L:Option Addr} {slL o3L:Array (Option Value)} {vsL:Array Value} (a24:GIn K "law" f24) (lL:K.lookup f24 = some ⟨ocL,odL,.func (PySem.W.fnOf "law" "law" (defArgs Y8) (defBody Y8) (defScope Y8) .none kVL dcL pmL anL (.ref cL) ctL),slL⟩) (cdL:PySem.W.codeIn K (.ref cL) "law" = true) (kpL:PySem.W.keepIn K (.ref f24) = true) (lcL:K.lookup cL = some ⟨o1L,o2L,.fields vsL,o3L⟩) (lpL:vsL[11]? = some (.ref tP))
    (ntp23:tP23 ≠ tP)
    (z0:PySem.W.nsIn K mainGlobals "sorted" = some none)
    (z1:PySem.W.nsIn K mainGlobals "list" = some none)
    (z2:PySem.W.nsIn K mainGlobals "set" = some none)
    (z3:PySem.W.nsIn K mainGlobals "zip" = some none)
    (z4:PySem.W.nsIn K mainGlobals "len" = some none)
    (z5:PySem.W.nsIn K mainGlobals "tuple" = some none)
    (z6:PySem.W.nsIn K mainGlobals "min" = some none)
    (z7:PySem.W.nsIn K mainGlobals "range" = some none)
    (z8:PySem.W.nsIn K mainGlobals "isinstance" = some none)
    (z9:PySem.W.nsIn K mainGlobals "int" = some none)
    (z10:PySem.W.nsIn K mainGlobals "bool" = some none)
    {w0:Value} (y0:PySem.W.nsIn K mainGlobals "MOST_GRAIN" = some (some w0)) (x0:RelV (V.int 300) w0)
    : ∃ fd:FuncData,(∀ (s:Shared) (v:Value),BindsTo s fd ⟨[v],[]⟩ [("_law_script",v)])∧∀ base:Heap,K.In base→base.Ns mainGlobals mg→(∀ q ∈ (PySem.W.tabIn K "law").toList ++ (PySem.W.tabIn K "_law_further").toList,PySem.W.CodeHd base q.1 q.2∧base.BuiltinsAt mg q.2)→FnOk l.prog w K mg base CX0 12 fa fd ["_law_script"] (J8 K):=by
  have e:=hfa.symm.trans (PySem.W.mg_of X G a24)
  cases e
  have bl:Bl K mg:=⟨PySem.W.mg_none_of X G z0,PySem.W.mg_none_of X G z1,PySem.W.mg_none_of X G z2,PySem.W.mg_none_of X G z3,PySem.W.mg_none_of X G z4,PySem.W.mg_none_of X G z5,PySem.W.mg_none_of X G z6,PySem.W.mg_none_of X G z7,PySem.W.mg_none_of X G z8,PySem.W.mg_none_of X G z9,PySem.W.mg_none_of X G z10,⟨_,PySem.W.mg_of X G y0,x0⟩⟩
  have tL:=tab_mk a24 lL lcL lpL
  refine ⟨PySem.W.fnOf "law" "law" (defArgs Y8) (defBody Y8) (defScope Y8) .none kVL dcL pmL anL (.ref cL) ctL,fun s v=>.of_eq rfl,fun base _ _ hq=>?_⟩
  have hT:=hq (cL,tP) (by rw [tL]; exact List.mem_append.mpr (.inl List.mem_cons_self))
  have tL23:=tab_mk a23 lL23 lcL23 lpL23
  have hT23:=hq (cL23,tP23) (by rw [tL23]; exact List.mem_append.mpr (.inr List.mem_cons_self))
  have O0:=O_23 (P:=l.prog) (w:=w) (base:=base) F0 bl
  have C_stretches:=mkC X G F0 a0 O0 (F0.binds fun _ _ _ _ _ _=>lb3 fun _ _ _=>rfl)
  have O5:=O_3 (P:=l.prog) (w:=w) (base:=base) F5 bl
  have C_closed:=mkC X G F5 a5 O5 (F5.binds fun _ _ _ _ _ _=>lb1 fun _=>rfl)
  have O7:=O_0 (P:=l.prog) (w:=w) (base:=base) F7 bl
  have C_beneath_code:=mkC X G F7 a7 O7 (F7.binds fun _ _ _ _ _ _=>lb2 fun _ _=>rfl)
  have O12:=O_6 (P:=l.prog) (w:=w) (base:=base) F12 bl
  have C_gathered:=mkC X G F12 a12 O12 (F12.binds fun _ _ _ _ _ _=>lb1 fun _=>rfl)
  have O13:=O_24 (P:=l.prog) (w:=w) (base:=base) F13 bl
  have C_volume:=mkC X G F13 a13 O13 (F13.binds fun _ _ _ _ _ _=>lb1 fun _=>rfl)
  have O14:=O_4 (P:=l.prog) (w:=w) (base:=base) F14 bl
  have C_corner:=mkC X G F14 a14 O14 (F14.binds fun _ _ _ _ _ _=>lb1 fun _=>rfl)
  have O15:=O_9 (P:=l.prog) (w:=w) (base:=base) F15 bl
  have C_law_at:=mkC X G F15 a15 O15 (F15.binds fun _ _ _ _ _ _=>lb2 fun _ _=>rfl)
  have O17:=O_15 (P:=l.prog) (w:=w) (base:=base) F17 bl
  have C_law_marks:=mkC X G F17 a17 O17 (F17.binds fun _ _ _ _ _ _=>lb2 fun _ _=>rfl)
  have O18:=O_13 (P:=l.prog) (w:=w) (base:=base) F18 bl
  have C_law_int:=mkC X G F18 a18 O18 (F18.binds fun _ _ _ _ _ _=>lb1 fun _=>rfl)
  have O19:=O_17 (P:=l.prog) (w:=w) (base:=base) F19 bl
  have C_law_told:=mkC X G F19 a19 O19 (F19.binds fun _ _ _ _ _ _=>lb5 fun _ _ _ _ _=>rfl)
  have O21:=O_16 (P:=l.prog) (w:=w) (base:=base) F21 bl
  have C_law_meet:=mkC X G F21 a21 O21 (F21.binds fun _ _ _ _ _ _=>lb2 fun _ _=>rfl)
  have O22:=O_14 (P:=l.prog) (w:=w) (base:=base) F22 bl
  have C_law_many:=mkC X G F22 a22 O22 (F22.binds fun _ _ _ _ _ _=>lb1 fun _=>rfl)
  have O2:=O_5 (P:=l.prog) (w:=w) (base:=base) F2 bl C_stretches.up
  have C_cut_columns:=mkC X G F2 a2 O2 (F2.binds fun _ _ _ _ _ _=>lb2 fun _ _=>rfl)
  have O6:=O_19 (P:=l.prog) (w:=w) (base:=base) F6 bl C_beneath_code.up
  have C_look:=mkC X G F6 a6 O6 (F6.binds fun _ _ _ _ _ _=>lb2 fun _ _=>rfl)
  have O16:=O_10 (P:=l.prog) (w:=w) (base:=base) F16 bl C_law_at.up
  have C_law_bounds:=mkC X G F16 a16 O16 (F16.binds fun _ _ _ _ _ _=>lb1 fun _=>rfl)
  have O20:=O_11 (P:=l.prog) (w:=w) (base:=base) F20 bl C_law_int.up
  have C_law_box:=mkC X G F20 a20 O20 (F20.binds fun _ _ _ _ _ _=>lb2 fun _ _=>rfl)
  have O1:=O_7 (P:=l.prog) (w:=w) (base:=base) F1 bl C_cut_columns.up
  have C_grain:=mkC X G F1 a1 O1 (F1.binds fun _ _ _ _ _ _=>lb2 fun _ _=>rfl)
  have R10:∀ n:Nat,FnOk l.prog w K mg base CX0 (0 + n) f10 fd10 ["form", "deep"] (J1 K n):=fun n=>by
    induction n with
    | zero=>exact FnOk.no fun vs H Q E h=>no_boxes h
    | succ n ih=>exact O_1 (k:=0 + n) (P:=l.prog) (w:=w) (base:=base) F10 bl ⟨_,_,ih,(F10.binds fun _ _ _ _ _ _=>lb2 fun _ _=>rfl),F10.kp,PySem.W.mg_of X G a10⟩
  have O10:=R10 7
  have C_boxes:=mkC X G F10 a10 O10 (F10.binds fun _ _ _ _ _ _=>lb2 fun _ _=>rfl)
  have R11:∀ n:Nat,FnOk l.prog w K mg base CX0 (1 + n) f11 fd11 ["form", "deep"] (J24 K n):=fun n=>by
    induction n with
    | zero=>exact FnOk.no fun vs H Q E h=>no_marks_of h
    | succ n ih=>exact O_21 (k:=1 + n) (P:=l.prog) (w:=w) (base:=base) F11 bl ⟨_,_,ih,(F11.binds fun _ _ _ _ _ _=>lb2 fun _ _=>rfl),F11.kp,PySem.W.mg_of X G a11⟩ (C_gathered.mono (by omega))
  have O11:=R11 7
  have C_marks_of:=mkC X G F11 a11 O11 (F11.binds fun _ _ _ _ _ _=>lb2 fun _ _=>rfl)
  have R4:∀ n:Nat,FnOk l.prog w K mg base CX0 (3 + n) f4 fd4 ["columns", "ahead", "leaf"] (J21 K l.prog w mg base n):=fun n=>by
    induction n with
    | zero=>exact FnOk.no fun vs H Q E h=>no_layered h
    | succ n ih=>exact O_18 (k:=3 + n) (P:=l.prog) (w:=w) (base:=base) F4 bl (C_closed.mono (by omega)) ⟨_,_,ih,(F4.binds fun _ _ _ _ _ _=>lb3 fun _ _ _=>rfl),F4.kp,PySem.W.mg_of X G a4⟩ (by omega)
  have O4:=R4 7
  have C_layered:=mkC X G F4 a4 O4 (F4.binds fun _ _ _ _ _ _=>lb3 fun _ _ _=>rfl)
  have R8:∀ n:Nat,FnOk l.prog w K mg base CX0 (3 + n) f8 fd8 ["form", "deep", "change"] (J23 K l.prog w mg base n):=fun n=>by
    induction n with
    | zero=>exact FnOk.no fun vs H Q E h=>no_mapped h
    | succ n ih=>exact O_20 (k:=3 + n) (P:=l.prog) (w:=w) (base:=base) F8 bl (C_closed.mono (by omega)) ⟨_,_,ih,(F8.binds fun _ _ _ _ _ _=>lb3 fun _ _ _=>rfl),F8.kp,PySem.W.mg_of X G a8⟩ (by omega)
  have O8:=R8 7
  have C_mapped:=mkC X G F8 a8 O8 (F8.binds fun _ _ _ _ _ _=>lb3 fun _ _ _=>rfl)
  have R9:∀ n:Nat,FnOk l.prog w K mg base CX0 (3 + n) f9 fd9 ["one", "other", "deep", "pair"] (J25 K l.prog w mg base n):=fun n=>by
    induction n with
    | zero=>exact FnOk.no fun vs H Q E h=>no_paired h
    | succ n ih=>exact O_22 (k:=3 + n) (P:=l.prog) (w:=w) (base:=base) F9 bl (C_closed.mono (by omega)) ⟨_,_,ih,(F9.binds fun _ _ _ _ _ _=>lb4 fun _ _ _ _=>rfl),F9.kp,PySem.W.mg_of X G a9⟩ (by omega)
  have O9:=R9 7
  have C_paired:=mkC X G F9 a9 O9 (F9.binds fun _ _ _ _ _ _=>lb4 fun _ _ _ _=>rfl)
  have O3:=O_2 (P:=l.prog) (w:=w) (base:=base) F3 bl C_layered.up C_grain.up C_cut_columns.up
  have C_built:=mkC X G F3 a3 O3 (F3.binds fun _ _ _ _ _ _=>lb3 fun _ _ _=>rfl)
  have F23:=fun_mk (st:=Y13) lL23 cdL23 kpL23
  have O23:=O_12 (P:=l.prog) (w:=w) (base:=base) F23 bl C_boxes.up C_marks_of.up C_mapped.up C_paired.up rfl tL23 hT23
  have C_law_further:=mkC X G F23 a23 O23 (F23.binds fun _ _ _ _ _ _=>lb3 fun _ _ _=>rfl)
  exact O_8 (fun_mk (st:=Y8) lL cdL kpL) bl C_law_bounds.up C_law_marks.up C_built.up C_boxes.up C_law_told.up C_volume.up C_law_further.up C_law_at.up C_law_many.up C_law_box.up C_law_int.up C_law_meet.up C_look.up C_corner.up rfl tL hT (fun z e=>by rw [tL23] at e; cases e; exact ntp23) C_law_told.up
theorem tabs_in {K:PySem.W.Frag} {x:Str} {t:Addr × Addr} (h:t ∈ (PySem.W.tabIn K x).toList):PySem.W.tabIn K x = some t:=by
  cases e:PySem.W.tabIn K x with
  | none=>rw [e] at h; cases h
  | some z=>rw [e] at h; rw [List.mem_singleton.mp h]
theorem walk {l:PySem.W.OpenLaw} {q:Program} {loose:List Str} {XP:(Str→Option Value)→Heap→Prop} {YP:World→Heap→Prop} {d:DefRec} {K:Params→PySem.W.Frag} (hn:l.most = some 63) (hdf:d.params.defaults = [])
    (hY:∀ (w:World) (h:Heap),YP w h→(K w.params).In h) (hnK:∀ p:Params,PySem.W.noTabs (K p) = true) (hxs:∃ d',(PyProof.Rows.recsOf q).find? (fun e=>e.name == ("law" : Str)) = some d') (hxs1:∃ d',(PyProof.Rows.recsOf q).find? (fun e=>e.name == ("_law_further" : Str)) = some d')
    (F:∀ (w:World) (mg:Str→Option Value) (fa:Addr) (h:Heap),(K w.params).In h→h.Ns mainGlobals mg→mg d.name = some (.ref fa) →
      ∃ fd:FuncData,(∀ (s:Shared) (u:Value),BindsTo s fd ⟨[u],[]⟩ [("_law_script",u)])∧∀ base:Heap,(K w.params).In base→base.Ns mainGlobals mg→(∀ q ∈ (PySem.W.tabIn (K w.params) "law").toList ++ (PySem.W.tabIn (K w.params) "_law_further").toList,PySem.W.CodeHd base q.1 q.2∧base.BuiltinsAt mg q.2)→FnOk l.prog w (K w.params) mg base CX0 12 fa fd ["_law_script"] (J8 (K w.params))) :
    PySem.W.WalkO q loose XP YP l.row.toRowW d [] (fun f vs=>PySem.call f vs) :=
  L2.walk_ofT (n:=63) (k:=12) (x := "_law_script") (CX:=fun _=>CX0) (sp:=fun w=>J8 (K w.params)) (tabs:=fun p=>(PySem.W.tabIn (K p) "law").toList ++ (PySem.W.tabIn (K p) "_law_further").toList) (xs:=["law", "_law_further"]) hn (by decide) hdf ⟨rfl,by decide,by decide⟩ hY hnK (List.forall_mem_cons.mpr ⟨hxs,List.forall_mem_cons.mpr ⟨hxs1,List.forall_mem_nil _⟩⟩)
    (fun p t ht=>(List.mem_append.mp ht).elim (fun h=>⟨_,List.mem_cons_self,tabs_in h⟩) fun h=>⟨_,List.mem_cons_of_mem _ List.mem_cons_self,tabs_in h⟩) F
    (fun w H a ns hl _ hS hq=>⟨a,ns,rfl,hS,hl,fun z e=>hq z (List.mem_append.mpr (.inl (by rw [e]; exact List.mem_cons_self))),fun z e=>hq z (List.mem_append.mpr (.inr (by rw [e]; exact List.mem_cons_self))),fun _=>rfl⟩) fun _ _ _ _ _ z=>z
end My
namespace PySem.W.Fast
def tw721194056939356567:=()
def tw12419392147242965368:=()
def tw9423594231407160521:=()
def tw6124611835230237594:=()
def tw14596103256559799173:=()
def tw5959922518953416605:=()
def tw7211368739069673833:=()
def tw6990521581428805559:=()
def tw2350822163758640077:=()
def tw17765655572514970128:=()
def tw17615021559882370330:=()
def tw4526184873263125027:=()
def tw15329890617782499556:=()
def tw15082108549633854331:=()
def tw14334693193188924816:=()
def tw1606202001615405125:=()
def tw12571503852383270982:=()
def tw14899553875103743955:=()
def tw1261776663625315735:=()
def tw7920682872710693036:=()
def tw10210028809058026518:=()
def tw15987302218077650121:=()
def tw12577635091741934050:=()
def tw3587202086976130747:=()
def tw12084570322787435462:=()
def tw16371662698244127591:=()
def tw10722796770204844893:=()
def tw12582784289235059440:=()
def tw7473173005992321081:=()
def tw15887815261056912706:=()
def tw7571299244429811316:=()
def tw305810514260683527:=()
def tw2768112082349810885:=()
def tw16826827439067999618:=()
def tw11511377257363079068:=()
def tw15502307007767383163:=()
def tw12312446487248605744:=()
def tw2519966631402628120:=()
def tw13400316820027778388:=()
def tw12547127837350023910:=()
def tw6280220697044709771:=()
def tw11363471538608713134:=()
def tw17605349180316598030:=()
def tw8849701795598321284:=()
def tw5555500766261272969:=()
def tw3211505016579697578:=()
def tw16988675239897364396:=()
def tw1884226313392029388:=()
def tw2584477561482913825:=()
def tw11566506638569785960:=()
def tw4542330545684278889:=()
def tw15614573010670667908:=()
def tw9534689128915432666:=()
def tw5954684597723762288:=()
def tw632588587118150709:=()
def tw6273521504763591033:=()
def tw6308898680223370675:=()
def tw6124060545827428874:=()
def tw18271302296549122254:=()
def tw10600901087493249134:=()
def tw10484747184868072404:=()
def tw6913511375192095288:=()
def tw1970353195210747134:=()
def tw6603619931378845213:=()
def tw12151655848942901070:=()
def tw3568236651674450251:=()
def tw3762802318303094294:=()
def tw16055162498810144685:=()
def tw6398160164748958326:=()
def tw17164868792642786167:=()
def tw4414225175408533983:=()
def tw13118122026405667678:=()
def tw15446748635984030732:=()
def tw12127115970515837303:=()
def tw6800534099672835999:=()
def tw17837495408529489062:=()
def tw16453879458509745605:=()
def tw14005856073888341730:=()
def tw10167072498782294413:=()
def tw2336982475298134734:=()
def tw3479339553557094874:=()
def tw11593208627870504065:=()
def tw816579941374231973:=()
def tw6429568946714192495:=()
def tw6131770056671999005:=()
def tw13110416034843355945:=()
def tw10792810735164437677:=()
def tw10790962716483642901:=()
def tw14311428471176597340:=()
def tw2669085310421192875:=()
def tw2865398271777370873:=()
def tw8852128143413799432:=()
def tw8495741551462171241:=()
def tw475611302511440397:=()
def tw893228823922895576:=()
def tw1373028554164988516:=()
def tw9471049895138508966:=()
def tw14340343303673050552:=()
def tw11645185047962688712:=()
def tw3792764799774373542:=()
def tw14894457589209701600:=()
def tw16399177688474626291:=()
def tw9677395762842343199:=()
def tw1608890494913730055:=()
def tw9217710320246517926:=()
def tw6712911155364338148:=()
def tw7044291928287500586:=()
def tw14095198650521431757:=()
def tw1890107854134230087:=()
def tw9139605228358332926:=()
def tw11013181240595267539:=()
def tw15170836993334353560:=()
def tw10061886863436768814:=()
def tw6015100724719687764:=()
def tw18196387152912897495:=()
def tw12068239269220504798:=()
def tw768079784683899064:=()
def tw1236807301814436163:=()
def tw15753885187343469789:=()
def tw7980910452292769240:=()
def tw11874090276069870577:=()
def tw6650871210360227448:=()
def tw14261245106417744100:=()
def tw5197616706607091075:=()
def tw13177872234790952808:=()
def tw16302844433578388210:=()
def tw8086402386202017555:=()
def tw9047539514058604797:=()
def tw10918810146590452801:=()
def tw11163652686474942794:=()
def tw12399412259960935676:=()
def tw962825651389389615:=()
def tw15604483115014376627:=()
def tw11905369465017203162:=()
def tw13632595890529195459:=()
def tw11459760283817357329:=()
def tw13529776119025969233:=()
def tw8161803647760658294:=()
def tw2692779719464024403:=()
def tw17898622264164810577:=()
def tw3933926276239733435:=()
def tw7671331978950923320:=()
def tw2935320388329024053:=()
def tw3653077625120208525:=()
def tw12089294261396859120:=()
def tw4342852754888053107:=()
def tw11836112491337776252:=()
def tw4833359580654643697:=()
def tw9913302515192282562:=()
def tw7339931906978988530:=()
def tw5605148327557906224:=()
def tw1380234313041678342:=()
def tw3116181642064218187:=()
def tw9682879041334680678:=()
def tw12791683474723888046:=()
def tw5952620007191708651:=()
def tw3864836049055371925:=()
def tw12764203993064294239:=()
def tw11998200191197881965:=()
def tw7488723624725364515:=()
def tw5293372201028879963:=()
def tw17290683233082692183:=()
def tw8037028697851666838:=()
def tw13098768144401358385:=()
def tw11522152346236290146:=()
def tw8448716760188873690:=()
def tw4730595175728241328:=()
def tw1126553841430336925:=()
def tw6719286981072499485:=()
def tw5586348363068406769:=()
def tw14312419291901843811:=()
def tw18025075878661896605:=()
def tw8747942750124409298:=()
def tw11066414058280989749:=()
def tw15546586061016283789:=()
def tw11068687070978976344:=()
def tw13992615749978547146:=()
def tw7710800778670888024:=()
def tw14730894763104305355:=()
def tw5325421388622983432:=()
def tw14680361734827518557:=()
def tw17962480324101655290:=()
def tw9487553488413427467:=()
def tw16464718509869582483:=()
def tw16845783636671207177:=()
def tw8988601995047197406:=()
def tw14835673135575033283:=()
def tw9777011770105759705:=()
def tw4841094829809659234:=()
def tw11302764443485933063:=()
def tw17267957471887924858:=()
def tw7365431917860613239:=()
def tw13111460131363571369:=()
def tw6016106982986997979:=()
def tw3343525105740802467:=()
def tw14179606884501301679:=()
def tw11583395652401820291:=()
def tw4326301240418576436:=()
def tw15851071547238512626:=()
def tw12201232250749728788:=()
def tw5440848531668049702:=()
def tw4682499369940429462:=()
def tw13145751556900271747:=()
def tw4477942525480095646:=()
def tw1432684365476327130:=()
def tw12769841366402885334:=()
def tw10630523573003672072:=()
end PySem.W.Fast
open PySem PySem.W PyProof.Rows
set_option maxRecDepth 100000 in
set_option maxHeartbeats 0 in
theorem PySem.Challenge.cw_rowjudge_k38_boxes_tile_holds : PySem.Challenge.rw_rowjudge_k38_boxes_tile.Holds := by
  w_on; o_law; k_head; (case hw=>w_witness2)
  k_fill
  refine My.walk (l:=PySem.Challenge.rw_rowjudge_k38_boxes_tile) rfl rfl (fun w h Y=>PySem.W.km_in_of Y) ?hnK ?hxs ?hxs1 ?F
  case hnK=>intro p; first | rfl | decide +kernel | with_unfolding_all rfl
  case hxs=>exact ⟨_,rfl⟩
  case hxs1=>exact ⟨_,rfl⟩
  case F =>
    intro w mg fa h KX G hmg
    refine' My.all_mk KX G hmg ?a0 ?F0 ?a1 ?F1 ?a2 ?F2 ?a3 ?F3 ?a4 ?F4 ?a5 ?F5 ?a6 ?F6 ?a7 ?F7 ?a8 ?F8 ?a9 ?F9 ?a10 ?F10 ?a11 ?F11 ?a12 ?F12 ?a13 ?F13 ?a14 ?F14 ?a15 ?F15 ?a16 ?F16 ?a17 ?F17 ?a18 ?F18 ?a19 ?F19 ?a20 ?F20 ?a21 ?F21 ?a22 ?F22 ?a23 ?lL23 ?cdL23 ?kpL23 ?lcL23 ?lpL23 ?a24 ?lL ?cdL ?kpL ?lcL ?lpL ?ntp23 ?z0 ?z1 ?z2 ?z3 ?z4 ?z5 ?z6 ?z7 ?z8 ?z9 ?z10 ?y0 ?x0
    (case a0 | a1 | a2 | a3 | a4 | a5 | a6 | a7 | a8 | a9 | a10 | a11 | a12 | a13 | a14 | a15 | a16 | a17 | a18 | a19 | a20 | a21 | a22 | a23 | a24=>delta My.GIn; k_is)
    (case F0 | F1 | F2 | F3 | F4 | F5 | F6 | F7 | F8 | F9 | F10 | F11 | F12 | F13 | F14 | F15 | F16 | F17 | F18 | F19 | F20 | F21 | F22=>refine' L2.fun_mk ?l ?c ?k; (case l=>k_is); (case c=>k_is); (case k=>k_is))
    (case lL23=>k_is)
    (case cdL23=>k_is)
    (case kpL23=>k_is)
    (case lcL23=>k_is)
    (case lpL23=>rfl)
    (case lL=>k_is)
    (case cdL=>k_is)
    (case kpL=>k_is)
    (case lcL=>k_is)
    (case lpL=>rfl)
    (case ntp23=>first | decide | (intro h; cases h))
    (case z0=>k_is)
    (case z1=>k_is)
    (case z2=>k_is)
    (case z3=>k_is)
    (case z4=>k_is)
    (case z5=>k_is)
    (case z6=>k_is)
    (case z7=>k_is)
    (case z8=>k_is)
    (case z9=>k_is)
    (case z10=>k_is)
    (case y0=>k_is)
    (case x0=>exact ⟨_,rfl⟩)
