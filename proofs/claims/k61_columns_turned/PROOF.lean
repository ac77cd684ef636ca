import PyProof.Rows.All
import Wide.All
import OpenK.AllK
import Wide.FinOn
import Lean
import PyProof.EqAt
import PyProof.EqKinds
import PyProof.TupleCall
import KE.KIntText
import KE.KTryMore
import KE.KIsAll
import PyProof.ZipIter
import KE.KRevIter
import PySem.Challenge.RW_rowjudge_k61_columns_turned
set_option Elab.async false
set_option linter.all false
set_option maxRecDepth 100000
namespace L2
open PySem PySem.Spec PyProof.Rows
abbrev Key:=Sum Int Str
def keyIs:Key→Value→Bool
  | .inl k,v=>Value.isInt k v
  | .inr x,v=>Value.isStrOf x v
def keyH (w:World):Key→Int
  | .inl k=>hashInt k
  | .inr x=>hashStr w x
theorem keyIs_shape:∀ {k:Key} {v:Value},keyIs k v = true→(∃ i t,k = Sum.inl i∧v = Value.int i t)∨(∃ x t,k = Sum.inr x∧v = Value.str x t)
  | .inl i,v,h=>by
    obtain ⟨t,e⟩:=Value.isInt_shape (k:=i) (v:=v) h
    exact .inl ⟨i,t,rfl,e⟩
  | .inr x,v,h=>by
    obtain ⟨t,e⟩:=Value.isStrOf_shape (x:=x) (v:=v) h
    exact .inr ⟨x,t,rfl,e⟩
theorem key_ll (a b:Int):decide ((Sum.inl a:Key) = Sum.inl b) = (a == b):=by
  by_cases e:a = b
  · subst e; simp
  · have h:¬ (Sum.inl a:Key) = Sum.inl b:=fun q=>e (Sum.inl.inj q)
    rw [decide_eq_false h]
    exact (beq_eq_false_iff_ne.mpr e).symm
theorem key_rr (a b:Str):decide ((Sum.inr a:Key) = Sum.inr b) = decide (a = b):=by
  by_cases e:a = b
  · subst e; simp
  · have h:¬ (Sum.inr a:Key) = Sum.inr b:=fun q=>e (Sum.inr.inj q)
    rw [decide_eq_false h,decide_eq_false e]
theorem key_lr (a:Int) (b:Str):decide ((Sum.inl a:Key) = Sum.inr b) = false:=decide_eq_false (fun q=>nomatch q)
theorem key_rl (a:Str) (b:Int):decide ((Sum.inr a:Key) = Sum.inl b) = false:=decide_eq_false (fun q=>nomatch q)
def mixKind (prog:Program) (w:World):PySem.KeyKind prog w Key where
  is:=keyIs
  hash:=keyH w
  inj:=fun v a b ha hb=>by
    rcases keyIs_shape ha with ⟨i,t,rfl,rfl⟩ | ⟨x,t,rfl,rfl⟩
    · rcases keyIs_shape hb with ⟨j,u,rfl,e⟩ | ⟨y,u,rfl,e⟩
      · injection e with e1 _; rw [e1]
      · exact nomatch e
    · rcases keyIs_shape hb with ⟨j,u,rfl,e⟩ | ⟨y,u,rfl,e⟩
      · exact nomatch e
      · injection e with e1 _; rw [e1]
  byValue:=fun k v h=>by
    rcases keyIs_shape h with ⟨i,t,rfl,rfl⟩ | ⟨x,t,rfl,rfl⟩ <;> rfl
  pyHash:=fun hv h=>by
    rcases keyIs_shape hv with ⟨i,t,rfl,rfl⟩ | ⟨x,t,rfl,rfl⟩
    · exact wpAny_pyHash_int h
    · exact wpAny_pyHash_str h
  eqBool:=fun hu hv h=>by
    rcases keyIs_shape hu with ⟨i,t,rfl,rfl⟩ | ⟨x,t,rfl,rfl⟩
    · rcases keyIs_shape hv with ⟨j,u,rfl,rfl⟩ | ⟨y,u,rfl,rfl⟩
      · rw [key_ll] at h; exact wpAny_eqBool_int h
      · rw [key_lr] at h; exact SeqAt.EqAt.int_str i t y u _ _ _ _ h
    · rcases keyIs_shape hv with ⟨j,u,rfl,rfl⟩ | ⟨y,u,rfl,rfl⟩
      · rw [key_rl] at h; exact SeqAt.EqAt.str_int x t j u _ _ _ _ h
      · rw [key_rr] at h; exact wpAny_eqBool_str h
  «strs»:=fun k x t v h=>by
    rcases keyIs_shape h with ⟨i,u,rfl,e⟩ | ⟨y,u,rfl,e⟩
    · exact nomatch e
    · injection e with e1 _
      subst e1
      cases v <;> rfl
end L2
namespace L2
open PySem PySem.Spec PyProof.Rows
inductive V where
  | non | bl (b:Bool) | int (i:Int) | str (x:Str) | byt (b:Array UInt8) | flt (b:UInt64) | ref (a:Addr) | ty (n:String)
  deriving DecidableEq
def RelV:V→Value→Prop
  | .non,u=>u = Value.none
  | .bl b,u=>u = Value.bool b
  | .int i,u=>∃ t,u = Value.int i t
  | .str x,u=>∃ t,u = Value.str x t
  | .byt b,u=>∃ t,u = Value.bytes b t
  | .flt b,u=>∃ t,u = Value.float b t
  | .ref a,u=>u = Value.ref a
  | .ty n,u=>u = Value.type n
abbrev Vals:List V→List Value→Prop:=Paired RelV
theorem Vals.length {xs:List V} {us:List Value} (r:Vals xs us):xs.length = us.length:=Paired.length r
theorem Vals.get:∀ {xs:List V} {us:List Value} {i:Nat} {x:V},Vals xs us→xs[i]? = some x→∃ u,us[i]? = some u∧RelV x u
  | _,_,_,_,.nil,e=>by simp at e
  | _,_,0,_,.cons r _,e=>by simp at e; subst e; exact ⟨_,rfl,r⟩
  | _,_,i + 1,x,.cons _ t,e=>by
    obtain ⟨u,h1,h2⟩:=Vals.get (i:=i) (x:=x) t (by simpa using e)
    exact ⟨u,by simpa using h1,h2⟩
theorem Vals.set {x:V} {u:Value} (r:RelV x u):∀ {xs:List V} {us:List Value} (i:Nat),Vals xs us→Vals (xs.set i x) (us.set i u)
  | _,_,_,.nil=>.nil
  | _,_,0,.cons _ t=>.cons r t
  | _,_,i + 1,.cons q t=>.cons q (Vals.set r i t)
theorem Vals.append:∀ {xs ys:List V} {us ws:List Value},Vals xs us→Vals ys ws→Vals (xs ++ ys) (us ++ ws)
  | _,_,_,_,.nil,s=>s
  | _,_,_,_,.cons r t,s=>.cons r (Vals.append t s)
theorem Vals.take:∀ {xs:List V} {us:List Value} (n:Nat),Vals xs us→Vals (xs.take n) (us.take n)
  | _,_,0,_=>.nil
  | _,_,_ + 1,.nil=>.nil
  | _,_,n + 1,.cons r t=>.cons r (Vals.take n t)
theorem Vals.drop:∀ {xs:List V} {us:List Value} (n:Nat),Vals xs us→Vals (xs.drop n) (us.drop n)
  | _,_,0,r=>r
  | _,_,_ + 1,.nil=>.nil
  | _,_,n + 1,.cons _ t=>Vals.drop n t
def RelO:Option V→Option Value→Prop
  | some v,some u=>RelV v u
  | none,none=>True
  | _,_=>False
def KV {κ:Type} : List (κ × V)→List (κ × Value)→Prop:=Paired fun (p:κ × V) (q:κ × Value)=>p.1 = q.1∧RelV p.2 q.2
def kV:Key→V
  | .inl i=>.int i
  | .inr x=>.str x
inductive HO where
  | lst (xs:List V)
  | tup (xs:List V)
  | dK (kvs:List (Key × V)) | dT (kvs:List (List Key × V))
  | set (S:Int→Bool) (n:Nat)
  | ins (C dx:Addr) (fs:List (Str × V))
  | own (x:Addr)
  | xd (fs:List (Str × V))
  | met (f x:Addr)
  | rng (lo hi:Int)
  | frz (o:Obj) (u:HO)
  | tbl (ps:Array Value)
  | ext (φ:Heap→Prop)
abbrev Hp:=Addr→Option HO
def upd (H:Hp) (a:Addr) (o:HO):Hp:=fun b=>if b = a then some o else H b
theorem upd_same {H:Hp} {a:Addr} {o:HO} : upd H a o a = some o:=by unfold upd; rw [if_pos rfl]
theorem upd_ne {H:Hp} {a b:Addr} {o:HO} (h:b ≠ a):upd H a o b = H b:=by unfold upd; rw [if_neg h]
theorem ne_of {H:Hp} {a b:Addr} {o u:HO} (h:H a = some o) (h' : H b = some u) (d:o ≠ u):a ≠ b:=by
  intro e; subst e; rw [h] at h'; exact d (Option.some.inj h')
theorem ne_of_none {H:Hp} {a b:Addr} {o:HO} (h:H a = some o) (h' : H b = none):a ≠ b:=by
  intro e; subst e; rw [h] at h'; cases h'
section
variable (P:Program) (w:World)
def ObjOk (H:Hp) (h:Heap) (a:Addr):HO→Prop
  | .lst xs=>xs.length ≤ sizeLine∧∃ (its:List Value) (n:Nat),Vals xs its∧h.get? a = some { cls:=.type "list",data:=.seq its.toArray n }
  | .tup xs=>xs.length ≤ sizeLine∧∃ its:List Value,Vals xs its∧IsTup h a its.toArray
  | .dK kvs=>kvs.length ≤ sizeLine∧(a == sysModules) = false∧∃ vs,KV kvs vs∧h.DictOf (mixKind P w) a vs
  | .dT kvs=>kvs.length ≤ sizeLine∧(a == sysModules) = false∧∃ xs:List (List Key × Addr × Value),
      Paired (fun (p:List Key × V) (q:List Key × Addr × Value)=>p.1 = q.1∧H q.2.1 = some (.tup (p.1.map kV))∧RelV p.2 q.2.2) kvs xs ∧
      ∃ o es ep,h.get? a = some o∧o.ExactDict∧o.data = .dict es ep∧es.toList = xs.map (entryOfKey (tupleKind (mixKind P w)))∧(xs.map (·.1)).Nodup
  | .set S n=>h.SetOf (intKind P w) a S n
  | .ins C dx fs=>H dx = some (.own a)∧fs.length ≤ 1000∧dx ≠ a∧h.get? a = some (PySem.W.instObj C dx) ∧
      ∃ mA,h.Ns1 dx mA∧(∀ f,RelO (fs.lookup f) (mA f))∧PySem.Within mA (fs.map (·.1))
  | .own _=>∃ o,h.get? a = some o
  | .xd fs=>∃ mA,h.Ns1 a mA∧∀ f,RelO (fs.lookup f) (mA f)
  | .rng lo hi=>∃ t u v,h.get? a = some { cls:=.type "range",data:=.fields #[.int lo t,.int hi u,.int 1 v] }
  | .frz o u=>h.get? a = some o∧ObjOk H h a u
  | .tbl ps=>h.get? a = some { cls:=.none,data:=.fields ps }
  | .met f x=>h.get? a = some (PySem.W.methodObj (.ref f) (.ref x))
  | .ext φ=>φ h∧(∃ o,h.get? a = some o)∧∀ h1 h2:Heap,φ h1→(∀ o,h1.get? a = some o→h2.get? a = some o)→φ h2
def HOk (H:Hp) (h:Heap):Prop:=∀ a o,H a = some o→ObjOk P w H h a o
end
section
variable {P:Program} {w:World} {H H' : Hp} {h h' : Heap} {a:Addr} {o:HO}
theorem ObjOk.lt (x:ObjOk P w H h a o):a < h.objs.size:=by
  cases o with
  | lst xs=>obtain ⟨_,_,_,_,e⟩:=x; exact Heap.lt_size e
  | tup xs=>obtain ⟨_,_,_,p⟩:=x; exact p.lt
  | dK kvs=>obtain ⟨_,_,_,_,o,_,_,e,_⟩:=x; exact Heap.lt_size e
  | dT kvs=>obtain ⟨_,_,_,_,o,_,_,e,_⟩:=x; exact Heap.lt_size e
  | set S n=>obtain ⟨o,_,_,_,e,_⟩:=x; exact Heap.lt_size e
  | ins C dx fs=>obtain ⟨_,_,_,e,_⟩:=x; exact Heap.lt_size e
  | own y=>obtain ⟨_,e⟩:=x; exact Heap.lt_size e
  | xd fs=>obtain ⟨_,⟨_,_,_,e,_⟩,_⟩:=x; exact Heap.lt_size e
  | rng lo hi=>obtain ⟨_,_,_,e⟩:=x; exact Heap.lt_size e
  | frz ob u=>obtain ⟨e,_⟩:=x; exact Heap.lt_size e
  | tbl ps=>exact Heap.lt_size (show h.get? a = some _ from x)
  | met f y=>exact Heap.lt_size (show h.get? a = some _ from x)
  | ext φ=>obtain ⟨_,⟨_,e⟩,_⟩:=x; exact Heap.lt_size e
theorem Paired.mapP {α β:Type} {F G:α→β→Prop} : ∀ {l₁:List α} {l₂:List β},Paired F l₁ l₂→(∀ a b,F a b→G a b)→Paired G l₁ l₂
  | _,_,.nil,_=>.nil
  | _,_,.cons r t,f=>.cons (f _ _ r) (Paired.mapP t f)
theorem ObjOk.stay (x:ObjOk P w H h a o) (k:∀ b u,(b = a∨H b = some (.own a))→h.get? b = some u→h'.get? b = some u)
    (ho:∀ b,H b = some (.own a)→H' b = some (.own a)) (ht:∀ b xs,H b = some (.tup xs)→H' b = some (.tup xs)):ObjOk P w H' h' a o:=by
  induction o with
  | lst xs=>obtain ⟨z,its,n,r,e⟩:=x; exact ⟨z,its,n,r,k _ _ (.inl rfl) e⟩
  | tup xs=>obtain ⟨z,its,r,ob,e,c⟩:=x; exact ⟨z,its,r,ob,k _ _ (.inl rfl) e,c⟩
  | dK kvs=>obtain ⟨z,y,vs,r,ob,es,ep,e,c⟩:=x; exact ⟨z,y,vs,r,ob,es,ep,k _ _ (.inl rfl) e,c⟩
  | dT kvs =>
    obtain ⟨z,y,xs,r,ob,es,ep,e,c⟩:=x
    exact ⟨z,y,xs,Paired.mapP r fun p q z=>⟨z.1,ht _ _ z.2.1,z.2.2⟩,ob,es,ep,k _ _ (.inl rfl) e,c⟩
  | set S n=>obtain ⟨ob,es,ep,t,e,c⟩:=x; exact ⟨ob,es,ep,t,k _ _ (.inl rfl) e,c⟩
  | ins C dx fs =>
    obtain ⟨d,z,ne,e,mA,⟨od,es,ep,e2,c⟩,r⟩:=x
    exact ⟨ho _ d,z,ne,k _ _ (.inl rfl) e,mA,⟨od,es,ep,k _ _ (.inr d) e2,c⟩,r⟩
  | own y=>obtain ⟨ob,e⟩:=x; exact ⟨ob,k _ _ (.inl rfl) e⟩
  | xd fs=>obtain ⟨mA,⟨od,es,ep,e,c⟩,r⟩:=x; exact ⟨mA,⟨od,es,ep,k _ _ (.inl rfl) e,c⟩,r⟩
  | rng lo hi=>obtain ⟨t,u,v,e⟩:=x; exact ⟨t,u,v,k _ _ (.inl rfl) e⟩
  | frz ob u ih=>obtain ⟨e,q⟩:=x; exact ⟨k _ _ (.inl rfl) e,ih q⟩
  | tbl ps =>
    have e:h.get? a = some { cls:=.none,data:=.fields ps }:=x
    show h'.get? a = some { cls:=.none,data:=.fields ps }
    exact k a _ (.inl rfl) e
  | met f y =>
    have e:h.get? a = some (PySem.W.methodObj (.ref f) (.ref y)):=x
    show h'.get? a = some (PySem.W.methodObj (.ref f) (.ref y))
    exact k a _ (.inl rfl) e
  | ext φ=>obtain ⟨p,⟨o,e⟩,st⟩:=x; exact ⟨st _ _ p fun o q=>k _ _ (.inl rfl) q,⟨o,k _ _ (.inl rfl) e⟩,st⟩
theorem HOk.lt (x:HOk P w H h) (e:H a = some o):a < h.objs.size:=(x a o e).lt
theorem HOk.fresh (x:HOk P w H h) (e:h.objs.size ≤ a):H a = none:=by
  cases q:H a with
  | none=>rfl
  | some u=>exact absurd (Nat.lt_of_lt_of_le (x.lt q) e) (Nat.lt_irrefl _)
theorem HOk.kept (x:HOk P w H h) (k:∀ b u,h.get? b = some u→h'.get? b = some u):HOk P w H h':=fun a o e =>
  (x a o e).stay (fun b u _ q=>k b u q) (fun _ q=>q) fun _ _ q=>q
theorem HOk.laid (x:HOk P w H h) (k:∀ b u,h.get? b = some u→h'.get? b = some u) (hp:h.objs.size ≤ a) (new:ObjOk P w (upd H a o) h' a o):HOk P w (upd H a o) h':=fun b u e=>by
  have hn:=x.fresh hp
  by_cases hb:b = a
  · subst hb; rw [upd_same] at e; cases e; exact new
  · rw [upd_ne hb] at e
    exact (x b u e).stay (fun c v _ q=>k c v q) (fun c q=>by rw [upd_ne (ne_of_none q hn)]; exact q) fun c xs q=>by rw [upd_ne (ne_of_none q hn)]; exact q
end
def Rd (H:Hp) (a:Addr) (u:HO):Prop:=H a = some u∨∃ o,H a = some (.frz o u)
theorem Rd.ok {P:Program} {w:World} {H:Hp} {h:Heap} {a:Addr} {u:HO} (r:Rd H a u) (x:HOk P w H h):ObjOk P w H h a u:=by
  rcases r with r | ⟨o,r⟩
  · exact x a u r
  · obtain ⟨_,q⟩:=x a _ r
    exact q
def Mut:Option HO→Prop
  | some (.lst _)=>True
  | some (.dK _)=>True
  | some (.dT _)=>True
  | some (.set _ _)=>True
  | some (.ins _ _ _)=>True
  | some (.ext _)=>True
  | _=>False
section
variable {P:Program} {w:World} {H:Hp} {h h' : Heap} {x e:Addr} {o' : HO}
theorem HOk.write (ok:HOk P w H h) (mu:Mut (H x)) (he:e = x∨H e = some (.own x)) (k:∀ b u,b ≠ e→h.get? b = some u→h'.get? b = some u) (heo:∃ u,h'.get? e = some u)
    (new:ObjOk P w (upd H x o') h' x o'):HOk P w (upd H x o') h':=fun b u q=>by
  have nown:∀ c y,H c = some (.own y)→c ≠ x:=fun c y r z=>by subst z; rw [r] at mu; exact mu
  have ntup:∀ c xs,H c = some (.tup xs)→c ≠ x:=fun c xs r z=>by subst z; rw [r] at mu; exact mu
  by_cases hb:b = x
  · subst hb; rw [upd_same] at q; cases q; exact new
  · rw [upd_ne hb] at q
    by_cases hbe:b = e
    · have q' : H b = some (.own x):=by
        rcases he with z | z
        · exact absurd (hbe.trans z) hb
        · rw [hbe]; exact z
      rw [q] at q'; cases q'
      obtain ⟨v,hv⟩:=heo
      exact ⟨v,by rw [hbe]; exact hv⟩
    · refine (ok b u q).stay (fun c v hc r=>k c v ?_ r) (fun c r=>by rw [upd_ne (nown c b r)]; exact r) fun c xs r=>by rw [upd_ne (ntup c xs r)]; exact r
      rcases hc with rfl | hc
      · exact hbe
      · rintro rfl
        rcases he with z | z
        · exact nown c b hc z
        · rw [hc] at z; cases z; exact hb rfl
end
structure Un (fs ex:List Addr) (H H' : Hp) (h h' : Heap):Prop where
  keep:∀ b o,h.get? b = some o→H b = none→b ∉ fs→b ∉ ex→h'.get? b = some o
  slot:∀ b o,h.get? b = some o→H b = none→b ∈ fs→b ∉ ex→∃ sl,h'.get? b = some { o with slots:=sl }
  free:∀ b o,h.get? b = some o→H b = none→b ∉ ex→H' b = none
  there:∀ b o,h.get? b = some o→b ∉ ex→∃ o',h'.get? b = some o'
  tups:∀ b xs,H b = some (.tup xs)→H' b = some (.tup xs)
  frzs:∀ b o u,H b = some (.frz o u)→H' b = some (.frz o u)
  tbls:∀ b ps,H b = some (.tbl ps)→∃ more,H' b = some (.tbl (ps ++ more))
section
variable {fs fs' ex ex' : List Addr} {H H1 H2:Hp} {h h1 h2 h' : Heap} {a x e:Addr} {o:HO}
theorem Un.any (u:Un fs ex H H1 h h1) {b:Addr} {ob:Obj} (q:h.get? b = some ob) (n:H b = none) (hx:b ∉ ex):∃ sl,h1.get? b = some { ob with slots:=sl }:=by
  by_cases hb:b ∈ fs
  · exact u.slot b ob q n hb hx
  · exact ⟨ob.slots,u.keep b ob q n hb hx⟩
theorem Un.kept (k:∀ b u,h.get? b = some u→h'.get? b = some u):Un fs ex H H h h' :=
  ⟨fun b ob q _ _ _=>k b ob q,fun b ob q _ _ _=>⟨ob.slots,k b ob q⟩,fun _ _ _ n _=>n,fun b ob q _=>⟨ob,k b ob q⟩,fun _ _ q=>q,fun _ _ _ q=>q,fun _ ps q=>⟨#[],by rw [q]; simp⟩⟩
theorem Un.refl:Un fs ex H H h h:=Un.kept fun _ _ q=>q
theorem Un.laid (k:∀ b u,h.get? b = some u→h'.get? b = some u) (hp:h.objs.size ≤ a) (hn:H a = none):Un fs ex H (upd H a o) h h' where
  keep:=fun b u q _ _ _=>k b u q
  slot:=fun b u q _ _ _=>⟨u.slots,k b u q⟩
  free:=fun b u q n _=>by rw [upd_ne (Nat.ne_of_lt (Nat.lt_of_lt_of_le (Heap.lt_size q) hp))]; exact n
  there:=fun b u q _=>⟨u,k b u q⟩
  tups:=fun b xs q=>by rw [upd_ne (ne_of_none q hn)]; exact q
  frzs:=fun b u xs q=>by rw [upd_ne (ne_of_none q hn)]; exact q
  tbls:=fun b ps q=>⟨#[],by rw [upd_ne (ne_of_none q hn),q]; simp⟩
theorem Un.write (mu:Mut (H x)) (he:e = x∨H e = some (.own x)) (k:∀ b u,b ≠ e→h.get? b = some u→h'.get? b = some u) (heo:∃ u,h'.get? e = some u):Un fs ex H (upd H x o) h h':=by
  have hx:∀ b,H b = none→b ≠ x:=fun b n z=>by subst z; rw [n] at mu; exact mu
  have hb:∀ b,H b = none→b ≠ e:=fun b n z=>by
    subst z
    rcases he with r | r
    · exact hx b n r
    · rw [n] at r; cases r
  have hm:∀ b u,H b = some u→¬ Mut (some u)→b ≠ x:=fun b u q nm z=>by subst z; rw [q] at mu; exact nm mu
  refine ⟨fun b u q n _ _=>k b u (hb b n) q,fun b u q n _ _=>⟨u.slots,k b u (hb b n) q⟩,fun b u q n _=>by rw [upd_ne (hx b n)]; exact n,fun b u q _=>?_,
    fun b xs q=>by rw [upd_ne (hm b _ q fun z=>z)]; exact q,fun b u xs q=>by rw [upd_ne (hm b _ q fun z=>z)]; exact q,fun b ps q=>⟨#[],by rw [upd_ne (hm b _ q fun z=>z),q]; simp⟩⟩
  by_cases hbe:b = e
  · subst hbe; exact heo
  · exact ⟨u,k b u hbe q⟩
end
def trk (h:Heap) (H:Hp):List Addr:=(List.range h.objs.size).filter fun a=>(H a).isSome
def hidT (h:Heap) (H:Hp):Heap:=PySem.W.hideAll h (trk h H)
theorem hidT_size (h:Heap) (H:Hp):(hidT h H).objs.size = h.objs.size:=PySem.W.hideAll_size _ _
theorem hidT_get {h:Heap} {H:Hp} {b:Addr} {o:Obj} (e:h.get? b = some o) (n:H b = none):(hidT h H).get? b = some o :=
  PySem.W.hideAll_get _ e fun hm=>by
    have q:(H b).isSome = true:=(List.mem_filter.mp hm).2
    rw [n] at q; simp at q
theorem of_hidT {h:Heap} {H:Hp} {b:Addr} {o:Obj} (e:(hidT h H).get? b = some o):h.get? b = some o∧H b = none:=by
  have e' : h.get? b = some o:=PySem.W.of_hideAll (trk h H) e
  refine ⟨e',?_⟩
  cases q:H b with
  | none=>rfl
  | some x =>
    have hm:b ∈ trk h H:=List.mem_filter.mpr ⟨List.mem_range.mpr (Heap.lt_size e'),by simp [q]⟩
    have z:(hidT h H).get? b = none:=PySem.W.hideAll_none (trk h H) hm
    rw [z] at e; cases e
def allNews (g h:Heap) (L:Addr):List (Addr × Obj):=(List.range h.objs.size).filterMap fun a=>if a = L∨(g.get? a).isSome = true then none else (h.get? a).map fun o=>(a,o)
def rest (g h:Heap) (L d:Addr):List (Addr × Obj):=(allNews g h L).filter fun p=>decide (p.1 ≠ d)
end L2
namespace L2
open PySem PySem.Spec PyProof.Rows
structure Mod (K:PySem.W.Frag) (mg:Str→Option Value) (base:Heap):Prop where
  kin:K.In base
  glob:base.Ns mainGlobals mg
  blt:∃ mb,base.Ns builtinsNs mb∧∀ x:Str,x ≠ "__name__" → mb x = bootBuiltins x
  nolimit:base.NoLimit
structure Cx where
  prog:Program
  w:World
  K:PySem.W.Frag
  mg:Str→Option Value
  base:Heap
  A:Around
  N:List Str
  s₀:Shared
  H₀:Hp
  env:Env
  outer:List Env
  stack:List Env
  ex:List Addr
  fn:Str→Bool
  calm:Bool
  pn:List (Addr × Obj)
  xe:Value→Shared→Prop
def frs (l:List Env):List Addr:=l.filterMap (·.frame)
abbrev Cx.fs (X:Cx):List Addr:=frs X.outer
def Vis (sc:Scope) (x:Str):Prop:=sc.names.lookup x = some .local∨sc.names.lookup x = some .cell∨sc.names.lookup x = some .free
def Loc (sc:Scope) (x:Str):Prop:=sc.names.lookup x = some .local∨sc.names.lookup x = some .cell
def Look (env:Env) (h:Heap) (m:Str→Option Value) (x:Str) (u:Value):Prop :=
  (env.kindOf x = some .local∧m x = some u)∨((env.kindOf x = some .cell∨env.kindOf x = some .free)∧∃ c,env.cells.lookup x = some c∧h.IsCell c (some u))
structure Cx.Ok (X:Cx):Prop where
  mod:Mod X.K X.mg X.base
  kind:X.env.scope.kind = .function
  glob:X.env.globals = mainGlobals
  blt:X.env.builtins = builtinsNs
  above:X.s₀.heap.objs.size ≤ X.env.locals
  inj:∀ x y c,X.env.cells.lookup x = some c→X.env.cells.lookup y = some c→x = y
  has:∀ x,(X.env.kindOf x = some .cell∨X.env.kindOf x = some .free)→∃ c,X.env.cells.lookup x = some c
  cab:∀ x c,X.fn x = true→X.env.cells.lookup x = some c→X.s₀.heap.objs.size ≤ c
  hd:X.calm = true→X.A.handled = none
  frames:X.A.frames = some X.stack
  stk:X.stack = X.outer∨(X.stack = X.env :: X.outer∧X.env.frame = some X.env.locals)
  exf:∀ b ∈ X.ex,b ≠ X.env.locals∧∀ x c,X.env.cells.lookup x = some c→c ≠ b
  bs:∀ b o,X.base.get? b = some o→X.s₀.heap.get? b = some o∧X.H₀ b = none
  bsz:X.base.objs.size ≤ X.s₀.heap.objs.size
  noex:∀ b o,X.base.get? b = some o→b ∉ X.ex
  exfs:∀ b ∈ X.ex,b ∉ X.fs
  funs:X.s₀.heap.FunFrames X.base X.outer
  frf:∀ b ∈ X.fs,X.H₀ b = none
structure Inv (X:Cx) (pins:List (Addr × Obj)) (σ:List (Option V)) (H:Hp) (s:Shared):Prop where
  ok:X.Ok
  os:s.os = X.s₀.os
  bare:AllBare s.gens
  base:Un X.fs X.ex X.H₀ H X.s₀.heap s.heap
  loc:∃ m,s.heap.Ns X.env.locals m∧∀ (i:Nat) (x:Str) (v:V),X.N[i]? = some x→σ[i]? = some (some v)→Vis X.env.scope x→∃ u,RelV v u∧Look X.env s.heap m x u
  cell:∀ x c,X.env.cells.lookup x = some c→∃ v,s.heap.IsCell c v
  free:H X.env.locals = none
  freeC:∀ x c,X.env.cells.lookup x = some c→H c = none
  pin:∀ p ∈ X.pn ++ pins,s.heap.get? p.1 = some p.2∧H p.1 = none∧p.1 ≠ X.env.locals∧p.1 ∉ X.fs∧∀ v,p.2.data ≠ .cell v
  hok:HOk X.prog X.w H s.heap
  len:σ.length = X.N.length
section
variable {X:Cx} {pins:List (Addr × Obj)} {σ:List (Option V)} {H H' : Hp} {s:Shared} {h' : Heap}
theorem Cx.Ok.nofr (ok:X.Ok) {b:Addr} {o:Obj} (e:X.base.get? b = some o):b ∉ X.fs:=fun hb=>by
  have:=(ok.funs.mem hb).1
  rw [e] at this; cases this
theorem Inv.bs (I:Inv X pins σ H s):∀ b o,X.base.get? b = some o→s.heap.get? b = some o∧H b = none:=fun b o e =>
  ⟨I.base.keep b o (I.ok.bs b o e).1 (I.ok.bs b o e).2 (I.ok.nofr e) (I.ok.noex b o e),I.base.free b o (I.ok.bs b o e).1 (I.ok.bs b o e).2 (I.ok.noex b o e)⟩
theorem Inv.bk (I:Inv X pins σ H s):∀ b o,X.base.get? b = some o→s.heap.get? b = some o:=fun b o e=>(I.bs b o e).1
theorem Inv.mod (I:Inv X pins σ H s):Mod X.K X.mg X.base:=I.ok.mod
theorem Inv.kIn (I:Inv X pins σ H s):X.K.In s.heap:=I.ok.mod.kin.keeps I.bk
theorem Inv.lt (I:Inv X pins σ H s):X.env.locals < s.heap.objs.size:=let ⟨_,hn,_⟩:=I.loc; hn.lt
theorem Inv.sz (I:Inv X pins σ H s):X.s₀.heap.objs.size ≤ s.heap.objs.size:=Nat.le_trans I.ok.above (Nat.le_of_lt I.lt)
theorem Inv.nofs (I:Inv X pins σ H s) {a:Addr} (h:s.heap.objs.size ≤ a):a ∉ X.fs:=fun hb=>by
  obtain ⟨_,o,ho,_⟩:=I.ok.funs.mem hb
  exact absurd (Nat.lt_of_lt_of_le (Heap.lt_size ho) (Nat.le_trans I.sz h)) (Nat.lt_irrefl _)
theorem Inv.cne (I:Inv X pins σ H s):∀ x c,X.env.cells.lookup x = some c→c ≠ X.env.locals:=fun x c e z=>by
  obtain ⟨v,o,ho,hd⟩:=I.cell x c e
  obtain ⟨m,⟨o',es,ep,ho',hd',_⟩,_⟩:=I.loc
  rw [z,ho'] at ho; cases ho; rw [hd'] at hd; cases hd
theorem Inv.funs (I:Inv X pins σ H s):s.heap.FunFrames X.base X.outer:=by
  have all:∀ (l:List Env),(∀ b ∈ frs l,b ∈ X.fs)→X.s₀.heap.FunFrames X.base l→s.heap.FunFrames X.base l:=by
    intro l
    induction l with
    | nil=>intro _ _; trivial
    | cons env r ih =>
      intro hs hl
      obtain ⟨hk,⟨L,o,hf,hn,ho,hd⟩,hr⟩:=hl
      have hL:L ∈ X.fs:=hs L (by unfold frs; rw [List.filterMap_cons,hf]; exact List.mem_cons_self)
      obtain ⟨sl,e⟩:=I.base.slot L o ho (I.ok.frf L hL) hL fun z=>I.ok.exfs L z hL
      exact ⟨hk,⟨L,_,hf,hn,e,hd⟩,ih (fun b hb=>hs b (by unfold frs; rw [List.filterMap_cons,hf]; exact List.mem_cons_of_mem _ hb)) hr⟩
  exact all X.outer (fun _ hb=>hb) I.ok.funs
theorem Inv.stack (I:Inv X pins σ H s):s.heap.FunFrames X.base X.stack:=by
  rcases I.ok.stk with e | ⟨e,hf⟩
  · rw [e]; exact I.funs
  · rw [e]
    obtain ⟨m,hn,_⟩:=I.loc
    refine .cons (by rw [I.ok.kind]; decide) hf hn ?_ I.funs
    exact Heap.get?_none_of_le (Nat.le_trans I.ok.bsz I.ok.above)
theorem Inv.stkSub (I:Inv X pins σ H s):∀ b ∈ frs X.stack,b ∈ X.env.locals :: X.fs:=fun b hb=>by
  rcases I.ok.stk with e | ⟨e,hf⟩
  · rw [e] at hb; exact List.mem_cons_of_mem _ hb
  · rw [e] at hb
    unfold frs at hb
    rw [List.filterMap_cons,hf] at hb
    exact hb
theorem Inv.stkFree (I:Inv X pins σ H s):∀ b ∈ frs X.stack,H b = none:=fun b hb=>by
  rcases List.mem_cons.mp (I.stkSub b hb) with e | hb
  · rw [e]; exact I.free
  · obtain ⟨_,o,ho,_⟩:=I.ok.funs.mem hb
    exact I.base.free b o ho (I.ok.frf b hb) fun z=>I.ok.exfs b z hb
theorem Inv.step {g' : Array GenState} {t' : Nat} {d' : Drawn} {ch:List Addr} (I:Inv X pins σ H s)
    (hch:∀ b ∈ ch,(b ∈ X.ex∨X.s₀.heap.objs.size ≤ b)∧b ≠ X.env.locals∧(∀ x c,X.env.cells.lookup x = some c→c ≠ b)∧∀ p ∈ X.pn ++ pins,p.1 ≠ b)
    (keep:∀ b o,b ≠ X.env.locals→b ∉ X.fs→b ∉ ch→s.heap.get? b = some o→H b = none→h'.get? b = some o)
    (slot:∀ b o,b ≠ X.env.locals→b ∈ X.fs→b ∉ ch→s.heap.get? b = some o→H b = none→∃ sl,h'.get? b = some { o with slots:=sl }) (free:∀ b o,b ∉ ch→s.heap.get? b = some o→H b = none→H' b = none)
    (there:∀ b o,b ∉ ch→s.heap.get? b = some o→∃ o',h'.get? b = some o')
    (tups:∀ b xs,H b = some (.tup xs)→H' b = some (.tup xs)) (frzs:∀ b o u,H b = some (.frz o u)→H' b = some (.frz o u)) (tbls:∀ b ps,H b = some (.tbl ps)→∃ more,H' b = some (.tbl (ps ++ more)))
    (ns:∀ m,s.heap.Ns X.env.locals m→h'.Ns X.env.locals m) (hok:HOk X.prog X.w H' h') (hg:AllBare g') :
    Inv X pins σ H' { s with heap:=h',gens:=g',drawn:=d',toks:=t' }:=by
  have neL:∀ b o,X.s₀.heap.get? b = some o→b ≠ X.env.locals:=fun b o e=>Nat.ne_of_lt (Nat.lt_of_lt_of_le (Heap.lt_size e) I.ok.above)
  have neC:∀ b o,X.s₀.heap.get? b = some o→b ∉ X.ex→b ∉ ch:=fun b o e hx hb=>by
    rcases (hch b hb).1 with z | z
    · exact hx z
    · exact absurd (Nat.lt_of_lt_of_le (Heap.lt_size e) z) (Nat.lt_irrefl _)
  have cellK:∀ x c,X.env.cells.lookup x = some c→∀ v,s.heap.IsCell c v→h'.IsCell c v:=fun x c e v ⟨o,ho,hd⟩=>by
    have nch:c ∉ ch:=fun z=>(hch c z).2.2.1 x c e rfl
    by_cases hc:c ∈ X.fs
    · obtain ⟨sl,q⟩:=slot c o (I.cne x c e) hc nch ho (I.freeC x c e)
      exact ⟨_,q,hd⟩
    · exact ⟨o,keep c o (I.cne x c e) hc nch ho (I.freeC x c e),hd⟩
  refine ⟨I.ok,I.os,hg,⟨fun b o e n hb hx=>?_,fun b o e n hb hx=>?_,fun b o e n hx=>?_,fun b o e hx=>?_,fun b xs e=>tups b xs (I.base.tups b xs e),fun b o xs e=>frzs b o xs (I.base.frzs b o xs e),fun b ps e=>?_⟩,?_,fun x c e=>?_,?_,fun x c e=>?_,fun p hp=>?_,hok,I.len⟩
  · exact keep b o (neL b o e) hb (neC b o e hx) (I.base.keep b o e n hb hx) (I.base.free b o e n hx)
  · obtain ⟨sl,e1⟩:=I.base.slot b o e n hb hx
    obtain ⟨sl',e2⟩:=slot b _ (neL b o e) hb (neC b o e hx) e1 (I.base.free b o e n hx)
    exact ⟨sl',e2⟩
  · obtain ⟨o',e1⟩:=I.base.there b o e hx
    exact free b o' (neC b o e hx) e1 (I.base.free b o e n hx)
  · obtain ⟨o',e1⟩:=I.base.there b o e hx
    exact there b o' (neC b o e hx) e1
  · obtain ⟨m1,e1⟩:=I.base.tbls b ps e
    obtain ⟨m2,e2⟩:=tbls b _ e1
    exact ⟨m1 ++ m2,by rw [e2,Array.append_assoc]⟩
  · obtain ⟨m,hn,hl⟩:=I.loc
    refine ⟨m,ns m hn,fun i x v e1 e2 e3=>?_⟩
    obtain ⟨u,r,l⟩:=hl i x v e1 e2 e3
    refine ⟨u,r,?_⟩
    rcases l with l | ⟨k,c,e,z⟩
    · exact .inl l
    · exact .inr ⟨k,c,e,cellK x c e _ z⟩
  · obtain ⟨v,z⟩:=I.cell x c e
    exact ⟨v,cellK x c e v z⟩
  · obtain ⟨m,⟨o,_,_,ho,_⟩,_⟩:=I.loc
    exact free _ o (fun z=>(hch _ z).2.1 rfl) ho I.free
  · obtain ⟨v,o,ho,hd⟩:=I.cell x c e
    exact free c o (fun z=>(hch c z).2.2.1 x c e rfl) ho (I.freeC x c e)
  · obtain ⟨e,n,ne,nf,d⟩:=I.pin p hp
    have nch:p.1 ∉ ch:=fun z=>(hch p.1 z).2.2.2 p hp rfl
    exact ⟨keep p.1 p.2 ne nf nch e n,free p.1 p.2 nch e n,ne,nf,d⟩
theorem Inv.un {t' : Nat} (I:Inv X pins σ H s) (u:Un X.fs [] H H' s.heap h') (hok:HOk X.prog X.w H' h'):Inv X pins σ H' { s with heap:=h',toks:=t' }:=by
  obtain ⟨m,⟨o,es,ep,ho,r⟩,_⟩:=id I.loc
  obtain ⟨sl,hL⟩:=u.any ho I.free (by simp)
  exact I.step (g':=s.gens) (d':=s.drawn) (ch:=[]) (fun _ z=>nomatch z) (fun b o _ hb _ e n=>u.keep b o e n hb (by simp)) (fun b o _ hb _ e n=>u.slot b o e n hb (by simp)) (fun b o _ e n=>u.free b o e n (by simp)) (fun b o _ e=>u.there b o e (by simp)) u.tups u.frzs u.tbls (fun m' hm=>by
    obtain ⟨o',es',ep',ho',r'⟩:=hm
    rw [ho] at ho'; cases ho'
    exact ⟨_,es',ep',hL,r'⟩) hok I.bare
theorem Inv.call {g' : Array GenState} {t' : Nat} {d' : Drawn} {ch:List Addr} (I:Inv X pins σ H s) (u:Un (frs X.stack) ch H H' s.heap h') (hok:HOk X.prog X.w H' h') (hg:AllBare g')
    (hch:∀ b ∈ ch,(b ∈ X.ex∨X.s₀.heap.objs.size ≤ b)∧b ≠ X.env.locals∧(∀ x c,X.env.cells.lookup x = some c→c ≠ b)∧∀ p ∈ X.pn ++ pins,p.1 ≠ b) :
    Inv X pins σ H' { s with heap:=h',gens:=g',drawn:=d',toks:=t' }:=by
  obtain ⟨m,⟨o,es,ep,ho,r⟩,_⟩:=id I.loc
  obtain ⟨sl,hL⟩:=u.any ho I.free fun z=>(hch _ z).2.1 rfl
  exact I.step (ch:=ch) hch (fun b o hL hb hc e n=>u.keep b o e n (fun z=>(List.mem_cons.mp (I.stkSub b z)).elim hL hb) hc) (fun b o _ _ hc e n=>u.any e n hc) (fun b o hc e n=>u.free b o e n hc) (fun b o hc e=>u.there b o e hc) u.tups u.frzs u.tbls (fun m' hm=>by
    obtain ⟨o',es',ep',ho',r'⟩:=hm
    rw [ho] at ho'; cases ho'
    exact ⟨_,es',ep',hL,r'⟩) hok hg
theorem Inv.turned {t' : Nat} {it:Addr} (I:Inv X pins σ H s) (k:∀ b o,b ≠ it→s.heap.get? b = some o→h'.get? b = some o) (hn:H it = none) (hL:it ≠ X.env.locals)
    (h1:it ∈ X.ex∨X.s₀.heap.objs.size ≤ it) (h2:∀ x c,X.env.cells.lookup x = some c→c ≠ it) (h3:∀ p ∈ X.pn ++ pins,p.1 ≠ it):Inv X pins σ H { s with heap:=h',toks:=t' }:=by
  have nit:∀ b u,H b = some u→b ≠ it:=fun b u e z=>by rw [z,hn] at e; cases e
  refine I.step (g':=s.gens) (d':=s.drawn) (ch:=[it]) (fun b hb=>?_) (fun b o _ _ hc e _=>k b o (fun z=>hc (by simp [z])) e) (fun b o _ _ hc e _=>⟨o.slots,k b o (fun z=>hc (by simp [z])) e⟩) (fun _ _ _ _ n=>n)
    (fun b o hc e=>⟨o,k b o (fun z=>hc (by simp [z])) e⟩) (fun _ _ e=>e) (fun _ _ _ e=>e) (fun b ps e=>⟨#[],by rw [e]; simp⟩) (fun m hm=>?_) (fun b u e=>?_) I.bare
  · have e:b = it:=by simpa using hb
    subst e
    exact ⟨h1,hL,h2,h3⟩
  · obtain ⟨o,es,ep,ho,r⟩:=hm
    exact ⟨o,es,ep,k _ o (Ne.symm hL) ho,r⟩
  · refine (I.hok b u e).stay (fun c v hc q=>k c v ?_ q) (fun _ q=>q) fun _ _ q=>q
    rcases hc with z | z
    · rw [z]; exact nit b u e
    · exact nit c _ z
theorem Inv.tok (I:Inv X pins σ H s) (t:Nat):Inv X pins σ H { s with toks:=t }:=I.un (h':=s.heap) (t':=t) Un.refl I.hok
theorem Inv.kept {t' : Nat} (I:Inv X pins σ H s) (k:∀ b u,s.heap.get? b = some u→h'.get? b = some u):Inv X pins σ H { s with heap:=h',toks:=t' }:=I.un (Un.kept k) (I.hok.kept k)
theorem Inv.laid {a:Addr} {o:HO} {t' : Nat} (I:Inv X pins σ H s) (k:∀ b u,s.heap.get? b = some u→h'.get? b = some u) (hp:s.heap.objs.size ≤ a) (new:ObjOk X.prog X.w (upd H a o) h' a o) :
    Inv X pins σ (upd H a o) { s with heap:=h',toks:=t' }:=I.un (Un.laid k hp (I.hok.fresh hp)) (I.hok.laid k hp new)
theorem Inv.write {x e:Addr} {o:HO} {t' : Nat} (I:Inv X pins σ H s) (mu:Mut (H x)) (he:e = x∨H e = some (.own x)) (k:∀ b u,b ≠ e→s.heap.get? b = some u→h'.get? b = some u) (heo:∃ u,h'.get? e = some u)
    (new:ObjOk X.prog X.w (upd H x o) h' x o):Inv X pins σ (upd H x o) { s with heap:=h',toks:=t' }:=I.un (Un.write mu he k heo) (I.hok.write mu he k heo new)
theorem Inv.pins_of {pins' : List (Addr × Obj)} (I:Inv X pins σ H s) (h:∀ p ∈ pins',s.heap.get? p.1 = some p.2∧H p.1 = none∧p.1 ≠ X.env.locals∧p.1 ∉ X.fs∧∀ v,p.2.data ≠ .cell v):Inv X pins' σ H s :=
  ⟨I.ok,I.os,I.bare,I.base,I.loc,I.cell,I.free,I.freeC,fun p hp=>(List.mem_append.mp hp).elim (fun z=>I.pin p (List.mem_append_left _ z)) (h p),I.hok,I.len⟩
theorem nodup_ix {N:List Str} (hN:N.Nodup) {i j:Nat} {x:Str} (a:N[i]? = some x) (b:N[j]? = some x):i = j:=by
  obtain ⟨h1,e1⟩:=List.getElem?_eq_some_iff.mp a
  obtain ⟨h2,e2⟩:=List.getElem?_eq_some_iff.mp b
  exact (List.getElem_inj hN).mp (e1.trans e2.symm)
theorem store_ok2 {M:Model} {A:Around} {E:Value→Shared→Prop} {i:Nat} {x:Str} {v:V} {u:Value} {Q:Unit→Shared→Prop} (I:Inv X pins σ H s) (hN:X.N.Nodup) (hi:X.N[i]? = some x) (hx:Loc X.env.scope x) (r:RelV v u)
    (h:∀ s',Inv X pins (σ.set i (some v)) H s'→(∃ a,Heap.SameBut a s.heap s'.heap∧(a = X.env.locals∨X.env.cells.lookup x = some a))→Q () s') (hf:X.fn x = true∨X.env.scope.names.lookup x = some .local:=by first | exact .inl rfl | exact .inr rfl | assumption):wpAny M A (storeName X.env x u) Q E s:=by
  obtain ⟨m,hn,hl⟩:=id I.loc
  have hcls:(X.env.scope.kind == .class || (X.env.scope.kind == .module && X.env.locals != X.env.globals)) = false:=by rw [I.ok.kind]; rfl
  have hiσ:i < σ.length:=by rw [I.len]; exact (List.getElem?_eq_some_iff.mp hi).1
  have cne:=I.cne
  have tracked:∀ {a:Addr} {h' : Heap},(∃ o,s.heap.get? a = some o∧H a = none)→Heap.SameBut a s.heap h'→HOk X.prog X.w H h':=fun {a h'} ha hs b ob e=>by
    obtain ⟨_,_,hfree⟩:=ha
    refine (I.hok b ob e).stay (fun c w' hc q=>(hs.2 c ?_).trans q) (fun _ q=>q) fun _ _ q=>q
    rintro rfl
    rcases hc with rfl | hc
    · rw [hfree] at e; cases e
    · rw [hfree] at hc; cases hc
  rcases hx with hk | hk
  · refine wpAny_storeName_local hk hn (fun h' hn' hs=>?_) hcls
    obtain ⟨oL,_,_,hoL,_⟩:=id hn
    refine h _ ⟨I.ok,I.os,I.bare,⟨fun b o e n hb hx=>?_,fun b o e n hb hx=>?_,I.base.free,fun b o e hx=>?_,I.base.tups,I.base.frzs,I.base.tbls⟩,⟨_,hn',fun j y v' e1 e2 e3=>?_⟩,fun y c e=>?_,I.free,I.freeC,fun p hp=>?_,tracked ⟨oL,hoL,I.free⟩ hs,by simpa using I.len⟩ ⟨_,hs,.inl rfl⟩
    · exact (hs.2 b (Nat.ne_of_lt (Nat.lt_of_lt_of_le (Heap.lt_size e) I.ok.above))).trans (I.base.keep b o e n hb hx)
    · obtain ⟨sl,e1⟩:=I.base.slot b o e n hb hx
      exact ⟨sl,(hs.2 b (Nat.ne_of_lt (Nat.lt_of_lt_of_le (Heap.lt_size e) I.ok.above))).trans e1⟩
    · obtain ⟨o',e1⟩:=I.base.there b o e hx
      exact ⟨o',(hs.2 b (Nat.ne_of_lt (Nat.lt_of_lt_of_le (Heap.lt_size e) I.ok.above))).trans e1⟩
    · by_cases hj:j = i
      · subst hj
        rw [hi] at e1; cases e1
        rw [List.getElem?_set_self hiσ] at e2
        cases e2
        exact ⟨u,r,.inl ⟨hk,by simp⟩⟩
      · rw [List.getElem?_set_ne (Ne.symm hj)] at e2
        obtain ⟨u',r',q⟩:=hl j y v' e1 e2 e3
        refine ⟨u',r',?_⟩
        rcases q with ⟨k,e⟩ | ⟨k,c,e,z⟩
        · refine .inl ⟨k,?_⟩
          have:y ≠ x:=fun e=>hj (nodup_ix hN e1 (e ▸ hi))
          simp [this,e]
        · exact .inr ⟨k,c,e,z.sameBut hs (cne y c e)⟩
    · obtain ⟨w',z⟩:=I.cell y c e
      exact ⟨w',z.sameBut hs (cne y c e)⟩
    · obtain ⟨e,n,ne,nf,d⟩:=I.pin p hp
      exact ⟨(hs.2 p.1 ne).trans e,n,ne,nf,d⟩
  · have hfn:X.fn x = true:=by
      rcases hf with z | z
      · exact z
      · rw [z] at hk; cases hk
    obtain ⟨c,hc⟩:=I.ok.has x (.inl hk)
    obtain ⟨w',z⟩:=I.cell x c hc
    refine wpAny_storeName_cell I.ok.kind hk hc z (fun h' hc' hs=>?_)
    obtain ⟨oc,hoc,hocd⟩:=id z
    refine h { s with heap:=h' } ⟨I.ok,I.os,I.bare,⟨fun b o e n hb hx=>?_,fun b o e n hb hx=>?_,I.base.free,fun b o e hx=>?_,I.base.tups,I.base.frzs,I.base.tbls⟩,⟨m,hn.sameBut hs (Ne.symm (cne x c hc)),fun j y v' e1 e2 e3=>?_⟩,fun y c' e=>?_,I.free,I.freeC,fun p hp=>?_,tracked ⟨oc,hoc,I.freeC x c hc⟩ hs,by simpa using I.len⟩ ⟨c,hs,.inr hc⟩
    · exact (hs.2 b (Nat.ne_of_lt (Nat.lt_of_lt_of_le (Heap.lt_size e) (I.ok.cab x c hfn hc)))).trans (I.base.keep b o e n hb hx)
    · obtain ⟨sl,e1⟩:=I.base.slot b o e n hb hx
      exact ⟨sl,(hs.2 b (Nat.ne_of_lt (Nat.lt_of_lt_of_le (Heap.lt_size e) (I.ok.cab x c hfn hc)))).trans e1⟩
    · obtain ⟨o',e1⟩:=I.base.there b o e hx
      exact ⟨o',(hs.2 b (Nat.ne_of_lt (Nat.lt_of_lt_of_le (Heap.lt_size e) (I.ok.cab x c hfn hc)))).trans e1⟩
    · by_cases hj:j = i
      · subst hj
        rw [hi] at e1; cases e1
        rw [List.getElem?_set_self hiσ] at e2
        cases e2
        exact ⟨u,r,.inr ⟨.inl hk,c,hc,hc'⟩⟩
      · rw [List.getElem?_set_ne (Ne.symm hj)] at e2
        obtain ⟨u',r',q⟩:=hl j y v' e1 e2 e3
        refine ⟨u',r',?_⟩
        rcases q with q | ⟨k,c',e,z'⟩
        · exact .inl q
        · refine .inr ⟨k,c',e,z'.sameBut hs ?_⟩
          rintro rfl
          exact hj (nodup_ix hN e1 (I.ok.inj _ _ _ e hc ▸ hi))
    · by_cases hcc:c' = c
      · subst hcc; exact ⟨_,hc'⟩
      · obtain ⟨w2,z2⟩:=I.cell y c' e
        exact ⟨w2,z2.sameBut hs hcc⟩
    · obtain ⟨e,n,ne,nf,d⟩:=I.pin p hp
      refine ⟨(hs.2 p.1 ?_).trans e,n,ne,nf,d⟩
      intro q
      rw [q,hoc] at e
      have q' : oc = p.2:=Option.some.inj e
      exact d w' (by rw [← q']; exact hocd)
theorem store_ok {M:Model} {A:Around} {E:Value→Shared→Prop} {i:Nat} {x:Str} {v:V} {u:Value} {Q:Unit→Shared→Prop} (I:Inv X pins σ H s) (hN:X.N.Nodup) (hi:X.N[i]? = some x) (hx:Loc X.env.scope x) (r:RelV v u)
    (h:∀ s',Inv X pins (σ.set i (some v)) H s'→Q () s') (hf:X.fn x = true∨X.env.scope.names.lookup x = some .local:=by first | exact .inl rfl | exact .inr rfl | assumption):wpAny M A (storeName X.env x u) Q E s :=
  store_ok2 I hN hi hx r (fun s' I' _=>h s' I') hf
theorem Inv.call' {s' : Shared} {ch:List Addr} (I:Inv X pins σ H s) (ho:s'.os = s.os) (u:Un (frs X.stack) ch H H' s.heap s'.heap) (hok:HOk X.prog X.w H' s'.heap) (hg:AllBare s'.gens)
    (hch:∀ b ∈ ch,(b ∈ X.ex∨X.s₀.heap.objs.size ≤ b)∧b ≠ X.env.locals∧(∀ x c,X.env.cells.lookup x = some c→c ≠ b)∧∀ p ∈ X.pn ++ pins,p.1 ≠ b):Inv X pins σ H' s':=by
  obtain ⟨h',g',d',t',o'⟩:=s'
  have e:o' = s.os:=ho
  subst e
  exact I.call (g':=g') (t':=t') (d':=d') u hok hg hch
end
abbrev XK:=Value→Option Addr→Hp→Prop
abbrev St:=List (Option V)
abbrev VK:=V→Hp→Prop
abbrev TE:=St→Hp→VK→Prop
abbrev TT:=St→Hp→(Bool→Hp→Prop)→Prop
abbrev TA:=St→Hp→(List V→Hp→Prop)→Prop
structure Ends where
  nx:St→Hp→Prop
  rt:VK
  bk:St→Hp→Prop:=fun _ _=>False
  ct:St→Hp→Prop:=fun _ _=>False
abbrev TS:=Ends→St→Hp→Prop
def EP (X:Cx) (pins:List (Addr × Obj)) (σ:St) (Q:VK) (u:Value) (s' : Shared):Prop:=∃ v H',Inv X pins σ H' s'∧RelV v u∧Q v H'
def TP (X:Cx) (pins:List (Addr × Obj)) (σ:St) (Q:Bool→Hp→Prop) (b:Bool) (s' : Shared):Prop:=∃ H',Inv X pins σ H' s'∧Q b H'
def AP (X:Cx) (pins:List (Addr × Obj)) (σ:St) (Q:List V→Hp→Prop) (us:List Value) (s' : Shared):Prop:=∃ vs H',Inv X pins σ H' s'∧Vals vs us∧Q vs H'
def SP (X:Cx) (pins:List (Addr × Obj)) (D:Ends) (f:Flow) (s' : Shared):Prop :=
  match f with
  | .next=>∃ σ' H',Inv X pins σ' H' s'∧D.nx σ' H'
  | .brk=>∃ σ' H',Inv X pins σ' H' s'∧D.bk σ' H'
  | .cont=>∃ σ' H',Inv X pins σ' H' s'∧D.ct σ' H'
  | .ret u=>∃ v σ' H',Inv X pins σ' H' s'∧RelV v u∧D.rt v H'
def PE (X:Cx) (e:Expr) (t:TE):Prop :=
  ∀ (pins:List (Addr × Obj)) (s:Shared) (σ:St) (H:Hp) (Q:VK),Inv X pins σ H s→t σ H Q→wpAny (model X.prog X.w) X.A (eval e X.env) (EP X pins σ Q) X.xe s
def PT (X:Cx) (e:Expr) (t:TT):Prop :=
  ∀ (pins:List (Addr × Obj)) (s:Shared) (σ:St) (H:Hp) (Q:Bool→Hp→Prop),Inv X pins σ H s→t σ H Q→wpAny (model X.prog X.w) X.A (isTrue e X.env (eval e X.env)) (TP X pins σ Q) X.xe s
def PW (X:Cx) (e:Expr) (t:TT):Prop :=
  ∀ (whole:Sem Value) (pins:List (Addr × Obj)) (s:Shared) (σ:St) (H:Hp) (Q:Bool→Hp→Prop),Inv X pins σ H s→t σ H Q→wpAny (model X.prog X.w) X.A (isTrue e X.env whole) (TP X pins σ Q) X.xe s
theorem PW.pt {X:Cx} {e:Expr} {t:TT} (h:PW X e t):PT X e t:=h _
def PA (X:Cx) (es:List Expr) (t:TA):Prop :=
  ∀ (pos:Pos) (pins:List (Addr × Obj)) (s:Shared) (σ:St) (H:Hp) (Q:List V→Hp→Prop),Inv X pins σ H s→t σ H Q→wpAny (model X.prog X.w) X.A (spliced (backTo pos (starEach es X.env))) (AP X pins σ Q) X.xe s
def PS (X:Cx) (st:Stmt) (t:TS):Prop :=
  ∀ (pins:List (Addr × Obj)) (s:Shared) (σ:St) (H:Hp) (D:Ends),Inv X pins σ H s→t D σ H→wpAny (model X.prog X.w) X.A (exec st X.env) (SP X pins D) X.xe s
def PSs (X:Cx) (st:List Stmt) (t:TS):Prop :=
  ∀ (pins:List (Addr × Obj)) (s:Shared) (σ:St) (H:Hp) (D:Ends),Inv X pins σ H s→t D σ H→wpAny (model X.prog X.w) X.A (execs st X.env) (SP X pins D) X.xe s
theorem thn {α:Type} {t:Sem α} {Q Q' : α→Shared→Prop} {M:Model} {A:Around} {E:Value→Shared→Prop} {s:Shared} (h:wpAny M A t Q E s) (hQ:∀ a s,Q a s→Q' a s):wpAny M A t Q' E s:=wpAny_mono h hQ fun _ _ x=>x
end L2
namespace L2
open PySem PySem.Spec PyProof.Rows
section
variable {X:Cx}
def tVar (i:Nat):TE:=fun σ H Q=>∃ v,σ[i]? = some (some v)∧Q v H
def tC (v:V):TE:=fun _ H Q=>Q v H
theorem pe_var {i:Nat} {x:Str} {pos:Pos} (hN:X.N[i]? = some x) (hv:Vis X.env.scope x) (hd:(x == ("__debug__" : Str)) = false:=by decide) (hcd:(x == ("__classdict__" : Str)) = false:=by decide):PE X (.Name x pos) (tVar i):=by
  intro pins s σ H Q I h
  obtain ⟨v,e,h⟩:=h
  obtain ⟨m,hn,hl⟩:=I.loc
  obtain ⟨u,r,l⟩:=hl i x v hN e hv
  have fin:EP X pins σ Q u s:=⟨v,H,I,r,h⟩
  rcases l with ⟨hk,hm⟩ | ⟨hk,c,hc,hcell⟩
  · exact wpAny_Name (wpAny_loadName_local I.ok.kind hk hn hm fin) hd
  · rcases hk with hk | hk
    · exact wpAny_Name (wpAny_loadName_cell I.ok.kind hk hc hcell fin) hd
    · exact wpAny_Name (wpAny_loadName_free I.ok.kind hk hc hcell fin hcd) hd
theorem pe_int {i j pos} : PE X (.Constant (.int i) j pos) (tC (.int i)):=fun _ _ _ H _ I h=>wpAny_Constant_int ⟨.int i,H,I.tok _,⟨_,rfl⟩,h⟩
theorem pe_bl {b j pos} : PE X (.Constant (.bool b) j pos) (tC (.bl b)):=fun _ _ _ H _ I h=>Constant_bool ⟨.bl b,H,I,rfl,h⟩
theorem pe_str {x j pos} : PE X (.Constant (.str x) j pos) (tC (.str x)):=fun _ _ _ H _ I h=>Calls.Constant_str ⟨.str x,H,I.tok _,⟨_,rfl⟩,h⟩
def Gl (X:Cx) (x:Str):Prop:=X.env.kindOf x = some .globalImplicit
theorem ld_glob {E:Value→Shared→Prop} {pins:List (Addr × Obj)} {s:Shared} {σ:St} {H:Hp} {x:Str} {u:Value} {pos:Pos} {Q:Value→Shared→Prop} (I:Inv X pins σ H s) (hg:Gl X x) (hm:X.mg x = some u) (h:Q u s)
    (hd:(x == ("__debug__" : Str)) = false:=by decide):wpAny (model X.prog X.w) X.A (eval (.Name x pos) X.env) Q E s :=
  Calls.Name_function_global I.ok.kind hg (Calls.loadGlobal_global (by rw [I.ok.glob]; exact I.mod.glob.keeps I.bk) hm h) hd
theorem ld_blt {E:Value→Shared→Prop} {pins:List (Addr × Obj)} {s:Shared} {σ:St} {H:Hp} {x:Str} {u:Value} {pos:Pos} {Q:Value→Shared→Prop} (I:Inv X pins σ H s) (hg:Gl X x) (hm:X.mg x = none) (hv:bootBuiltins x = some u) (h:Q u s)
    (hn:x ≠ "__name__" := by decide) (hd:(x == ("__debug__" : Str)) = false:=by decide):wpAny (model X.prog X.w) X.A (eval (.Name x pos) X.env) Q E s:=by
  obtain ⟨mb,h1,h2⟩:=I.mod.blt
  exact Calls.Name_function_global I.ok.kind hg (Calls.loadGlobal_builtin (by rw [I.ok.glob]; exact I.mod.glob.keeps I.bk) hm (by rw [I.ok.blt]; exact h1.keeps I.bk) ((h2 x hn).trans hv) h) hd
theorem pe_glob {x:Str} {v:V} {u:Value} {pos:Pos} (hg:Gl X x) (hm:X.mg x = some u) (r:RelV v u) (hd:(x == ("__debug__" : Str)) = false:=by decide):PE X (.Name x pos) (tC v) :=
  fun _ _ _ H _ I h=>ld_glob I hg hm ⟨v,H,I,r,h⟩ hd
theorem pe_bltn {x:Str} {v:V} {u:Value} {pos:Pos} (hg:Gl X x) (hm:X.mg x = none) (hv:bootBuiltins x = some u) (r:RelV v u) (hn:x ≠ "__name__" := by decide) (hd:(x == ("__debug__" : Str)) = false:=by decide):PE X (.Name x pos) (tC v) :=
  fun _ _ _ H _ I h=>ld_blt I hg hm hv ⟨v,H,I,r,h⟩ hn hd
def t2I (ta tb:TE) (k:Int→Int→Hp→Prop):St→Hp→Prop:=fun σ H=>ta σ H fun x H1=>tb σ H1 fun y H2=>∃ i j,x = .int i∧y = .int j∧k i j H2
def tAdd (ta tb:TE):TE:=fun σ H Q=>t2I ta tb (fun i j H2=>Q (.int (i + j)) H2) σ H
def tSub (ta tb:TE):TE:=fun σ H Q=>t2I ta tb (fun i j H2=>Q (.int (i - j)) H2) σ H
def tMul (ta tb:TE):TE:=fun σ H Q=>t2I ta tb (fun i j H2=>(-(2 ^ 64) < i∧i < 2 ^ 64)∧Q (.int (i * j)) H2) σ H
variable {a b:Expr} {ta tb:TE} {pos:Pos}
def PC (X:Cx) (op:CmpOp) (a b:Expr) (t:TE):Prop :=
  ∀ (pins:List (Addr × Obj)) (s:Shared) (σ:St) (H:Hp) (Q:VK),Inv X pins σ H s→t σ H Q →
    wpAny (model X.prog X.w) X.A (eval a X.env) (fun v s₁=>wpAny (model X.prog X.w) X.A (eval b X.env) (fun u s₂=>wpAny (model X.prog X.w) X.A (compareOp op v u) (EP X pins σ Q) X.xe s₂) X.xe s₁) X.xe s
def tCmp (p:Int→Int→Bool) (ta tb:TE):TE:=fun σ H Q=>t2I ta tb (fun i j H2=>Q (.bl (p i j)) H2) σ H
abbrev tLt:TE→TE→TE:=tCmp fun i j=>decide (i < j)
abbrev tLe:TE→TE→TE:=tCmp fun i j=>decide (i ≤ j)
abbrev tGt:TE→TE→TE:=tCmp fun i j=>decide (j < i)
abbrev tGe:TE→TE→TE:=tCmp fun i j=>decide (j ≤ i)
abbrev tEqI:TE→TE→TE:=tCmp fun i j=>decide (i = j)
abbrev tNeI:TE→TE→TE:=tCmp fun i j=>!decide (i = j)
def tIsN (ta:TE):TE:=fun σ H Q=>ta σ H fun x H1=>Q (.bl (decide (x = .non))) H1
def tNotN (ta:TE):TE:=fun σ H Q=>ta σ H fun x H1=>Q (.bl (!decide (x = .non))) H1
def tB (t:TE):TT:=fun σ H Q=>t σ H fun x H1=>∃ c,x = .bl c∧Q c H1
theorem pt_val {e:Expr} {t:TE} (h:PE X e t) (he:∀ whole,isTrue e X.env whole = (do let v ← whole; standAt e.pos; holding [v] (truthy v)):=by intro _; rfl):PT X e (tB t):=by
  intro pins s σ H Q I hw
  refine isTrue_plain (thn (h pins s σ H _ I hw) fun v s1 ⟨x,H1,I1,r1,q1⟩=>?_) (he _)
  obtain ⟨d,rfl,q⟩:=q1
  cases r1
  exact wpAny_truthy_bool ⟨H1,I1,q⟩
variable {tA tB' : TT} {rest:List Expr}
def tAnd (t u:TT):TT:=fun σ H Q=>t σ H fun c H1=>if c = true then u σ H1 Q else Q false H1
def tOr (t u:TT):TT:=fun σ H Q=>t σ H fun c H1=>if c = true then Q true H1 else u σ H1 Q
def tNot (t:TT):TT:=fun σ H Q=>t σ H fun c H1=>Q (!c) H1
theorem pw_and1 (ha:PT X a tA):PW X (.BoolOp .And [a] pos) tA:=by
  intro wh pins s σ H Q I h
  refine isTrue_and (thn (ha pins s σ H Q I h) fun c s1 e=>?_)
  cases c with
  | true=>exact isTrue_and_nil e
  | false=>exact e
theorem pw_or1 (ha:PT X a tA):PW X (.BoolOp .Or [a] pos) tA:=by
  intro wh pins s σ H Q I h
  refine isTrue_or (thn (ha pins s σ H Q I h) fun c s1 e=>?_)
  cases c with
  | false=>exact isTrue_or_nil e
  | true=>exact e
theorem pw_and (ha:PT X a tA) (hb:PW X (.BoolOp .And (b :: rest) pos) tB'):PW X (.BoolOp .And (a :: b :: rest) pos) (tAnd tA tB'):=by
  intro wh pins s σ H Q I h
  refine isTrue_and (thn (ha pins s σ H _ I h) fun c s1 ⟨H1,I1,q1⟩=>?_)
  cases c with
  | true=>exact hb wh pins s1 σ H1 Q I1 q1
  | false=>exact ⟨H1,I1,q1⟩
theorem pw_or (ha:PT X a tA) (hb:PW X (.BoolOp .Or (b :: rest) pos) tB'):PW X (.BoolOp .Or (a :: b :: rest) pos) (tOr tA tB'):=by
  intro wh pins s σ H Q I h
  refine isTrue_or (thn (ha pins s σ H _ I h) fun c s1 ⟨H1,I1,q1⟩=>?_)
  cases c with
  | true=>exact ⟨H1,I1,q1⟩
  | false=>exact hb wh pins s1 σ H1 Q I1 q1
theorem pt_not (ha:PT X a tA):PT X (.UnaryOp .Not a pos) (tNot tA):=by
  intro pins s σ H Q I h
  exact isTrue_not (ha pins s σ H (fun c H1=>Q (!c) H1) I h)
def tAndV (ta tb:TE):TE:=fun σ H Q=>ta σ H fun x H1=>∃ c,x = .bl c∧if c = true then tb σ H1 Q else Q (.bl false) H1
def tOrV (ta tb:TE):TE:=fun σ H Q=>ta σ H fun x H1=>∃ c,x = .bl c∧if c = true then Q (.bl true) H1 else tb σ H1 Q
def tNotV (ta:TE):TE:=fun σ H Q=>ta σ H fun x H1=>∃ c,x = .bl c∧Q (.bl (!c)) H1
theorem pe_one {op} {t:TE} (h:PE X a t):PE X (.BoolOp op [a] pos) t:=fun pins s σ H Q I hw=>BoolOp_one (h pins s σ H Q I hw)
theorem pe_and (ha:PE X a ta) (hb:PE X (.BoolOp .And (b :: rest) pos) tb):PE X (.BoolOp .And (a :: b :: rest) pos) (tAndV ta tb):=by
  intro pins s σ H Q I h
  refine BoolOp_and (thn (ha pins s σ H _ I h) fun v s1 ⟨x,H1,I1,r1,q1⟩=>?_)
  obtain ⟨c,rfl,q1⟩:=q1
  cases r1
  refine wpAny_truthy_bool ?_
  cases c with
  | true=>exact hb pins s1 σ H1 Q I1 q1
  | false=>exact ⟨.bl false,H1,I1,rfl,q1⟩
theorem pe_not (ha:PE X a ta):PE X (.UnaryOp .Not a pos) (tNotV ta):=by
  intro pins s σ H Q I h
  refine UnaryOp_ (thn (ha pins s σ H _ I h) fun v s1 ⟨x,H1,I1,r1,q1⟩=>?_)
  obtain ⟨c,rfl,q1⟩:=q1
  cases r1
  exact not_of (wpAny_truthy_bool ⟨.bl (!c),H1,I1,rfl,q1⟩)
def tIf (t:TT) (ta tb:TE):TE:=fun σ H Q=>t σ H fun c H1=>if c = true then ta σ H1 Q else tb σ H1 Q
theorem pe_ifExp {c:Expr} (hc:PT X c tA) (ha:PE X a ta) (hb:PE X b tb):PE X (.IfExp c a b pos) (tIf tA ta tb):=by
  intro pins s σ H Q I h
  refine wpAny_IfExp (thn (hc pins s σ H _ I h) fun d s1 ⟨H1,I1,q1⟩=>?_)
  cases d with
  | true=>exact ha pins s1 σ H1 Q I1 q1
  | false=>exact hb pins s1 σ H1 Q I1 q1
end
end L2
namespace L2
open PySem PySem.Spec PyProof.Rows
def SqL (K:PySem.W.Frag) (H:Hp) (a:Addr) (xs:List V):Prop :=
  Rd H a (.lst xs) ∨
    ∃ (o:Obj) (its:Array Value) (n:Nat),K.lookup a = some o∧o.cls = .type "list" ∧ o.dict = none∧o.data = .seq its n∧its.size ≤ sizeLine∧Vals xs its.toList
def SqT (K:PySem.W.Frag) (H:Hp) (a:Addr) (xs:List V):Prop :=
  Rd H a (.tup xs) ∨
    ∃ (o:Obj) (its:Array Value) (n:Nat),K.lookup a = some o∧o.cls = .type "tuple" ∧ o.data = .seq its n∧its.size ≤ sizeLine∧Vals xs its.toList
def absV:Value→Option V
  | .none=>some .non
  | .bool b=>some (.bl b)
  | .int i _=>some (.int i)
  | .str x _=>some (.str x)
  | .bytes b _=>some (.byt b)
  | .float b _=>some (.flt b)
  | .ref a=>some (.ref a)
  | .type n=>some (.ty n)
  | _=>none
theorem RelV.abs {x:V} {u:Value} (r:RelV x u):absV u = some x:=by
  cases x with
  | non=>cases r; rfl
  | bl _=>cases r; rfl
  | int _=>obtain ⟨t,rfl⟩:=r; rfl
  | str _=>obtain ⟨t,rfl⟩:=r; rfl
  | byt _=>obtain ⟨t,rfl⟩:=r; rfl
  | flt _=>obtain ⟨t,rfl⟩:=r; rfl
  | ref _=>cases r; rfl
  | ty _=>cases r; rfl
theorem RelV.inj {x y:V} {u:Value} (r:RelV x u) (q:RelV y u):x = y:=Option.some.inj (r.abs.symm.trans q.abs)
theorem Vals.inj:∀ {xs ys:List V} {us:List Value},Vals xs us→Vals ys us→xs = ys
  | _,_,_,.nil,.nil=>rfl
  | _,_,_,.cons r t,.cons r' t'=>by rw [r.inj r',Vals.inj t t']
section
variable {X:Cx} {pins:List (Addr × Obj)} {σ:St} {H:Hp} {s:Shared} {a:Addr} {xs ys:List V}
theorem SqL.of {K:PySem.W.Frag} (h:H a = some (.lst xs)):SqL K H a xs:=.inl (.inl h)
theorem SqT.of {K:PySem.W.Frag} (h:H a = some (.tup xs)):SqT K H a xs:=.inl (.inl h)
theorem Inv.list (I:Inv X pins σ H s) (h:SqL X.K H a xs):∃ its:List Value,Vals xs its∧PlainL s.heap a its.toArray∧xs.length ≤ sizeLine:=by
  rcases h with h | ⟨o,its,n,hk,hc,hd,hs,hz,r⟩
  · obtain ⟨z,its,n,r,e⟩:=h.ok I.hok
    exact ⟨its,r,⟨_,n,e,rfl,rfl,rfl⟩,z⟩
  · refine ⟨its.toList,r,⟨o,n,I.kIn a o hk,hc,hd,by simpa using hs⟩,?_⟩
    have e:=r.length
    simp only [Array.length_toList] at e
    omega
theorem Inv.tuple (I:Inv X pins σ H s) (h:SqT X.K H a xs):∃ its:List Value,Vals xs its∧IsTup s.heap a its.toArray∧xs.length ≤ sizeLine:=by
  rcases h with h | ⟨o,its,n,hk,hc,hs,hz,r⟩
  · obtain ⟨z,its,r,p⟩:=h.ok I.hok
    exact ⟨its,r,p,z⟩
  · refine ⟨its.toList,r,⟨o,I.kIn a o hk,hc,n,by simpa using hs⟩,?_⟩
    have e:=r.length
    simp only [Array.length_toList] at e
    omega
theorem Inv.list_inj (I:Inv X pins σ H s) (h:SqL X.K H a xs) (h' : SqL X.K H a ys):xs = ys:=by
  obtain ⟨its,r,⟨o,n,e,_,_,d⟩,_⟩:=I.list h
  obtain ⟨its',r',⟨o',n',e',_,_,d'⟩,_⟩:=I.list h'
  rw [e] at e'; cases e'
  rw [d] at d'
  injection d' with d1 _
  have:its = its':=by simpa using congrArg Array.toList d1
  subst this
  exact r.inj r'
theorem Inv.tuple_inj (I:Inv X pins σ H s) (h:SqT X.K H a xs) (h' : SqT X.K H a ys):xs = ys:=by
  obtain ⟨its,r,⟨o,e,_,n,d⟩,_⟩:=I.tuple h
  obtain ⟨its',r',⟨o',e',_,n',d'⟩,_⟩:=I.tuple h'
  rw [e] at e'; cases e'
  rw [d] at d'
  injection d' with d1 _
  have:its = its':=by simpa using congrArg Array.toList d1
  subst this
  exact r.inj r'
end
abbrev Cx.wish (X:Cx) (E:Value→Shared→Prop):Cx:={ X with xe:=E }
abbrev Cx.nox (X:Cx):Cx:=X.wish fun _ _=>False
theorem Cx.Ok.wish {X:Cx} (ok:X.Ok) (E:Value→Shared→Prop):(X.wish E).Ok :=
  ⟨ok.mod,ok.kind,ok.glob,ok.blt,ok.above,ok.inj,ok.has,ok.cab,ok.hd,ok.frames,ok.stk,ok.exf,ok.bs,ok.bsz,ok.noex,ok.exfs,ok.funs,ok.frf⟩
theorem Cx.Ok.unwish {X:Cx} {E:Value→Shared→Prop} (ok:(X.wish E).Ok):X.Ok :=
  ⟨ok.mod,ok.kind,ok.glob,ok.blt,ok.above,ok.inj,ok.has,ok.cab,ok.hd,ok.frames,ok.stk,ok.exf,ok.bs,ok.bsz,ok.noex,ok.exfs,ok.funs,ok.frf⟩
section
variable {X:Cx} {pins:List (Addr × Obj)} {σ:St} {H:Hp} {s:Shared} {E:Value→Shared→Prop}
theorem Inv.wish (I:Inv X pins σ H s) (E:Value→Shared→Prop):Inv (X.wish E) pins σ H s:=⟨I.ok.wish E,I.os,I.bare,I.base,I.loc,I.cell,I.free,I.freeC,I.pin,I.hok,I.len⟩
theorem Inv.unwish (I:Inv (X.wish E) pins σ H s):Inv X pins σ H s:=⟨I.ok.unwish,I.os,I.bare,I.base,I.loc,I.cell,I.free,I.freeC,I.pin,I.hok,I.len⟩
theorem SP.unwish {D:Ends} {f:Flow} {s' : Shared} (h:SP (X.wish E) pins D f s'):SP X pins D f s':=by
  cases f with
  | next=>obtain ⟨σ',H',I,q⟩:=h; exact ⟨σ',H',I.unwish,q⟩
  | brk=>obtain ⟨σ',H',I,q⟩:=h; exact ⟨σ',H',I.unwish,q⟩
  | cont=>obtain ⟨σ',H',I,q⟩:=h; exact ⟨σ',H',I.unwish,q⟩
  | ret u=>obtain ⟨v,σ',H',I,r,q⟩:=h; exact ⟨v,σ',H',I.unwish,r,q⟩
theorem PSs.nox {st:List Stmt} {t:TS} (h:PSs X.nox st t):PSs X st t:=fun pins s σ H D I hw =>
  wpAny_mono (h pins s σ H D (I.wish _) hw) (fun _ _ q=>q.unwish) fun _ _ z=>False.elim z
end
section
variable {X:Cx} {st:Stmt} {rest:List Stmt} {t u:TS} {e:Expr} {te:TE} {pos:Pos}
def tNext:TS:=fun D σ H=>D.nx σ H
def tSeq (t u:TS):TS:=fun D σ H=>t { D with nx:=u D } σ H
theorem pss_nil:PSs X [] tNext:=fun _ _ σ H _ I h=>wpAny_execs_nil ⟨σ,H,I,h⟩
theorem pss_cons (h1:PS X st t) (h2:PSs X rest u):PSs X (st :: rest) (tSeq t u):=by
  intro pins s σ H D I h
  refine wpAny_execs_cons (thn (h1 pins s σ H { D with nx:=u D } I h) fun f s1 q=>?_)
  cases f with
  | next =>
    obtain ⟨σ',H',I',q⟩:=q
    exact h2 pins s1 σ' H' D I' q
  | ret v=>exact q
  | brk=>exact q
  | cont=>exact q
theorem pss_one (h1:PS X st t):PSs X [st] t:=by
  intro pins s σ H D I h
  refine wpAny_execs_cons (thn (h1 pins s σ H D I h) fun f s1 q=>?_)
  cases f with
  | next=>exact wpAny_execs_nil q
  | ret v=>exact q
  | brk=>exact q
  | cont=>exact q
def tBreak:TS:=fun D σ H=>D.bk σ H
def tCont:TS:=fun D σ H=>D.ct σ H
theorem Inv.quiet {pins:List (Addr × Obj)} {σ:St} {H:Hp} {s:Shared} (I:Inv X pins σ H s):interactive X.env = false:=by simp [interactive,I.ok.kind]
def tDrop (te:TE):TS:=fun D σ H=>te σ H fun _ H1=>D.nx σ H1
theorem ps_expr (he:PE X e te) (hs:swapsWith e none pos.line X.env = pure false:=by rfl):PS X (.Expr e pos) (tDrop te):=by
  intro pins s σ H D I h
  exact wpAny_Expr_any (thn (he pins s σ H _ I h) fun v s1 ⟨x,H1,I1,r1,q1⟩=>⟨σ,H1,I1,q1⟩) I.quiet hs
def tRet (te:TE):TS:=fun D σ H=>te σ H D.rt
theorem ps_ret (he:PE X e te):PS X (.Return (some e) pos) (tRet te):=by
  intro pins s σ H D I h
  exact wpAny_Return_some (thn (he pins s σ H _ I h) fun v s1 ⟨x,H1,I1,r1,q1⟩=>⟨x,σ,H1,I1,r1,q1⟩)
def tRetN:TS:=fun D _ H=>D.rt .non H
def tIfS (c:TT) (t u:TS):TS:=fun D σ H=>c σ H fun b H1=>if b = true then t D σ H1 else u D σ H1
theorem ps_if {c:Expr} {a b:List Stmt} {tc:TT} (hc:PT X c tc) (ha:PSs X a t) (hb:PSs X b u):PS X (.If c a b pos) (tIfS tc t u):=by
  intro pins s σ H D I h
  refine wpAny_If (thn (hc pins s σ H _ I h) fun d s1 ⟨H1,I1,q1⟩=>?_)
  cases d with
  | true=>exact ha pins s1 σ H1 D I1 q1
  | false=>exact hb pins s1 σ H1 D I1 q1
def tNever:TS:=fun _ _ _=>False
theorem ps_never:PS X st tNever:=fun _ _ _ _ _ _ h=>h.elim
end
abbrev TG:=V→St→Hp→(St→Hp→Prop)→Prop
abbrev TGs:=List V→St→Hp→(St→Hp→Prop)→Prop
def PG (X:Cx) (target:Expr) (t:TG):Prop :=
  ∀ (pins:List (Addr × Obj)) (s:Shared) (σ:St) (H:Hp) (v:V) (u:Value) (Q:St→Hp→Prop),Inv X pins σ H s→RelV v u→t v σ H Q →
    wpAny (model X.prog X.w) X.A (assign target X.env u) (fun _ s'=>∃ σ' H',Inv X pins σ' H' s'∧Q σ' H') X.xe s
def PGs (X:Cx) (ts:List Expr) (t:TGs):Prop :=
  ∀ (pins:List (Addr × Obj)) (s:Shared) (σ:St) (H:Hp) (vs:List V) (us:List Value) (Q:St→Hp→Prop),Inv X pins σ H s→Vals vs us→t vs σ H Q →
    wpAny (model X.prog X.w) X.A (assignInOrder ((assignEach ts X.env).map (·.2)) us) (fun _ s'=>∃ σ' H',Inv X pins σ' H' s'∧Q σ' H') X.xe s
abbrev TSet:=V→V→V→Hp→(Hp→Prop)→Prop
def PSet (X:Cx) (t:TSet):Prop :=
  ∀ (pins:List (Addr × Obj)) (s:Shared) (σ:St) (H:Hp) (o i v:V) (ov iv u:Value) (Q:Hp→Prop),Inv X pins σ H s→RelV o ov→RelV i iv→RelV v u→t o i v H Q →
    wpAny (model X.prog X.w) X.A (setItem ov iv u) (fun _ s'=>∃ H',Inv X pins σ H' s'∧Q H') X.xe s
abbrev TIp:=V→V→Hp→VK→Prop
def PIp (X:Cx) (op:Operator) (t:TIp):Prop :=
  ∀ (pins:List (Addr × Obj)) (s:Shared) (σ:St) (H:Hp) (x y:V) (v u:Value) (Q:VK),Inv X pins σ H s→RelV x v→RelV y u→t x y H Q →
    wpAny (model X.prog X.w) X.A (inplaceOp op v u) (EP X pins σ Q) X.xe s
section
variable {X:Cx} {pos:Pos}
def gName (i:Nat):TG:=fun v σ H Q=>Q (σ.set i (some v)) H
theorem pg_name {i:Nat} {x:Str} (hN:X.N.Nodup) (hi:X.N[i]? = some x) (hx:Loc X.env.scope x) (hf:X.fn x = true∨X.env.scope.names.lookup x = some .local:=by first | exact .inl rfl | exact .inr rfl | assumption):PG X (.Name x pos) (gName i):=by
  intro pins s σ H v u Q I r h
  exact wpAny_assign_Name (store_ok I hN hi hx r (fun s' I'=>⟨_,H,I',h⟩) hf)
def gNil:TGs:=fun vs σ H Q=>vs = []∧Q σ H
def gCons (t:TG) (u:TGs):TGs:=fun vs σ H Q=>∃ v r,vs = v :: r∧t v σ H fun σ' H'=>u r σ' H' Q
theorem pgs_nil:PGs X [] gNil:=by
  intro pins s σ H vs us Q I r h
  obtain ⟨e,h⟩:=h
  subst e
  cases r
  exact assignInOrder_nil ⟨σ,H,I,h⟩
theorem pgs_cons {e:Expr} {es:List Expr} {t:TG} {u:TGs} (h1:PG X e t) (h2:PGs X es u)
    (hs:(assignEach (e :: es) X.env).map (·.2) = assign e X.env :: (assignEach es X.env).map (·.2):=by rfl):PGs X (e :: es) (gCons t u):=by
  intro pins s σ H vs us Q I r h
  obtain ⟨v,vr,e1,h⟩:=h
  subst e1
  cases r with
  | cons r rr =>
    rw [hs]
    refine assignInOrder_cons (thn (h1 pins s σ H _ _ _ I r h) fun _ s1 ⟨σ1,H1,I1,q1⟩=>?_)
    exact h2 pins s1 σ1 H1 _ _ Q I1 rr q1
def gTup (K:PySem.W.Frag) (n:Nat) (t:TGs):TG:=fun v σ H Q=>∃ a xs,v = .ref a∧SqT K H a xs∧xs.length = n∧t xs σ H Q
theorem pg_tup {es:List Expr} {k:Nat} {t:TGs} {n:Nat} (hc:X.calm = true) (h:PGs X es t)
    (hn:(assignEach es X.env).length = n:=by rfl) (hst:(assignEach es X.env).findIdx? (·.1) = none:=by rfl):PG X (.Tuple es k pos) (gTup X.K n t):=by
  intro pins s σ H v u Q I r hw
  obtain ⟨a,xs,e1,hq,hl,hw⟩:=hw
  subst e1
  cases r
  obtain ⟨its,rv,ht,hz⟩:=I.tuple hq
  refine assign_Tuple_tuple (I.ok.hd hc) ht (by simp [hn,← hl,rv.length]) hst fun h' hx=>?_
  have I1:Inv X pins σ H { s with heap:=h' }:=I.kept (t':=s.toks) fun b o e=>hx b o (Nat.ne_of_lt (Heap.lt_size e)) e
  exact h pins _ σ H xs _ Q I1 (by simpa using rv) hw
def gSub (to ti:TE) (t:TSet):TG:=fun v σ H Q=>to σ H fun o H1=>ti σ H1 fun i H2=>t o i v H2 fun H3=>Q σ H3
theorem pg_sub {o i:Expr} {to ti:TE} {t:TSet} (ho:PE X o to) (hi:PE X i ti) (hs:PSet X t)
    (ha:∀ v,assign (.Subscript o i pos) X.env v = (do
      let ov ← holding [v] (eval o X.env)
      let iv ← holding [v,ov] (eval i X.env)
      standAt pos
      holding [v,ov,iv] (setItem ov iv v)
      release [v,ov,iv] []):=by intro _; rfl):PG X (.Subscript o i pos) (gSub to ti t):=by
  intro pins s σ H v u Q I r h
  rw [ha]
  refine wpAny_bind (wpAny_holding (thn (ho pins s σ H _ I h) fun ov s1 ⟨x,H1,I1,r1,q1⟩=>?_))
  refine wpAny_bind (wpAny_holding (thn (hi pins s1 σ H1 _ I1 q1) fun iv s2 ⟨y,H2,I2,r2,q2⟩=>?_))
  refine wpAny_bind (wpAny_standAt (wpAny_bind (wpAny_holding (thn (hs pins s2 σ H2 x y v ov iv u _ I2 r1 r2 r q2) fun _ s3 ⟨H3,I3,q3⟩=>?_))))
  exact wpAny_release ⟨σ,H3,I3,q3⟩
def tAsg (te:TE) (g:TG):TS:=fun D σ H=>te σ H fun x H1=>g x σ H1 D.nx
theorem ps_asg {tg e:Expr} {te:TE} {g:TG} (he:PE X e te) (hg:PG X tg g) (hs:swapsWithSole [tg] e pos.line X.env = pure false:=by rfl) (hw:swappedStores [tg] e X.env = pure none:=by rfl)
    (h1:(assignEach [tg] X.env).map (·.2) = [assign tg X.env]:=by rfl):PS X (.Assign [tg] e pos) (tAsg te g):=by
  intro pins s σ H D I h
  refine wpAny_Assign_stores (thn (he pins s σ H _ I h) fun v s1 ⟨x,H1,I1,r1,q1⟩=>?_) hs hw
  rw [h1]
  exact thn (hg pins s1 σ H1 x v _ I1 r1 q1) fun _ s2 q=>q
theorem ps_set {i:Nat} {x:Str} {e:Expr} {te:TE} {pos' : Pos} (hN:X.N.Nodup) (hi:X.N[i]? = some x) (hx:Loc X.env.scope x) (he:PE X e te) (hs:swapsWith e (some (.Name x pos')) pos.line X.env = pure false:=by rfl) (hf:X.fn x = true∨X.env.scope.names.lookup x = some .local:=by first | exact .inl rfl | exact .inr rfl | assumption) :
    PS X (.Assign [.Name x pos'] e pos) (tAsg te (gName i)):=by
  intro pins s σ H D I h
  refine wpAny_Assign_Name (thn (he pins s σ H _ I h) fun v s1 ⟨y,H1,I1,r1,q1⟩=>?_) hs
  exact store_ok I1 hN hi hx r1 (fun s2 I2=>⟨_,H1,I2,q1⟩) hf
def tPar (i j:Nat) (ta:TA):TS:=fun D σ H=>ta σ H fun vs H1=>∃ v w,vs = [v,w]∧D.nx ((σ.set i (some v)).set j (some w)) H1
def tAug (i:Nat) (te:TE) (ti:TIp):TS:=fun D σ H=>∃ x,σ[i]? = some (some x)∧te σ H fun y H1=>ti x y H1 fun z H2=>D.nx (σ.set i (some z)) H2
def tAugS (to ti te:TE) (tget:V→V→Hp→VK→Prop) (tip:TIp) (tset:TSet):TS:=fun D σ H=>to σ H fun o H1=>ti σ H1 fun i H2=>tget o i H2 fun x H3=>te σ H3 fun y H4=>tip x y H4 fun z H5=>tset o i z H5 fun H6=>D.nx σ H6
def PGet (X:Cx) (t:V→V→Hp→VK→Prop):Prop :=
  ∀ (pins:List (Addr × Obj)) (s:Shared) (σ:St) (H:Hp) (o i:V) (ov iv:Value) (Q:VK),Inv X pins σ H s→RelV o ov→RelV i iv→t o i H Q →
    wpAny (model X.prog X.w) X.A (getItem ov iv) (EP X pins σ Q) X.xe s
def ipI (f:Int→Int→Int):TIp:=fun x y H Q=>∃ i j,x = .int i∧y = .int j∧Q (.int (f i j)) H
end
section
variable {X:Cx} {pos:Pos}
def tWhile (c:TT) (tb:TS):TS:=fun D σ H=>∃ W:Nat→St→Hp→Prop,(∃ m,W m σ H)∧∀ m σ H,W m σ H →
  c σ H fun b H1=>if b = true then ∃ N:St→Hp→Prop,(∀ σ' H',N σ' H'→∃ m',m' < m∧W m' σ' H')∧tb { D with nx:=N,ct:=N,bk:=D.nx } σ H1 else D.nx σ H1
end
structure It where
  go:Nat→Hp→Prop
  yld:Nat→Hp→V→Hp→Prop
  stop:Nat→Hp→Prop
def FpOk (X:Cx) (pins:List (Addr × Obj)) (H:Hp) (b:Addr):Prop :=
  H b = none∧b ≠ X.env.locals∧b ∉ X.fs∧(b ∈ X.ex∨X.s₀.heap.objs.size ≤ b)∧(∀ x c,X.env.cells.lookup x = some c→c ≠ b)∧∀ p ∈ X.pn ++ pins,p.1 ≠ b
theorem Inv.fpOk {X:Cx} {pins:List (Addr × Obj)} {σ:St} {H H' : Hp} {s:Shared} {b:Addr} (I:Inv X pins σ H s) (hb:s.heap.objs.size ≤ b) (hn:H' b = none):FpOk X pins H' b:=by
  refine ⟨hn,Nat.ne_of_gt (Nat.lt_of_lt_of_le I.lt hb),I.nofs hb,.inr (Nat.le_trans I.sz hb),fun x c e z=>?_,fun p hp z=>?_⟩
  · obtain ⟨v,q⟩:=I.cell x c e
    exact absurd (Nat.lt_of_lt_of_le q.lt (by rw [z]; exact hb)) (Nat.lt_irrefl _)
  · exact absurd (Nat.lt_of_lt_of_le (Heap.lt_size (I.pin p hp).1) (by rw [z]; exact hb)) (Nat.lt_irrefl _)
structure Turn (P:Program) (w:World) (K:PySem.W.Frag) (tg:Expr) (J:It) (fp:List Addr) (it:Addr) (tn:Nat→Heap→Prop):Prop where
  mem:it ∈ fp
  obj:∀ i h,tn i h→∀ b ∈ fp,∃ o,h.get? b = some o∧∀ v,o.data ≠ .cell v
  keep:∀ i h h',tn i h→(∀ b ∈ fp,∀ o,h.get? b = some o→h'.get? b = some o)→tn i h'
  item:∀ (X:Cx),X.prog = P→X.w = w→X.K = K→X.calm = true→∀ (i:Nat) (pins:List (Addr × Obj)) (s:Shared) (σ:St) (H:Hp) (E:Value→Shared→Prop),Inv X pins σ H s→(∀ b ∈ fp,FpOk X pins H b)→tn i s.heap→J.go i H →
    wpAny (model P w) X.A (pyNext (.ref it)) (fun r s1=>∃ u,r = some u ∧
      wpAny (model P w) X.A (letOwnedTupleGo tg (.ref it) u) (fun _ s2=>∃ x H',Inv X pins σ H' s2∧RelV x u∧J.yld i H x H'∧tn (i + 1) s2.heap∧∀ b ∈ fp,H' b = none) E s1) E s
  done:∀ (X:Cx),X.prog = P→X.w = w→X.K = K→X.calm = true→∀ (i:Nat) (pins:List (Addr × Obj)) (s:Shared) (σ:St) (H:Hp) (E:Value→Shared→Prop),Inv X pins σ H s→(∀ b ∈ fp,FpOk X pins H b)→tn i s.heap→J.stop i H →
    wpAny (model P w) X.A (pyNext (.ref it)) (fun r s1=>r = none∧Inv X pins σ H s1) E s
  self:∀ (A:Around) (i:Nat) (s:Shared) (Q:Value→Shared→Prop) (E:Value→Shared→Prop),tn i s.heap→Q (.ref it) s→wpAny (model P w) A (pyIter (.ref it)) Q E s
abbrev TI:=St→Hp→(It→Hp→Prop)→Prop
def PIE (X:Cx) (pins:List (Addr × Obj)) (σ:St) (tg:Expr) (R:It→Hp→Prop) (itv:Value) (s2:Shared):Prop :=
  ∃ (it:Addr) (fp:List Addr) (tn:Nat→Heap→Prop) (J:It) (H' : Hp),itv = .ref it∧Inv X pins σ H' s2∧Turn X.prog X.w X.K tg J fp it tn∧tn 0 s2.heap∧(∀ b ∈ fp,FpOk X pins H' b)∧R J H'
def PI (X:Cx) (tg iter:Expr) (wi:TI):Prop :=
  ∀ (pins:List (Addr × Obj)) (s:Shared) (σ:St) (H:Hp) (R:It→Hp→Prop),Inv X pins σ H s→wi σ H R →
    wpAny (model X.prog X.w) X.A (eval iter X.env) (fun v s1=>wpAny (model X.prog X.w) X.A (pyIter v) (PIE X pins σ tg R) X.xe s1) X.xe s
theorem go_of {M:Model} {A:Around} {E:Value→Shared→Prop} {s:Shared} {tg:Expr} {it:Addr} {u:Value} {o:Obj} {n:String} {vs:Array Value} {Q:Unit→Shared→Prop} (ho:s.heap.get? it = some o) (hc:o.cls = .type n) (hd:o.data = .fields vs)
    (hn:["enumerate", "zip", "dict_itemiterator", "dict_reverseitemiterator", "odict_iterator", "itertools.zip_longest", "itertools.pairwise"].contains n = false) (hQ:Q () s):wpAny M A (letOwnedTupleGo tg (.ref it) u) Q E s:=by
  unfold letOwnedTupleGo
  cases tg <;> first
    | exact wpAny_pure hQ
    | (cases u <;> first
        | exact wpAny_pure hQ
        | (refine wpAny_bind (wpAny_load ho ?_)
           rw [hc,hd]
           show wpAny M A (if (["enumerate", "zip", "dict_itemiterator", "dict_reverseitemiterator", "odict_iterator", "itertools.zip_longest", "itertools.pairwise"].contains n && vs[0]? == some (rawInt _)) = true then _ else _) Q E s
           rw [if_neg (by intro h; rw [hn,Bool.false_and] at h; cases h)]
           exact wpAny_pure hQ))
def Itl (K:PySem.W.Frag) (a:Addr):It :=
  ⟨fun i H=>∃ xs x,SqL K H a xs∧xs[i]? = some x,fun i H x H'=>H' = H∧∀ xs,SqL K H a xs→xs[i]? = some x,fun i H=>∃ xs,SqL K H a xs∧xs.length ≤ i⟩
def Itt (K:PySem.W.Frag) (a:Addr):It :=
  ⟨fun i H=>∃ xs x,SqT K H a xs∧xs[i]? = some x,fun i H x H'=>H' = H∧∀ xs,SqT K H a xs→xs[i]? = some x,fun i H=>∃ xs,SqT K H a xs∧xs.length ≤ i⟩
def Itr (lo:Int) (n:Nat):It:=⟨fun i _=>i < n,fun i H x H'=>H' = H∧x = .int (lo + i),fun i _=>n ≤ i⟩
theorem turn_list {P:Program} {w:World} {K:PySem.W.Frag} {tg:Expr} (a it:Addr):Turn P w K tg (Itl K a) [it] it (fun i h=>h.IsListIter it a i) where
  mem:=by simp
  obj:=fun i h st b hb=>by
    have e:b = it:=by simpa using hb
    subst e
    obtain ⟨o,e,c,d⟩:=st
    exact ⟨o,e,fun v z=>by rw [d] at z; cases z⟩
  keep:=fun i h h' st k=>st.at fun o e=>k it (by simp) o e
  item:=by
    intro X hP hw hK hc i pins s σ H E I hf st hg
    subst hP hw hK
    obtain ⟨xs,x,hq,hx⟩:=hg
    obtain ⟨its,rv,p,hz⟩:=I.list hq
    obtain ⟨u,hu,ru⟩:=rv.get hx
    obtain ⟨f0,f1,f2,f3,f4,f5⟩:=hf it (by simp)
    refine wpAny_pyNext_list_item st p.isList (x:=u) (by simpa using hu) fun h' st' sb=>?_
    have I1:Inv X pins σ H { s with heap:=h' }:=I.turned (t':=s.toks) (fun b o hb e=>(sb.2 b hb).trans e) f0 f1 f3 f4 f5
    obtain ⟨o,e,c,d⟩:=id st'
    exact ⟨u,rfl,go_of (s:={ s with heap:=h' }) e c d (by decide) ⟨x,H,I1,ru,⟨rfl,fun ys hy=>by rw [I.list_inj hy hq]; exact hx⟩,st',fun b hb=>(hf b hb).1⟩⟩
  done:=by
    intro X hP hw hK hc i pins s σ H E I hf st hg
    subst hP hw hK
    obtain ⟨xs,hq,hx⟩:=hg
    obtain ⟨its,rv,p,hz⟩:=I.list hq
    obtain ⟨f0,f1,f2,f3,f4,f5⟩:=hf it (by simp)
    have hl:=rv.length
    exact wpAny_pyNext_list_end (I.ok.hd hc) st p.isList (by simp; omega) fun h' eb=>⟨rfl,I.turned (t':=s.toks) (fun b o hb e=>eb b o hb e) f0 f1 f3 f4 f5⟩
  self:=fun _ _ _ _ _ st h=>wpAny_pyIter_listiter st h
theorem turn_range {P:Program} {w:World} {K:PySem.W.Frag} {tg:Expr} (it:Addr) (lo:Int) (n:Nat):Turn P w K tg (Itr lo n) [it] it (fun i h=>IsRangeIter h it (lo + (i:Nat) * 1) ((n:Int) - (i:Nat)) 1) where
  mem:=by simp
  obj:=fun i h st b hb=>by
    have e:b = it:=by simpa using hb
    subst e
    exact ⟨_,st,fun v z=>by
      have z' : Data.fields _ = Data.cell v:=z
      cases z'⟩
  keep:=fun i h h' st k=>k it (by simp) _ st
  item:=by
    intro X hP hw hK hc i pins s σ H E I hf st hg
    subst hP hw hK
    obtain ⟨f0,f1,f2,f3,f4,f5⟩:=hf it (by simp)
    have W:=Walks.range (prog:=X.prog) (w:=X.w) (I.ok.hd hc) it lo 1 n
    refine W.item i s _ _ hg st fun v h' tk hv st' kk=>?_
    obtain ⟨t,rfl⟩:=hv
    have I1:Inv X pins σ H { s with heap:=h',toks:=tk }:=I.turned (fun b o hb e=>kk b o (by simpa using hb) e) f0 f1 f3 f4 f5
    refine ⟨_,rfl,go_of (s:={ s with heap:=h',toks:=tk }) (n := "range_iterator") st' rfl rfl (by decide) ⟨.int (lo + i),H,I1,⟨t,?_⟩,⟨rfl,rfl⟩,st',fun b hb=>(hf b hb).1⟩⟩
    rw [Int.mul_one]
  done:=by
    intro X hP hw hK hc i pins s σ H E I hf st hg
    subst hP hw hK
    obtain ⟨f0,f1,f2,f3,f4,f5⟩:=hf it (by simp)
    exact wpAny_pyNext_range_end (I.ok.hd hc) st (by have:n ≤ i:=hg; omega) fun h' eb=>⟨rfl,I.turned (t':=s.toks) (fun b o hb e=>eb b o hb e) f0 f1 f3 f4 f5⟩
  self:=fun _ _ _ _ _ st h=>wpAny_pyIter_rangeiter st h
end L2
namespace L2
open PySem PySem.Spec PyProof.Rows
section
variable {X:Cx} {tg:Expr}
def iList (K:PySem.W.Frag) (tl:TE):TI:=fun σ H R=>tl σ H fun x H1=>∃ a,x = .ref a∧(∃ xs,SqL K H1 a xs)∧R (Itl K a) H1
def iTup (K:PySem.W.Frag) (tl:TE):TI:=fun σ H R=>tl σ H fun x H1=>∃ a,x = .ref a∧(∃ xs,SqT K H1 a xs)∧R (Itt K a) H1
theorem pi_list {l:Expr} {tl:TE} (hl:PE X l tl):PI X tg l (iList X.K tl):=by
  intro pins s σ H R I h
  refine thn (hl pins s σ H _ I h) fun v s1 ⟨x,H1,I1,r1,q1⟩=>?_
  obtain ⟨a,e,⟨xs,hq⟩,q⟩:=q1
  subst e
  cases r1
  obtain ⟨its,rv,p,hz⟩:=I1.list hq
  refine wpAny_pyIter_list p.isList ?_
  refine ⟨s1.heap.objs.size,[s1.heap.objs.size],_,_,H1,rfl,I1.kept (t':=s1.toks) fun b o e=>Heap.get?_push_of_some _ e,turn_list a _,⟨_,Heap.get?_push_size _ rfl,rfl,rfl⟩,fun b hb=>?_,q⟩
  have e:b = s1.heap.objs.size:=by simpa using hb
  subst e
  exact I1.fpOk (Nat.le_refl _) (I1.hok.fresh (Nat.le_refl _))
theorem range_it {pins:List (Addr × Obj)} {σ:St} {H:Hp} {s:Shared} {R:It→Hp→Prop} {E:Value→Shared→Prop} {lo hi:Int} {t u v:Tok} {tk:Nat} (I:Inv X pins σ H s) (h1 : -(2 ^ 62) ≤ lo) (h2:lo < 2 ^ 62) (h3 : -(2 ^ 62) ≤ hi) (h4:hi < 2 ^ 62)
    (q:R (Itr lo (hi - lo).toNat) H):wpAny (model X.prog X.w) X.A (pyIter (.ref s.heap.objs.size)) (PIE X pins σ tg R) E { s with heap:=s.heap.push { cls:=.type "range",data:=.fields #[.int lo t,.int hi u,.int 1 v] },toks:=tk }:=by
  refine wpAny_pyIter_range (IsRange.new ..) (small_one h1 h2 h3 h4) ?_
  have I1:Inv X pins σ H { s with heap:=s.heap.push { cls:=.type "range",data:=.fields #[.int lo t,.int hi u,.int 1 v] },toks:=tk }:=I.kept fun b o e=>Heap.get?_push_of_some _ e
  refine ⟨(s.heap.push { cls:=.type "range",data:=.fields #[.int lo t,.int hi u,.int 1 v] }).objs.size,[(s.heap.push { cls:=.type "range",data:=.fields #[.int lo t,.int hi u,.int 1 v] }).objs.size],_,_,H,rfl,
    I1.kept (t':=tk) fun b o e=>Heap.get?_push_of_some _ e,turn_range _ lo (hi - lo).toNat,?_,fun b hb=>?_,q⟩
  · have e1:lo + ((0:Nat):Int) * 1 = lo:=by simp
    have e2:(((hi - lo).toNat:Nat):Int) - ((0:Nat):Int) = Builtin.Range.rangeSize lo hi 1:=by rw [rangeSize_one]; split <;> omega
    show IsRangeIter _ _ (lo + ((0:Nat):Int) * 1) ((((hi - lo).toNat:Nat):Int) - ((0:Nat):Int)) 1
    rw [e1,e2]
    exact Heap.get?_push_size _ rfl
  · have e:b = (s.heap.push { cls:=.type "range",data:=.fields #[.int lo t,.int hi u,.int 1 v] }).objs.size:=by simpa using hb
    subst e
    exact I1.fpOk (Nat.le_refl _) (I1.hok.fresh (Nat.le_refl _))
def iRng1 (ta:TA):TI:=fun σ H R=>ta σ H fun vs H1=>∃ j:Int,vs = [.int j]∧-(2 ^ 62) ≤ j∧j < 2 ^ 62∧R (Itr 0 j.toNat) H1
def iRng2 (ta:TA):TI:=fun σ H R=>ta σ H fun vs H1=>∃ i j:Int,vs = [.int i,.int j]∧(-(2 ^ 62) ≤ i∧i < 2 ^ 62∧-(2 ^ 62) ≤ j∧j < 2 ^ 62)∧R (Itr i (j - i).toNat) H1
theorem pi_range1 {a:Expr} {ta:TA} {p pos:Pos} (hg:Gl X "range") (hm:X.mg "range" = none) (ha:PA X [a] ta) (hs:starEach [a] X.env = [(false,eval a X.env)]:=by rfl):PI X tg (.Call (.Name "range" p) [a] [] pos) (iRng1 ta):=by
  intro pins s σ H R I h
  refine Call_ (ld_blt I hg hm boot_range (PyProof.Rows.callWith_type1 (thn (ha pos pins s σ H _ I h) fun us s1 ⟨vs,H1,I1,r1,q1⟩=>?_) hs rfl))
  obtain ⟨j,e,q1,q2,q⟩:=q1
  subst e
  cases r1 with
  | cons r rr =>
    cases rr
    obtain ⟨t,rfl⟩:=r
    exact call_range_1 (range_it I1 (by omega) (by omega) q1 q2 (by simpa using q))
def tFor (wi:TI) (g:TG) (tb:TS):TS:=fun D σ H=>wi σ H fun J H1=>∃ W:Nat→Nat→St→Hp→Prop,(∃ m,W 0 m σ H1)∧∀ i m σ H,W i m σ H →
  (J.stop i H∧D.nx σ H)∨(J.go i H∧∃ N:St→Hp→Prop,(∀ σ' H',N σ' H'→∃ m',m' < m∧W (i + 1) m' σ' H')∧∀ x H',J.yld i H x H'→g x σ H' fun σ2 H2=>tb { D with nx:=N,ct:=N,bk:=D.nx } σ2 H2)
def pinsAt (fp:List Addr) (h:Heap):List (Addr × Obj):=fp.filterMap fun b=>(h.get? b).map fun o=>(b,o)
theorem mem_pinsAt {fp:List Addr} {h:Heap} {b:Addr} {o:Obj} (hb:b ∈ fp) (e:h.get? b = some o):(b,o) ∈ pinsAt fp h:=List.mem_filterMap.mpr ⟨b,hb,by rw [e]; rfl⟩
theorem of_pinsAt {fp:List Addr} {h:Heap} {p:Addr × Obj} (hp:p ∈ pinsAt fp h):p.1 ∈ fp∧h.get? p.1 = some p.2:=by
  obtain ⟨b,hb,e⟩:=List.mem_filterMap.mp hp
  cases q:h.get? b with
  | none=>rw [q] at e; cases e
  | some o =>
    rw [q] at e
    have e' : (b,o) = p:=Option.some.inj e
    subst e'
    exact ⟨hb,q⟩
theorem Inv.pinned {pins:List (Addr × Obj)} {σ:St} {H:Hp} {s:Shared} {fp:List Addr} (I:Inv X pins σ H s) (hf:∀ b ∈ fp,FpOk X pins H b) (ho:∀ b ∈ fp,∃ o,s.heap.get? b = some o∧∀ v,o.data ≠ .cell v):Inv X (pins ++ pinsAt fp s.heap) σ H s :=
  I.pins_of fun p hp=>(List.mem_append.mp hp).elim (fun z=>I.pin p (List.mem_append_right _ z)) fun z=>by
    obtain ⟨hb,e⟩:=of_pinsAt z
    obtain ⟨f0,f1,f2,_⟩:=hf p.1 hb
    obtain ⟨o,e',d⟩:=ho p.1 hb
    rw [e] at e'; cases e'
    exact ⟨e,f0,f1,f2,d⟩
theorem Inv.unpinned {pins pl:List (Addr × Obj)} {σ:St} {H:Hp} {s:Shared} (I:Inv X (pins ++ pl) σ H s):Inv X pins σ H s:=I.pins_of fun p hp=>I.pin p (List.mem_append_right _ (List.mem_append_left _ hp))
theorem ps_for {iter:Expr} {body:List Stmt} {wi:TI} {g:TG} {tb:TS} {pos:Pos} (hp:PassesOwn (model X.prog X.w) X.A X.env X.xe) (hc:X.calm = true) (hi:PI X tg iter wi) (hg:PG X tg g) (hb:PSs X body tb)
    (hs:∀ x,foldedSetIterable iter X.env x = pure x:=by intro _; rfl):PS X (.For tg iter body [] pos) (tFor wi g tb):=by
  intro pins s σ H D I h
  refine wpAny_For (thn (hi pins s σ H _ I h) fun v s1 h1=>thn h1 fun itv s2 h2=>?_) hs
  obtain ⟨it,fp,tn,J,H2,e,I2,T,st2,f2,W,⟨m0,w0⟩,turn⟩:=h2
  subst e
  have stat:∀ {H' : Hp},(∀ b ∈ fp,H' b = none)→∀ b ∈ fp,FpOk X pins H' b:=fun hn b hb=>⟨hn b hb,(f2 b hb).2⟩
  refine codeAny_forLoop_any (fun n s'=>∃ i σ' H',Inv X pins σ' H' s'∧tn i s'.heap∧(∀ b ∈ fp,H' b = none)∧W i n σ' H') ?_ m0 ⟨0,σ,H2,I2,st2,fun b hb=>(f2 b hb).1,w0⟩
  rintro n s3 ⟨i,σ3,H3,I3,st3,fr3,w3⟩
  rcases turn i n σ3 H3 w3 with ⟨stop,qn⟩ | ⟨go,N,hN,step⟩
  · refine wpAny_passesOwn hp (thn (T.done X rfl rfl rfl hc i pins s3 σ3 H3 X.xe I3 (stat fr3) st3 stop) fun r s4 ⟨hr,I4⟩=>?_)
    subst hr
    exact wpAny_execs_nil ⟨σ3,H3,I4,qn⟩
  · refine wpAny_passesOwn hp (thn (T.item X rfl rfl rfl hc i pins s3 σ3 H3 X.xe I3 (stat fr3) st3 go) fun r s4 ⟨u,hr,h4⟩=>?_)
    subst hr
    refine wpAny_passesOwn hp (thn h4 fun _ s5 ⟨x,H5,I5,r5,y5,st5,fr5⟩=>?_)
    have I5':=I5.pinned (stat fr5) (T.obj _ _ st5)
    refine wpAny_passesOwn hp (thn (hg _ s5 σ3 H5 x u _ I5' r5 (step x H5 y5)) fun _ s6 ⟨σ6,H6,I6,q6⟩=>?_)
    refine wpAny_passesOwn hp (thn (hb _ s6 σ6 H6 _ I6 q6) fun f s7 q7=>?_)
    have again:∀ {σ7:St} {H7:Hp},Inv X (pins ++ pinsAt fp s5.heap) σ7 H7 s7→N σ7 H7→∃ m,m < n∧∃ i σ' H',Inv X pins σ' H' s7∧tn i s7.heap∧(∀ b ∈ fp,H' b = none)∧W i m σ' H':=fun {σ7 H7} I7 n7=>by
      obtain ⟨m',hm,w7⟩:=hN σ7 H7 n7
      refine ⟨m',hm,i + 1,σ7,H7,I7.unpinned,T.keep _ _ _ st5 fun b hb o e=>(I7.pin (b,o) (List.mem_append_right _ (List.mem_append_right _ (mem_pinsAt hb e)))).1,fun b hb=>?_,w7⟩
      obtain ⟨o,e,d⟩:=T.obj _ _ st5 b hb
      exact (I7.pin (b,o) (List.mem_append_right _ (List.mem_append_right _ (mem_pinsAt hb e)))).2.1
    cases f with
    | next=>obtain ⟨σ7,H7,I7,n7⟩:=q7; exact again I7 n7
    | cont=>obtain ⟨σ7,H7,I7,n7⟩:=q7; exact again I7 n7
    | brk=>obtain ⟨σ7,H7,I7,q7⟩:=q7; exact ⟨σ7,H7,I7.unpinned,q7⟩
    | ret v=>obtain ⟨x7,σ7,H7,I7,r7,q7⟩:=q7; exact ⟨x7,σ7,H7,I7.unpinned,r7,q7⟩
end
theorem for_list {K:PySem.W.Frag} {a:Addr} {xs:List V} {g:TG} {tb:TS} {D:Ends} {σ:St} {H:Hp} (Pv:Nat→St→Hp→Prop) (h0:Pv 0 σ H) (hl:∀ i σ H,i ≤ xs.length→Pv i σ H→SqL K H a xs)
    (hs:∀ i x σ H,xs[i]? = some x→Pv i σ H→g x σ H fun σ2 H2=>tb { D with nx:=Pv (i + 1),ct:=Pv (i + 1),bk:=D.nx } σ2 H2) (hd:∀ σ H,Pv xs.length σ H→D.nx σ H) :
    ∃ W:Nat→Nat→St→Hp→Prop,(∃ m,W 0 m σ H)∧∀ i m σ H,W i m σ H →
      ((Itl K a).stop i H∧D.nx σ H)∨((Itl K a).go i H∧∃ N:St→Hp→Prop,(∀ σ' H',N σ' H'→∃ m',m' < m∧W (i + 1) m' σ' H')∧∀ x H',(Itl K a).yld i H x H'→g x σ H' fun σ2 H2=>tb { D with nx:=N,ct:=N,bk:=D.nx } σ2 H2):=by
  refine ⟨fun i m σ H=>m = xs.length - i∧i ≤ xs.length∧Pv i σ H,⟨xs.length,by simp,Nat.zero_le _,h0⟩,?_⟩
  rintro i m σ H ⟨rfl,hi,p⟩
  have q:=hl i σ H hi p
  by_cases hlt:i < xs.length
  · refine .inr ⟨⟨xs,xs[i],q,by simp [hlt]⟩,Pv (i + 1),fun σ' H' p'=>⟨xs.length - (i + 1),by omega,rfl,hlt,p'⟩,fun x H' y=>?_⟩
    obtain ⟨e,y⟩:=y
    subst e
    exact hs i x σ _ (y xs q) p
  · have e:i = xs.length:=by omega
    subst e
    exact .inl ⟨⟨xs,q,Nat.le_refl _⟩,hd σ H p⟩
theorem for_range {lo:Int} {n:Nat} {g:TG} {tb:TS} {D:Ends} {σ:St} {H:Hp} (Pv:Nat→St→Hp→Prop) (h0:Pv 0 σ H)
    (hs:∀ i σ H,i < n→Pv i σ H→g (.int (lo + i)) σ H fun σ2 H2=>tb { D with nx:=Pv (i + 1),ct:=Pv (i + 1),bk:=D.nx } σ2 H2) (hd:∀ σ H,Pv n σ H→D.nx σ H) :
    ∃ W:Nat→Nat→St→Hp→Prop,(∃ m,W 0 m σ H)∧∀ i m σ H,W i m σ H →
      ((Itr lo n).stop i H∧D.nx σ H)∨((Itr lo n).go i H∧∃ N:St→Hp→Prop,(∀ σ' H',N σ' H'→∃ m',m' < m∧W (i + 1) m' σ' H')∧∀ x H',(Itr lo n).yld i H x H'→g x σ H' fun σ2 H2=>tb { D with nx:=N,ct:=N,bk:=D.nx } σ2 H2):=by
  refine ⟨fun i m σ H=>m = n - i∧i ≤ n∧Pv i σ H,⟨n,by simp,Nat.zero_le _,h0⟩,?_⟩
  rintro i m σ H ⟨rfl,hi,p⟩
  by_cases hlt:i < n
  · refine .inr ⟨hlt,Pv (i + 1),fun σ' H' p'=>⟨n - (i + 1),by omega,rfl,hlt,p'⟩,fun x H' y=>?_⟩
    obtain ⟨e,y⟩:=y
    subst e y
    exact hs i σ _ hlt p
  · have e:i = n:=by omega
    subst e
    exact .inl ⟨Nat.le_refl _,hd σ H p⟩
end L2
namespace L2
open PySem PySem.Spec PyProof.Rows
abbrev R2:=V→V→Hp→VK→Prop
def OpR (X:Cx) (f:Value→Value→Sem Value) (r:R2):Prop :=
  ∀ (pins:List (Addr × Obj)) (s:Shared) (σ:St) (H:Hp) (x y:V) (v u:Value) (Q:VK),Inv X pins σ H s→RelV x v→RelV y u→r x y H Q →
    wpAny (model X.prog X.w) X.A (f v u) (EP X pins σ Q) X.xe s
def UnR (X:Cx) (f:Value→Sem Value) (r:V→Hp→VK→Prop):Prop :=
  ∀ (pins:List (Addr × Obj)) (s:Shared) (σ:St) (H:Hp) (x:V) (v:Value) (Q:VK),Inv X pins σ H s→RelV x v→r x H Q →
    wpAny (model X.prog X.w) X.A (f v) (EP X pins σ Q) X.xe s
def CallR (X:Cx) (f:Value) (r:List V→Hp→VK→Prop):Prop :=
  ∀ (pins:List (Addr × Obj)) (s:Shared) (σ:St) (H:Hp) (xs:List V) (us:List Value) (Q:VK),Inv X pins σ H s→Vals xs us→r xs H Q →
    wpAny (model X.prog X.w) X.A (call f us) (EP X pins σ Q) X.xe s
def TruR (X:Cx) (r:V→Hp→(Bool→Hp→Prop)→Prop):Prop :=
  ∀ (pins:List (Addr × Obj)) (s:Shared) (σ:St) (H:Hp) (x:V) (v:Value) (Q:Bool→Hp→Prop),Inv X pins σ H s→RelV x v→r x H Q →
    wpAny (model X.prog X.w) X.A (truthy v) (TP X pins σ Q) X.xe s
def tOp (r:R2) (ta tb:TE):TE:=fun σ H Q=>ta σ H fun x H1=>tb σ H1 fun y H2=>r x y H2 Q
def tUn (r:V→Hp→VK→Prop) (ta:TE):TE:=fun σ H Q=>ta σ H fun x H1=>r x H1 Q
def rI (C:Int→Int→Prop) (g:Int→Int→V):R2:=fun x y H Q=>∃ i j,x = .int i∧y = .int j∧C i j∧Q (g i j) H
def rI0 (g:Int→Int→V):R2:=fun x y H Q=>∃ i j,x = .int i∧y = .int j∧Q (g i j) H
def rU (g:Int→V):V→Hp→VK→Prop:=fun x H Q=>∃ i,x = .int i∧Q (g i) H
section
variable {X:Cx} {a b c:Expr} {ta tb tc:TE} {pos:Pos}
theorem binT (ha:PE X a ta) (hb:PE X b tb) {pins:List (Addr × Obj)} {s:Shared} {σ:St} {H:Hp} {R:V→V→Hp→Prop} (I:Inv X pins σ H s)
    (h:ta σ H fun x H1=>tb σ H1 fun y H2=>R x y H2) {Q:Value→Shared→Prop} {f:Value→Value→Sem Value}
    (hf:∀ v u s2 x y H2,Inv X pins σ H2 s2→RelV x v→RelV y u→R x y H2→wpAny (model X.prog X.w) X.A (f v u) Q X.xe s2) :
    wpAny (model X.prog X.w) X.A (eval a X.env) (fun v s₁=>wpAny (model X.prog X.w) X.A (eval b X.env) (fun u s₂=>wpAny (model X.prog X.w) X.A (f v u) Q X.xe s₂) X.xe s₁) X.xe s:=by
  refine thn (ha pins s σ H _ I h) fun v s1 ⟨x,H1,I1,r1,q1⟩=>?_
  refine thn (hb pins s1 σ H1 _ I1 q1) fun u s2 ⟨y,H2,I2,r2,q2⟩=>?_
  exact hf v u s2 x y H2 I2 r1 r2 q2
theorem pe_op {op:Operator} {r:R2} (ho:OpR X (binaryOp op) r) (ha:PE X a ta) (hb:PE X b tb):PE X (.BinOp a op b pos) (tOp r ta tb):=by
  intro pins s σ H Q I h
  exact wpAny_BinOp (binT ha hb I h fun v u s2 x y H2 I2 rx ry q=>ho pins s2 σ H2 x y v u Q I2 rx ry q)
theorem pe_un {op:UnaryOp} {r:V→Hp→VK→Prop} (ho:UnR X (unaryOp op) r) (ha:PE X a ta):PE X (.UnaryOp op a pos) (tUn r ta):=by
  intro pins s σ H Q I h
  exact UnaryOp_ (thn (ha pins s σ H _ I h) fun v s1 ⟨x,H1,I1,r1,q1⟩=>ho pins s1 σ H1 x v Q I1 r1 q1)
theorem opI {f:Value→Value→Sem Value} {C:Int→Int→Prop} {g:Int→Int→Int}
    (rule:∀ (i j:Int) (t u:Tok) (s:Shared) (Q:Value→Shared→Prop) (E:Value→Shared→Prop),C i j→Q (.int (g i j) s.toks) { s with toks:=s.toks + 1 }→wpAny (model X.prog X.w) X.A (f (.int i t) (.int j u)) Q E s) :
    OpR X f (rI C fun i j=>.int (g i j)):=by
  intro pins s σ H x y v u Q I rx ry h
  obtain ⟨i,j,rfl,rfl,hc,q⟩:=h
  obtain ⟨t,rfl⟩:=rx
  obtain ⟨t',rfl⟩:=ry
  exact rule i j t t' s _ _ hc ⟨.int (g i j),H,I.tok _,⟨_,rfl⟩,q⟩
theorem opI0 {f:Value→Value→Sem Value} {g:Int→Int→Int}
    (rule:∀ (i j:Int) (t u:Tok) (s:Shared) (Q:Value→Shared→Prop) (E:Value→Shared→Prop),Q (.int (g i j) s.toks) { s with toks:=s.toks + 1 }→wpAny (model X.prog X.w) X.A (f (.int i t) (.int j u)) Q E s) :
    OpR X f (rI0 fun i j=>.int (g i j)):=by
  intro pins s σ H x y v u Q I rx ry h
  obtain ⟨i,j,rfl,rfl,q⟩:=h
  obtain ⟨t,rfl⟩:=rx
  obtain ⟨t',rfl⟩:=ry
  exact rule i j t t' s _ _ ⟨.int (g i j),H,I.tok _,⟨_,rfl⟩,q⟩
theorem opB0 {f:Value→Value→Sem Value} {g:Int→Int→Bool}
    (rule:∀ (i j:Int) (t u:Tok) (s:Shared) (Q:Value→Shared→Prop) (E:Value→Shared→Prop),Q (.bool (g i j)) s→wpAny (model X.prog X.w) X.A (f (.int i t) (.int j u)) Q E s) :
    OpR X f (rI0 fun i j=>.bl (g i j)):=by
  intro pins s σ H x y v u Q I rx ry h
  obtain ⟨i,j,rfl,rfl,q⟩:=h
  obtain ⟨t,rfl⟩:=rx
  obtain ⟨t',rfl⟩:=ry
  exact rule i j t t' s _ _ ⟨.bl (g i j),H,I,rfl,q⟩
def CDiv (i j:Int):Prop:=0 < j∧j < 1073741824
def CDivN (i j:Int):Prop:=j ≠ 0∧j.natAbs < 1073741824
def CPow (i j:Int):Prop:=0 ≤ j∧j ≤ 1000000∧i.natAbs < 2 ^ 64
def CMul (i j:Int):Prop:=(-(2 ^ 64) < i∧i < 2 ^ 64)∨(-(2 ^ 64) < j∧j < 2 ^ 64)
theorem CMul.ok {i j:Int} (h:CMul i j):IntMulOk i j:=by
  rcases h with ⟨h1,h2⟩ | ⟨h1,h2⟩
  · exact .of_left (intBits_le_64 h1 h2)
  · exact .of_right (intBits_le_64 h1 h2)
theorem two_pow_nn (k:Nat):(0:Int) ≤ 2 ^ k:=by
  rw [two_pow_cast]
  exact Int.natCast_nonneg _
theorem op_add:OpR X (binaryOp .Add) (rI0 fun i j=>.int (i + j)):=opI0 fun _ _ _ _ _ _ _ q=>add_int q
theorem op_sub:OpR X (binaryOp .Sub) (rI0 fun i j=>.int (i - j)):=opI0 fun _ _ _ _ _ _ _ q=>sub_int q
theorem op_mul:OpR X (binaryOp .Mult) (rI CMul fun i j=>.int (i * j)):=opI fun _ _ _ _ _ _ _ hc q=>mul_int q hc.ok
theorem op_fdiv:OpR X (binaryOp .FloorDiv) (rI CDiv fun i j=>.int (i / j)):=opI fun i j _ _ _ _ _ hc q=>by
  have h1:(0:Int) < j:=hc.1
  have h2:j < 1073741824:=hc.2
  exact floordiv_int (by omega) (by rw [Int.fdiv_eq_ediv_of_nonneg i (by omega)]; exact q) (.inl (PyProof.noPylong_small (by omega)))
theorem op_mod:OpR X (binaryOp .Mod) (rI (fun _ j=>0 < j) fun i j=>.int (i % j)):=opI fun i j _ _ _ _ _ hc q=>by
  have h1:(0:Int) < j:=hc
  exact mod_int' (by omega) (by rw [Int.fmod_eq_emod_of_nonneg i (by omega)]; exact q)
theorem op_pow:OpR X (binaryOp .Pow) (rI CPow fun i j=>.int (i ^ j.toNat)):=opI fun _ _ _ _ _ _ _ hc q=>pow_int_small hc.1 hc.2.1 hc.2.2 q
theorem op_shl:OpR X (binaryOp .LShift) (rI CPow fun i j=>.int (i * 2 ^ j.toNat)):=opI fun _ _ _ _ _ _ _ hc q=>lshift_int_small hc.1 hc.2.1 hc.2.2 q
theorem op_shr:OpR X (binaryOp .RShift) (rI (fun _ j=>0 ≤ j) fun i j=>.int (i / 2 ^ j.toNat)):=opI fun i j _ _ _ _ _ hc q =>
  rshift_int hc (by rw [Int.fdiv_eq_ediv_of_nonneg i (two_pow_nn _)]; exact q)
theorem op_and:OpR X (binaryOp .BitAnd) (rI0 fun i j=>.int (Builtin.bitAnd i j)):=opI0 fun _ _ _ _ _ _ _ q=>and_int q
theorem unI {f:Value→Sem Value} {g:Int→Int}
    (rule:∀ (i:Int) (t:Tok) (s:Shared) (Q:Value→Shared→Prop) (E:Value→Shared→Prop),Q (.int (g i) s.toks) { s with toks:=s.toks + 1 }→wpAny (model X.prog X.w) X.A (f (.int i t)) Q E s) :
    UnR X f (rU fun i=>.int (g i)):=by
  intro pins s σ H x v Q I rx h
  obtain ⟨i,rfl,q⟩:=h
  obtain ⟨t,rfl⟩:=rx
  exact rule i t s _ _ ⟨.int (g i),H,I.tok _,⟨_,rfl⟩,q⟩
theorem un_neg:UnR X (unaryOp .USub) (rU fun i=>.int (-i)):=unI fun _ _ _ _ _ q=>neg_int q
end
def scal:V→V→Bool
  | .non,.non=>true | .non,.int _=>true | .int _,.non=>true | .non,.bl _=>true | .bl _,.non=>true | .non,.str _=>true | .str _,.non=>true
  | .int _,.int _=>true | .bl _,.bl _=>true | .str _,.str _=>true | .byt _,.byt _=>true
  | .int _,.str _=>true | .str _,.int _=>true | .bl _,.str _=>true | .str _,.bl _=>true
  | _,_=>false
def rEq:R2:=fun x y H Q=>scal x y = true∧Q (.bl (decide (x = y))) H
def rNe:R2:=fun x y H Q=>scal x y = true∧Q (.bl (!decide (x = y))) H
theorem dec_int {i j:Int} : decide (V.int i = V.int j) = (i == j):=by
  rw [Bool.eq_iff_iff]
  simp
theorem dec_bl {i j:Bool} : decide (V.bl i = V.bl j) = (i == j):=by
  rw [Bool.eq_iff_iff]
  simp
theorem dec_str {i j:Str} : decide (V.str i = V.str j) = (i == j):=by
  rw [Bool.eq_iff_iff]
  simp
theorem dec_byt {i j:Array UInt8} : decide (V.byt i = V.byt j) = (i.toList == j.toList):=by
  rw [Bool.eq_iff_iff]
  cases i
  cases j
  simp
section
variable {X:Cx} {a b c:Expr} {ta tb tc:TE} {pos:Pos}
theorem fin_bl {pins:List (Addr × Obj)} {σ:St} {H:Hp} {s:Shared} {Q:VK} {k k' : Bool} (I:Inv X pins σ H s) (q:Q (.bl k) H) (e:k = k'):EP X pins σ Q (.bool k') s:=by
  subst e
  exact ⟨.bl k,H,I,rfl,q⟩
theorem op_eq:OpR X (compareOp .Eq) rEq:=by
  intro pins s σ H x y v u Q I rx ry h
  obtain ⟨hs,q⟩:=h
  cases x with
  | non =>
    cases rx
    cases y with
    | non=>cases ry; exact PySem.EqNone.eq_none_none (fin_bl I q (by simp))
    | bl j=>cases ry; exact PySem.EqNone.eq_none_bool (fin_bl I q (by simp))
    | int j=>obtain ⟨t',rfl⟩:=ry; exact PySem.EqNone.eq_none_int (fin_bl I q (by simp))
    | str j=>obtain ⟨t',rfl⟩:=ry; exact PySem.EqNone.eq_none_str (fin_bl I q (by simp))
    | _=>exact absurd (show false = true from hs) Bool.false_ne_true
  | bl i =>
    cases rx
    cases y with
    | non=>cases ry; exact PySem.EqNone.eq_bool_none (fin_bl I q (by simp))
    | bl j=>cases ry; exact eq_bool (fin_bl I q dec_bl)
    | str j=>obtain ⟨t',rfl⟩:=ry; exact PySem.EqMixed.eq_bool_str (fin_bl I q (by simp))
    | _=>exact absurd (show false = true from hs) Bool.false_ne_true
  | int i =>
    obtain ⟨t,rfl⟩:=rx
    cases y with
    | non=>cases ry; exact PySem.EqNone.eq_int_none (fin_bl I q (by simp))
    | int j=>obtain ⟨t',rfl⟩:=ry; exact eq_int (fin_bl I q dec_int)
    | str j=>obtain ⟨t',rfl⟩:=ry; exact PySem.EqMixed.eq_int_str (fin_bl I q (by simp))
    | _=>exact absurd (show false = true from hs) Bool.false_ne_true
  | str i =>
    obtain ⟨t,rfl⟩:=rx
    cases y with
    | non=>cases ry; exact PySem.EqNone.eq_str_none (fin_bl I q (by simp))
    | bl j=>cases ry; exact PySem.EqMixed.eq_str_bool (fin_bl I q (by simp))
    | int j=>obtain ⟨t',rfl⟩:=ry; exact PySem.EqMixed.eq_str_int (fin_bl I q (by simp))
    | str j=>obtain ⟨t',rfl⟩:=ry; exact eq_str (fin_bl I q dec_str)
    | _=>exact absurd (show false = true from hs) Bool.false_ne_true
  | byt i =>
    obtain ⟨t,rfl⟩:=rx
    cases y with
    | byt j=>obtain ⟨t',rfl⟩:=ry; exact PySem.W.eq_bytes (fin_bl I q dec_byt)
    | _=>exact absurd (show false = true from hs) Bool.false_ne_true
  | _=>cases y <;> exact absurd (show false = true from hs) Bool.false_ne_true
theorem op_ne:OpR X (compareOp .NotEq) rNe:=by
  intro pins s σ H x y v u Q I rx ry h
  obtain ⟨hs,q⟩:=h
  cases x with
  | non =>
    cases rx
    cases y with
    | non=>cases ry; exact PySem.EqNone.ne_none_none (fin_bl I q (by simp))
    | bl j=>cases ry; exact PySem.EqNone.ne_none_bool (fin_bl I q (by simp))
    | int j=>obtain ⟨t',rfl⟩:=ry; exact PySem.EqNone.ne_none_int (fin_bl I q (by simp))
    | str j=>obtain ⟨t',rfl⟩:=ry; exact PySem.EqNone.ne_none_str (fin_bl I q (by simp))
    | _=>exact absurd (show false = true from hs) Bool.false_ne_true
  | bl i =>
    cases rx
    cases y with
    | non=>cases ry; exact PySem.EqNone.ne_bool_none (fin_bl I q (by simp))
    | bl j=>cases ry; exact ne_bool (fin_bl I q (congrArg not dec_bl))
    | str j=>obtain ⟨t',rfl⟩:=ry; exact PySem.EqMixed.ne_bool_str (fin_bl I q (by simp))
    | _=>exact absurd (show false = true from hs) Bool.false_ne_true
  | int i =>
    obtain ⟨t,rfl⟩:=rx
    cases y with
    | non=>cases ry; exact PySem.EqNone.ne_int_none (fin_bl I q (by simp))
    | int j=>obtain ⟨t',rfl⟩:=ry; exact ne_int (fin_bl I q (congrArg not dec_int))
    | str j=>obtain ⟨t',rfl⟩:=ry; exact PySem.EqMixed.ne_int_str (fin_bl I q (by simp))
    | _=>exact absurd (show false = true from hs) Bool.false_ne_true
  | str i =>
    obtain ⟨t,rfl⟩:=rx
    cases y with
    | non=>cases ry; exact PySem.EqNone.ne_str_none (fin_bl I q (by simp))
    | bl j=>cases ry; exact PySem.EqMixed.ne_str_bool (fin_bl I q (by simp))
    | int j=>obtain ⟨t',rfl⟩:=ry; exact PySem.EqMixed.ne_str_int (fin_bl I q (by simp))
    | str j=>obtain ⟨t',rfl⟩:=ry; exact ne_str (fin_bl I q (congrArg not dec_str))
    | _=>exact absurd (show false = true from hs) Bool.false_ne_true
  | byt i =>
    obtain ⟨t,rfl⟩:=rx
    cases y with
    | byt j=>obtain ⟨t',rfl⟩:=ry; exact PySem.W.ne_bytes (fin_bl I q (congrArg not dec_byt))
    | _=>exact absurd (show false = true from hs) Bool.false_ne_true
  | _=>cases y <;> exact absurd (show false = true from hs) Bool.false_ne_true
theorem op_lt:OpR X (compareOp .Lt) (rI0 fun i j=>.bl (decide (i < j))):=opB0 fun _ _ _ _ _ _ _ q=>lt_int q
theorem op_le:OpR X (compareOp .LtE) (rI0 fun i j=>.bl (decide (i ≤ j))):=opB0 fun _ _ _ _ _ _ _ q=>le_int q
theorem op_gt:OpR X (compareOp .Gt) (rI0 fun i j=>.bl (decide (j < i))):=opB0 fun _ _ _ _ _ _ _ q=>gt_int q
theorem op_notin_str:OpR X (compareOp .NotIn) (fun x y H Q=>∃ i j,x = .str i∧y = .str j∧Q (.bl (!(!(Builtin.Str.occurrences j i 0 j.length 1).isEmpty))) H):=by
  intro pins s σ H x y v u Q I rx ry h
  obtain ⟨i,j,rfl,rfl,q⟩:=h
  obtain ⟨t,rfl⟩:=rx
  obtain ⟨t',rfl⟩:=ry
  exact notIn_str (fin_bl I q rfl)
def isObj:HO→Bool
  | .lst _=>true
  | .ins _ _ _=>true
  | _=>false
theorem nomark (b:Expr) {op:CmpOp} (h:op ≠ .In:=by decide) (h2:op ≠ .NotIn:=by decide):behindInMarks op b = false:=by
  have e1:(op == CmpOp.In) = false:=by cases op <;> first | rfl | exact absurd rfl h
  have e2:(op == CmpOp.NotIn) = false:=by cases op <;> first | rfl | exact absurd rfl h2
  cases b <;> simp [behindInMarks,e1,e2]
theorem pe_cmpR {op:CmpOp} {r:R2} (ho:OpR X (compareOp op) r) (ha:PE X a ta) (hb:PE X b tb) (hm:behindInMarks op b = false):PE X (.Compare a [op] [b] pos) (tOp r ta tb):=by
  intro pins s σ H Q I h
  exact wpAny_Compare1 (binT ha hb I h fun v u s2 x y H2 I2 rx ry q=>ho pins s2 σ H2 x y v u Q I2 rx ry q) hm
def tTest (t:TE):TT:=fun σ H Q=>t σ H fun x H'=>∃ k,x = .bl k∧Q k H'
theorem pt_cmpR {op:CmpOp} {r:R2} (ho:OpR X (compareOp op) r) (ha:PE X a ta) (hb:PE X b tb) (hm:behindInMarks op b = false):PT X (.Compare a [op] [b] pos) (tTest (tOp r ta tb)):=by
  intro pins s σ H Q I h
  refine wpAny_isTrue_Compare1 (thn (ha pins s σ H _ I h) fun v s1 ⟨x,H1,I1,r1,q1⟩=>thn (hb pins s1 σ H1 _ I1 q1) fun u s2 ⟨y,H2,I2,r2,q2⟩ =>
    thn (ho pins s2 σ H2 x y v u _ I2 r1 r2 q2) fun c s3 ⟨z,H3,I3,r3,k,e,q3⟩=>?_) hm
  subst e
  cases r3
  exact wpAny_truthy_bool ⟨H3,I3,q3⟩
def tChain (r r' : R2) (ta tb tc:TE):TE:=fun σ H Q=>ta σ H fun x H1=>tb σ H1 fun y H2=>r x y H2 fun z H3=>∃ k,z = .bl k ∧
  (if k = true then tc σ H3 fun w' H4=>r' y w' H4 Q else Q (.bl false) H3)
theorem pe_chain {op op' : CmpOp} {r r' : R2} (ho:OpR X (compareOp op) r) (ho' : OpR X (compareOp op') r') (ha:PE X a ta) (hb:PE X b tb) (hc:PE X c tc)
    (hm:lastMarks [op,op'] [b,c] = false:=by with_unfolding_all rfl):PE X (.Compare a [op,op'] [b,c] pos) (tChain r r' ta tb tc):=by
  intro pins s σ H Q I h
  refine Compare_chain (thn (ha pins s σ H _ I h) fun v s1 ⟨x,H1,I1,r1,q1⟩=>chain_link (thn (hb pins s1 σ H1 _ I1 q1) fun u s2 ⟨y,H2,I2,r2,q2⟩ =>
    thn (ho pins s2 σ H2 x y v u _ I2 r1 r2 q2) fun d s3 ⟨z,H3,I3,r3,k,e,q3⟩=>?_)) hm
  subst e
  cases r3
  refine wpAny_truthy_bool ?_
  cases k with
  | false=>exact ite_ff ⟨.bl false,H3,I3,rfl,q3⟩
  | true=>exact ite_tt (chain_last (thn (hc pins s3 σ H3 _ I3 q3) fun w' s4 ⟨z',H4,I4,r4,q4⟩=>ho' pins s4 σ H4 y z' u w' Q I4 r2 r4 q4))
theorem pt_chain {op op' : CmpOp} {r r' : R2} (ho:OpR X (compareOp op) r) (ho' : OpR X (compareOp op') r') (ha:PE X a ta) (hb:PE X b tb) (hc:PE X c tc)
    (hm:lastMarks [op,op'] [b,c] = false:=by with_unfolding_all rfl):PT X (.Compare a [op,op'] [b,c] pos) (tTest (tChain r r' ta tb tc)):=by
  intro pins s σ H Q I h
  refine isTrue_chain (thn (ha pins s σ H _ I h) fun v s1 ⟨x,H1,I1,r1,q1⟩=>test_link (thn (hb pins s1 σ H1 _ I1 q1) fun u s2 ⟨y,H2,I2,r2,q2⟩ =>
    thn (ho pins s2 σ H2 x y v u _ I2 r1 r2 q2) fun d s3 ⟨z,H3,I3,r3,k,e,q3⟩=>?_)) hm
  subst e
  cases r3
  refine wpAny_truthy_bool ?_
  cases k with
  | false =>
    obtain ⟨k',e',q'⟩:=q3
    cases e'
    exact ite_ff ⟨H3,I3,q'⟩
  | true =>
    refine ite_tt (test_last (thn (hc pins s3 σ H3 _ I3 q3) fun w' s4 ⟨z',H4,I4,r4,q4⟩=>thn (ho' pins s4 σ H4 y z' u w' _ I4 r2 r4 q4) fun d' s5 ⟨z2,H5,I5,r5,k2,e2,q5⟩=>?_))
    subst e2
    cases r5
    exact wpAny_truthy_bool ⟨H5,I5,q5⟩
def TruV (K:PySem.W.Frag) (x:V) (H:Hp) (k:Bool):Prop :=
  match x with
  | .non=>k = false
  | .bl b=>k = b
  | .int i=>k = (i != 0)
  | .str y=>y.length ≤ sizeLine∧k = ((y.length:Int) != 0)
  | .byt y=>y.size ≤ sizeLine∧k = ((y.size:Int) != 0)
  | .ref p=>(∃ xs,SqL K H p xs∧k = !xs.isEmpty)∨(∃ xs,SqT K H p xs∧k = !xs.isEmpty)∨∃ kvs,H p = some (.dK kvs)∧k = !kvs.isEmpty
  | _=>False
theorem isEmpty_kv {κ:Type} {kvs:List (κ × V)} {vs:List (κ × Value)} (r:KV kvs vs):(!vs.isEmpty) = !kvs.isEmpty:=by
  cases r <;> rfl
theorem isEmpty_of {xs:List V} {its:List Value} (r:Vals xs its):(!its.toArray.isEmpty) = !xs.isEmpty:=by
  cases r <;> simp
theorem line63:(sizeLine:Nat) < 2 ^ 63:=by rw [sizeLine_eq]; decide
theorem tru_ok:TruR X (fun x H Q=>∃ k,TruV X.K x H k∧Q k H):=by
  intro pins s σ H x v Q I rx h
  obtain ⟨k,e,q⟩:=h
  have hl:=line63
  have hs:sizeLine = 16777216:=sizeLine_eq
  cases x with
  | non =>
    cases rx
    have e' : k = false:=e
    subst e'
    exact truthy_none ⟨H,I,q⟩
  | bl b =>
    cases rx
    have e' : k = b:=e
    subst e'
    exact wpAny_truthy_bool ⟨H,I,q⟩
  | int i =>
    obtain ⟨t,rfl⟩:=rx
    have e' : k = (i != 0):=e
    subst e'
    exact PySem.P.truthy_int ⟨H,I,q⟩
  | str y =>
    obtain ⟨t,rfl⟩:=rx
    obtain ⟨hy,e'⟩:y.length ≤ sizeLine∧k = ((y.length:Int) != 0):=e
    subst e'
    exact PySem.P.truthy_str (by omega) ⟨H,I.tok _,q⟩
  | byt y =>
    obtain ⟨t,rfl⟩:=rx
    obtain ⟨hy,e'⟩:y.size ≤ sizeLine∧k = ((y.size:Int) != 0):=e
    subst e'
    exact PySem.W.truthy_bytes (by omega) ⟨H,I.tok _,q⟩
  | ref p =>
    cases rx
    have e' : (∃ xs,SqL X.K H p xs∧k = !xs.isEmpty)∨(∃ xs,SqT X.K H p xs∧k = !xs.isEmpty)∨∃ kvs,H p = some (.dK kvs)∧k = !kvs.isEmpty:=e
    rcases e' with ⟨xs,hx,e'⟩ | ⟨xs,hx,e'⟩ | ⟨kvs,hx,e'⟩
    · subst e'
      obtain ⟨its,r,pl,hz⟩:=I.list hx
      have hlen:=r.length
      exact wpAny_truthy_list pl.isList (by simp only [List.size_toArray]; omega) ⟨H,I.tok _,by rw [isEmpty_of r]; exact q⟩
    · subst e'
      obtain ⟨its,r,pl,hz⟩:=I.tuple hx
      have hlen:=r.length
      exact truthy_tuple pl (by simp only [List.size_toArray]; omega) ⟨H,I.tok _,by rw [isEmpty_of r]; exact q⟩
    · subst e'
      obtain ⟨hz,hS,vs,r,m⟩:kvs.length ≤ sizeLine∧(p == sysModules) = false∧∃ vs,KV kvs vs∧s.heap.DictOf (mixKind X.prog X.w) p vs:=I.hok p _ hx
      have hlen:kvs.length = vs.length:=Paired.length r
      exact wpAny_truthy_dict hS m (by omega) ⟨H,I.tok _,by rw [isEmpty_kv r]; exact q⟩
  | _=>exact (show False from e).elim
theorem pt_truth (ha:PE X a ta) (he:∀ whole,isTrue a X.env whole = (do let v ← whole; standAt a.pos; holding [v] (truthy v))) :
    PT X a (fun σ H Q=>ta σ H fun x H'=>∃ k,TruV X.K x H' k∧Q k H'):=by
  intro pins s σ H Q I h
  exact isTrue_plain (thn (ha pins s σ H _ I h) fun v s1 ⟨x,H1,I1,r1,q1⟩=>tru_ok pins s1 σ H1 x v Q I1 r1 q1) (he _)
theorem op_add_str:OpR X (binaryOp .Add) (fun x y H Q=>∃ i j,x = .str i∧y = .str j∧i.length + j.length ≤ sizeLine∧Q (.str (i ++ j)) H):=by
  intro pins s σ H x y v u Q I rx ry h
  obtain ⟨i,j,rfl,rfl,hz,q⟩:=h
  obtain ⟨t,rfl⟩:=rx
  obtain ⟨t',rfl⟩:=ry
  exact add_str (fun t' tk=>⟨.str (i ++ j),H,I.tok _,⟨_,rfl⟩,q⟩) hz
theorem op_add_byt:OpR X (binaryOp .Add) (fun x y H Q=>∃ i j,x = .byt i∧y = .byt j∧i.size + j.size ≤ 16777216∧Q (.byt (i ++ j)) H):=by
  intro pins s σ H x y v u Q I rx ry h
  obtain ⟨i,j,rfl,rfl,hz,q⟩:=h
  obtain ⟨t,rfl⟩:=rx
  obtain ⟨t',rfl⟩:=ry
  exact PySem.W.KBy.add_bytes hz (fun t' tk=>⟨.byt (i ++ j),H,I.tok _,⟨_,rfl⟩,q⟩)
def PlainIxT (b:Expr):Prop:=∀ o i,subscripted b false o i = operate [o,i] (getItem o i)
theorem vals1 {x:V} {us:List Value} (r:Vals [x] us):∃ u,us = [u]∧RelV x u:=by
  cases r with
  | cons r1 r2=>cases r2; exact ⟨_,rfl,r1⟩
theorem vals2 {x y:V} {us:List Value} (r:Vals [x,y] us):∃ u w',us = [u,w']∧RelV x u∧RelV y w':=by
  cases r with
  | cons r1 r2 =>
    cases r2 with
    | cons r3 r4=>cases r4; exact ⟨_,_,rfl,r1,r3⟩
theorem call_max2 (hc:X.calm = true):CallR X (.builtin "max") (fun xs H Q=>∃ i j,xs = [.int i,.int j]∧Q (.int (if j > i then j else i)) H):=by
  intro pins s σ H xs us Q I r h
  obtain ⟨i,j,rfl,q⟩:=h
  obtain ⟨u,w',rfl,⟨t,rfl⟩,⟨t',rfl⟩⟩:=vals2 r
  refine max_two_ints (I.ok.hd hc) fun h' tk k=>⟨_,H,I.kept k,?_,q⟩
  by_cases hj:j > i
  · rw [if_pos hj,if_pos hj]; exact ⟨_,rfl⟩
  · rw [if_neg hj,if_neg hj]; exact ⟨_,rfl⟩
theorem call_min2 (hc:X.calm = true):CallR X (.builtin "min") (fun xs H Q=>∃ i j,xs = [.int i,.int j]∧Q (.int (if j < i then j else i)) H):=by
  intro pins s σ H xs us Q I r h
  obtain ⟨i,j,rfl,q⟩:=h
  obtain ⟨u,w',rfl,⟨t,rfl⟩,⟨t',rfl⟩⟩:=vals2 r
  refine min_two_ints (I.ok.hd hc) fun h' tk k=>⟨_,H,I.kept k,?_,q⟩
  by_cases hj:j < i
  · rw [if_pos hj,if_pos hj]; exact ⟨_,rfl⟩
  · rw [if_neg hj,if_neg hj]; exact ⟨_,rfl⟩
def LenV (K:PySem.W.Frag) (x:V) (H:Hp) (n:Nat):Prop :=
  match x with
  | .str y=>y.length ≤ sizeLine∧n = y.length
  | .byt y=>y.size ≤ sizeLine∧n = y.size
  | .ref p=>(∃ xs,SqL K H p xs∧n = xs.length)∨∃ xs,SqT K H p xs∧n = xs.length
  | _=>False
end
end L2
namespace L2
open PySem PySem.Spec PyProof.Rows
structure ObjM (h:Heap) (x dx C:Addr) (mA:Str→Option Value):Prop where
  obj:h.get? x = some (PySem.W.instObj C dx)
  ns:h.Ns1 dx mA
  ne:dx ≠ x
theorem lookIn_ns {h:Heap} {dx:Addr} {mA:Str→Option Value} (n:h.Ns1 dx mA):∃ od,h.get? dx = some od∧∀ name,PySem.W.lookIn name od = some (mA name):=by
  obtain ⟨o,es,ep,ho,hd,hk,_,hm⟩:=n
  refine ⟨o,ho,fun name=>?_⟩
  have e:=hm name
  unfold nsFind findBy at e
  rw [← Array.find?_toList] at e
  unfold PySem.W.lookIn
  rw [hd]
  dsimp only
  split
  · rename_i y q
    rw [q] at e
    exact congrArg some e
  · rename_i q
    rw [q] at e
    have a:es.toList.any (·.refKey) = false:=by
      rw [List.any_eq_false]
      intro y hy
      obtain ⟨z,t,hkey⟩:=hk y (Array.mem_toList_iff.mp hy)
      simp [DictEntry.refKey,hkey]
    have a' : ¬ es.toList.any (·.refKey) = true:=by rw [a]; exact Bool.false_ne_true
    rw [if_neg a']
    exact congrArg some e
theorem ObjM.look {h:Heap} {x dx C:Addr} {mA:Str→Option Value} (I:ObjM h x dx C mA):∃ od,PySem.W.InstAt h x (PySem.W.instObj C dx) C (some od)∧∀ name,PySem.W.lookIn name od = some (mA name) :=
  let ⟨od,ho,hl⟩:=lookIn_ns I.ns
  ⟨od,⟨I.obj,rfl,rfl,ho⟩,hl⟩
section
variable {prog:Program} {w:World} {A:Around} {E:Value→Shared→Prop} {s:Shared} {K:PySem.W.Frag} {x dx C f:Addr} {mA:Str→Option Value} {name:Str} {v:Value}
theorem get_map {expr:Bool} {Q:Value→Shared→Prop} (X:K.In s.heap) (I:ObjM s.heap x dx C mA) (hg:PySem.W.plainGet K C name = true) (hh:PySem.W.hasDictIn K C = true)
    (ha:PySem.W.findIn K (.ref C) name = some none) (hv:mA name = some v) (hv' : PySem.W.handedIn v = true) (h:Q v { s with toks:=s.toks + 1 }) :
    wpAny (model prog w) A (getAttr (.ref x) name expr) Q E s:=by
  obtain ⟨od,J,hl⟩:=I.look
  exact PySem.W.get_value X J (PySem.W.plainGet_of hg).1 (PySem.W.findObj_own hh ha rfl (by rw [hl,hv])) hv' h
theorem get_meth {pl:Sem Bool} {Q:Value × List Value→Shared→Prop} (X:K.In s.heap) (I:ObjM s.heap x dx C mA) (hg:PySem.W.plainGet K C name = true)
    (hf:PySem.W.findIn K (.ref C) name = some (some (.ref f))) (ht:PySem.W.isFn K (.ref f) = true) (hv:mA name = none) (h:Q (.ref f,[.ref x]) s) :
    wpAny (model prog w) A (getMethod (.ref x) name pl) Q E s:=by
  obtain ⟨od,J,hl⟩:=I.look
  exact PySem.W.method_fn X J (PySem.W.plainGet_of hg).1 (PySem.W.plainGet_of hg).2 hf (beq_iff_eq.mp ht) (by show (PySem.W.lookIn name od).map (·.isSome) = some false; rw [hl,hv]; rfl) h
theorem set_map {ns:List Str} {Q:Unit→Shared→Prop} (X:K.In s.heap) (I:ObjM s.heap x dx C mA)
    (hs:PySem.W.findIn K (.ref C) "__setattr__" = some (some (.builtin "object.__setattr__"))) (hp:PySem.W.plainOver K C = true) (ht:PySem.W.takerIn K C name = some none) (hh:PySem.W.hasDictIn K C = true)
    (hw:PySem.Within mA ns) (hsz:ns.length ≤ sizeLine)
    (h:∀ h',ObjM h' x dx C (fun y=>if y = name then some v else mA y)→Heap.SameBut dx s.heap h'→Q () { s with heap:=h',toks:=s.toks + 2 }) :
    wpAny (model prog w) A (setAttr (.ref x) name v) Q E s:=by
  obtain ⟨od,J,hl⟩:=I.look
  refine PySem.W.set_plain X J hs (PySem.W.osa_open (s:={ s with toks:=s.toks + 1 }) (r:=none) X J hp ht fun b=>?_)
  obtain ⟨cd,hc,hd'⟩:=PySem.W.any_some hh
  have hx:s.heap.get? x = some ⟨.ref C,some dx,.plain,#[]⟩:=I.obj
  refine wpAny_bind (wpAny_pure (wpAny_bind (wpAny_bind (wpAny_loadPart hx (wpAny_bind (PySem.W.Looks.here (s:={ s with toks:=s.toks + 1 }) (PySem.W.looks_clsIn X hc) ?_))))))
  rw [hd']
  refine wpAny_pure (a:=some dx) (wpAny_bind (wpAny_pure (wpAny_bind ?_)))
  refine wpAny_nsSet1 (s:={ s with toks:=s.toks + 1 }) I.ns fun h' hn2 hs2=>?_
  obtain ⟨oD,esD,epD,hoD,hdD,hcD⟩:=hn2.count (PySem.Within.cons name v hw)
  refine wpAny_bind (wpAny_lookBehind hoD (by rw [hdD]; exact pastItsLine_dict (Nat.le_trans hcD (by rw [List.length_cons]; omega))) ?_)
  exact wpAny_pure (h _ ⟨(hs2.2 _ (Ne.symm I.ne)).trans I.obj,hn2,I.ne⟩ hs2)
theorem make_map {R:Result→Shared→Prop} {vs:List Value} {kw:List (Str × Value)} (X:K.In s.heap) (hm:PySem.W.makesIn K C = true)
    (hi:PySem.W.findIn K (.ref C) "__init__" = some (some (.ref f))) (hf:PySem.W.typeIn K (.ref f) = some (.type "function"))
    (h:codeAny (model prog w) (A.under (.builtin "type.__call__" ⟨.ref C :: vs,kw⟩)) (.call (.ref f) ⟨.ref (s.heap.objs.size + 1) :: vs,kw⟩) (PySem.W.InitBack (s.heap.objs.size + 1) R)
      { s with heap:=(s.heap.push PySem.W.emptyDict).push (PySem.W.instObj C s.heap.objs.size) }) :
    codeAny (model prog w) A (.call (.ref C) ⟨vs,kw⟩) R s:=by
  obtain ⟨hh,g,d,t,os⟩:=s
  exact PySem.W.make_core (PySem.W.makes_of X hm) (PySem.W.looks_findIn X hi) (fun self=>PySem.W.bind_fn X self hf) (.inl rfl) h
end
def putF (f:Str) (v:V):List (Str × V)→List (Str × V)
  | []=>[(f,v)]
  | (g,x) :: r=>if g = f then (g,v) :: r else (g,x) :: putF f v r
theorem lookup_putF (f g:Str) (v:V):∀ fs:List (Str × V),(putF f v fs).lookup g = if g = f then some v else fs.lookup g
  | []=>by
    show List.lookup g [(f,v)] = _
    by_cases h:g = f
    · have hb:(g == f) = true:=beq_iff_eq.mpr h
      simp only [List.lookup,hb,if_pos h]
    · have hb:(g == f) = false:=beq_eq_false_iff_ne.mpr h
      simp only [List.lookup,hb,if_neg h]
  | (k,x) :: r=>by
    have ih:=lookup_putF f g v r
    rw [show putF f v ((k,x) :: r) = (if k = f then (k,v) :: r else (k,x) :: putF f v r) from rfl]
    by_cases hk:k = f
    · rw [if_pos hk]
      by_cases h:g = k
      · have hb:(g == k) = true:=beq_iff_eq.mpr h
        simp only [List.lookup,hb,if_pos (h.trans hk)]
      · have hb:(g == k) = false:=beq_eq_false_iff_ne.mpr h
        simp only [List.lookup,hb,if_neg (fun e:g = f=>h (e.trans hk.symm))]
    · rw [if_neg hk]
      by_cases h:g = k
      · have hb:(g == k) = true:=beq_iff_eq.mpr h
        simp only [List.lookup,hb,if_neg (fun e:g = f=>hk (h.symm.trans e))]
      · have hb:(g == k) = false:=beq_eq_false_iff_ne.mpr h
        simp only [List.lookup,hb]
        exact ih
theorem keys_putF (f:Str) (v:V):∀ fs:List (Str × V),f ∈ (putF f v fs).map (·.1)∧∀ g,g ∈ fs.map (·.1)→g ∈ (putF f v fs).map (·.1)
  | []=>⟨by simp [putF],fun g h=>by simp at h⟩
  | (k,x) :: r=>by
    obtain ⟨i1,i2⟩:=keys_putF f v r
    rw [show putF f v ((k,x) :: r) = (if k = f then (k,v) :: r else (k,x) :: putF f v r) from rfl]
    by_cases hk:k = f
    · rw [if_pos hk]
      subst hk
      exact ⟨by simp,fun g h=>by simpa using h⟩
    · rw [if_neg hk]
      refine ⟨?_,fun g h=>?_⟩
      · rw [List.map_cons]
        exact List.mem_cons_of_mem _ i1
      · rw [List.map_cons] at h ⊢
        rcases List.mem_cons.mp h with e | e
        · exact List.mem_cons.mpr (.inl e)
        · exact List.mem_cons_of_mem _ (i2 g e)
theorem length_putF (f:Str) (v:V):∀ fs:List (Str × V),(putF f v fs).length ≤ fs.length + 1
  | []=>by simp [putF]
  | (k,x) :: r=>by
    have ih:=length_putF f v r
    rw [show putF f v ((k,x) :: r) = (if k = f then (k,v) :: r else (k,x) :: putF f v r) from rfl]
    by_cases hk:k = f
    · rw [if_pos hk,List.length_cons,List.length_cons]; omega
    · rw [if_neg hk,List.length_cons,List.length_cons]; omega
theorem RelO.some_of {v:V} {o:Option Value} (r:RelO (some v) o):∃ u,o = some u∧RelV v u:=by
  cases o with
  | none=>exact (show False from r).elim
  | some u=>exact ⟨u,rfl,r⟩
theorem RelO.none_of {o:Option Value} (r:RelO none o):o = none:=by
  cases o with
  | none=>rfl
  | some u=>exact (show False from r).elim
theorem handed_of {v:V} {u:Value} (r:RelV v u):PySem.W.handedIn u = true:=by
  cases v with
  | non=>cases (show u = Value.none from r); rfl
  | bl b=>cases (show u = Value.bool b from r); rfl
  | int i=>obtain ⟨t,e⟩:=(show ∃ t,u = Value.int i t from r); cases e; rfl
  | str x=>obtain ⟨t,e⟩:=(show ∃ t,u = Value.str x t from r); cases e; rfl
  | byt b=>obtain ⟨t,e⟩:=(show ∃ t,u = Value.bytes b t from r); cases e; rfl
  | flt b=>obtain ⟨t,e⟩:=(show ∃ t,u = Value.float b t from r); cases e; rfl
  | ref a=>cases (show u = Value.ref a from r); rfl
  | ty n=>cases (show u = Value.type n from r); rfl
section
variable {P:Program} {w:World} {H H' : Hp} {h h' : Heap} {a C dx:Addr} {fs fs' : List (Str × V)}
theorem ins_get (hok:HOk P w H h) (e:H a = some (.ins C dx fs)):∃ mA,ObjM h a dx C mA∧(∀ f,RelO (fs.lookup f) (mA f))∧PySem.Within mA (fs.map (·.1))∧fs.length ≤ 1000∧H dx = some (.own a):=by
  obtain ⟨d,z,ne,ob,mA,n,r,q⟩:=(show ObjOk P w H h a (.ins C dx fs) from hok a _ e)
  exact ⟨mA,⟨ob,n,ne⟩,r,q,z,d⟩
end
structure Cls (K:PySem.W.Frag) (C:Addr):Prop where
  pg:PySem.W.plainGet K C Str.empty = true
  hd:PySem.W.hasDictIn K C = true
  po:PySem.W.plainOver K C = true
  sa:PySem.W.findIn K (.ref C) "__setattr__" = some (some (.builtin "object.__setattr__"))
theorem Cls.get {K:PySem.W.Frag} {C:Addr} (c:Cls K C) (f:Str):PySem.W.plainGet K C f = true:=c.pg
def NoAttr (K:PySem.W.Frag) (C:Addr) (f:Str):Prop:=PySem.W.findIn K (.ref C) f = some none
theorem NoAttr.taker {K:PySem.W.Frag} {C:Addr} {f:Str} (n:NoAttr K C f):PySem.W.takerIn K C f = some none:=by
  unfold PySem.W.takerIn
  rw [show PySem.W.findIn K (.ref C) f = some none from n]
  rfl
structure Con (K:PySem.W.Frag) (C:Addr) (f:Str) (v:V) (u:Value):Prop where
  at_:PySem.W.findIn K (.ref C) f = some (some u)
  rel:RelV v u
  get:PySem.W.specialIn K u "__get__" = some none
  cp:PySem.W.copiedNames.contains f = false
structure Meth (K:PySem.W.Frag) (C:Addr) (m:Str) (f:Addr):Prop where
  at_:PySem.W.findIn K (.ref C) m = some (some (.ref f))
  fn:PySem.W.isFn K (.ref f) = true
  kp:PySem.W.keepIn K (.ref f) = true
section
variable {X:Cx} {pins:List (Addr × Obj)} {σ:St} {H:Hp} {s:Shared} {a C dx:Addr} {fs:List (Str × V)} {f:Str} {v:V} {A:Around} {E:Value→Shared→Prop}
theorem getattr_ok {b:Bool} {Q:Value→Shared→Prop} (I:Inv X pins σ H s) (e:H a = some (.ins C dx fs)) (c:Cls X.K C) (n:NoAttr X.K C f) (l:fs.lookup f = some v)
    (h:∀ u s',Inv X pins σ H s'→RelV v u→Q u s'):wpAny (model X.prog X.w) A (getAttr (.ref a) f b) Q E s:=by
  obtain ⟨mA,O,r,_,_,_⟩:=ins_get I.hok e
  obtain ⟨u,hu,ru⟩:=RelO.some_of (v:=v) (o:=mA f) (by rw [← l]; exact r f)
  exact get_map I.kIn O (c.get f) c.hd n hu (handed_of ru) (h u _ (I.tok _) ru)
theorem getmeth_ok {m:Str} {g:Addr} {pl:Sem Bool} {Q:Value × List Value→Shared→Prop} (I:Inv X pins σ H s) (e:H a = some (.ins C dx fs)) (c:Cls X.K C) (k:Meth X.K C m g) (l:fs.lookup m = none)
    (h:Q (.ref g,[.ref a]) s):wpAny (model X.prog X.w) A (getMethod (.ref a) m pl) Q E s:=by
  obtain ⟨mA,O,r,_,_,_⟩:=ins_get I.hok e
  have hn:mA m = none:=RelO.none_of (by rw [← l]; exact r m)
  exact get_meth I.kIn O (c.get m) k.at_ k.fn hn h
theorem setattr_ok {y:V} {u:Value} {Q:Unit→Shared→Prop} (I:Inv X pins σ H s) (e:H a = some (.ins C dx fs)) (c:Cls X.K C) (n:NoAttr X.K C f) (hl:fs.length < 1000) (ry:RelV y u)
    (h:∀ s',Inv X pins σ (upd H a (.ins C dx (putF f y fs))) s'→Q () s'):wpAny (model X.prog X.w) A (setAttr (.ref a) f u) Q E s:=by
  obtain ⟨mA,O,r,wi,_,ho⟩:=ins_get I.hok e
  have hz:(fs.map (·.1)).length ≤ sizeLine:=by rw [List.length_map,sizeLine_eq]; omega
  refine set_map I.kIn O c.sa c.po n.taker c.hd wi hz fun h' O' sb=>h _ ?_
  have hd:∃ o,h'.get? dx = some o:=let ⟨o,_,_,e',_⟩:=O'.ns; ⟨o,e'⟩
  refine I.write (x:=a) (e:=dx) (by rw [e]; exact True.intro) (.inr ho) (fun b q hb z=>(sb.2 b hb).trans z) hd ?_
  refine ⟨by rw [upd_ne O.ne]; exact ho,?_,O.ne,O'.obj,_,O'.ns,fun g=>?_,fun g hg=>?_⟩
  · have:=length_putF f y fs; omega
  · show RelO ((putF f y fs).lookup g) (if g = f then some u else mA g)
    rw [lookup_putF]
    by_cases q:g = f
    · rw [if_pos q,if_pos q]; exact ry
    · rw [if_neg q,if_neg q]; exact r g
  · by_cases q:g = f
    · rw [q]; exact (keys_putF f y fs).1
    · refine (keys_putF f y fs).2 g (wi g fun z=>hg ?_)
      show (if g = f then some u else mA g) = none
      rw [if_neg q]; exact z
theorem Inv.made (I:Inv X pins σ H s):Inv X pins σ (upd (upd H s.heap.objs.size (.own (s.heap.objs.size + 1))) (s.heap.objs.size + 1) (.ins C s.heap.objs.size []))
    { s with heap:=(s.heap.push PySem.W.emptyDict).push (PySem.W.instObj C s.heap.objs.size) }:=by
  have e1:(s.heap.push PySem.W.emptyDict).get? s.heap.objs.size = some PySem.W.emptyDict:=Heap.get?_push_size s.heap rfl
  have e2:((s.heap.push PySem.W.emptyDict).push (PySem.W.instObj C s.heap.objs.size)).get? (s.heap.objs.size + 1) = some (PySem.W.instObj C s.heap.objs.size):=by
    have:=Heap.get?_push_size (s.heap.push PySem.W.emptyDict) (o:=PySem.W.instObj C s.heap.objs.size) rfl
    rwa [Heap.size_push] at this
  have e3:(s.heap.push PySem.W.emptyDict).Ns s.heap.objs.size (fun _=>none):=⟨PySem.W.emptyDict,#[],_,e1,rfl,(fun e he=>absurd he (by simp)),fun _=>rfl⟩
  have I1:=I.laid (a:=s.heap.objs.size) (o:=.own (s.heap.objs.size + 1)) (h':=s.heap.push PySem.W.emptyDict) (t':=s.toks) (fun b u q=>Heap.get?_push_of_some _ q) (Nat.le_refl _) ⟨_,e1⟩
  refine I1.laid (a:=s.heap.objs.size + 1) (o:=.ins C s.heap.objs.size []) (t':=s.toks) (fun b u q=>Heap.get?_push_of_some _ q) (Nat.le_of_eq (Heap.size_push _ _)) ?_
  have ne:s.heap.objs.size ≠ s.heap.objs.size + 1:=Nat.ne_of_lt (Nat.lt_succ_self _)
  refine ⟨by rw [upd_ne ne,upd_same],Nat.zero_le _,ne,e2,fun _=>none,(Heap.Ns1.of_empty e3).at fun o q=>Heap.get?_push_of_some _ q,fun _=>True.intro,fun y hy=>absurd rfl hy⟩
theorem attr_of {prog:Program} {w:World} {env:Env} {e:Expr} {f:Str} {pos:Pos} {s:Shared} {Q:Value→Shared→Prop} (hb:attributeBase e f env (eval e env) = eval e env)
    (h:wpAny (model prog w) A (eval e env) (fun o s₁=>wpAny (model prog w) A (getAttr o f true) Q E s₁) E s):wpAny (model prog w) A (eval (.Attribute e f pos) env) Q E s :=
  Attribute_any_ h (by rw [arm_eval_Attribute,hb])
end
def tFld (K:PySem.W.Frag) (ta:TE) (f:Str):TE:=fun σ H Q=>ta σ H fun x H1=>∃ a C dx fs v,x = .ref a∧H1 a = some (.ins C dx fs)∧Cls K C∧NoAttr K C f∧fs.lookup f = some v∧Q v H1
def tCon (K:PySem.W.Frag) (ta:TE) (f:Str):TE:=fun σ H Q=>ta σ H fun x H1=>∃ a C dx fs v u,x = .ref a∧H1 a = some (.ins C dx fs)∧Cls K C∧Con K C f v u∧fs.lookup f = none∧Q v H1
def sFld (K:PySem.W.Frag) (ta tv:TE) (f:Str):TS:=fun D σ H=>tv σ H fun y H1=>ta σ H1 fun x H2=>∃ a C dx fs,x = .ref a∧H2 a = some (.ins C dx fs)∧Cls K C∧NoAttr K C f∧fs.length < 1000 ∧
  D.nx σ (upd H2 a (.ins C dx (putF f y fs)))
def InOp (X:Cx) (op:Operator) (rd:V→V→Hp→VK→Prop):Prop :=
  ∀ (pins:List (Addr × Obj)) (s:Shared) (σ:St) (H:Hp) (x y:V) (u v:Value) (Q:VK),Inv X pins σ H s→RelV x u→RelV y v→rd x y H Q→wpAny (model X.prog X.w) X.A (inplaceOp op u v) (EP X pins σ Q) X.xe s
def sFldAug (K:PySem.W.Frag) (ta tv:TE) (rd:V→V→Hp→VK→Prop) (f:Str):TS:=fun D σ H=>ta σ H fun x H1=>∃ a C dx fs v,x = .ref a∧H1 a = some (.ins C dx fs)∧Cls K C∧NoAttr K C f∧fs.lookup f = some v ∧
  tv σ H1 fun y H2=>rd v y H2 fun z H3=>∃ dx' fs',H3 a = some (.ins C dx' fs')∧fs'.length < 1000∧D.nx σ (upd H3 a (.ins C dx' (putF f z fs')))
section
variable {X:Cx} {o e value:Expr} {f:Str} {pos pos' tpos:Pos} {ta tv:TE}
theorem pe_fld (he:PE X e ta) (hb:attributeBase e f X.env (eval e X.env) = eval e X.env):PE X (.Attribute e f pos) (tFld X.K ta f):=by
  intro pins s σ H Q I h
  refine attr_of hb (thn (he pins s σ H _ I h) fun u s1 ⟨x,H1,I1,rx,a,C,dx,fs,v,ex,ea,c,n,l,q⟩=>?_)
  subst ex
  obtain rfl:u = Value.ref a:=rx
  exact getattr_ok I1 ea c n l fun u' s2 I2 ru=>⟨v,H1,I2,ru,q⟩
theorem ps_fld (ha:PE X o ta) (hv:PE X value tv) (hs:swapsWith value (some (.Attribute o f pos')) pos.line X.env = pure false):PS X (.Assign [.Attribute o f pos'] value pos) (sFld X.K ta tv f):=by
  intro pins s σ H D I h
  refine plainObj_wpAny_Assign_Attribute (thn (hv pins s σ H _ I h) fun u s1 ⟨y,H1,I1,ry,q⟩=>thn (ha pins s1 σ H1 _ I1 q) fun ov s2 ⟨x,H2,I2,rx,a,C,dx,fs,ex,ea,c,n,l,q2⟩=>?_) hs
  subst ex
  obtain rfl:ov = Value.ref a:=rx
  exact setattr_ok I2 ea c n l ry fun s3 I3=>⟨σ,_,I3,q2⟩
def rAdd:V→V→Hp→VK→Prop:=fun x y H Q=>∃ i j,x = .int i∧y = .int j∧Q (.int (i + j)) H
def rSub:V→V→Hp→VK→Prop:=fun x y H Q=>∃ i j,x = .int i∧y = .int j∧Q (.int (i - j)) H
end
section
variable {X:Cx} {pins:List (Addr × Obj)} {σ:St} {H:Hp} {s:Shared} {A:Around} {E:Value→Shared→Prop} {Q:Value→Shared→Prop} {c:Value} {b:Bool}
inductive TyOf (K:PySem.W.Frag) (H:Hp):V→Value→Prop where
  | non:TyOf K H .non (.type "NoneType")
  | bl (x:Bool):TyOf K H (.bl x) (.type "bool")
  | int (i:Int):TyOf K H (.int i) (.type "int")
  | str (x:Str):TyOf K H (.str x) (.type "str")
  | flt (x:UInt64):TyOf K H (.flt x) (.type "float")
  | lst {a:Addr} {xs:List V} (e:H a = some (.lst xs)):TyOf K H (.ref a) (.type "list")
  | frz {a:Addr} {o:Obj} {xs:List V} (e:H a = some (.frz o (.lst xs))):TyOf K H (.ref a) (.type "list")
  | tup {a:Addr} {xs:List V} (e:H a = some (.tup xs)):TyOf K H (.ref a) (.type "tuple")
  | dK {a:Addr} {kvs:List (Key × V)} (e:H a = some (.dK kvs)):TyOf K H (.ref a) (.type "dict")
  | dT {a:Addr} {kvs:List (List Key × V)} (e:H a = some (.dT kvs)):TyOf K H (.ref a) (.type "dict")
  | ins {a C dx:Addr} {fs:List (Str × V)} (e:H a = some (.ins C dx fs)) (cl:Cls K C) (ha:PySem.W.findIn K (.ref C) "__class__" = some (some (.builtin "object.__class__")))
      (hn:PySem.W.specialIn K (.builtin "object.__class__") "__get__" = some (some (.builtin "getset_descriptor.__get__"))) (htk:PySem.W.takesIn K (.builtin "object.__class__") = some true)
      (hm:PySem.W.mroIn K C (.type "object") = some true):TyOf K H (.ref a) (.ref C)
theorem isinst_ok {x:V} {u t:Value} (I:Inv X pins σ H s) (rx:RelV x u) (ty:TyOf X.K H x t) (e:PySem.W.kitOne X.K t c = some b) (h:∀ tk,Q (.bool b) { s with toks:=tk }) :
    wpAny (model X.prog X.w) A (call (.builtin "isinstance") [u,c]) Q E s:=by
  cases ty with
  | non=>cases (show u = Value.none from rx); exact PySem.W.kia_one PySem.W.kitx_none I.kIn True.intro e (fun z=>nomatch z) h
  | bl y=>cases (show u = Value.bool y from rx); exact PySem.W.kia_one PySem.W.kitx_bool I.kIn True.intro e (fun z=>nomatch z) h
  | int i=>obtain ⟨t,q⟩:=(show ∃ t,u = Value.int i t from rx); cases q; exact PySem.W.kia_one PySem.W.kitx_int I.kIn True.intro e (fun z=>nomatch z) h
  | str y=>obtain ⟨t,q⟩:=(show ∃ t,u = Value.str y t from rx); cases q; exact PySem.W.kia_one PySem.W.kitx_str I.kIn True.intro e (fun z=>nomatch z) h
  | flt y=>obtain ⟨t,q⟩:=(show ∃ t,u = Value.float y t from rx); cases q; exact PySem.W.kia_one PySem.W.kitx_float I.kIn True.intro e (fun z=>nomatch z) h
  | @lst a xs ea =>
    cases (show u = Value.ref a from rx)
    obtain ⟨_,_,n,_,h1⟩:=(show ObjOk X.prog X.w H s.heap a (.lst xs) from I.hok a _ ea)
    exact PySem.W.kia_one PySem.W.kitx_list I.kIn ⟨_,h1,rfl⟩ e (fun z=>nomatch z) h
  | @frz a ob xs ea =>
    cases (show u = Value.ref a from rx)
    obtain ⟨_,_,_,n,_,h1⟩:=(show ObjOk X.prog X.w H s.heap a (.frz ob (.lst xs)) from I.hok a _ ea)
    exact PySem.W.kia_one PySem.W.kitx_list I.kIn ⟨_,h1,rfl⟩ e (fun z=>nomatch z) h
  | @tup a xs ea =>
    cases (show u = Value.ref a from rx)
    obtain ⟨_,_,_,p⟩:=(show ObjOk X.prog X.w H s.heap a (.tup xs) from I.hok a _ ea)
    obtain ⟨o,h1,h2,_⟩:=p
    exact PySem.W.kia_one PySem.W.kitx_tuple I.kIn ⟨o,h1,h2⟩ e (fun z=>nomatch z) h
  | @dK a kvs ea =>
    cases (show u = Value.ref a from rx)
    obtain ⟨_,_,vs,_,p⟩:=(show ObjOk X.prog X.w H s.heap a (.dK kvs) from I.hok a _ ea)
    obtain ⟨o,es,ep,h1,h2,_⟩:=p
    exact PySem.W.kia_one PySem.W.kitx_dict I.kIn ⟨o,h1,h2.1⟩ e (fun z=>nomatch z) h
  | @dT a kvs ea =>
    cases (show u = Value.ref a from rx)
    obtain ⟨_,_,xs,_,o,es,ep,h1,h2,_⟩:=(show ObjOk X.prog X.w H s.heap a (.dT kvs) from I.hok a _ ea)
    exact PySem.W.kia_one PySem.W.kitx_dict I.kIn ⟨o,h1,h2.1⟩ e (fun z=>nomatch z) h
  | @ins a C dx fs ea cl ha hn htk hm =>
    cases (show u = Value.ref a from rx)
    obtain ⟨mA,O,_⟩:=ins_get I.hok ea
    obtain ⟨od,J,_⟩:=O.look
    exact PySem.W.kia_one (PySem.W.kitx_own (cl.get _) cl.hd ha hn htk hm) I.kIn J e (fun z=>nomatch z) h
end
end L2
namespace L2
open PySem PySem.Spec PyProof.Rows
structure Room (k:Nat) (A:Around):Prop where
  hd:A.handled = none
  dp:A.depth + 3 * k + 5 < recursionLimit
  un:A.units + 16 * k + 200 < cLine
theorem Room.mono {j k:Nat} {A:Around} (r:Room k A) (h:j ≤ k):Room j A:=⟨r.hd,by have:=r.dp; omega,by have:=r.un; omega⟩
theorem Room.deeper {k:Nat} {A:Around} (r:Room (k + 1) A) (env:Env):Room k (A.deeper env) :=
  ⟨r.hd,by have:=r.dp; show A.depth + 1 + 3 * k + 5 < _; omega,by have:=r.un; show A.units + 3 + 16 * k + 200 < _; omega⟩
theorem make_depth {A:Around} {C:Addr} {us:List Value} {kw:List (Str × Value)} : (A.under (.builtin "type.__call__" ⟨.ref C :: us,kw⟩)).depth = A.depth + 1:=by
  first | rfl | simp [Around.under,Code.weight,Code.isCreation,Code.isGuard,Code.isCaller,Code.frames,Code.isFrame,guardIds]
theorem make_units {A:Around} {C:Addr} {us:List Value} {kw:List (Str × Value)} : (A.under (.builtin "type.__call__" ⟨.ref C :: us,kw⟩)).units = A.units + 1:=by
  first | rfl | simp [Around.under,Code.cUnits,Code.frames,Code.isFrame]
theorem Room.make {k:Nat} {A:Around} (r:Room (k + 1) A) (C:Addr) (us:List Value) (kw:List (Str × Value)):Room k (A.under (.builtin "type.__call__" ⟨.ref C :: us,kw⟩)) :=
  ⟨r.hd,by have:=r.dp; rw [make_depth]; omega,by have:=r.un; rw [make_units]; omega⟩
theorem Room.depth {k:Nat} {A:Around} (r:Room k A):A.depth < recursionLimit:=by have:=r.dp; omega
theorem Room.units {k:Nat} {A:Around} (r:Room k A):A.units + 64 < cLine:=by have:=r.un; omega
def tNil:TA:=fun _ H Q=>Q [] H
def tCons (ta:TE) (tr:TA):TA:=fun σ H Q=>ta σ H fun x H1=>tr σ H1 fun xs H2=>Q (x :: xs) H2
section
variable {X:Cx} {e:Expr} {es:List Expr} {te:TE} {t:TA} {pos:Pos}
theorem pa_nil:PA X [] tNil:=fun _ _ _ _ H Q I h=>Calls.spliced_nil ⟨[],H,I,.nil,h⟩
theorem pa_cons (ha:PE X e te) (hr:PA X es t) (hs:starEach (e :: es) X.env = (false,eval e X.env) :: starEach es X.env:=by rfl):PA X (e :: es) (tCons te t):=by
  intro pos pins s σ H Q I h
  rw [hs]
  show wpAny _ _ (spliced ((false,eval e X.env) :: backTo pos (starEach es X.env))) _ _ s
  refine Calls.spliced_cons (thn (ha pins s σ H _ I h) fun u s1 ⟨x,H1,I1,r1,q1⟩=>?_)
  exact thn (hr pos pins s1 σ H1 _ I1 q1) fun us s2 ⟨xs,H2,I2,r2,q2⟩=>⟨x :: xs,H2,I2,.cons r1 r2,q2⟩
def tTup (t:TA):TE:=fun σ H Q=>t σ H fun xs H1=>xs.length ≤ sizeLine∧∀ p,H1 p = none→Q (.ref p) (upd H1 p (.tup xs))
def tLst (t:TA):TE:=fun σ H Q=>t σ H fun xs H1=>xs.length ≤ sizeLine∧∀ p,H1 p = none→Q (.ref p) (upd H1 p (.lst xs))
theorem pe_tup {x1} (h:PA X es t):PE X (.Tuple es x1 pos) (tTup t):=by
  intro pins s σ H Q I hq
  refine wpAny_Tuple_spliced (thn (h pos pins s σ H _ I hq) fun us s1 ⟨xs,H1,I1,r,z,q⟩=>⟨by rw [← r.length]; exact z,?_⟩)
  have hf:H1 s1.heap.objs.size = none:=I1.hok.fresh (Nat.le_refl _)
  refine ⟨.ref s1.heap.objs.size,upd H1 s1.heap.objs.size (.tup xs),I1.laid (t':=s1.toks) (fun b u e=>Heap.get?_push_of_some _ e) (Nat.le_refl _) ?_,rfl,q _ hf⟩
  exact ⟨z,us,r,⟨_,Heap.get?_push_size _ rfl,rfl,_,rfl⟩⟩
theorem pe_lst (h:PA X es t):PE X (.List es pos) (tLst t):=by
  intro pins s σ H Q I hq
  refine wpAny_List_spliced (thn (h pos pins s σ H _ I hq) fun us s1 ⟨xs,H1,I1,r,z,q⟩=>⟨by rw [← r.length]; exact z,?_⟩)
  have hf:H1 s1.heap.objs.size = none:=I1.hok.fresh (Nat.le_refl _)
  refine ⟨.ref s1.heap.objs.size,upd H1 s1.heap.objs.size (.lst xs),I1.laid (t':=s1.toks) (fun b u e=>Heap.get?_push_of_some _ e) (Nat.le_refl _) ?_,rfl,q _ hf⟩
  exact ⟨z,us,0,r,Heap.get?_push_size _ rfl⟩
end
abbrev Sp:=List V→Hp→VK→XK→Prop
abbrev CXT:=List Env→Hp→Shared→XK→Value→Shared→Prop
structure Env0 (P:Program) (w:World) (K:PySem.W.Frag) (mg:Str→Option Value) (base:Heap) (A:Around) (outer:List Env) (s:Shared) (H:Hp):Prop where
  frames:A.frames = some outer
  mod:Mod K mg base
  bs:∀ b o,base.get? b = some o→s.heap.get? b = some o∧H b = none
  bsz:base.objs.size ≤ s.heap.objs.size
  funs:s.heap.FunFrames base outer
  frf:∀ b ∈ frs outer,H b = none
  hok:HOk P w H s.heap
  bare:AllBare s.gens
def CE (outer:List Env) (P:Program) (w:World) (H:Hp) (s:Shared) (Q:VK) (u:Value) (s' : Shared):Prop :=
  ∃ v H',s'.os = s.os∧AllBare s'.gens∧Un (frs outer) [] H H' s.heap s'.heap∧HOk P w H' s'.heap∧RelV v u∧Q v H'
def CR (CX:CXT) (outer:List Env) (P:Program) (w:World) (H:Hp) (s:Shared) (Q:VK) (E:XK) (r:Result) (s' : Shared):Prop :=
  match r with
  | .ok (.ret u)=>CE outer P w H s Q u s'
  | .ok _=>False
  | .error e=>CX outer H s E e s'
structure FnOk (P:Program) (w:World) (K:PySem.W.Frag) (mg:Str→Option Value) (base:Heap) (CX:CXT) (k:Nat) (f:Addr) (fd:FuncData) (ps:List Str) (sp:Sp):Prop where
  len:∀ vs H Q E,sp vs H Q E→vs.length = ps.length
  run:∀ (A:Around) (outer:List Env) (s:Shared) (H:Hp) (args:Args) (us:List Value) (vs:List V) (Q:VK) (E:XK),Room k A→Env0 P w K mg base A outer s H→BindsTo s fd args (ps.zip us)→Vals vs us→sp vs H Q E →
    codeAny (model P w) A (.call (.ref f) args) (CR CX outer P w H s Q E) s
theorem FnOk.mono {P:Program} {w:World} {K:PySem.W.Frag} {mg:Str→Option Value} {base:Heap} {CX:CXT} {j k:Nat} {f:Addr} {fd:FuncData} {ps:List Str} {sp:Sp} (F:FnOk P w K mg base CX j f fd ps sp) (h:j ≤ k) :
    FnOk P w K mg base CX k f fd ps sp:=⟨F.len,fun A outer s H args us vs Q E hr=>F.run A outer s H args us vs Q E (hr.mono h)⟩
theorem Env0.make {P:Program} {w:World} {K:PySem.W.Frag} {mg:Str→Option Value} {base:Heap} {A:Around} {outer:List Env} {s:Shared} {H:Hp} (e:Env0 P w K mg base A outer s H) (C:Addr) (us:List Value) (kw:List (Str × Value)) :
    Env0 P w K mg base (A.under (.builtin "type.__call__" ⟨.ref C :: us,kw⟩)) outer s H:=⟨by first | exact e.frames | (simpa [Around.under,Code.envs,Code.isFrame,pushEnvs] using e.frames),e.mod,e.bs,e.bsz,e.funs,e.frf,e.hok,e.bare⟩
section
variable {X:Cx} {pins:List (Addr × Obj)} {σ:St} {H:Hp} {s s' : Shared}
theorem Inv.env0 (I:Inv X pins σ H s):Env0 X.prog X.w X.K X.mg X.base X.A X.stack s H :=
  ⟨I.ok.frames,I.ok.mod,I.bs,Nat.le_trans I.ok.bsz I.sz,I.stack,I.stkFree,I.hok,I.bare⟩
theorem Inv.after {Q:VK} {u:Value} (I:Inv X pins σ H s) (h:CE X.stack X.prog X.w H s Q u s'):EP X pins σ Q u s':=by
  obtain ⟨v,H',os,bare,un,hok,r,q⟩:=h
  obtain ⟨hh,g,d,t,os'⟩:=s'
  obtain rfl:os' = s.os:=os
  exact ⟨v,H',I.call (h':=hh) (g':=g) (d':=d) (t':=t) (ch:=[]) un hok bare (fun b z=>absurd z (by simp)),r,q⟩
end
def tCall (sp:Sp) (dvs:List V) (E:XK) (t:TA):TE:=fun σ H Q=>t σ H fun vs H1=>sp (vs ++ dvs) H1 Q E
def tMeth (C:Addr) (m:Str) (sp:Sp) (dvs:List V) (E:XK) (ta:TE) (t:TA):TE:=fun σ H Q=>ta σ H fun x H1=>∃ a dx fs,x = .ref a∧H1 a = some (.ins C dx fs)∧fs.lookup m = none ∧
  t σ H1 fun vs H2=>sp (x :: (vs ++ dvs)) H2 Q E
def tMake (C:Addr) (sp:Sp) (dvs:List V) (E:XK) (t:TA):TE:=fun σ H Q=>t σ H fun vs H1=>∀ x dx,H1 x = none→H1 dx = none→dx ≠ x →
  sp (.ref x :: (vs ++ dvs)) (upd (upd H1 dx (.own x)) x (.ins C dx [])) (fun v H2=>v = .non∧Q (.ref x) H2) E
def Binds (K:PySem.W.Frag) (fd:FuncData) (ps:List Str) (ds:List Value):Prop :=
  ∀ (s:Shared) (us:List Value),K.In s.heap→(us ++ ds).length = ps.length→BindsTo s fd ⟨us,[]⟩ (ps.zip (us ++ ds))
theorem Binds.all {K:PySem.W.Frag} {fd:FuncData} {ps:List Str} (h:∀ us:List Value,us.length = ps.length→bindArgs fd ⟨us,[]⟩ = pure (ps.zip us)):Binds K fd ps []:=fun s us _ hl=>by
  rw [List.append_nil] at hl ⊢
  exact .of_eq (h us hl)
def Passes (CX:CXT) (X:Cx) (E:XK):Prop:=∀ (pins:List (Addr × Obj)) (σ:St) (H:Hp) (s:Shared) (e:Value) (s' : Shared),Inv X pins σ H s→CX X.stack H s E e s'→X.xe e s'
section
variable {X:Cx} {CX:CXT} {k:Nat} {f C:Addr} {fd:FuncData} {ps:List Str} {sp:Sp} {dvs:List V} {ds:List Value} {E:XK} {x m:Str} {p pos apos:Pos} {e o:Expr} {es:List Expr} {ta:TE} {t:TA}
theorem run_fn {pins:List (Addr × Obj)} {σ:St} {H:Hp} {s:Shared} {Q:VK} {us:List Value} {vs:List V} (F:FnOk X.prog X.w X.K X.mg X.base CX k f fd ps sp) (hr:Room k X.A) (hb:Binds X.K fd ps ds) (hd:Vals dvs ds) (hx:Passes CX X E)
    (I:Inv X pins σ H s) (r:Vals vs us) (h:sp (vs ++ dvs) H Q E):wpAny (model X.prog X.w) X.A (call (.ref f) us) (EP X pins σ Q) X.xe s:=by
  have r2:Vals (vs ++ dvs) (us ++ ds):=r.append hd
  have hl:(us ++ ds).length = ps.length:=by rw [← r2.length]; exact F.len _ _ _ _ h
  refine wpAny_call (codeAny_mono (F.run X.A X.stack s H ⟨us,[]⟩ (us ++ ds) (vs ++ dvs) Q E hr I.env0 (hb s us I.kIn hl) r2 h) fun r s' hq=>?_)
  cases r with
  | error e=>exact hx pins σ H s e s' I hq
  | ok fl =>
    cases fl with
    | ret u=>exact I.after hq
    | next=>exact False.elim hq
    | brk=>exact False.elim hq
    | cont=>exact False.elim hq
theorem pe_call (F:FnOk X.prog X.w X.K X.mg X.base CX k f fd ps sp) (hr:Room k X.A) (hg:Gl X x) (hm:X.mg x = some (.ref f)) (hk:PySem.W.keepIn X.K (.ref f) = true) (hb:Binds X.K fd ps ds) (hd:Vals dvs ds) (hx:Passes CX X E)
    (ha:PA X (e :: es) t) (hdb:(x == ("__debug__" : Str)) = false:=by decide) (he:starEach (e :: es) X.env = (false,eval e X.env) :: starEach es X.env:=by rfl) (hpl:(backTo pos (starEach es X.env)).any (·.1) = false:=by rfl) :
    PE X (.Call (.Name x p) (e :: es) [] pos) (tCall sp dvs E t):=by
  intro pins s σ H Q I h
  refine wpAny_Call_Name_kw (ld_glob I hg hm ?_ hdb)
  refine PySem.W.callWith_K (h₀:=X.base) I.ok.mod.kin hk (thn (ha pos pins s σ H _ I h) fun us s1 ⟨vs,H1,I1,r,q⟩=>⟨I1.kIn,?_⟩) he hpl
  exact run_fn F hr hb hd hx I1 r q
structure Mk (K:PySem.W.Frag) (C f:Addr):Prop where
  makes:PySem.W.makesIn K C = true
  init:PySem.W.findIn K (.ref C) "__init__" = some (some (.ref f))
  fn:PySem.W.isFn K (.ref f) = true
  kp:PySem.W.keepIn K (.ref C) = true
theorem run_make {pins:List (Addr × Obj)} {σ:St} {H:Hp} {s:Shared} {Q:VK} {us:List Value} {vs:List V} (M:Mk X.K C f) (F:FnOk X.prog X.w X.K X.mg X.base CX k f fd ps sp) (hr:Room (k + 1) X.A) (hb:Binds X.K fd ps ds) (hd:Vals dvs ds)
    (hx:Passes CX X E) (I:Inv X pins σ H s) (r:Vals vs us)
    (h:∀ x dx,H x = none→H dx = none→dx ≠ x→sp (.ref x :: (vs ++ dvs)) (upd (upd H dx (.own x)) x (.ins C dx [])) (fun v H2=>v = .non∧Q (.ref x) H2) E) :
    wpAny (model X.prog X.w) X.A (call (.ref C) us) (EP X pins σ Q) X.xe s:=by
  have hq:=h (s.heap.objs.size + 1) s.heap.objs.size (I.hok.fresh (Nat.le_succ _)) (I.hok.fresh (Nat.le_refl _)) (Nat.ne_of_lt (Nat.lt_succ_self _))
  have I2:=Inv.made (C:=C) I
  have r2:Vals (V.ref (s.heap.objs.size + 1) :: (vs ++ dvs)) (Value.ref (s.heap.objs.size + 1) :: (us ++ ds)):=.cons rfl (r.append hd)
  have hl:(Value.ref (s.heap.objs.size + 1) :: us ++ ds).length = ps.length:=by
    have e:=r2.length
    rw [F.len _ _ _ _ hq] at e
    exact e.symm
  refine wpAny_call (make_map (f:=f) I.kIn M.makes M.init (beq_iff_eq.mp M.fn) (codeAny_mono (F.run _ X.stack _ _ ⟨Value.ref (s.heap.objs.size + 1) :: us,[]⟩ (Value.ref (s.heap.objs.size + 1) :: (us ++ ds)) _ _ E (hr.make C us [])
    (I2.env0.make C us []) (hb _ (Value.ref (s.heap.objs.size + 1) :: us) I2.kIn hl) r2 hq) fun r s' hq'=>?_))
  cases r with
  | error e=>exact hx pins σ _ _ e s' I2 hq'
  | ok fl =>
    cases fl with
    | ret u =>
      obtain ⟨v,H',I3,rv,ev,q3⟩:=I2.after hq'
      subst ev
      exact ⟨rv,⟨V.ref (s.heap.objs.size + 1),H',I3,rfl,q3⟩⟩
    | next=>exact False.elim hq'
    | brk=>exact False.elim hq'
    | cont=>exact False.elim hq'
theorem pe_make (M:Mk X.K C f) (F:FnOk X.prog X.w X.K X.mg X.base CX k f fd ps sp) (hr:Room (k + 1) X.A) (hg:Gl X x) (hm:X.mg x = some (.ref C)) (hb:Binds X.K fd ps ds) (hd:Vals dvs ds) (hx:Passes CX X E)
    (ha:PA X (e :: es) t) (hdb:(x == ("__debug__" : Str)) = false:=by decide) (he:starEach (e :: es) X.env = (false,eval e X.env) :: starEach es X.env:=by rfl) (hpl:(backTo pos (starEach es X.env)).any (·.1) = false:=by rfl) :
    PE X (.Call (.Name x p) (e :: es) [] pos) (tMake C sp dvs E t):=by
  intro pins s σ H Q I h
  refine wpAny_Call_Name_kw (ld_glob I hg hm ?_ hdb)
  refine PySem.W.callWith_K (h₀:=X.base) I.ok.mod.kin M.kp (thn (ha pos pins s σ H _ I h) fun us s1 ⟨vs,H1,I1,r,q⟩=>⟨I1.kIn,?_⟩) he hpl
  exact run_make M F hr hb hd hx I1 r q
theorem pe_make0 (M:Mk X.K C f) (F:FnOk X.prog X.w X.K X.mg X.base CX k f fd ps sp) (hr:Room (k + 1) X.A) (hg:Gl X x) (hm:X.mg x = some (.ref C)) (hb:Binds X.K fd ps ds) (hd:Vals dvs ds) (hx:Passes CX X E)
    (hdb:(x == ("__debug__" : Str)) = false:=by decide):PE X (.Call (.Name x p) [] [] pos) (tMake C sp dvs E tNil):=by
  intro pins s σ H Q I h
  refine wpAny_Call_Name_kw (ld_glob I hg hm ?_ hdb)
  exact PySem.W.callWith_K0 I.kIn M.kp (run_make (us:=[]) M F hr hb hd hx I .nil h)
end
def PK (X:Cx) (kws:List Keyword) (t:TA):Prop :=
  ∀ (pos:Pos) (pins:List (Addr × Obj)) (s:Shared) (σ:St) (H:Hp) (Q:List V→Hp→Prop),Inv X pins σ H s→t σ H Q→wpAny (model X.prog X.w) X.A (evalAll ((backToKw pos (keywordEach kws X.env)).map (·.2))) (AP X pins σ Q) X.xe s
section
variable {X:Cx} {CX:CXT} {k:Nat} {f C:Addr} {fd:FuncData} {ps ks:List Str} {sp:Sp} {E:XK} {x m:Str} {p pos apos kpos:Pos} {e o:Expr} {es:List Expr} {kws:List Keyword} {te ta:TE} {t tk:TA} {nm:Option Str}
structure KBinds (K:PySem.W.Frag) (fd:FuncData) (ps ks:List Str) (g:List Value→List Value→List Value) (gV:List V→List V→List V):Prop where
  to:∀ (s:Shared) (us ws:List Value),K.In s.heap→(g us ws).length = ps.length→BindsTo s fd ⟨us,ks.zip ws⟩ (ps.zip (g us ws))
  rel:∀ {vs:List V} {us:List Value} {zs:List V} {ws:List Value},Vals vs us→Vals zs ws→Vals (gV vs zs) (g us ws)
def tCallK (sp:Sp) (gV:List V→List V→List V) (E:XK) (t tk:TA):TE:=fun σ H Q=>t σ H fun vs H1=>tk σ H1 fun zs H2=>sp (gV vs zs) H2 Q E
variable {g:List Value→List Value→List Value} {gV:List V→List V→List V}
end
structure FnScope (N P:List Str) (sc:Scope):Prop where
  kind:sc.kind = .function
  co:sc.isCoroutine = false
  gen:sc.isGenerator = false
  nd:N.Nodup
  pre:N.take P.length = P
  par:∀ x ∈ P,sc.names.lookup x = some .local∨sc.names.lookup x = some .cell
  nofree:∀ y ∈ sc.names,y.2 ≠ .free
theorem bindL_out {kindOf:Str→Option NameKind} {x:Str} : ∀ {binds:List (Str × Value)} {m:Str→Option Value},(∀ v,(x,v) ∉ binds)→bindL kindOf binds m x = m x
  | [],_,_=>rfl
  | (n,v) :: r,m,h=>by
    unfold bindL
    rw [bindL_out fun w hw=>h w (List.mem_cons_of_mem _ hw)]
    split
    · have:x ≠ n:=by rintro rfl; exact h v List.mem_cons_self
      simp [this]
    · rfl
theorem bindC_out {kindOf:Str→Option NameKind} {x:Str} : ∀ {binds:List (Str × Value)} {m:Str→Option Value},(∀ v,(x,v) ∉ binds)→bindC kindOf binds m x = m x
  | [],_,_=>rfl
  | (n,v) :: r,m,h=>by
    unfold bindC
    rw [bindC_out fun w hw=>h w (List.mem_cons_of_mem _ hw)]
    split
    · rfl
    · have:x ≠ n:=by rintro rfl; exact h v List.mem_cons_self
      simp [this]
theorem bindL_get {kindOf:Str→Option NameKind} {x:Str} {v:Value} : ∀ {P:List Str} {vs:List Value} {i:Nat} {m:Str→Option Value},P.Nodup→P[i]? = some x→vs[i]? = some v→kindOf x = some .local →
    bindL kindOf (P.zip vs) m x = some v
  | [],_,_,_,_,h,_,_=>by simp at h
  | _ :: _,[],_,_,_,_,h,_=>by simp at h
  | p :: P,w :: vs,0,m,nd,h1,h2,hk=>by
    simp at h1 h2; subst h1; subst h2
    show bindL kindOf ((p,w) :: P.zip vs) m p = _
    unfold bindL
    rw [bindL_out fun v hv=>(List.nodup_cons.mp nd).1 (List.of_mem_zip hv).1,if_pos hk]
    simp
  | p :: P,w :: vs,i + 1,m,nd,h1,h2,hk=>by
    show bindL kindOf ((p,w) :: P.zip vs) m x = _
    unfold bindL
    exact bindL_get (i:=i) (List.nodup_cons.mp nd).2 (by simpa using h1) (by simpa using h2) hk
theorem bindC_get {kindOf:Str→Option NameKind} {x:Str} {v:Value} : ∀ {P:List Str} {vs:List Value} {i:Nat} {m:Str→Option Value},P.Nodup→P[i]? = some x→vs[i]? = some v→kindOf x ≠ some .local →
    bindC kindOf (P.zip vs) m x = some v
  | [],_,_,_,_,h,_,_=>by simp at h
  | _ :: _,[],_,_,_,_,h,_=>by simp at h
  | p :: P,w :: vs,0,m,nd,h1,h2,hk=>by
    simp at h1 h2; subst h1; subst h2
    show bindC kindOf ((p,w) :: P.zip vs) m p = _
    unfold bindC
    rw [bindC_out fun v hv=>(List.nodup_cons.mp nd).1 (List.of_mem_zip hv).1,if_neg hk]
    simp
  | p :: P,w :: vs,i + 1,m,nd,h1,h2,hk=>by
    show bindC kindOf ((p,w) :: P.zip vs) m x = _
    unfold bindC
    exact bindC_get (i:=i) (List.nodup_cons.mp nd).2 (by simpa using h1) (by simpa using h2) hk
def start (N:List Str) (vs:List V):St:=vs.map some ++ List.replicate (N.length - vs.length) none
def cxOf (CX:CXT) (P:Program) (w:World) (K:PySem.W.Frag) (mg:Str→Option Value) (base:Heap) (N:List Str) (qual:Str) (scope:Scope) (f:Addr) (cd:Value) (A:Around) (outer:List Env) (s:Shared) (H:Hp) (E:XK):Cx where
  prog:=P
  w:=w
  K:=K
  mg:=mg
  base:=base
  A:=A.deeper (envOfC qual scope s.heap.objs.size f cd)
  N:=N
  s₀:=s
  H₀:=H
  env:=envOfC qual scope s.heap.objs.size f cd
  outer:=outer
  stack:=envOfC qual scope s.heap.objs.size f cd :: outer
  ex:=[]
  calm:=true
  fn:=fun _=>true
  pn:=[]
  xe:=fun e s'=>wpAny (model P w) (A.deeper (envOfC qual scope s.heap.objs.size f cd)) (leaving (envOfC qual scope s.heap.objs.size f cd) e) (fun _ s''=>CX outer H s E e s'') (fun e' s''=>CX outer H s E e' s'') s'
theorem cell_has {sc:Scope} {n:Nat} {x:Str} (h:sc.names.lookup x = some .cell):∃ c,(cellsFrom n sc.names []).lookup x = some c:=by
  have q:=PySem.W.cellsFrom_some sc.names n [] (.inl h)
  exact Option.isSome_iff_exists.mp q
theorem inv_start {CX:CXT} {P:Program} {w:World} {K:PySem.W.Frag} {mg:Str→Option Value} {base:Heap} {N ps:List Str} {qual:Str} {scope:Scope} {f:Addr} {cd:Value} {A:Around} {outer:List Env} {s s1:Shared} {H:Hp} {E:XK} {us:List Value} {vs:List V}
    (S:FnScope N ps scope) (hd:A.handled = none) (e0:Env0 P w K mg base A outer s H) (hl:vs.length = ps.length) (r:Vals vs us)
    (x:InCallC s s.heap.objs.size (bindL (envOfC qual scope s.heap.objs.size f cd).kindOf (ps.zip us) fun _=>none) (cellsFrom (s.heap.objs.size + 1) scope.names []) (bindC (envOfC qual scope s.heap.objs.size f cd).kindOf (ps.zip us) fun _=>none) s1) :
    Inv (cxOf CX P w K mg base N qual scope f cd A outer s H E) [] (start N vs) H s1:=by
  have hpl:ps.length ≤ N.length:=by have:=congrArg List.length S.pre; rw [List.length_take] at this; omega
  obtain ⟨h1,tk,rfl,hk⟩:=x.done
  have noA:∀ b:Addr,b ∉ (cxOf CX P w K mg base N qual scope f cd A outer s H E).ex:=fun b z=>absurd (show b ∈ ([]:List Addr) from z) (by simp)
  refine ⟨⟨e0.mod,S.kind,rfl,rfl,Nat.le_refl _,fun y z c h1 h2=>?_,fun y hy=>?_,fun y c _ h=>?_,fun _=>hd,Around.frames_deeper e0.frames,.inr ⟨rfl,rfl⟩,fun b z=>absurd z (noA b),e0.bs,e0.bsz,fun b _ _=>noA b,fun b z=>absurd z (noA b),e0.funs,e0.frf⟩,
    rfl,e0.bare,Un.kept hk,⟨_,x.toInCall.ns,fun i y v h1 h2 h3=>?_⟩,fun y c h=>⟨_,x.cell y c h⟩,e0.hok.fresh (Nat.le_refl _),fun y c h=>?_,fun p hp=>absurd (show p ∈ ([]:List (Addr × Obj)) from hp) (by simp),e0.hok.kept hk,?_⟩
  · exact name_of_addr x.apart (PySem.mem_of_lookup h1) (PySem.mem_of_lookup h2)
  · have hy:scope.names.lookup y = some .cell∨scope.names.lookup y = some .free:=hy
    rcases hy with hy | hy
    · exact cell_has hy
    · exact absurd rfl (S.nofree _ (PySem.mem_of_lookup hy))
  · exact Nat.le_of_lt (x.above y c (PySem.mem_of_lookup h))
  · have hi:i < vs.length:=by
      unfold start at h2
      by_cases hi:i < vs.length
      · exact hi
      · rw [List.getElem?_append_right (by simpa using hi)] at h2
        rw [List.getElem?_replicate] at h2
        split at h2 <;> cases h2
    have ha:vs[i]? = some v:=by
      unfold start at h2
      rw [List.getElem?_append_left (by simpa using hi),List.getElem?_map] at h2
      cases e:vs[i]? with
      | none=>rw [e] at h2; cases h2
      | some a=>rw [e] at h2; cases h2; rfl
    obtain ⟨u,hu,rv⟩:=r.get ha
    have hp:ps[i]? = some y:=by
      rw [← S.pre,List.getElem?_take_of_lt (by omega)]; exact h1
    have ndP:ps.Nodup:=by rw [← S.pre]; exact S.nd.sublist (List.take_sublist _ _)
    refine ⟨u,rv,?_⟩
    rcases S.par y (List.mem_of_getElem? hp) with k | k
    · exact .inl ⟨k,bindL_get ndP hp hu k⟩
    · obtain ⟨c,e⟩:=cell_has (n:=s.heap.objs.size + 1) k
      refine .inr ⟨.inl k,c,e,?_⟩
      have q:=x.cell y c e
      rw [bindC_get ndP hp hu (by show scope.names.lookup y ≠ _; rw [k]; decide)] at q
      exact q
  · exact e0.hok.fresh (Nat.le_of_lt (x.above y c (PySem.mem_of_lookup h)))
  · unfold start
    show _ = N.length
    rw [List.length_append,List.length_map,List.length_replicate]
    omega
theorem fn_of {CX:CXT} {P:Program} {w:World} {K:PySem.W.Frag} {mg:Str→Option Value} {base:Heap} {k:Nat} {f:Addr} {name qual:Str} {params:Arguments} {body:List Stmt} {scope:Scope} {dV kV doc pm cdv ct oc:Value} {an od:Option Addr}
    {osl:Array (Option Value)} {N ps:List Str} {sp:Sp} (lk:K.lookup f = some ⟨oc,od,.func (PySem.W.fnOf name qual params body scope dV kV doc pm an cdv ct),osl⟩) (hcd:PySem.W.codeIn K cdv qual = true) (S:FnScope N ps scope)
    (len:∀ vs H Q E,sp vs H Q E→vs.length = ps.length)
    (hbody:∀ (A:Around) (outer:List Env) (s:Shared) (H:Hp) (vs:List V) (Q:VK) (E:XK),Room k (A.deeper (envOfC qual scope s.heap.objs.size f cdv))→sp vs H Q E →
      ∃ t,PSs (cxOf CX P w K mg base N qual scope f cdv A outer s H E) body t∧t { nx:=fun _ H'=>Q .non H',rt:=Q } (start N vs) H) :
    FnOk P w K mg base CX (k + 1) f (PySem.W.fnOf name qual params body scope dV kV doc pm an cdv ct) ps sp:=by
  refine ⟨len,fun A outer s H args us vs Q E hr e0 hb r hsp=>?_⟩
  have hl:=len _ _ _ _ hsp
  have KX:K.In s.heap:=e0.mod.kin.keeps fun b o e=>(e0.bs b o e).1
  have lim:s.heap.NoLimit:=e0.mod.nolimit.keeps fun b o e=>(e0.bs b o e).1
  have hkind:∀ y ∈ ps.zip us,scope.names.lookup y.1 = some .local∨(scope.names.lookup y.1 = some .cell∧((cellsFrom (s.heap.objs.size + 1) scope.names []).lookup y.1).isSome = true):=fun ⟨n,v⟩ hy=>by
    rcases S.par n (List.of_mem_zip hy).1 with q | q
    · exact .inl q
    · exact .inr ⟨q,PySem.W.cellsFrom_some _ _ _ (.inl q)⟩
  refine codeAny_call_function hr.depth (KX _ _ lk) rfl S.co S.gen rfl (PySem.W.codeRec_of KX hcd) (hb _ _ _ _ ?_)
  refine wpAny_newFunctionEnv_cells S.kind hkind fun env he s1 x=>?_
  subst he
  refine ⟨lim.keeps x.toInCall.keep,codeAny_func ?_⟩
  obtain ⟨t,ht,hq⟩:=hbody A outer s H vs Q E (hr.deeper _) hsp
  have I:Inv (cxOf CX P w K mg base N qual scope f cdv A outer s H E) [] (start N vs) H s1:=inv_start S hr.hd e0 hl r x
  refine wpAny_mono (ht [] s1 (start N vs) H _ I hq) (fun fl s' hs=>?_) fun e s' hs=>hs
  have fin:∀ {σ' : St} {H' : Hp} {v:V} {u:Value},Inv (cxOf CX P w K mg base N qual scope f cdv A outer s H E) [] σ' H' s'→RelV v u→Q v H'→CE outer P w H s Q u s' :=
    fun {σ' H' v u} J rv q=>⟨v,H',J.os,J.bare,J.base,J.hok,rv,q⟩
  cases fl with
  | ret u =>
    obtain ⟨v,σ',H',J,rv,q⟩:=hs
    exact fin J rv q
  | next =>
    obtain ⟨σ',H',J,q⟩:=hs
    exact fin (v:=V.non) (u:=Value.none) J rfl q
  | brk =>
    obtain ⟨_,_,_,q⟩:=hs
    exact False.elim q
  | cont =>
    obtain ⟨_,_,_,q⟩:=hs
    exact False.elim q
end L2
namespace L2
open PySem PySem.Spec PyProof.Rows
section
variable {X:Cx} {x:Str} {p pos:Pos} {e:Expr} {es:List Expr} {t:TA} {id T:String} {r:List V→Hp→VK→Prop}
def tCB (r:List V→Hp→VK→Prop) (t:TA):TE:=fun σ H Q=>t σ H fun vs H1=>r vs H1 Q
theorem pe_callB (hc:CallR X (.builtin id) r) (hg:Gl X x) (hm:X.mg x = none) (hv:bootBuiltins x = some (.builtin id)) (ha:PA X (e :: es) t) (hn:x ≠ "__name__" := by decide) (hdb:(x == ("__debug__" : Str)) = false:=by decide)
    (he:starEach (e :: es) X.env = (false,eval e X.env) :: starEach es X.env:=by rfl) (hpl:(backTo pos (starEach es X.env)).any (·.1) = false:=by rfl):PE X (.Call (.Name x p) (e :: es) [] pos) (tCB r t):=by
  intro pins s σ H Q I h
  refine wpAny_Call_Name_kw (ld_blt I hg hm hv ?_ hn hdb)
  exact PyProof.Rows.callWith_builtin1 (thn (ha pos pins s σ H _ I h) fun us s1 ⟨vs,H1,I1,r1,q1⟩=>hc pins s1 σ H1 vs us Q I1 r1 q1) he hpl
theorem pe_callTy (hc:CallR X (.type T) r) (hg:Gl X x) (hm:X.mg x = none) (hv:bootBuiltins x = some (.type T)) (ha:PA X (e :: es) t) (hn:x ≠ "__name__" := by decide) (hdb:(x == ("__debug__" : Str)) = false:=by decide)
    (he:starEach (e :: es) X.env = (false,eval e X.env) :: starEach es X.env:=by rfl) (hpl:(backTo pos (starEach es X.env)).any (·.1) = false:=by rfl):PE X (.Call (.Name x p) (e :: es) [] pos) (tCB r t):=by
  intro pins s σ H Q I h
  refine wpAny_Call_Name_kw (ld_blt I hg hm hv ?_ hn hdb)
  exact PyProof.Rows.callWith_type1 (thn (ha pos pins s σ H _ I h) fun us s1 ⟨vs,H1,I1,r1,q1⟩=>hc pins s1 σ H1 vs us Q I1 r1 q1) he hpl
end
end L2
namespace HT
open PySem PyProof.Rows
def lexLt:List Int→List Int→Bool
  | [],[]=>false
  | [],_ :: _=>true
  | _ :: _,[]=>false
  | x :: xs,y :: ys=>if x = y then lexLt xs ys else decide (x < y)
section
open PySem.SeqAt
open PySem.AutoSeq1 (wpAny_loadPart')
open PySem.MeetsSeq PySem.MeetsSeq2 PySem.MeetsSeq3
end
section
variable {prog:Program} {w:World} {A:Around} {E:Value→Shared→Prop} {s:Shared}
def sIx (n d:Nat):Option Int→Nat
  | none=>d
  | some v=>if v < 0 then (v + (n:Int)).toNat else min v.toNat n
end
end HT
namespace L2
open PySem PySem.Spec PyProof.Rows
abbrev TO:=St→Hp→(Option Int→Hp→Prop)→Prop
def PO (X:Cx) (e:Option Expr) (t:TO):Prop :=
  ∀ (pins:List (Addr × Obj)) (s:Shared) (σ:St) (H:Hp) (Q:Option Int→Hp→Prop),Inv X pins σ H s→t σ H Q →
    wpAny (model X.prog X.w) X.A (evalPart e X.env) (fun u s'=>∃ o H',Inv X pins σ H' s'∧IsPart u o∧Q o H') X.xe s
def tNoPart:TO:=fun _ H Q=>Q none H
def tPart (t:TE):TO:=fun σ H Q=>t σ H fun x H1=>∃ i,x = .int i∧Q (some i) H1
section
variable {X:Cx} {e:Expr} {te:TE} {lo hi:Option Expr} {tl th:TO} {pos p2:Pos}
theorem po_none:PO X none tNoPart:=by
  intro pins s σ H Q I h
  rw [evalPart_none]
  exact wpAny_pure ⟨none,H,I,.none,h⟩
theorem po_some (h:PE X e te):PO X (some e) (tPart te):=by
  intro pins s σ H Q I hw
  rw [evalPart_some]
  refine thn (h pins s σ H _ I hw) fun u s1 ⟨x,H1,I1,r1,q1⟩=>?_
  obtain ⟨i,rfl,q⟩:=q1
  obtain ⟨t,rfl⟩:=r1
  exact ⟨some i,H1,I1,.int i t,q⟩
def SlR (X:Cx) (r:V→Option Int→Option Int→Hp→VK→Prop):Prop :=
  ∀ (pins:List (Addr × Obj)) (s:Shared) (σ:St) (H:Hp) (x:V) (v vl vu:Value) (lo hi:Option Int) (sl:Addr) (Q:VK),Inv X pins σ H s→RelV x v→s.heap.IsSliceOf sl vl vu .none→IsPart vl lo→IsPart vu hi→r x lo hi H Q →
    ∃ T id,typeLookup (.type T) "__getitem__" = pure (some (.builtin id))∧s.TypeIs v T∧wpAny (model X.prog X.w) X.A (getItem v (.ref sl)) (EP X pins σ Q) X.xe s
def tSl (r:V→Option Int→Option Int→Hp→VK→Prop) (te:TE) (tl th:TO):TE:=fun σ H Q=>te σ H fun x H1=>tl σ H1 fun l H2=>th σ H2 fun u H3=>r x l u H3 Q
theorem pe_slice {r:V→Option Int→Option Int→Hp→VK→Prop} (hr:SlR X r) (he:PE X e te) (hl:PO X lo tl) (hu:PO X hi th):PE X (.Subscript e (.Slice lo hi none p2) pos) (tSl r te tl th):=by
  intro pins s σ H Q I h
  refine Subscript_ (thn (he pins s σ H _ I h) fun v s1 ⟨x,H1,I1,r1,q1⟩=>?_)
  refine wpAny_Slice (thn (hl pins s1 σ H1 _ I1 q1) fun vl s2 ⟨l,H2,I2,pl,q2⟩=>thn (hu pins s2 σ H2 _ I2 q2) fun vu s3 ⟨u,H3,I3,pu,q3⟩=>?_)
  rw [evalPart_none]
  refine wpAny_pure ?_
  have I4:Inv X pins σ H3 { s3 with heap:=s3.heap.push { cls:=.type "slice",data:=.fields #[vl,vu,.none] } }:=I3.kept (t':=s3.toks) fun b ob q=>Heap.get?_push_of_some _ q
  obtain ⟨T,id,hT,ht,hg⟩:=hr pins { s3 with heap:=s3.heap.push { cls:=.type "slice",data:=.fields #[vl,vu,.none] } } σ H3 x v vl vu l u s3.heap.objs.size Q I4 r1 (Heap.IsSliceOf.new ..) pl pu q3
  show wpAny (model X.prog X.w) X.A (subscriptTail e (.Slice lo hi none p2) v (.ref s3.heap.objs.size)) (EP X pins σ Q) X.xe { s3 with heap:=s3.heap.push { cls:=.type "slice",data:=.fields #[vl,vu,.none] } }
  exact tail_any (ops:=[.ref s3.heap.objs.size,v]) ht hT hg (by with_unfolding_all rfl)
def cutV (xs:List V) (lo hi:Option Int):List V:=(xs.drop (HT.sIx xs.length 0 lo)).take (HT.sIx xs.length xs.length hi - HT.sIx xs.length 0 lo)
theorem cutV_length (xs:List V) (lo hi:Option Int):(cutV xs lo hi).length ≤ xs.length:=by
  unfold cutV
  rw [List.length_take,List.length_drop]
  omega
def rSlT (K:PySem.W.Frag):V→Option Int→Option Int→Hp→VK→Prop:=fun x lo hi H Q=>∃ a xs,x = .ref a∧SqT K H a xs ∧
  ¬ (HT.sIx xs.length 0 lo = 0∧HT.sIx xs.length xs.length hi = xs.length)∧∀ p,H p = none→Q (.ref p) (upd H p (.tup (cutV xs lo hi)))
def rLtT (K:PySem.W.Frag):R2:=fun x y H Q=>∃ a b ns ms,x = .ref a∧y = .ref b∧SqT K H a (ns.map V.int)∧SqT K H b (ms.map V.int)∧Q (.bl (HT.lexLt ns ms)) H
def rCatT (K:PySem.W.Frag):R2:=fun x y H Q=>∃ a b xs ys,x = .ref a∧y = .ref b∧SqT K H a xs∧SqT K H b ys∧xs ≠ []∧xs.length + ys.length ≤ sizeLine ∧
  (ys = []→Q (.ref a) H)∧(ys ≠ []→∀ p,H p = none→Q (.ref p) (upd H p (.tup (xs ++ ys))))
end
end L2
namespace L2
open PySem PySem.Spec PyProof.Rows
def ixN (n:Nat) (i:Int):Option Nat:=if 0 ≤ i then (if i < n then some i.toNat else none) else if -(n:Int) ≤ i then some (i + n).toNat else none
def atI {α:Type} (xs:List α) (i:Int):Option α:=(ixN xs.length i).bind fun j=>xs[j]?
theorem ixN_seq {n:Nat} {i:Int} {j:Nat} (h:ixN n i = some j):seqIndex? i n = some j∧j < n∧-(n:Int) ≤ i∧i < n:=by
  unfold ixN at h
  by_cases h0:0 ≤ i
  · rw [if_pos h0] at h
    by_cases h1:i < n
    · rw [if_pos h1] at h
      have e:i.toNat = j:=Option.some.inj h
      exact ⟨by rw [seqIndex_of h0 h1,e],by omega,by omega,h1⟩
    · rw [if_neg h1] at h; cases h
  · rw [if_neg h0] at h
    by_cases h1 : -(n:Int) ≤ i
    · rw [if_pos h1] at h
      have e:(i + n).toNat = j:=Option.some.inj h
      exact ⟨by rw [seqIndex_neg (by omega) h1,e],by omega,h1,by omega⟩
    · rw [if_neg h1] at h; cases h
theorem atI_get {α:Type} {xs:List α} {i:Int} {v:α} (h:atI xs i = some v):∃ j,seqIndex? i xs.length = some j∧xs[j]? = some v∧j < xs.length∧-(xs.length:Int) ≤ i∧i < xs.length:=by
  unfold atI at h
  cases e:ixN xs.length i with
  | none=>rw [e] at h; cases h
  | some j =>
    rw [e] at h
    obtain ⟨h1,h2,h3,h4⟩:=ixN_seq e
    exact ⟨j,h1,h,h2,h3,h4⟩
theorem atI_nat {α:Type} {xs:List α} {j:Nat} {v:α} (h:xs[j]? = some v):atI xs (j:Int) = some v:=by
  have hj:j < xs.length:=(List.getElem?_eq_some_iff.mp h).1
  have e:ixN xs.length (j:Int) = some j:=by
    unfold ixN
    rw [if_pos (by omega),if_pos (by omega)]; simp
  unfold atI; rw [e]; exact h
theorem atI_last {α:Type} (xs:List α) (v:α):atI (xs ++ [v]) (-1) = some v:=by
  have hl:(xs ++ [v]).length = xs.length + 1:=by simp
  have e:ixN (xs ++ [v]).length (-1) = some xs.length:=by
    unfold ixN
    rw [hl,if_neg (by decide),if_pos (by omega)]
    congr 1
    omega
  unfold atI
  rw [e]
  show (xs ++ [v])[xs.length]? = some v
  simp
def PlainIx (b:Expr):Prop:=∀ o i,subscripted b false o i = operate [o,i] (getItem o i)
def IxR (X:Cx) (r:R2):Prop :=
  ∀ (value slice:Expr) (pins:List (Addr × Obj)) (s:Shared) (σ:St) (H:Hp) (x y:V) (v u:Value) (Q:VK),Inv X pins σ H s→RelV x v→RelV y u→r x y H Q →
    subscripted slice false v u = operate [v,u] (getItem v u)→wpAny (model X.prog X.w) X.A (subscriptTail value slice v u) (EP X pins σ Q) X.xe s
def MtR (X:Cx) (id:String) (r:V→List V→Hp→VK→Prop):Prop :=
  ∀ (pins:List (Addr × Obj)) (s:Shared) (σ:St) (H:Hp) (x:V) (xs:List V) (v:Value) (us:List Value) (Q:VK),Inv X pins σ H s→RelV x v→Vals xs us→r x xs H Q →
    wpAny (model X.prog X.w) X.A (call (.builtin id) (v :: us)) (EP X pins σ Q) X.xe s
section
variable {X:Cx} {a b:Expr} {ta tb:TE} {pos:Pos}
theorem pe_ix {r:R2} (hr:IxR X r) (ha:PE X a ta) (hb:PE X b tb) (hs:PlainIx b):PE X (.Subscript a b pos) (tOp r ta tb):=by
  intro pins s σ H Q I h
  exact Subscript_ (binT ha hb I h fun v u s2 x y H2 I2 rx ry q=>hr a b pins s2 σ H2 x y v u Q I2 rx ry q (hs _ _))
def rIxL (K:PySem.W.Frag):R2:=fun x y H Q=>∃ p xs i v,x = .ref p∧y = .int i∧SqL K H p xs∧atI xs i = some v∧Q v H
def rIxT (K:PySem.W.Frag):R2:=fun x y H Q=>∃ p xs i v,x = .ref p∧y = .int i∧SqT K H p xs∧atI xs i = some v∧Q v H
def rIxS:R2:=fun x y H Q=>∃ z i c,x = .str z∧y = .int i∧z.length ≤ sizeLine∧atI z.cps.toList i = some c∧Q (.str ⟨#[c]⟩) H
theorem ix_list:IxR X (rIxL X.K):=by
  intro value slice pins s σ H x y v u Q I rx ry h hs
  obtain ⟨p,xs,i,z,rfl,rfl,hq,he,q⟩:=h
  cases rx
  obtain ⟨t,rfl⟩:=ry
  obtain ⟨its,r,pl,hz⟩:=I.list hq
  obtain ⟨j,h1,h2,h3,h4,h5⟩:=atI_get he
  obtain ⟨w,ew,rw'⟩:=r.get h2
  have hl:=r.length
  have hn:=line63
  have fin:EP X pins σ Q w s:=⟨z,H,I,rw',q⟩
  by_cases h0:0 ≤ i
  · have hj:i.toNat = j:=by
      rw [seqIndex_of h0 h5] at h1
      exact Option.some.inj h1
    exact item_listR pl.isList h0 (by omega) (by rw [hj]; simpa using ew) fin hs
  · have hj:(i + (its.toArray.size:Int)).toNat = j:=by
      rw [seqIndex_neg (by omega) h4] at h1
      rw [List.size_toArray,← hl]
      exact Option.some.inj h1
    exact subscriptTail_builtinR (x:=w) pl.isList.typeIs slot_list_getitem.lookup
      (wpAny_getItem_list_neg (Q:=fun r s'=>r = w∧EP X pins σ Q r s') pl.isList (by omega) (by rw [List.size_toArray] <;> omega) (by omega) (by rw [hj]; simpa using ew) ⟨rfl,fin⟩) hs
theorem ix_tup:IxR X (rIxT X.K):=by
  intro value slice pins s σ H x y v u Q I rx ry h hs
  obtain ⟨p,xs,i,z,rfl,rfl,hq,he,q⟩:=h
  cases rx
  obtain ⟨t,rfl⟩:=ry
  obtain ⟨its,r,pl,hz⟩:=I.tuple hq
  obtain ⟨j,h1,h2,h3,h4,h5⟩:=atI_get he
  obtain ⟨w,ew,rw'⟩:=r.get h2
  have hl:=r.length
  have hn:=line63
  have fin:EP X pins σ Q w s:=⟨z,H,I,rw',q⟩
  exact subscriptTail_builtinR (x:=w) pl.typeIs slot_tuple_getitem.lookup
    (getItem_tuple (j:=j) (Q:=fun r s'=>r = w∧EP X pins σ Q r s') pl (by omega) (by omega) (by rw [List.size_toArray,← hl]; exact h1) (by simpa using ew) ⟨rfl,fin⟩) hs
theorem ix_str:IxR X rIxS:=by
  intro value slice pins s σ H x y v u Q I rx ry h hs
  obtain ⟨z,i,c,rfl,rfl,hz,he,q⟩:=h
  obtain ⟨t,rfl⟩:=rx
  obtain ⟨t',rfl⟩:=ry
  obtain ⟨j,h1,h2,h3,h4,h5⟩:=atI_get he
  have hl:z.cps.toList.length = z.length:=by simp [Str.length]
  rw [hl] at h1 h4 h5
  have hn:=line63
  exact tail_any (typeIs_str s z t) slot_str_getitem.lookup (getItem_str (c:=c) (by
    have e1:decide (i < -(2 ^ 63:Int)) = false:=decide_eq_false (by omega)
    have e2:decide (i ≥ 2 ^ 63) = false:=decide_eq_false (by omega)
    rw [e1,e2,Bool.or_false]) (by rw [h1]; simpa using h2) ⟨.str ⟨#[c]⟩,H,I.tok _,⟨_,rfl⟩,q⟩) hs
def rIx (K:PySem.W.Frag):R2:=fun x y H Q=>rIxL K x y H Q∨rIxT K x y H Q∨rIxS x y H Q
theorem mapSeq_set (its:List Value) (n j:Nat) (u:Value):Obj.mapSeq (·.setIfInBounds j u) { cls:=.type "list",data:=.seq its.toArray n } = { cls:=.type "list",data:=.seq (its.set j u).toArray n }:=by
  simp [Obj.mapSeq]
theorem Inv.lst {pins:List (Addr × Obj)} {σ:St} {H:Hp} {s:Shared} {p:Addr} {xs:List V} (I:Inv X pins σ H s) (h:H p = some (.lst xs)) :
    ∃ (its:List Value) (n:Nat),Vals xs its∧s.heap.get? p = some { cls:=.type "list",data:=.seq its.toArray n }∧xs.length ≤ sizeLine:=by
  obtain ⟨z,its,n,r,e⟩:=I.hok p _ h
  exact ⟨its,n,r,e,z⟩
theorem Inv.lstUpd {pins:List (Addr × Obj)} {σ:St} {H:Hp} {s:Shared} {p:Addr} {xs ys:List V} {its its' : List Value} {n n' : Nat} {f:Obj→Obj} (I:Inv X pins σ H s) (h:H p = some (.lst xs))
    (ho:s.heap.get? p = some { cls:=.type "list",data:=.seq its.toArray n }) (hf:f { cls:=.type "list",data:=.seq its.toArray n } = { cls:=.type "list",data:=.seq its'.toArray n' }) (r:Vals ys its') (hz:ys.length ≤ sizeLine) (t:Nat) :
    Inv X pins σ (upd H p (.lst ys)) { s with heap:=s.heap.update p f,toks:=t }:=by
  have e:(s.heap.update p f).get? p = some { cls:=.type "list",data:=.seq its'.toArray n' }:=by
    rw [Heap.get?_update_self f ho (by rw [hf] <;> rfl),hf]
  refine I.write (x:=p) (e:=p) (by rw [h]; trivial) (.inl rfl) (fun b u hb q=>(Heap.get?_update_other _ _ (Ne.symm hb)).trans q) ⟨_,e⟩ ?_
  exact ⟨hz,its',n',r,e⟩
def rSetL:V→V→V→Hp→(Hp→Prop)→Prop:=fun o i v H Q=>∃ p xs k j,o = .ref p∧i = .int k∧H p = some (.lst xs)∧ixN xs.length k = some j∧Q (upd H p (.lst (xs.set j v)))
theorem set_list:PSet X rSetL:=by
  intro pins s σ H o i v ov iv u Q I ro ri rv h
  obtain ⟨p,xs,k,j,rfl,rfl,hp,hj,q⟩:=h
  cases ro
  obtain ⟨t,rfl⟩:=ri
  obtain ⟨its,n,r,ho,hz⟩:=I.lst hp
  obtain ⟨h1,h2,h3,h4⟩:=ixN_seq hj
  have hl:=r.length
  have hn:=line63
  have I' : Inv X pins σ (upd H p (.lst (xs.set j v))) { s with heap:=s.heap.update p (Obj.mapSeq (·.setIfInBounds j u)) } :=
    I.lstUpd hp ho (mapSeq_set its n j u) (r.set rv j) (by rw [List.length_set]; exact hz) s.toks
  by_cases h0:0 ≤ k
  · have hk:k.toNat = j:=by
      rw [seqIndex_of h0 h4] at h1
      exact Option.some.inj h1
    exact PySem.W.ki_setAt ho h0 (by omega) (by rw [List.size_toArray,← hl]; exact h4) (by rw [hk]; exact ⟨_,I',q⟩)
  · have hk:(k + (its.toArray.size:Int)).toNat = j:=by
      rw [seqIndex_neg (by omega) h3] at h1
      rw [List.size_toArray,← hl]
      exact Option.some.inj h1
    exact PySem.W.ki_setBack ho (by omega) (by rw [List.size_toArray,← hl]; exact h3) (by omega) (by rw [hk]; exact ⟨_,I',q⟩)
theorem slice_bounds (lo hi:Option Int) (n:Nat):(sliceBounds lo hi none n).1 = ((HT.sIx n 0 lo:Nat):Int)∧(sliceBounds lo hi none n).2.1 = ((HT.sIx n n hi:Nat):Int)∧(sliceBounds lo hi none n).2.2 = 1:=by
  refine ⟨?_,?_,rfl⟩
  · cases lo with
    | none=>simp [sliceBounds,HT.sIx]
    | some i =>
      simp only [sliceBounds,HT.sIx,Option.getD_none,show (1:Int) > 0 by decide,if_true]
      by_cases h:i < 0
      · simp only [h,if_true] <;> omega
      · simp only [h,if_false] <;> omega
  · cases hi with
    | none=>simp [sliceBounds,HT.sIx]
    | some i =>
      simp only [sliceBounds,HT.sIx,Option.getD_none,show (1:Int) > 0 by decide,if_true]
      by_cases h:i < 0
      · simp only [h,if_true] <;> omega
      · simp only [h,if_false] <;> omega
theorem slicePick_cut (its:List Value) (lo hi:Option Int):slicePick its.toArray lo hi none = ((its.drop (HT.sIx its.length 0 lo)).take (HT.sIx its.length its.length hi - HT.sIx its.length 0 lo)).toArray:=by
  obtain ⟨h1,h2,h3⟩:=slice_bounds lo hi its.toArray.size
  unfold slicePick
  rw [h1,h2,h3]
  simp only [sliceRange_one,pick_run,List.size_toArray] <;> rfl
def rSlL (K:PySem.W.Frag):V→Option Int→Option Int→Hp→VK→Prop:=fun x lo hi H Q=>∃ a xs,x = .ref a∧SqL K H a xs∧∀ p,H p = none→Q (.ref p) (upd H p (.lst (cutV xs lo hi)))
theorem sl_list:SlR X (rSlL X.K):=by
  intro pins s σ H x v vl vu lo hi sl Q I rx hs pl pu h
  obtain ⟨a,xs,rfl,hx,q⟩:=h
  cases rx
  obtain ⟨its,r,ht,hz⟩:=I.list hx
  have hlen:=r.length
  refine ⟨"list",_,slot_list_getitem.lookup,ht.isList.typeIs,?_⟩
  refine wpAny_getItem_list_slice ht.isList hs pl pu .none (by simp) ?_ (by rw [List.size_toArray] <;> omega)
  rw [slicePick_cut,← hlen]
  refine ⟨.ref s.heap.objs.size,_,I.laid (t':=s.toks) (o:=.lst (cutV xs lo hi)) (fun b ob q=>Heap.get?_push_of_some _ q) (Nat.le_refl _) ?_,rfl,q _ (I.hok.fresh (Nat.le_refl _))⟩
  exact ⟨Nat.le_trans (cutV_length xs lo hi) hz,_,0,(r.drop (HT.sIx xs.length 0 lo)).take (HT.sIx xs.length xs.length hi - HT.sIx xs.length 0 lo),Heap.get?_push_size _ rfl⟩
def flatV:V→Bool
  | .non=>true
  | .bl _=>true
  | .int _=>true
  | .str _=>true
  | _=>false
def eqV:V→V→Bool
  | .non,.non=>true
  | .bl a,.bl b=>a == b
  | .bl a,.int b=>(if a then 1 else 0) == b
  | .int a,.bl b=>a == (if b then 1 else 0)
  | .int a,.int b=>a == b
  | .str a,.str b=>a == b
  | _,_=>false
theorem eqAt_V {A:Around} {s:Shared} {y x:V} {u v:Value} (ry:RelV y u) (rx:RelV x v) (fy:flatV y = true) (fx:flatV x = true):SeqAt.EqAt A s u v (eqV y x):=by
  cases y with
  | non =>
    cases ry
    cases x with
    | non=>cases rx; exact SeqAt.EqAt.same _
    | bl b=>cases rx; exact SeqAt.EqAt.none_bool b
    | int b=>obtain ⟨t,rfl⟩:=rx; exact SeqAt.EqAt.none_int b t
    | str b=>obtain ⟨t,rfl⟩:=rx; exact SeqAt.EqAt.none_str b t
    | _=>exact absurd (show false = true from fx) Bool.false_ne_true
  | bl a =>
    cases ry
    cases x with
    | non=>cases rx; exact SeqAt.EqAt.bool_none a
    | bl b=>cases rx; exact SeqAt.EqAt.bool_bool a b
    | int b=>obtain ⟨t,rfl⟩:=rx; exact SeqAt.EqAt.bool_int a b t
    | str b=>obtain ⟨t,rfl⟩:=rx; exact SeqAt.EqAt.bool_str a b t
    | _=>exact absurd (show false = true from fx) Bool.false_ne_true
  | int a =>
    obtain ⟨t',rfl⟩:=ry
    cases x with
    | non=>cases rx; exact SeqAt.EqAt.int_none a t'
    | bl b=>cases rx; exact SeqAt.EqAt.int_bool a t' b
    | int b=>obtain ⟨t,rfl⟩:=rx; exact SeqAt.EqAt.int_int a t' b t
    | str b=>obtain ⟨t,rfl⟩:=rx; exact SeqAt.EqAt.int_str a t' b t
    | _=>exact absurd (show false = true from fx) Bool.false_ne_true
  | str a =>
    obtain ⟨t',rfl⟩:=ry
    cases x with
    | non=>cases rx; exact SeqAt.EqAt.str_none a t'
    | bl b=>cases rx; exact SeqAt.EqAt.str_bool a t' b
    | int b=>obtain ⟨t,rfl⟩:=rx; exact SeqAt.EqAt.str_int a t' b t
    | str b=>obtain ⟨t,rfl⟩:=rx; exact SeqAt.EqAt.str_str a t' b t
    | _=>exact absurd (show false = true from fx) Bool.false_ne_true
  | _=>exact absurd (show false = true from fy) Bool.false_ne_true
def eqU (x:V) (u:Value):Bool:=match u with
  | .none=>eqV .non x
  | .bool b=>eqV (.bl b) x
  | .int i _=>eqV (.int i) x
  | .str z _=>eqV (.str z) x
  | _=>false
theorem eqU_of {x y:V} {u:Value} (r:RelV y u) (f:flatV y = true):eqU x u = eqV y x:=by
  cases y with
  | non=>cases r; rfl
  | bl b=>cases r; rfl
  | int i=>obtain ⟨t,rfl⟩:=r; rfl
  | str z=>obtain ⟨t,rfl⟩:=r; rfl
  | _=>exact absurd (show false = true from f) Bool.false_ne_true
theorem mem_eqAt {A:Around} {s:Shared} {x:V} {v:Value} (rx:RelV x v) (fx:flatV x = true):∀ {xs:List V} {us:List Value},Vals xs us→xs.all flatV = true→∀ u ∈ us,SeqAt.EqAt A s u v (eqU x u)
  | _,_,.nil,_=>fun u hu=>by cases hu
  | y :: xs,u :: us,.cons r t,f=>fun u' hu=>by
    rw [List.all_cons,Bool.and_eq_true] at f
    rcases List.mem_cons.mp hu with rfl | hu
    · rw [eqU_of r f.1]; exact eqAt_V r rx f.1 fx
    · exact mem_eqAt rx fx t f.2 u' hu
def inV (x:V) (xs:List V):Bool:=xs.any fun y=>eqV y x
def rIn (K:PySem.W.Frag) (neg:Bool):R2:=fun x y H Q=>∃ p xs,y = .ref p∧(SqL K H p xs∨SqT K H p xs)∧flatV x = true∧xs.all flatV = true∧Q (.bl (if neg then !inV x xs else inV x xs)) H
theorem call_len_seq:CallR X (.builtin "len") (fun xs H Q=>∃ p ys,xs = [.ref p]∧(SqL X.K H p ys∨SqT X.K H p ys)∧Q (.int ys.length) H):=by
  intro pins s σ H xs us Q I r h
  obtain ⟨p,ys,rfl,hq,q⟩:=h
  obtain ⟨u,rfl,rx⟩:=vals1 r
  cases rx
  have hn:=line63
  rcases hq with hq | hq
  · obtain ⟨its,r',pl,hz⟩:=I.list hq
    have hlen:=r'.length
    exact Calls.call_len_list pl.isList (by simp only [List.size_toArray] <;> omega) ⟨.int ys.length,H,I.tok _,⟨s.toks + 1,by rw [List.size_toArray,hlen]⟩,q⟩
  · obtain ⟨its,r',pl,hz⟩:=I.tuple hq
    have hlen:=r'.length
    exact len_tuple pl (by simp only [List.size_toArray] <;> omega) ⟨.int ys.length,H,I.tok _,⟨s.toks + 1,by rw [List.size_toArray,hlen]⟩,q⟩
theorem call_len_str:CallR X (.builtin "len") (fun xs H Q=>∃ z,xs = [.str z]∧z.length ≤ sizeLine∧Q (.int z.length) H):=by
  intro pins s σ H xs us Q I r h
  obtain ⟨z,rfl,hz,q⟩:=h
  obtain ⟨u,rfl,t,rfl⟩:=vals1 r
  have hn:=line63
  exact len_str (by omega) ⟨.int z.length,H,I.tok _,⟨_,rfl⟩,q⟩
theorem call_list_of:CallR X (.type "list") (fun xs H Q=>∃ p ys,xs = [.ref p]∧(SqL X.K H p ys∨SqT X.K H p ys)∧∀ l,H l = none→Q (.ref l) (upd H l (.lst ys))):=by
  intro pins s σ H xs us Q I r h
  obtain ⟨p,ys,rfl,hq,q⟩:=h
  obtain ⟨u,rfl,rx⟩:=vals1 r
  cases rx
  have fin:∀ (its:List Value),Vals ys its→ys.length ≤ sizeLine→∀ (h' : Heap) (c' : Nat),(∀ b o',s.heap.get? b = some o'→h'.get? b = some o') →
      h'.get? s.heap.objs.size = some { cls:=.type "list",dict:=none,data:=.seq its.toArray c',slots:=#[] }→EP X pins σ Q (.ref s.heap.objs.size) { s with heap:=h' }:=fun its r' hz h' c' kp e =>
    ⟨.ref s.heap.objs.size,_,I.laid (t':=s.toks) kp (Nat.le_refl _) (show ObjOk X.prog X.w _ h' _ (.lst ys) from ⟨hz,its,c',r',e⟩),rfl,q _ (I.hok.fresh (Nat.le_refl _))⟩
  rcases hq with hq | hq
  · obtain ⟨its,r',pl,hz⟩:=I.list hq
    have hlen:=r'.length
    obtain ⟨o,ho,hc,n,hd⟩:=pl.isList
    exact call_list_seq p (.inl rfl) ho hc hd (fun h' c' kp e=>fin its r' hz h' c' kp e) (by simp only [List.size_toArray] <;> omega)
  · obtain ⟨its,r',pl,hz⟩:=I.tuple hq
    have hlen:=r'.length
    obtain ⟨o,ho,hc,n,hd⟩:=pl
    exact call_list_seq p (.inr rfl) ho hc hd (fun h' c' kp e=>fin its r' hz h' c' kp e) (by simp only [List.size_toArray] <;> omega)
def tyV (K:PySem.W.Frag) (T:String) (x:V) (H:Hp):Prop:=match x with
  | .str _=>T = "str"
  | .int _=>T = "int"
  | .ref p=>(T = "list" ∧ ∃ xs,SqL K H p xs)∨(T = "tuple" ∧ ∃ o,K.lookup p = some o∧o.cls = .type "tuple" ∧ o.dict = none) ∨
      (T = "dict" ∧ ((∃ kvs,H p = some (.dK kvs))∨∃ kvs,H p = some (.dT kvs)))∨(T = "set" ∧ ∃ S n,H p = some (.set S n))
  | _=>False
theorem tyV_is {pins:List (Addr × Obj)} {σ:St} {H:Hp} {s:Shared} {T:String} {x:V} {v:Value} (I:Inv X pins σ H s) (r:RelV x v) (ty:tyV X.K T x H) :
    s.TypeIs v T∧∀ a,v = .ref a→∃ ob,s.heap.get? a = some ob∧ob.dict = none:=by
  cases x with
  | str z =>
    obtain ⟨t,rfl⟩:=r
    cases (show T = "str" from ty)
    exact ⟨typeIs_str s z t,fun _ e=>nomatch e⟩
  | int i =>
    obtain ⟨t,rfl⟩:=r
    cases (show T = "int" from ty)
    exact ⟨typeIs_int s i t,fun _ e=>nomatch e⟩
  | ref p =>
    cases r
    rcases ty with ⟨rfl,xs,hq⟩ | ⟨rfl,o,hk,hc,hd⟩ | ⟨rfl,hk⟩ | ⟨rfl,S,n,hk⟩
    · obtain ⟨its,_,pl,_⟩:=I.list hq
      refine ⟨pl.isList.typeIs,fun a e=>?_⟩
      cases e
      obtain ⟨o,n,e,c,hd,_⟩:=pl
      exact ⟨o,e,hd⟩
    · refine ⟨⟨o,I.kIn p o hk,hc⟩,fun a e=>?_⟩
      cases e
      exact ⟨o,I.kIn _ o hk,hd⟩
    · have z:∃ o,s.heap.get? p = some o∧o.ExactDict:=by
        rcases hk with ⟨kvs,hk⟩ | ⟨kvs,hk⟩
        · obtain ⟨_,_,_,_,o,_,_,e,ex,_⟩:=I.hok p _ hk
          exact ⟨o,e,ex⟩
        · obtain ⟨_,_,_,_,o,_,_,e,ex,_⟩:=I.hok p _ hk
          exact ⟨o,e,ex⟩
      obtain ⟨o,e,ex⟩:=z
      refine ⟨⟨o,e,ex.1⟩,fun a e2=>?_⟩
      cases e2
      exact ⟨o,e,ex.2.1⟩
    · obtain ⟨o,_,_,_,e,ex,_⟩:=I.hok p _ hk
      refine ⟨⟨o,e,ex.1⟩,fun a e2=>?_⟩
      cases e2
      exact ⟨o,e,ex.2.1⟩
  | _=>exact False.elim ty
def tBM0 (K:PySem.W.Frag) (T:String) (r:V→List V→Hp→VK→Prop) (to:TE):TE:=fun σ H Q=>to σ H fun x H1=>tyV K T x H1∧r x [] H1 Q
def tBM (K:PySem.W.Frag) (T:String) (r:V→List V→Hp→VK→Prop) (to:TE) (t:TA):TE:=fun σ H Q=>to σ H fun x H1=>tyV K T x H1∧t σ H1 fun xs H2=>r x xs H2 Q
variable {o e:Expr} {es:List Expr} {to:TE} {t:TA} {name:Str} {apos cpos:Pos} {T id:String} {r:V→List V→Hp→VK→Prop}
theorem pe_bm (pa:PlainAttrs T) (slot:Slot T name id) (hty:typeOf (.builtin id) = pure (.type "method_descriptor")) (hm:MtR X id r) (ho:PE X o to) (ha:PA X (e :: es) t)
    (hbase:attributeBase o name X.env (eval o X.env) = eval o X.env:=by rfl)
    (hfew:((backTo cpos (starEach (e :: es) X.env)).all (fun x=>!x.1) && (backToKw cpos (keywordEach [] X.env)).all (fun x=>x.1.isSome)
      && decide ((e :: es).length + ([]:List Keyword).length + (if ([]:List Keyword).isEmpty then 0 else 1) < 30)) = true:=by rfl)
    (hline:(apos.endLine == cpos.line) = true:=by rfl) (hs:starEach (e :: es) X.env = (false,eval e X.env) :: starEach es X.env:=by rfl) (hplain:(backTo cpos (starEach es X.env)).any (·.1) = false:=by rfl) :
    PE X (.Call (.Attribute o name apos) (e :: es) [] cpos) (tBM X.K T r to t):=by
  intro pins s σ H Q I h
  refine wpAny_Call_method_late hbase hfew hline rfl (thn (ho pins s σ H _ I h) fun v s1 ⟨x,H1,I1,r1,ty,q1⟩=>?_)
  obtain ⟨h1,h2⟩:=tyV_is I1 r1 ty
  refine ⟨T,id,pa,slot,hty,h1,h2,?_⟩
  have hA:=ha cpos pins s1 σ H1 _ I1 q1
  rw [hs] at hA ⊢
  refine Calls.callWith_builtin (by show (false || (backTo cpos (starEach es X.env)).any (·.1)) = false; rw [hplain] <;> rfl) (Calls.evalArgs_plain ?_)
  exact thn hA fun us s2 ⟨vs,H2,I2,r2,q2⟩=>hm pins s2 σ H2 x vs v us Q I2 r1 r2 q2
end
end L2
namespace L2
open PySem PySem.Spec PyProof.Rows
def MtM (X:Cx) (id:String) (r:V→List V→Hp→VK→Prop):Prop :=
  ∀ (pins:List (Addr × Obj)) (s:Shared) (σ:St) (H:Hp) (x:V) (xs:List V) (v:Value) (us:List Value) (Q:VK),Inv X pins σ H s→RelV x v→Vals xs us→r x xs H Q →
    wpAny (model X.prog X.w) X.A (call (.builtin id) (v :: us)) (EP X pins σ Q) X.xe s
theorem Vals.one:∀ {x:V} {us:List Value},Vals [x] us→∃ u,us = [u]∧RelV x u
  | _,_,.cons r .nil=>⟨_,rfl,r⟩
theorem Vals.two:∀ {x y:V} {us:List Value},Vals [x,y] us→∃ u v,us = [u,v]∧RelV x u∧RelV y v
  | _,_,_,.cons r (.cons q .nil)=>⟨_,_,rfl,r,q⟩
section
variable {X:Cx} {pins:List (Addr × Obj)} {σ:St} {H:Hp} {s:Shared} {l b:Addr} {xs ys zs:List V}
theorem Inv.lset {its its' : List Value} {n:Nat} {f:Array Value→Array Value} {t' : Nat} (I:Inv X pins σ H s) (hH:H l = some (.lst xs))
    (e:s.heap.get? l = some { cls:=.type "list",data:=.seq its.toArray n }) (hf:f its.toArray = its'.toArray) (hv:Vals ys its') (hz:ys.length ≤ sizeLine) :
    Inv X pins σ (upd H l (.lst ys)) { s with heap:=s.heap.update l (Obj.mapSeq f),toks:=t' }:=by
  have q:=PySem.IsL.update e f
  rw [hf] at q
  refine I.write (x:=l) (e:=l) (by rw [hH]; exact trivial) (.inl rfl) (fun b' u hb hu=>(Heap.get?_update_other s.heap (Obj.mapSeq f) (Ne.symm hb)).trans hu) ⟨_,q⟩ ?_
  exact ⟨hz,its',_,hv,q⟩
theorem Inv.lnew {its:List Value} {t' : Nat} (I:Inv X pins σ H s) (hv:Vals ys its) (hz:ys.length ≤ sizeLine) :
    Inv X pins σ (upd H s.heap.objs.size (.lst ys)) { s with heap:=s.heap.push { cls:=.type "list",data:=.seq its.toArray },toks:=t' } :=
  I.laid (fun _ _ q=>Heap.get?_push_of_some _ q) (Nat.le_refl _) ⟨hz,its,0,hv,Heap.get?_push_size _ rfl⟩
theorem Inv.fresh (I:Inv X pins σ H s):H s.heap.objs.size = none:=I.hok.fresh (Nat.le_refl _)
theorem Inv.lstM (I:Inv X pins σ H s) (hH:H l = some (.lst xs)):xs.length ≤ sizeLine∧∃ (its:List Value) (n:Nat),Vals xs its∧xs.length = its.length∧s.heap.get? l = some { cls:=.type "list",data:=.seq its.toArray n }:=by
  obtain ⟨z,its,n,r,e⟩:=I.hok l _ hH
  exact ⟨z,its,n,r,r.length,e⟩
end
section
variable {X:Cx}
def rAppend:V→List V→Hp→VK→Prop:=fun x vs H Q=>∃ l xs y,x = .ref l∧vs = [y]∧H l = some (.lst xs)∧xs.length < sizeLine∧Q .non (upd H l (.lst (xs ++ [y])))
theorem mt_append:MtM X "list.append" rAppend:=by
  intro pins s σ H x vs v us Q I rx rv h
  obtain ⟨l,xs,y,rfl,rfl,hH,hz,q⟩:=h
  cases rx
  obtain ⟨u,rfl,ru⟩:=rv.one
  obtain ⟨z,its,n,r,hl,e⟩:=I.lstM hH
  refine call_meets F.slot_list_append ⟨_,e,rfl⟩ F.entry_list_append (F.args_list_append_2 _ _) (PySem.list_append l its.toArray n u (by rw [List.size_toArray]; omega)) ⟨e,?_⟩
  refine ⟨.non,_,I.lset (its':=its ++ [u]) hH e (by simp) (r.append (.cons ru .nil)) ?_,rfl,q⟩
  rw [List.length_append,List.length_singleton]
  omega
def rExtend:V→List V→Hp→VK→Prop:=fun x vs H Q=>∃ l b xs zs,x = .ref l∧vs = [.ref b]∧H l = some (.lst xs)∧H b = some (.lst zs)∧xs.length + zs.length ≤ sizeLine∧Q .non (upd H l (.lst (xs ++ zs)))
def rPop:V→List V→Hp→VK→Prop:=fun x vs H Q=>∃ l xs y,x = .ref l∧vs = []∧H l = some (.lst xs)∧xs[xs.length - 1]? = some y∧Q y (upd H l (.lst xs.dropLast))
def rPopAt:V→List V→Hp→VK→Prop:=fun x vs H Q=>∃ l xs i k y,x = .ref l∧vs = [.int i]∧H l = some (.lst xs)∧-(2 ^ 63) ≤ i∧i < 2 ^ 63∧seqIndex? i xs.length = some k∧xs[k]? = some y∧Q y (upd H l (.lst (xs.eraseIdx k)))
def rReverse:V→List V→Hp→VK→Prop:=fun x vs H Q=>∃ l xs,x = .ref l∧vs = []∧H l = some (.lst xs)∧Q .non (upd H l (.lst xs.reverse))
def rClear:V→List V→Hp→VK→Prop:=fun x vs H Q=>∃ l xs,x = .ref l∧vs = []∧H l = some (.lst xs)∧Q .non (upd H l (.lst []))
def rCat:R2:=fun x y H Q=>∃ l b xs zs,x = .ref l∧y = .ref b∧H l = some (.lst xs)∧H b = some (.lst zs)∧xs.length + zs.length ≤ sizeLine∧∀ p,H p = none→Q (.ref p) (upd H p (.lst (xs ++ zs)))
theorem op_cat:OpR X (binaryOp .Add) rCat:=by
  intro pins s σ H x y v u Q I rx ry h
  obtain ⟨l,b,xs,zs,rfl,rfl,hH,hB,hz,q⟩:=h
  cases rx
  cases ry
  obtain ⟨z,its,n,r,hl,e⟩:=I.lstM hH
  obtain ⟨z2,its2,n2,r2,hl2,e2⟩:=I.lstM hB
  refine PySem.P.add_list e e2 ?_ (by rw [List.size_toArray,List.size_toArray]; omega)
  have ea:its.toArray ++ its2.toArray = (its ++ its2).toArray:=by simp
  rw [ea]
  exact ⟨.ref _,_,I.lnew (t':=s.toks) (r.append r2) (by rw [List.length_append]; omega),rfl,q _ I.fresh⟩
def rRep:R2:=fun x y H Q=>∃ l k xs,x = .ref l∧y = .int k∧H l = some (.lst xs)∧-(2 ^ 63) ≤ k∧k < 2 ^ 63∧xs.length * k.toNat ≤ sizeLine ∧
  ∀ p,H p = none→Q (.ref p) (upd H p (.lst (List.replicate k.toNat xs).flatten))
end
section
variable {prog:Program} {w:World} {A:Around} {E:Value→Shared→Prop} {s:Shared}
end
section
variable {X:Cx}
end
end L2
namespace Att
open PySem PySem.W PySem.Calls PyProof.Rows
theorem ints_of_wellAll {P:Params} {h:Heap} : ∀ (ns:List Int) (vs:List Value),WellAll P h vs (ns.map WData.int)→IntsAre vs ns:=by
  intro ns
  induction ns with
  | nil =>
    intro vs w
    rw [List.map_nil] at w
    cases w
    exact .nil
  | cons n ns ih =>
    intro vs w
    rw [List.map_cons] at w
    cases w with
    | cons a b =>
      cases a
      exact .cons _ _ (ih _ b)
theorem script_of {l:OpenLaw} {n:Nat} (hn:l.most = some n) {P:Params} {h:Heap} {args:List WData} {vals:List Value}
    (hpre:l.row.toRowW.claim.pre args = true) (hwl:WellAll P h vals args) :
    ∃ a vs ns,vals = [Value.ref a]∧args = [WData.list (ns.map WData.int)]∧h.get? a = some { cls:=.type "list",data:=.seq vs.toArray }∧IntsAre vs ns∧ns.length ≤ n:=by
  have hsh:WShape.hasAll [] args [.list .int] = true:=(pre_splitW hpre).1
  have hc:l.pre.holds [] { args:=args } = true:=(pre_splitW hpre).2
  obtain ⟨d,r,rfl,h1,h2⟩:=hasAllW_cons hsh
  obtain rfl:=hasAllW_nil h2
  obtain ⟨xs,rfl,h3⟩:=hasW_list h1
  obtain ⟨ns,rfl⟩:=items_int h3
  have hlen:ns.length ≤ n:=by
    unfold OpenLaw.pre at hc
    have h4:(WTm.not (.lt (.lit (.int (n:Int))) (.len (.arg 0)))).holds [] { args:=[.list (ns.map .int)] } = true:=by
      have h4:=(holds_andW hc).1
      rw [hn] at h4
      exact h4
    have h5:=condW_of h4 (w_not (w_lt w_lit (w_len_list (w_arg rfl))))
    rw [List.length_map] at h5
    refine Nat.le_of_not_lt fun q=>?_
    have q' : (n:Int) < ((ns.length:Nat):Int):=by omega
    first
      | (rw [decide_eq_true q'] at h5; exact absurd h5 (by decide))
      | (simp at h5; omega)
  cases hwl with
  | cons w1 w2 =>
    cases w2
    cases w1 with
    | list ho hall=>exact ⟨_,_,ns,rfl,rfl,ho,ints_of_wellAll ns _ hall,hlen⟩
theorem post_true (l:OpenLaw) (args:List WData):l.row.toRowW.claim.post args (.bool true) args = true :=
  postW_of (r:=l.row.toRowW) (X:=(true == true))
    (show WShape.has [] (.bool true) .bool = true by first | rfl | decide | simp [WShape.has,WShape.arms,WShape.armsAll])
    (show (WTm.eq .res (.lit (.bool true))).value [] { args:=args,res:=some (.bool true),after:=args } = some (.bool (true == true)) from w_eq_bool (w_res rfl) w_lit) rfl
theorem attach_call {l:OpenLaw} {n:Nat} {q:Program} {loose:List Str} {XP:(Str→Option Value)→Heap→Prop} {YP:World→Heap→Prop} {d:DefRec}
    (hn:l.most = some n) (hdf:d.params.defaults = [])
    (call:∀ (w:World) (s₀ s₁:Shared) (mg mb:Str→Option Value) (fa:Addr) (o:Obj) (pm cd doc:Value) (a:Addr) (vs:List Value) (ns:List Int),
      Ground q loose [] XP w s₀ mg mb s₁.heap→YP w s₁.heap →
      s₁.heap.get? fa = some o→o.data = .func (docDef d.name d.params d.body d.scope pm cd doc)→s₁.heap.CodeRec cd d.name→mg d.name = some (.ref fa) →
      s₁.heap.get? a = some { cls:=.type "list",data:=.seq vs.toArray }→IntsAre vs ns→ns.length ≤ n→s₁.gens = #[] →
      codeAny (model l.prog w) callerA (.call (.ref fa) ⟨[.ref a],[]⟩) (fun r s'=>r = .ok (.ret (.bool true))∧OldK s₁.heap s'.heap∧s'.os = s₁.os∧AllBare s'.gens) s₁) :
    WalkO q loose XP YP l.row.toRowW d [] (fun f vs=>PySem.call f vs):=by
  intro w s₀ s₁ mg mb G Y fa o pm cd doc dV kV ho hd hcd hD hmg hg args vals as hpre hlay hrd hwl hlo
  obtain rfl:dV = .none:=Dflts.none hD hdf
  obtain rfl:kV = .none:=Dflts.noKw hD
  obtain ⟨a,vs,ns,rfl,rfl,hobj,hints,hlen⟩:=script_of hn hpre hwl
  refine enter_call (codeAny_mono (call w s₀ s₁ mg mb fa o pm cd doc a vs ns G Y ho (fd_plain hd) hcd hmg hobj hints hlen hg) fun r s' hq=>?_)
  obtain ⟨rfl,h2,h3,h4⟩:=hq
  exact ⟨.inl ⟨.bool true,.bool true,[],rfl,fun _=>rfl,.bool true,post_true l _,fun _=>⟨List.Pairwise.nil,fun _ hm=>(nomatch hm)⟩⟩,h2,h3,h4⟩
section
variable {prog:Program} {w:World} {A:Around} {E:Value→Shared→Prop} {s:Shared} {K:Frag}
def noObjs (h:Heap):Heap:={ h with objs:=#[] }
def ledger (h:Heap) (L d:Addr):List (Addr × Obj):=(List.range h.objs.size).filterMap fun a=>if a = L∨a = d then none else (h.get? a).map fun o=>(a,o)
end
end Att
namespace L2
open PySem PySem.Spec PyProof.Rows
theorem vals_ints:∀ {vs:List Value} {ns:List Int},IntsAre vs ns→Vals (ns.map V.int) vs
  | _,_,.nil=>.nil
  | _,_,.cons n t h=>.cons ⟨t,rfl⟩ (vals_ints h)
def Only (H:Hp):Prop:=∀ b,H b = none∨∃ o xs,H b = some (.frz o (.lst xs))
theorem law_call {P:Program} {w:World} {K:PySem.W.Frag} {mg mb:Str→Option Value} {CX:CXT} {k:Nat} {fa a:Addr} {fd:FuncData} {x:Str} {sp:Sp} {s₁:Shared} {vs:List Value} {ns:List Int}
    (KX:K.In s₁.heap) (hns:s₁.heap.Ns mainGlobals mg) (hb:s₁.heap.Ns builtinsNs mb) (hbb:∀ x:Str,x ≠ "__name__" → mb x = bootBuiltins x) (hlim:s₁.heap.NoLimit) (hg:s₁.gens = #[])
    (ha:s₁.heap.get? a = some { cls:=.type "list",data:=.seq vs.toArray }) (hi:IntsAre vs ns) (hl:ns.length ≤ sizeLine) (hr:Room k callerA)
    (F:∀ base:Heap,K.In base→base.Ns mainGlobals mg→FnOk P w K mg base CX k fa fd [x] sp) (hbind:∀ (s:Shared) (u:Value),BindsTo s fd ⟨[u],[]⟩ [(x,u)])
    (hsp:∀ H:Hp,Only H→SqL K H a (ns.map V.int)→sp [.ref a] H (fun v _=>v = .bl true) fun _ _ _=>False)
    (hCX:∀ H e s',CX [] H s₁ (fun _ _ _=>False) e s'→False) :
    codeAny (model P w) callerA (.call (.ref fa) ⟨[.ref a],[]⟩) (fun r s'=>r = .ok (.ret (.bool true))∧OldK s₁.heap s'.heap∧s'.os = s₁.os∧AllBare s'.gens) s₁:=by
  have rv:=vals_ints hi
  have lenV:=hi.length
  have core:∀ H:Hp,Only H→SqL K H a (ns.map V.int)→HOk P w H s₁.heap→(∀ b,H b ≠ none→b = a)→(H a ≠ none→K.lookup a = none) →
      codeAny (model P w) callerA (.call (.ref fa) ⟨[.ref a],[]⟩) (fun r s'=>r = .ok (.ret (.bool true))∧OldK s₁.heap s'.heap∧s'.os = s₁.os∧AllBare s'.gens) s₁:=by
    intro H hO hS hok hA hK
    have base_of:∀ {b:Addr} {o:Obj},s₁.heap.get? b = some o→H b = none→(hidT s₁.heap H).get? b = some o:=fun e n=>hidT_get e n
    have noA:∀ {b:Addr} {o:Obj} {es:Array DictEntry} {ep:Nat},s₁.heap.get? b = some o→o.data = .dict es ep→H b = none:=fun {b o es ep} e d=>by
      cases q:H b with
      | none=>rfl
      | some u =>
        have e' : b = a:=hA b (by rw [q]; simp)
        subst e'
        rw [ha] at e; cases e
        have d' : Data.seq vs.toArray _ = Data.dict es ep:=d
        cases d'
    have nsK:∀ {b:Addr} {m:Str→Option Value},s₁.heap.Ns b m→(hidT s₁.heap H).Ns b m:=fun {b m} ⟨o,es,ep,e,d,r⟩=>⟨o,es,ep,base_of e (noA e d),d,r⟩
    have hKb:K.In (hidT s₁.heap H):=fun b o e=>base_of (KX b o e) (by
      cases q:H b with
      | none=>rfl
      | some u =>
        have e' : b = a:=hA b (by rw [q]; simp)
        subst e'
        rw [hK (by rw [q]; simp)] at e; cases e)
    have hM:Mod K mg (hidT s₁.heap H):=⟨hKb,nsK hns,⟨mb,nsK hb,hbb⟩,let ⟨mc,h1,h2⟩:=hlim; ⟨mc,nsK h1,h2⟩⟩
    have e0:Env0 P w K mg (hidT s₁.heap H) callerA [] s₁ H:=⟨rfl,hM,fun b o e=>of_hidT e,Nat.le_of_eq (hidT_size _ _),trivial,fun b hb=>absurd (show b ∈ ([]:List Addr) from hb) (by simp),hok,.of_eq hg⟩
    refine codeAny_mono ((F _ hKb (nsK hns)).run callerA [] s₁ H ⟨[.ref a],[]⟩ [.ref a] [.ref a] _ _ hr e0 (hbind s₁ (.ref a)) (.cons rfl .nil) (hsp H hO hS)) fun r s' h=>?_
    cases r with
    | error e=>exact (hCX H e s' h).elim
    | ok fl =>
      cases fl with
      | next=>exact False.elim h
      | brk=>exact False.elim h
      | cont=>exact False.elim h
      | ret u =>
        obtain ⟨v,H',os,bare,un,hok',r',q⟩:=h
        have q' : v = .bl true:=q
        subst q'
        obtain rfl:u = Value.bool true:=r'
        refine ⟨rfl,OldK.of_keep fun b o e=>?_,os,bare⟩
        cases q:H b with
        | none=>exact un.keep b o e q (by intro z; exact absurd (show b ∈ ([]:List Addr) from z) (by simp)) (by simp)
        | some u =>
          rcases hO b with z | ⟨ob,xs,z⟩
          · rw [q] at z; cases z
          · have z2:=un.frzs b ob _ z
            obtain ⟨e1,_⟩:=hok b _ z
            obtain ⟨e2,_⟩:=hok' b _ z2
            rw [e] at e1; cases e1
            exact e2
  cases hk:K.lookup a with
  | some o =>
    have e:=KX a o hk
    rw [ha] at e
    cases e
    refine core (fun _=>none) (fun _=>.inl rfl) (.inr ⟨_,vs.toArray,_,hk,rfl,rfl,rfl,by rw [List.size_toArray,lenV]; exact hl,by simpa using rv⟩) (fun b u z=>by have z' : (none:Option HO) = some u:=z; cases z') (fun b z=>absurd rfl z) fun z=>absurd rfl z
  | none =>
    refine core (fun b=>if b = a then some (.frz { cls:=.type "list",data:=.seq vs.toArray } (.lst (ns.map V.int))) else none) (fun b=>?_) (.inl (.inr ⟨{ cls:=.type "list",data:=.seq vs.toArray },if_pos rfl⟩)) (fun b u z=>?_) (fun b z=>?_) fun _=>hk
    · by_cases hb:b = a
      · exact .inr ⟨_,_,if_pos hb⟩
      · exact .inl (if_neg hb)
    · by_cases hb:b = a
      · have z':=(if_pos hb).symm.trans z
        cases z'
        subst hb
        exact ⟨ha,by rw [List.length_map]; exact hl,vs,_,rv,ha⟩
      · have z':=(if_neg hb).symm.trans z
        cases z'
    · by_cases hb:b = a
      · exact hb
      · exact absurd (if_neg hb) z
end L2
namespace L2
open PySem PySem.Spec PyProof.Rows
abbrev KOf {K:PySem.W.Frag} {h:Heap} (_:K.In h):PySem.W.Frag:=K
theorem walk_of {l:PySem.W.OpenLaw} {n k:Nat} {q:Program} {loose:List Str} {XP:(Str→Option Value)→Heap→Prop} {YP:World→Heap→Prop} {d:DefRec} {K:Params→PySem.W.Frag} {CX:World→CXT} {sp:World→Sp} {x:Str}
    (hn:l.most = some n) (hn2:n ≤ sizeLine) (hdf:d.params.defaults = []) (hr:Room k callerA)
    (hY:∀ (w:World) (h:Heap),YP w h→(K w.params).In h)
    (F:∀ (w:World) (mg:Str→Option Value) (fa:Addr) (h:Heap),(K w.params).In h→h.Ns mainGlobals mg→mg d.name = some (.ref fa) →
      ∃ fd:FuncData,(∀ (s:Shared) (u:Value),BindsTo s fd ⟨[u],[]⟩ [(x,u)]) ∧
        ∀ base:Heap,(K w.params).In base→base.Ns mainGlobals mg→FnOk l.prog w (K w.params) mg base (CX w) k fa fd [x] (sp w))
    (hsp:∀ (w:World) (H:Hp) (a:Addr) (ns:List Int),ns.length ≤ n→Only H→SqL (K w.params) H a (ns.map V.int)→sp w [.ref a] H (fun v _=>v = .bl true) fun _ _ _=>False)
    (hCX:∀ (w:World) (H:Hp) (s:Shared) (e:Value) (s' : Shared),CX w [] H s (fun _ _ _=>False) e s'→False) :
    PySem.W.WalkO q loose XP YP l.row.toRowW d [] (fun f vs=>PySem.call f vs):=by
  refine Att.attach_call hn hdf fun w s₀ s₁ mg mb fa o pm cd doc a vs ns G Y ho hd hcd hmg hobj hints hlen hg=>?_
  have KX:=hY w _ Y
  obtain ⟨fd,hb,hF⟩:=F w mg fa _ KX G.T.g hmg
  exact law_call KX G.T.g G.T.b G.T.builtins G.T.nolimit hg hobj hints (Nat.le_trans hlen hn2) hr hF hb (fun H hO hS=>hsp w H a ns hlen hO hS) fun H e s'=>hCX w H s₁ e s'
end L2
namespace L2
open PySem PySem.Spec PyProof.Rows
def inClass (s:Stmt) (j:Nat):Stmt:=match s with
  | .ClassDef _ _ _ body _ _ _ _ _ _ _=>body.getD j (.Pass ⟨0,0,0,0⟩)
  | _=>.Pass ⟨0,0,0,0⟩
def defArgs (s:Stmt):Arguments:=match s with
  | .FunctionDef _ a _ _ _ _ _ _ _ _=>a
  | _=>{ posonlyargs:=[],args:=[],vararg:=none,kwonlyargs:=[],kw_defaults:=[],kwarg:=none,defaults:=[] }
def defBody (s:Stmt):List Stmt:=match s with
  | .FunctionDef _ _ b _ _ _ _ _ _ _=>b
  | _=>[]
def defScope (s:Stmt):Scope:=match s with
  | .FunctionDef _ _ _ _ _ _ sc _ _ _=>sc
  | _=>{ kind:=.function,names:=[],isGenerator:=false,isCoroutine:=false }
abbrev CX0:CXT:=fun _ _ _ _ _ _=>False
abbrev E0:XK:=fun _ _ _=>False
theorem pass0 {X:Cx} : Passes CX0 X E0:=fun _ _ _ _ _ _ _ h=>h.elim
structure Fun (K:PySem.W.Frag) (x qual:Str) (st:Stmt) (f:Addr) (fd:FuncData):Prop where
  ex:∃ (oc:Value) (od:Option Addr) (kV doc pm:Value) (an:Option Addr) (cdv ct:Value) (osl:Array (Option Value)),
    fd = PySem.W.fnOf x qual (defArgs st) (defBody st) (defScope st) .none kV doc pm an cdv ct∧K.lookup f = some ⟨oc,od,.func fd,osl⟩∧PySem.W.codeIn K cdv qual = true
  kp:PySem.W.keepIn K (.ref f) = true
section
variable {P:Program} {w:World} {K:PySem.W.Frag} {mg:Str→Option Value} {base:Heap}
theorem Fun.ok {x qual:Str} {st:Stmt} {f:Addr} {fd:FuncData} {N ps:List Str} {k:Nat} {sp:Sp} (F:Fun K x qual st f fd) (S:FnScope N ps (defScope st)) (len:∀ vs H Q E,sp vs H Q E→vs.length = ps.length)
    (hbody:∀ (cdv:Value) (A:Around) (outer:List Env) (s:Shared) (H:Hp) (vs:List V) (Q:VK) (E:XK),Room k (A.deeper (envOfC qual (defScope st) s.heap.objs.size f cdv))→sp vs H Q E →
      ∃ t,PSs (cxOf CX0 P w K mg base N qual (defScope st) f cdv A outer s H E).nox (defBody st) t∧t { nx:=fun _ H'=>Q .non H',rt:=Q } (start N vs) H):FnOk P w K mg base CX0 (k + 1) f fd ps sp:=by
  obtain ⟨oc,od,kV,doc,pm,an,cdv,ct,osl,rfl,lk,hcd⟩:=F.ex
  refine fn_of lk hcd S len fun A outer s H vs Q E hr hsp=>?_
  obtain ⟨t,h,q⟩:=hbody cdv A outer s H vs Q E hr hsp
  exact ⟨t,h.nox,q⟩
theorem Fun.binds {x qual:Str} {st:Stmt} {f:Addr} {fd:FuncData} {ps:List Str} (F:Fun K x qual st f fd)
    (h:∀ (kV doc pm:Value) (an:Option Addr) (cdv ct:Value) (us:List Value),us.length = ps.length→bindArgs (PySem.W.fnOf x qual (defArgs st) (defBody st) (defScope st) .none kV doc pm an cdv ct) ⟨us,[]⟩ = pure (ps.zip us)):Binds K fd ps []:=by
  obtain ⟨oc,od,kV,doc,pm,an,cdv,ct,osl,rfl,lk,hcd⟩:=F.ex
  exact .all (h kV doc pm an cdv ct)
theorem fun_mk {x qual:Str} {st:Stmt} {f:Addr} {oc:Value} {od an:Option Addr} {osl:Array (Option Value)} {kV doc pm cdv ct:Value} (l:K.lookup f = some ⟨oc,od,.func (PySem.W.fnOf x qual (defArgs st) (defBody st) (defScope st) .none kV doc pm an cdv ct),osl⟩)
    (c:PySem.W.codeIn K cdv qual = true) (k:PySem.W.keepIn K (.ref f) = true):Fun K x qual st f (PySem.W.fnOf x qual (defArgs st) (defBody st) (defScope st) .none kV doc pm an cdv ct):=⟨⟨oc,od,kV,doc,pm,an,cdv,ct,osl,rfl,l,c⟩,k⟩
end
theorem small1000 {n:Nat} (h:n ≤ 1000):n < sizeLine:=Nat.lt_of_le_of_lt h (by decide)
section
variable {X:Cx}
theorem pv (i:Nat) {x:Str} {pos:Pos} (hN:X.N[i]? = some x:=by rfl) (hv:Vis X.env.scope x:=by first | exact Or.inl rfl | exact Or.inr (Or.inl rfl) | exact Or.inr (Or.inr rfl)) (hd:(x == ("__debug__" : Str)) = false:=by decide)
    (hcd:(x == ("__classdict__" : Str)) = false:=by decide):PE X (.Name x pos) (tVar i):=pe_var hN hv hd hcd
end
theorem iteF {A B:Prop} (h:B):if false = true then A else B:=by
  rw [if_neg Bool.false_ne_true]
  exact h
theorem iteT {A B:Prop} (h:A):if true = true then A else B:=by
  rw [if_pos rfl]
  exact h
theorem ite2 {c A B:Prop} [Decidable c] (h1:c→A) (h2:¬ c→B):if c then A else B:=by
  by_cases h:c
  · rw [if_pos h]
    exact h1 h
  · rw [if_neg h]
    exact h2 h
theorem iteNS {c A B:Prop} [Decidable c] (hc:c) (h:B):if (!decide c) = true then A else B:=by
  rw [decide_eq_true hc]
  exact iteF h
def Same (H H' : Hp):Prop:=∀ b o,H b = some o→H' b = some o
theorem Same.refl (H:Hp):Same H H:=fun _ _ h=>h
theorem Same.trans {H H1 H2:Hp} (a:Same H H1) (b:Same H1 H2):Same H H2:=fun c o h=>b c o (a c o h)
theorem Same.free {H H' : Hp} (e:Same H H') {l:Addr} (h:H' l = Option.none):H l = Option.none:=by
  cases q:H l with
  | none=>rfl
  | some o =>
    rw [e l o q] at h
    cases h
theorem Same.seq {K:PySem.W.Frag} {H H' : Hp} {a:Addr} {xs:List V} (e:Same H H') (h:SqL K H a xs):SqL K H' a xs:=by
  rcases h with (h | ⟨o,h⟩) | h
  · exact .inl (.inl (e _ _ h))
  · exact .inl (.inr ⟨o,e _ _ h⟩)
  · exact .inr h
end L2
set_option maxHeartbeats 4000000
namespace L2
abbrev Pr:=Int × Int
def inR (n:Int) (p:Pr):Bool:=decide (p.1 ≤ n) && decide (n ≤ p.2)
def inP (ps:List Pr) (n:Int):Bool:=ps.any (inR n)
structure Apart (R:List Pr):Prop where
  le:∀ p ∈ R,p.1 ≤ p.2
  gap:R.Pairwise fun p q=>p.2 + 2 ≤ q.1
structure TidI (R qs:List Pr):Prop where
  ap:Apart R
  mem:∀ n,inP R n = inP qs n
  cov:∀ p ∈ qs,p.1 ≤ p.2→∃ r ∈ R,r.1 ≤ p.1∧p.2 ≤ r.2
  low:∀ r ∈ R,∃ q ∈ qs,r.1 = q.1
end L2
namespace L2
open PySem PySem.Spec PyProof.Rows
def Callee (P:Program) (w:World) (K:PySem.W.Frag) (mg:Str→Option Value) (base:Heap) (k:Nat) (x:Str) (ps:List Str) (sp:Sp):Prop :=
  ∃ f fd,FnOk P w K mg base CX0 k f fd ps sp∧Binds K fd ps []∧PySem.W.keepIn K (.ref f) = true∧mg x = some (.ref f)
theorem Callee.mono {P:Program} {w:World} {K:PySem.W.Frag} {mg:Str→Option Value} {base:Heap} {j k:Nat} {x:Str} {ps:List Str} {sp:Sp} (C:Callee P w K mg base j x ps sp) (h:j ≤ k):Callee P w K mg base k x ps sp :=
  let ⟨f,fd,F,r⟩:=C
  ⟨f,fd,F.mono h,r⟩
section
variable {X:Cx} {k:Nat} {x:Str} {ps:List Str} {sp:Sp} {e:Expr} {es:List Expr} {t:TA} {p pos:Pos}
def tFn (sp:Sp) (t:TA):TE:=fun σ H Q=>t σ H fun vs H1=>sp vs H1 Q E0
theorem pe_fn (C:Callee X.prog X.w X.K X.mg X.base k x ps sp) (hr:Room k X.A) (hg:Gl X x) (ha:PA X (e :: es) t) (hdb:(x == ("__debug__" : Str)) = false:=by decide)
    (he:starEach (e :: es) X.env = (false,eval e X.env) :: starEach es X.env:=by rfl) (hpl:(backTo pos (starEach es X.env)).any (·.1) = false:=by rfl):PE X (.Call (.Name x p) (e :: es) [] pos) (tFn sp t):=by
  obtain ⟨f,fd,F,b,kk,m⟩:=C
  have h:=pe_call (E:=E0) (dvs:=[]) (ds:=[]) (p:=p) F hr hg m kk b .nil pass0 ha hdb he hpl
  intro pins s σ H Q I q
  refine h pins s σ H Q I ?_
  have q' : t σ H fun vs H1=>sp vs H1 Q E0:=q
  have e1:(fun (vs:List V) (H1:Hp)=>sp (vs ++ []) H1 Q E0) = fun vs H1=>sp vs H1 Q E0:=by
    funext vs H1
    rw [List.append_nil]
  show t σ H fun vs H1=>sp (vs ++ []) H1 Q E0
  rw [e1]
  exact q'
end
def tCut (t u:TS):TS:=fun D σ H=>∃ M:St→Hp→Prop,t { D with nx:=M } σ H∧∀ σ' H',M σ' H'→u D σ' H'
theorem pss_cut {X:Cx} {st:Stmt} {rest:List Stmt} {t u:TS} (h1:PS X st t) (h2:PSs X rest u):PSs X (st :: rest) (tCut t u):=by
  intro pins s σ H D I ⟨M,a,b⟩
  refine wpAny_execs_cons (thn (h1 pins s σ H { D with nx:=M } I a) fun fl s1 q=>?_)
  cases fl with
  | next=>obtain ⟨σ',H',I',q⟩:=q; exact h2 pins s1 σ' H' D I' (b σ' H' q)
  | ret v=>exact q
  | brk=>exact q
  | cont=>exact q
section
variable {X:Cx}
end
inductive EqI (K:PySem.W.Frag) (H:Hp):V→V→Bool→Prop where
  | flat {x y:V} (fx:flatV x = true) (fy:flatV y = true):EqI K H x y (eqV x y)
  | same (a:Addr):EqI K H (.ref a) (.ref a) true
  | tup {a b:Addr} {xs ys:List V} (ha:SqT K H a xs) (hb:SqT K H b ys) (fx:xs.all flatV = true) (fy:ys.all flatV = true):EqI K H (.ref a) (.ref b) (decide (xs.length = ys.length) && (List.zipWith eqV xs ys).all id)
theorem eqV_refl:∀ {x:V},flatV x = true→eqV x x = true
  | .non,_=>rfl
  | .bl b,_=>by simp [eqV]
  | .int i,_=>by simp [eqV]
  | .str z,_=>by simp [eqV]
theorem eqAll_refl:∀ {xs:List V},xs.all flatV = true→(List.zipWith eqV xs xs).all id = true
  | [],_=>rfl
  | x :: xs,h=>by
    rw [List.all_cons,Bool.and_eq_true] at h
    rw [List.zipWith_cons_cons,List.all_cons,eqAll_refl h.2,Bool.and_true]
    exact eqV_refl h.1
theorem all_range_zip {f:Nat→Bool} : ∀ {xs ys:List V},(∀ j x y,xs[j]? = some x→ys[j]? = some y→f j = eqV x y)→(List.range (min xs.length ys.length)).all f = (List.zipWith eqV xs ys).all id
  | [],ys,_=>by simp
  | x :: xs,[],_=>by simp
  | x :: xs,y :: ys,h=>by
    have ih:=all_range_zip (f:=fun j=>f (j + 1)) (xs:=xs) (ys:=ys) fun j a b e1 e2=>h (j + 1) a b (by simpa using e1) (by simpa using e2)
    have e0:=h 0 x y rfl rfl
    have em:min (x :: xs).length (y :: ys).length = min xs.length ys.length + 1:=by simp only [List.length_cons]; omega
    rw [em,List.range_succ_eq_map,List.all_cons,List.zipWith_cons_cons,List.all_cons,List.all_map,e0]
    show (eqV x y && (List.range (min xs.length ys.length)).all (fun j=>f (j + 1))) = _
    rw [ih]
    rfl
section
variable {X:Cx} {pins:List (Addr × Obj)} {σ:St} {H:Hp} {s:Shared}
theorem EqI.at {A:Around} {x y:V} {u v:Value} {b:Bool} (e:EqI X.K H x y b) (I:Inv X pins σ H s) (hu:A.units + 1 < cLine) (rx:RelV x u) (ry:RelV y v):SeqAt.EqAt A s u v b:=by
  cases e with
  | flat fx fy=>exact eqAt_V rx ry fx fy
  | same a =>
    cases (show u = Value.ref a from rx)
    cases (show v = Value.ref a from ry)
    exact SeqAt.EqAt.same _
  | @tup a b xs ys ha hb fx fy =>
    cases (show u = Value.ref a from rx)
    cases (show v = Value.ref b from ry)
    by_cases z:a = b
    · subst z
      have e:=I.tuple_inj ha hb
      subst e
      rw [eqAll_refl fx,decide_eq_true rfl]
      exact SeqAt.EqAt.same _
    · obtain ⟨its,r,p,_⟩:=I.tuple ha
      obtain ⟨its',r',p',_⟩:=I.tuple hb
      have l1:=r.length
      have l2:=r'.length
      have h0:=SeqAt.RcAt.tuples (A:=A) (e:=fun j=>match its[j]?,xs[j]?,ys[j]? with | _,some x,some y=>eqV x y | _,_,_=>false) (show s.heap.IsTuple a its.toArray from p) (show s.heap.IsTuple b its'.toArray from p') (by omega) (fun j h1 h2=>by
        have j1:j < its.length:=by simpa using h1
        have j2:j < its'.length:=by simpa using h2
        have x1:xs[j]? = some xs[j]:=List.getElem?_eq_getElem (by omega)
        have y1:ys[j]? = some ys[j]:=List.getElem?_eq_getElem (by omega)
        obtain ⟨u1,q1,r1⟩:=r.get x1
        obtain ⟨u2,q2,r2⟩:=r'.get y1
        have eu:its.toArray[j] = u1:=by
          have:=List.getElem?_eq_getElem j1
          rw [this] at q1; simpa using Option.some.inj q1
        have ev:its'.toArray[j] = u2:=by
          have:=List.getElem?_eq_getElem j2
          rw [this] at q2; simpa using Option.some.inj q2
        rw [eu,ev]
        rw [x1,y1]
        have f1:flatV xs[j] = true:=List.all_eq_true.mp fx _ (List.getElem_mem _)
        have f2:flatV ys[j] = true:=List.all_eq_true.mp fy _ (List.getElem_mem _)
        exact eqAt_V r1 r2 f1 f2)
      have h1:=SeqAt.EqAt.of_refs z h0
      have e1:((List.range (min its.toArray.size its'.toArray.size)).all fun j=>match its[j]?,xs[j]?,ys[j]? with | _,some x,some y=>eqV x y | _,_,_=>false) = (List.zipWith eqV xs ys).all id:=by
        have es:min its.toArray.size its'.toArray.size = min xs.length ys.length:=by simp only [List.size_toArray]; omega
        rw [es]
        exact all_range_zip fun j x y q1 q2=>by rw [q1,q2]
      rw [e1] at h1
      have e2:(its.toArray.size == its'.toArray.size) = decide (xs.length = ys.length):=by
        simp only [List.size_toArray,← l1,← l2]
        exact Bool.beq_eq_decide_eq _ _
      rw [e2,Bool.and_comm] at h1
      exact h1
end
def rEqL (K:PySem.W.Frag) (neg:Bool):R2:=fun x y H Q=>∃ a b xs ys,x = .ref a∧y = .ref b∧SqL K H a xs∧SqL K H b ys ∧
  ((xs.length ≠ ys.length∧Q (.bl neg) H)∨(xs.length = ys.length∧∃ f:Nat→Bool,(∀ j x y,xs[j]? = some x→ys[j]? = some y→EqI K H x y (f j))∧Q (.bl (if neg then !(List.range xs.length).all f else (List.range xs.length).all f)) H))
section
variable {X:Cx}
theorem eqs_at {pins:List (Addr × Obj)} {σ:St} {H:Hp} {s:Shared} {A:Around} {xs ys:List V} {its its' : List Value} {f:Nat→Bool} (I:Inv X pins σ H s) (hu:A.units + 1 < cLine) (r:Vals xs its) (r' : Vals ys its')
    (hf:∀ j x y,xs[j]? = some x→ys[j]? = some y→EqI X.K H x y (f j)):∀ j (h1:j < its.toArray.size) (h2:j < its'.toArray.size),SeqAt.EqAt A s its.toArray[j] its'.toArray[j] (f j):=fun j h1 h2=>by
  have j1:j < its.length:=by simpa using h1
  have j2:j < its'.length:=by simpa using h2
  have l1:=r.length
  have l2:=r'.length
  have x1:xs[j]? = some xs[j]:=List.getElem?_eq_getElem (by omega)
  have y1:ys[j]? = some ys[j]:=List.getElem?_eq_getElem (by omega)
  obtain ⟨u1,q1,r1⟩:=r.get x1
  obtain ⟨u2,q2,r2⟩:=r'.get y1
  have eu:its.toArray[j] = u1:=by
    have:=List.getElem?_eq_getElem j1
    rw [this] at q1; simpa using Option.some.inj q1
  have ev:its'.toArray[j] = u2:=by
    have:=List.getElem?_eq_getElem j2
    rw [this] at q2; simpa using Option.some.inj q2
  rw [eu,ev]
  exact (hf j _ _ x1 y1).at I hu r1 r2
theorem op_eqL {k:Nat} (hr:Room k X.A):OpR X (compareOp .Eq) (rEqL X.K false):=by
  intro pins s σ H x y v u Q I rx ry h
  obtain ⟨a,b,xs,ys,rfl,rfl,ha,hb,h⟩:=h
  cases (show v = Value.ref a from rx)
  cases (show u = Value.ref b from ry)
  obtain ⟨its,r,p,_⟩:=I.list ha
  obtain ⟨its',r',p',_⟩:=I.list hb
  have l1:=r.length
  have l2:=r'.length
  have hu:=hr.units
  rcases h with ⟨hn,q⟩ | ⟨hl,f,hf,q⟩
  · refine SeqAt.eq_list_lengthsAt p.isList p'.isList (by simp only [List.size_toArray,bne_iff_ne,ne_eq]; omega) (by omega) ⟨.bl false,H,I,rfl,q⟩
  · refine SeqAt.eq_listAt (e:=f) p.isList p'.isList (by simp only [List.size_toArray]; omega) (by omega) (eqs_at I (by show X.A.units + 1 + 1 < cLine; omega) r r' hf) ⟨.bl _,H,I,rfl,?_⟩
    rw [show its.toArray.size = xs.length by simp only [List.size_toArray]; omega]
    exact q
theorem op_neL {k:Nat} (hr:Room k X.A):OpR X (compareOp .NotEq) (rEqL X.K true):=by
  intro pins s σ H x y v u Q I rx ry h
  obtain ⟨a,b,xs,ys,rfl,rfl,ha,hb,h⟩:=h
  cases (show v = Value.ref a from rx)
  cases (show u = Value.ref b from ry)
  obtain ⟨its,r,p,_⟩:=I.list ha
  obtain ⟨its',r',p',_⟩:=I.list hb
  have l1:=r.length
  have l2:=r'.length
  have hu:=hr.units
  rcases h with ⟨hn,q⟩ | ⟨hl,f,hf,q⟩
  · refine SeqAt.RcNeAt.lists_lengths p.isList p'.isList (by simp only [List.size_toArray,bne_iff_ne,ne_eq]; omega) (by omega) X.prog X.w X.xe _ ⟨.bl true,H,I,rfl,q⟩
  · refine SeqAt.RcNeAt.lists (e:=f) p.isList p'.isList (by simp only [List.size_toArray]; omega) (by omega) (eqs_at I (by show X.A.units + 1 + 1 < cLine; omega) r r' hf) X.prog X.w X.xe _ ⟨.bl _,H,I,rfl,?_⟩
    rw [show its.toArray.size = xs.length by simp only [List.size_toArray]; omega]
    exact q
theorem rNeL_same {K:PySem.W.Frag} {H:Hp} {Q:VK} {a b:Addr} {xs:List V} (ha:SqL K H a xs) (hb:SqL K H b xs) (fl:∀ x ∈ xs,flatV x = true∨∃ r,x = .ref r) (q:Q (.bl false) H):rEqL K true (.ref a) (.ref b) H Q:=by
  refine ⟨a,b,xs,xs,rfl,rfl,ha,hb,.inr ⟨rfl,fun _=>true,fun j x y e1 e2=>?_,?_⟩⟩
  · rw [e1] at e2; cases e2
    rcases fl x (List.mem_of_getElem? e1) with z | ⟨r,rfl⟩
    · have:=EqI.flat (K:=K) (H:=H) z z
      rw [eqV_refl z] at this
      exact this
    · exact .same r
  · have:(List.range xs.length).all (fun _=>true) = true:=by simp
    rw [this]
    exact q
end
def SameT (H H' : Hp):Prop:=∀ b xs,H b = some (.tup xs)→H' b = some (.tup xs)
theorem Same.tups {H H' : Hp} (h:Same H H'):SameT H H':=fun b xs e=>h b _ e
theorem SameT.trans {H H1 H2:Hp} (a:SameT H H1) (b:SameT H1 H2):SameT H H2:=fun c xs e=>b c xs (a c xs e)
theorem sameT_new {H:Hp} {p:Addr} {o:HO} (h:H p = none):SameT H (upd H p o):=fun b xs e=>by rw [upd_ne (ne_of_none e h)]; exact e
theorem sameT_lst {H:Hp} {p:Addr} {o:HO} {ys:List V} (h:H p = some (.lst ys)):SameT H (upd H p o):=fun b xs e=>by rw [upd_ne (ne_of e h (by intro z; cases z))]; exact e
theorem same_new {H:Hp} {p:Addr} (h:H p = none) (o:HO):Same H (upd H p o):=fun b u q=>by rw [upd_ne (ne_of_none q h)]; exact q
theorem Same.upd {H H' : Hp} {p:Addr} {o:HO} (s:Same H H') (h:H p = none):Same H (upd H' p o):=fun b u q=>by rw [upd_ne (ne_of_none q h)]; exact s b u q
def PL (H:Hp):List V→List (Int × Int)→Prop:=Paired fun x p=>∃ r,x = .ref r∧H r = some (.tup [.int p.1,.int p.2])
theorem PL.mono {H H' : Hp} {xs:List V} {ps:List (Int × Int)} (h:PL H xs ps) (s:SameT H H'):PL H' xs ps:=Paired.mapP h fun _ _ ⟨r,e,z⟩=>⟨r,e,s r _ z⟩
theorem PL.get {H:Hp} : ∀ {xs:List V} {ps:List (Int × Int)} {i:Nat} {x:V},PL H xs ps→xs[i]? = some x→∃ p r,ps[i]? = some p∧x = .ref r∧H r = some (.tup [.int p.1,.int p.2])
  | _,_,_,_,.nil,e=>by simp at e
  | _,_,0,_,.cons (b:=b) ⟨r,e1,z⟩ _,e=>by simp at e; subst e; exact ⟨b,r,rfl,e1,z⟩
  | _,_,i + 1,x,.cons _ t,e=>by
    obtain ⟨p,r,q⟩:=PL.get (i:=i) (x:=x) t (by simpa using e)
    exact ⟨p,r,by simpa using q.1,q.2⟩
theorem PL.length {H:Hp} {xs:List V} {ps:List (Int × Int)} (h:PL H xs ps):xs.length = ps.length:=Paired.length h
theorem PL.snoc {H:Hp} {xs:List V} {ps:List (Int × Int)} {r:Addr} {a b:Int} (h:PL H xs ps) (e:H r = some (.tup [.int a,.int b])):PL H (xs ++ [.ref r]) (ps ++ [(a,b)]):=Paired.snoc h ⟨r,rfl,e⟩
theorem PL.last {H:Hp} {xs:List V} {ps:List (Int × Int)} (h:PL H xs ps) (hn:xs ≠ []):∃ xs' r ps' p,xs = xs' ++ [.ref r]∧ps = ps' ++ [p]∧PL H xs' ps'∧H r = some (.tup [.int p.1,.int p.2]):=by
  induction h with
  | nil=>exact absurd rfl hn
  | @cons a b l1 l2 hd tl ih =>
    cases tl with
    | nil =>
      obtain ⟨r,e,z⟩:=hd
      exact ⟨[],r,[],b,by rw [e]; rfl,rfl,.nil,z⟩
    | @cons a2 b2 l3 l4 hd2 tl2 =>
      obtain ⟨xs',r,ps',p,e1,e2,h3,h4⟩:=ih (by simp)
      exact ⟨a :: xs',r,b :: ps',p,by rw [e1]; rfl,by rw [e2]; rfl,.cons hd h3,h4⟩
abbrev Tr:=Int × Int × Int
def TL (H:Hp):List V→List Tr→Prop:=Paired fun x t=>∃ r,x = .ref r∧H r = some (.tup [.int t.1,.int t.2.1,.int t.2.2])
theorem any_take_succ {ps:List (Int × Int)} {i:Nat} {p:Int × Int} {f:Int × Int→Bool} (e:ps[i]? = some p) (h:(ps.take i).any f = false) (hf:f p = false):(ps.take (i + 1)).any f = false:=by
  rw [List.take_add_one,e,List.any_append,h]
  simp [hf]
theorem any_of_get {ps:List (Int × Int)} {i:Nat} {p:Int × Int} {f:Int × Int→Bool} (e:ps[i]? = some p) (hf:f p = true):ps.any f = true:=List.any_eq_true.mpr ⟨p,List.mem_of_getElem? e,hf⟩
theorem dec_t {p:Prop} [Decidable p] (h:decide p = true):p:=of_decide_eq_true h
theorem dec_f {p:Prop} [Decidable p] (h:¬ decide p = true):¬ p:=fun e=>h (decide_eq_true e)
end L2
namespace L2
open PySem PySem.Spec PyProof.Rows
theorem ix_listK {X:Cx} {K:PySem.W.Frag} (h:X.K = K):IxR X (rIxL K):=h ▸ ix_list
theorem ix_tupK {X:Cx} {K:PySem.W.Frag} (h:X.K = K):IxR X (rIxT K):=h ▸ ix_tup
def cmpCx (X:Cx) (N:List Str) (scope:Scope) (cl:List (Str × Addr)) (fp:List Addr) (C:Addr) (s2:Shared) (H2:Hp):Cx :=
  { prog:=X.prog,w:=X.w,K:=X.K,mg:=X.mg,base:=X.base,A:=X.A,N:=N,s₀:=s2,H₀:=H2,env:=compEnvC scope cl C X.env,outer:=X.stack,stack:=X.stack,ex:=fp,fn:=fun _=>false,calm:=X.calm,pn:=[],xe:=fun _ _=>False }
def PIf (X:Cx) (ifs:List Expr) (t:TT):Prop :=
  ∀ (pins:List (Addr × Obj)) (s:Shared) (σ:St) (H:Hp) (Q:Bool→Hp→Prop),Inv X pins σ H s→t σ H Q →
    wpAny (model X.prog X.w) X.A (forIn ifs true fun c r=>if r = true then do let ok ← isTrue c X.env (eval c X.env); pure (ForInStep.yield ok) else pure (ForInStep.yield r)) (TP X pins σ Q) X.xe s
def tYes:TT:=fun _ H Q=>Q true H
theorem pif_nil {X:Cx} : PIf X [] tYes:=fun _ _ _ H _ I h=>wpAny_tests_nil ⟨H,I,h⟩
theorem pif_one {X:Cx} {c:Expr} {t:TT} (h:PT X c t):PIf X [c] t:=fun pins s σ H Q I q=>wpAny_tests_one (h pins s σ H Q I q)
structure CmpOk (X:Cx) (N:List Str) (fr:List Nat) (scope:Scope) (cl:List (Str × Addr)) (x:Str):Prop where
  clos:closureFor scope X.env = pure cl
  kind:scope.kind = .function
  nocell:∀ y ∈ scope.names,y.2 ≠ .cell
  names:∀ y ∈ scope.names,y.2 = .local→scope.names.lookup y.1 = some .local
  hx:scope.names.lookup x = some .local
  nd:N.Nodup
  n0:N[0]? = some x
  len:N.length = fr.length + 1
  sub:∀ (i:Nat) (y:Str),N[i + 1]? = some y→∃ j,fr[i]? = some j∧X.N[j]? = some y∧(X.env.kindOf y = some .cell∨X.env.kindOf y = some .free)∧((relabel scope X.env).names.lookup y = some .cell∨(relabel scope X.env).names.lookup y = some .free)
  cells:∀ y c,cl.lookup y = some c→X.env.cells.lookup y = some c
  has:∀ y,((relabel scope X.env).names.lookup y = some .cell∨(relabel scope X.env).names.lookup y = some .free)→∃ c,cl.lookup y = some c
theorem cmpOk_plain {X:Cx} {scope:Scope} {x:Str} (kind:scope.kind = .function) (nofree:∀ y ∈ scope.names,y.2 ≠ .free) (nocell:∀ y ∈ scope.names,y.2 ≠ .cell)
    (names:∀ y ∈ scope.names,y.2 = .local→scope.names.lookup y.1 = some .local) (hx:scope.names.lookup x = some .local):CmpOk X [x] [] scope [] x:=by
  have er:(relabel scope X.env).names = scope.names:=map_eq_self fun y hy=>by
    have z:(y.2 == NameKind.free) = false:=by simpa using nofree y hy
    simp [z]
  have no:∀ y,¬ ((relabel scope X.env).names.lookup y = some .cell∨(relabel scope X.env).names.lookup y = some .free):=fun y h=>by
    rw [er] at h
    rcases h with h | h
    · exact nocell _ (PySem.mem_of_lookup h) rfl
    · exact nofree _ (PySem.mem_of_lookup h) rfl
  exact ⟨closureFor_none nofree,kind,nocell,names,hx,by simp,rfl,rfl,fun i y e=>by simp at e,(fun y c e=>by cases e),fun y h=>absurd h (no y)⟩
theorem cmpOk_free {X:Cx} {N:List Str} {fr:List Nat} {scope:Scope} {cl:List (Str × Addr)} {x:Str} (clos:closureFor scope X.env = pure cl) (kind:scope.kind = .function) (nocell:∀ y ∈ scope.names,y.2 ≠ .cell)
    (names:∀ y ∈ scope.names,y.2 = .local→scope.names.lookup y.1 = some .local) (hx:scope.names.lookup x = some .local) (nd:N.Nodup) (n0:N[0]? = some x) (len:N.length = fr.length + 1)
    (sub:((List.range fr.length).all fun i=>match N[i + 1]?,fr[i]? with | some y,some j=>(X.N[j]? == some y) && ((X.env.kindOf y == some .cell) && ((relabel scope X.env).names.lookup y == some .cell)) | _,_=>false) = true)
    (cells:∀ p ∈ cl,X.env.cells.lookup p.1 = some p.2) (has:((relabel scope X.env).names.all fun p=>(p.2 != .cell && p.2 != .free) || (cl.lookup p.1).isSome) = true):CmpOk X N fr scope cl x:=by
  refine ⟨clos,kind,nocell,names,hx,nd,n0,len,fun i y e=>?_,fun y c e=>cells _ (PySem.mem_of_lookup e),fun y h=>?_⟩
  · have hi:i < fr.length:=by have:=(List.getElem?_eq_some_iff.mp e).1; omega
    have z:=List.all_eq_true.mp sub i (List.mem_range.mpr hi)
    rw [e,List.getElem?_eq_getElem hi] at z
    simp only [Bool.and_eq_true,beq_iff_eq] at z
    exact ⟨_,List.getElem?_eq_getElem hi,z.1,.inl z.2.1,.inl z.2.2⟩
  · have look:∀ k,(relabel scope X.env).names.lookup y = some k→(k = .cell∨k = .free)→∃ c,cl.lookup y = some c:=fun k e hk=>by
      have z:=List.all_eq_true.mp has _ (PySem.mem_of_lookup e)
      rcases hk with rfl | rfl
      · exact Option.isSome_iff_exists.mp (by simpa using z)
      · exact Option.isSome_iff_exists.mp (by simpa using z)
    rcases h with h | h
    · exact look _ h (.inl rfl)
    · exact look _ h (.inr rfl)
def cmpSt (σ:St) (fr:List Nat) (x:Option V):St:=x :: fr.map fun j=>(σ[j]?).join
def CompAt (J:It) (fr:List Nat) (tt:TT) (te:TE) (σ:St) (Q:VK) (H1:Hp):Prop:=∀ D,H1 D = none→∃ W:Nat→Nat→Hp→Prop,(∃ m,W 0 m (upd H1 D (.lst [])))∧∀ i m H,W i m H →
  (J.stop i H∧Q (.ref D) H)∨(J.go i H∧∀ x H',J.yld i H x H'→tt (cmpSt σ fr (some x)) H' fun b H2=>if b = true then te (cmpSt σ fr (some x)) H2 fun y H3=>∃ ys,H3 D = some (.lst ys)∧ys.length < sizeLine∧∃ m',m' < m∧W (i + 1) m' (upd H3 D (.lst (ys ++ [y])))
    else ∃ m',m' < m∧W (i + 1) m' H2)
def tComp (wi:TI) (fr:List Nat) (tt:TT) (te:TE):TE:=fun σ H Q=>wi σ H fun J H1=>CompAt J fr tt te σ Q H1
section
variable {prog:Program} {w:World} {A:Around} {R:Result→Shared→Prop} {s:Shared}
theorem comp_turns {elt target iter:Expr} {ifs:List Expr} {scope:Scope} {pos:Pos} {it acc:Value} {env:Env} (J:Nat→Shared→Prop)
    (turn:∀ n s,J n s→wpAny (model prog w) A (pyNext it) (fun r s1=>match r with
      | none=>R (.ok .next) s1
      | some v=>wpAny (model prog w) A (letOwnedTupleGo target it v) (fun _ s2=>wpAny (model prog w) A (assign target env v) (fun _ s3 =>
          wpAny (model prog w) A (forIn ifs true fun c r=>if r = true then do let ok ← isTrue c env (eval c env); pure (ForInStep.yield ok) else pure (ForInStep.yield r)) (fun ok s4 =>
            if ok = true then wpAny (model prog w) A (eval elt env) (fun y s5=>wpAny (model prog w) A (call (.builtin "list.append") [acc,y]) (fun _ s6=>∃ m,m < n∧J m s6) (fun _ _=>False) s5) (fun _ _=>False) s4
            else ∃ m,m < n∧J m s4) (fun _ _=>False) s3) (fun _ _=>False) s2) (fun _ _=>False) s1) (fun _ _=>False) s)
    (n:Nat) (h:J n s):codeAny (model prog w) A (.compLoop (.ListComp elt [⟨target,iter,ifs,0⟩] scope pos) 0 it acc env) R s:=by
  refine codeAny_loop rfl J (fun n s hJ=>?_) n h
  show wpAny _ A ((compTurn (.ListComp elt [⟨target,iter,ifs,0⟩] scope pos) 0 it acc env).onRaise (fun x=>do noteFrame x env; theTreesLotGoes x)) _ _ s
  refine wpAny_noted ?_
  rw [compTurn_list]
  refine wpAny_bind (wpAny_standAt (wpAny_bind (wpAny_mono (turn n s hJ) (fun r s1 h1=>?_) fun _ _ z=>z.elim)))
  cases r with
  | none=>exact wpAny_pure h1
  | some v =>
    refine wpAny_bind (wpAny_mono h1 (fun _ s2 h2=>?_) fun _ _ z=>z.elim)
    refine wpAny_bind (wpAny_mono h2 (fun _ s3 h3=>wpAny_bind (wpAny_mono h3 (fun ok s4 h4=>?_) fun _ _ z=>z.elim)) fun _ _ z=>z.elim)
    cases ok with
    | false=>exact wpAny_pure ⟨rfl,h4⟩
    | true=>exact wpAny_bind (wpAny_bind (wpAny_mono h4 (fun y s5 h5=>wpAny_bind (wpAny_mono h5 (fun _ s6 h6=>wpAny_pure (wpAny_pure ⟨rfl,h6⟩)) fun _ _ z=>z.elim)) fun _ _ z=>z.elim))
end
section
variable {X:Cx} {elt iter:Expr} {ifs:List Expr} {x:Str} {px pos:Pos} {scope:Scope} {cl:List (Str × Addr)} {N:List Str} {fr:List Nat} {tt:TT} {te:TE}
theorem comp_core {pins:List (Addr × Obj)} {σ:St} {s2:Shared} {H2:Hp} {it:Addr} {fp:List Addr} {tn:Nat→Heap→Prop} {J:It} {Q:VK} {E:Value→Shared→Prop} {RR:Value→Addr→Result→Shared→Prop}
    (O:CmpOk X N fr scope cl x) (hc:X.calm = true) (I2:Inv X pins σ H2 s2) (T:Turn X.prog X.w X.K (.Name x px) J fp it tn) (st2:tn 0 s2.heap) (f2:∀ b ∈ fp,FpOk X pins H2 b)
    (ht:∀ fp C s H,PIf (cmpCx X N scope cl fp C s H) ifs tt) (he:∀ fp C s H,PE (cmpCx X N scope cl fp C s H) elt te)
    (hW:CompAt J fr tt te σ Q H2)
    (fin:∀ D C s' H',s2.heap.objs.size ≤ C→H' C = none→(∃ m,s'.heap.Ns C m)→Inv X pins σ H' s'→Q (.ref D) H'→RR (.ref D) C (.ok .next) s') :
    wpAny (model X.prog X.w) X.A (newList []) (fun acc s3=>wpAny (model X.prog X.w) X.A (newFunctionEnv scope X.env.globals cl [] X.env.qual none .none (some X.env)) (fun cenv s4 =>
      codeAny (model X.prog X.w) X.A (.compStart (.ListComp elt [⟨.Name x px,iter,ifs,0⟩] scope pos) 0 (.ref it) acc { cenv with scope:=relabel scope X.env }) (RR acc cenv.locals) s4) E s3) E s2:=by
  refine wpAny_newObj_type (wpAny_newFunctionEnv O.nocell (by intro y hy; simp at hy) (fun h1 hns hsb=>?_) O.kind)
  dsimp only at hns hsb ⊢
  generalize hG:s2.heap.push { cls:=.type "list",dict:=none,data:=.seq ([]:List Value).toArray } = G at hns hsb ⊢
  have hC:G.objs.size = s2.heap.objs.size + 1:=by rw [← hG,Heap.size_push]
  have old:∀ b o,s2.heap.get? b = some o→h1.get? b = some o:=fun b o e=>hsb.extBut b o (Nat.ne_of_lt (by rw [hC]; exact Nat.lt_succ_of_lt (Heap.lt_size e))) (Heap.get?_push_of_some _ (hG ▸ Heap.get?_push_of_some _ e))
  have hacc:h1.get? s2.heap.objs.size = some { cls:=.type "list",data:=.seq ([]:List Value).toArray 0 }:=hsb.extBut _ _ (Nat.ne_of_lt (by rw [hC]; exact Nat.lt_succ_self _)) (Heap.get?_push_of_some _ (hG ▸ Heap.get?_push_size _ rfl))
  have hD:H2 s2.heap.objs.size = none:=I2.fresh
  have okX:(cmpCx X N scope cl fp G.objs.size s2 H2).Ok:=by
    refine ⟨I2.ok.mod,O.kind,I2.ok.glob,I2.ok.blt,by show s2.heap.objs.size ≤ G.objs.size; rw [hC]; exact Nat.le_succ _,fun y z c e1 e2=>I2.ok.inj y z c (O.cells y c e1) (O.cells z c e2),fun y hy=>O.has y hy,fun y c z=>absurd (show false = true from z) Bool.false_ne_true,I2.ok.hd,I2.ok.frames,.inl rfl,
      fun b hb=>⟨?_,fun y c e=>(f2 b hb).2.2.2.2.1 y c (O.cells y c e)⟩,I2.bs,Nat.le_trans I2.ok.bsz I2.sz,fun b o e hb=>?_,fun b hb z=>?_,I2.stack,I2.stkFree⟩
    · obtain ⟨o,e,_⟩:=T.obj _ _ st2 b hb
      show b ≠ G.objs.size
      exact Nat.ne_of_lt (by rw [hC]; exact Nat.lt_succ_of_lt (Heap.lt_size e))
    · rcases (f2 b hb).2.2.2.1 with z | z
      · exact I2.ok.noex b o e z
      · exact absurd (Nat.lt_of_lt_of_le (Heap.lt_size e) (Nat.le_trans I2.ok.bsz z)) (Nat.lt_irrefl _)
    · rcases List.mem_cons.mp (I2.stkSub b z) with z | z
      · exact (f2 b hb).2.1 z
      · exact (f2 b hb).2.2.1 z
  have statX:∀ {H' : Hp},(∀ b ∈ fp,H' b = none)→∀ b ∈ fp,FpOk (cmpCx X N scope cl fp G.objs.size s2 H2) [] H' b:=fun hn b hb =>
    ⟨hn b hb,(okX.exf b hb).1,okX.exfs b hb,.inl hb,(okX.exf b hb).2,fun p hp=>absurd (show p ∈ ([]:List (Addr × Obj)) from hp) (by simp)⟩
  have I' : Inv (cmpCx X N scope cl fp G.objs.size s2 H2) [] (cmpSt σ fr none) (upd H2 s2.heap.objs.size (.lst [])) { s2 with heap:=h1,toks:=s2.toks + ([]:List (Str × Value)).length }:=by
    refine ⟨okX,rfl,I2.bare,Un.laid old (Nat.le_refl _) hD,⟨_,hns,fun i y v e1 e2 e3=>?_⟩,fun y c e=>?_,?_,fun y c e=>?_,fun p hp=>absurd (show p ∈ ([]:List (Addr × Obj)) from hp) (by simp),I2.hok.laid old (Nat.le_refl _) ⟨Nat.zero_le _,[],0,.nil,hacc⟩,?_⟩
    · cases i with
      | zero=>cases e2
      | succ i =>
        obtain ⟨j,q1,q2,q3,q4⟩:=O.sub i y e1
        have e2' : (σ[j]?).join = some v:=by
          have:(fr.map fun j=>(σ[j]?).join)[i]? = some (some v):=e2
          rw [List.getElem?_map,q1] at this
          exact Option.some.inj this
        have e4:σ[j]? = some (some v):=by
          cases z:σ[j]? with
          | none=>rw [z] at e2'; cases e2'
          | some t=>rw [z] at e2'; exact congrArg some e2'
        obtain ⟨m,_,hl⟩:=I2.loc
        have vis:Vis X.env.scope y:=.inr q3
        obtain ⟨u,r,l⟩:=hl j y v q2 e4 vis
        refine ⟨u,r,.inr ⟨q4,?_⟩⟩
        obtain ⟨c',hc'⟩:=O.has y q4
        rcases l with ⟨k,_⟩ | ⟨_,c,ec,ic⟩
        · rcases q3 with z | z
          · rw [z] at k; cases k
          · rw [z] at k; cases k
        · have:=O.cells y c' hc'
          have e' : c = c':=Option.some.inj (ec.symm.trans this)
          obtain ⟨o,ho,hd⟩:=ic
          rw [e'] at ho
          exact ⟨c',hc',o,old c' o ho,hd⟩
    · obtain ⟨v,o,ho,hd⟩:=I2.cell y c (O.cells y c e)
      exact ⟨v,o,old c o ho,hd⟩
    · show upd H2 s2.heap.objs.size (.lst []) G.objs.size = none
      rw [upd_ne (Nat.ne_of_gt (by rw [hC]; exact Nat.lt_succ_self _))]
      exact I2.hok.fresh (by rw [hC]; exact Nat.le_succ _)
    · obtain ⟨v,o,ho,hd⟩:=I2.cell y c (O.cells y c e)
      rw [upd_ne (Nat.ne_of_lt (Heap.lt_size ho))]
      exact I2.freeC y c (O.cells y c e)
    · show (cmpSt σ fr none).length = N.length
      rw [O.len]; simp [cmpSt]
  have st1:tn 0 h1:=T.keep _ _ _ st2 fun b hb o e=>old b o e
  have loop:∀ s3:Shared,s3 = { s2 with heap:=h1,toks:=s2.toks + ([]:List (Str × Value)).length } →
      codeAny (model X.prog X.w) X.A (.compLoop (.ListComp elt [⟨.Name x px,iter,ifs,0⟩] scope pos) 0 (.ref it) (.ref s2.heap.objs.size) (compEnvC scope cl G.objs.size X.env)) (RR (.ref s2.heap.objs.size) G.objs.size) s3:=by
    rintro s3 rfl
    obtain ⟨W,⟨m0,w0⟩,turn⟩:=hW _ hD
    refine comp_turns (fun n s'=>∃ i t H',Inv (cmpCx X N scope cl fp G.objs.size s2 H2) [] (cmpSt σ fr t) H' s'∧tn i s'.heap∧(∀ b ∈ fp,H' b = none)∧W i n H') ?_ m0
      ⟨0,none,_,I',st1,fun b hb=>by
        rw [upd_ne (by obtain ⟨o,e,_⟩:=T.obj _ _ st2 b hb; exact Nat.ne_of_lt (Heap.lt_size e))]
        exact (f2 b hb).1,w0⟩
    rintro n s' ⟨i,t,H',I3,st3,fr3,w3⟩
    rcases turn i n H' w3 with ⟨stop,qn⟩ | ⟨go,step⟩
    · refine thn (T.done (cmpCx X N scope cl fp G.objs.size s2 H2) rfl rfl rfl hc i [] s' _ H' _ I3 (statX fr3) st3 stop) fun r s4 ⟨hr,I4⟩=>?_
      subst hr
      obtain ⟨m,hm,_⟩:=I4.loc
      refine fin _ _ s4 H' (by rw [hC]; exact Nat.le_succ _) I4.free ⟨m,hm⟩ (I2.call' (ch:=fp) I4.os I4.base I4.hok I4.bare fun b hb=>?_) qn
      exact ⟨(f2 b hb).2.2.2.1,(f2 b hb).2.1,(f2 b hb).2.2.2.2.1,(f2 b hb).2.2.2.2.2⟩
    · refine thn (T.item (cmpCx X N scope cl fp G.objs.size s2 H2) rfl rfl rfl hc i [] s' _ H' _ I3 (statX fr3) st3 go) fun r s4 ⟨u,hr,h4⟩=>?_
      subst hr
      refine thn h4 fun _ s5 ⟨y,H5,I5,r5,y5,st5,fr5⟩=>?_
      have I5':=I5.pinned (statX fr5) (T.obj _ _ st5)
      have lx:(cmpCx X N scope cl fp G.objs.size s2 H2).env.scope.names.lookup x = some .local:=lookup_relabel_local O.hx
      refine thn (pg_name (X:=cmpCx X N scope cl fp G.objs.size s2 H2) (i:=0) O.nd O.n0 (.inl lx) (.inr lx) _ s5 _ H5 y u (fun σ' H'=>σ' = cmpSt σ fr (some y)∧H' = H5) I5' r5 ⟨rfl,rfl⟩) fun _ s6 ⟨σ6,H6,I6,e6,e6'⟩=>?_
      subst e6; subst e6'
      have again:∀ {σ7:St} {H7:Hp} {s7:Shared} {m' : Nat},σ7 = cmpSt σ fr (some y)→Inv (cmpCx X N scope cl fp G.objs.size s2 H2) ([] ++ pinsAt fp s5.heap) σ7 H7 s7→m' < n→W (i + 1) m' H7 →
          ∃ m,m < n∧∃ i t H',Inv (cmpCx X N scope cl fp G.objs.size s2 H2) [] (cmpSt σ fr t) H' s7∧tn i s7.heap∧(∀ b ∈ fp,H' b = none)∧W i m H':=fun {σ7 H7 s7 m'} e7 I7 hm w7=>by
        subst e7
        refine ⟨m',hm,i + 1,some y,H7,I7.unpinned,T.keep _ _ _ st5 fun b hb o e=>(I7.pin (b,o) (List.mem_append_right _ (List.mem_append_right _ (mem_pinsAt hb e)))).1,fun b hb=>?_,w7⟩
        obtain ⟨o,e,d⟩:=T.obj _ _ st5 b hb
        exact (I7.pin (b,o) (List.mem_append_right _ (List.mem_append_right _ (mem_pinsAt hb e)))).2.1
      refine thn (ht fp G.objs.size s2 H2 _ s6 _ H6 _ I6 (step y H6 y5)) fun ok s7 ⟨H7,I7,q7⟩=>?_
      cases ok with
      | false =>
        rw [if_neg Bool.false_ne_true] at q7 ⊢
        obtain ⟨m',hm,w7⟩:=q7
        exact again rfl I7 hm w7
      | true =>
        rw [if_pos rfl] at q7 ⊢
        refine thn (he fp G.objs.size s2 H2 _ s7 _ H7 _ I7 q7) fun u8 s8 ⟨v8,H8,I8,r8,ys,hys,hlen,m',hm,w8⟩=>?_
        refine thn (mt_append (X:=cmpCx X N scope cl fp G.objs.size s2 H2) _ s8 _ H8 (.ref s2.heap.objs.size) [v8] _ [u8] (fun _ H9=>W (i + 1) m' H9) I8 rfl (.cons r8 .nil) ⟨_,ys,v8,rfl,rfl,hys,hlen,w8⟩) fun _ s9 ⟨_,H9,I9,_,w9⟩=>?_
        exact again rfl I9 hm w9
  exact codeAny_compStart_list (loop _ rfl) (T.self _ 0 _ _ _ st1 (loop _ rfl))
theorem Inv.left {pins:List (Addr × Obj)} {σ σ2:St} {s2 s' : Shared} {H2 H' : Hp} {C:Addr} {h' : Heap} (I2:Inv X pins σ2 H2 s2) (I' : Inv X pins σ H' s') (hC:s2.heap.objs.size ≤ C) (hn:H' C = none) (hs:Heap.SameBut C s'.heap h'):Inv X pins σ H' { s' with heap:=h' }:=by
  refine I'.turned (t':=s'.toks) (it:=C) (fun b o hb e=>(hs.2 b hb).trans e) hn (Nat.ne_of_gt (Nat.lt_of_lt_of_le I2.lt hC)) (.inr (Nat.le_trans I2.sz hC)) (fun y c e=>?_) fun p hp=>?_
  · obtain ⟨v,o,ho,_⟩:=I2.cell y c e
    exact Nat.ne_of_lt (Nat.lt_of_lt_of_le (Heap.lt_size ho) hC)
  · exact Nat.ne_of_lt (Nat.lt_of_lt_of_le (Heap.lt_size (I2.pin p hp).1) hC)
theorem pe_comp {wi:TI} (hi:PI X (.Name x px) iter wi) (O:CmpOk X N fr scope cl x) (hc:X.calm = true) (ht:∀ fp C s H,PIf (cmpCx X N scope cl fp C s H) ifs tt) (he:∀ fp C s H,PE (cmpCx X N scope cl fp C s H) elt te)
    (hs:∀ v,foldedSetIterable iter X.env v = pure v:=by intro _; rfl):PE X (.ListComp elt [⟨.Name x px,iter,ifs,0⟩] scope pos) (tComp wi fr tt te):=by
  intro pins s σ H Q I h
  rw [eval_ListComp]
  refine wpAny_comprehension_free (use:=none) rfl hs O.clos O.kind O.names (thn (hi pins s σ H _ I h) fun v s1 h1=>thn h1 fun itv s2 h2=>?_)
  obtain ⟨it,fp,tn,J,H2,e,I2,T,st2,f2,hW⟩:=h2
  subst e
  refine comp_core (RR:=fun acc C=>compPost (model X.prog X.w) X.A X.xe none (EP X pins σ Q) acc C) O hc I2 T st2 f2 ht he hW fun D C s' H' hC hn ⟨m,hm⟩ I' q=>?_
  exact ⟨m,hm,fun h' hs'=>⟨.ref D,H',I2.left I' hC hn hs',rfl,q⟩⟩
theorem ps_comp {wi:TI} {i:Nat} {y:Str} {py spos:Pos} (hN:X.N.Nodup) (hy:X.N[i]? = some y) (hl:Loc X.env.scope y) (hi:PI X (.Name x px) iter wi) (O:CmpOk X N fr scope cl x) (hc:X.calm = true)
    (ht:∀ fp C s H,PIf (cmpCx X N scope cl fp C s H) ifs tt) (he:∀ fp C s H,PE (cmpCx X N scope cl fp C s H) elt te) (hs:∀ v,foldedSetIterable iter X.env v = pure v:=by intro _; rfl)
    (hsw:swapsWith (.ListComp elt [⟨.Name x px,iter,ifs,0⟩] scope pos) (some (.Name y py)) spos.line X.env = pure true:=by rfl) (hf:X.fn y = true∨X.env.scope.names.lookup y = some .local:=by first | exact .inl rfl | exact .inr rfl | assumption) :
    PS X (.Assign [.Name y py] (.ListComp elt [⟨.Name x px,iter,ifs,0⟩] scope pos) spos) (tAsg (tComp wi fr tt te) (gName i)):=by
  intro pins s σ H D0 I h
  rw [exec_Assign_Name_used _ _ _ _ hsw]
  refine wpAny_bind (wpAny_standAt (wpAny_bind ?_))
  show wpAny _ X.A (do let _ ← comprehension (.ListComp elt [⟨.Name x px,iter,ifs,0⟩] scope pos) scope X.env _ (newList []) false (eval iter X.env) (some (assign (.Name y py) X.env))) _ _ s
  refine wpAny_bind (wpAny_mono (wpAny_comprehension_free (use:=some (assign (.Name y py) X.env)) (Q:=fun _ s'=>SP X pins D0 .next s') rfl hs O.clos O.kind O.names (thn (hi pins s σ H _ I h) fun v s1 h1=>thn h1 fun itv s2 h2=>?_)) (fun _ s' hq=>wpAny_pure (wpAny_pure hq)) fun _ _ z=>z)
  obtain ⟨it,fp,tn,J,H2,e,I2,T,st2,f2,hW⟩:=h2
  subst e
  refine comp_core (Q:=fun v H1=>gName i v σ H1 D0.nx) (RR:=fun acc C=>compPost (model X.prog X.w) X.A X.xe (some (assign (.Name y py) X.env)) (fun _ s'=>SP X pins D0 .next s') acc C) O hc I2 T st2 f2 ht he hW fun D C s' H' hC hn ⟨m,hm⟩ I' q=>?_
  show wpAny _ X.A (assign (.Name y py) X.env (.ref D)) _ _ s'
  refine wpAny_assign_Name (store_ok2 I' hN hy hl (v:=.ref D) rfl (fun s3 I3 ⟨a,hsa,ha⟩=>?_) hf)
  have hCa:C ≠ a:=by
    rcases ha with z | z
    · rw [z]; exact Nat.ne_of_gt (Nat.lt_of_lt_of_le I2.lt hC)
    · obtain ⟨v,o,ho,_⟩:=I2.cell y a z
      exact Nat.ne_of_gt (Nat.lt_of_lt_of_le (Heap.lt_size ho) hC)
  exact ⟨m,hm.sameBut hsa hCa,fun h' hs'=>⟨_,H',I2.left I3 hC hn hs',q⟩⟩
def CNext (Pv:Addr→Nat→List V→Hp→Prop) (D:Addr) (i n:Nat) (H2:Hp):Prop:=∃ m',m' < n - i∧m' = n - (i + 1)∧i + 1 ≤ n∧∃ zs,Pv D (i + 1) zs H2
def CYes (Pv:Addr→Nat→List V→Hp→Prop) (D:Addr) (i n:Nat):VK:=fun y H3=>∃ ys,H3 D = some (.lst ys)∧ys.length < sizeLine∧CNext Pv D i n (upd H3 D (.lst (ys ++ [y])))
theorem CNext.mk {Pv:Addr→Nat→List V→Hp→Prop} {D:Addr} {i n:Nat} {H2:Hp} {zs:List V} (hi:i < n) (h:Pv D (i + 1) zs H2):CNext Pv D i n H2:=⟨n - (i + 1),by omega,rfl,hi,zs,h⟩
theorem CYes.mk {Pv:Addr→Nat→List V→Hp→Prop} {D:Addr} {i n:Nat} {H3:Hp} {ys:List V} {y:V} (hi:i < n) (e:H3 D = some (.lst ys)) (hl:ys.length < sizeLine) (h:Pv D (i + 1) (ys ++ [y]) (upd H3 D (.lst (ys ++ [y])))):CYes Pv D i n y H3:=⟨ys,e,hl,.mk hi h⟩
theorem comp_list {K:PySem.W.Frag} {a:Addr} {xs:List V} {σ:St} {H1:Hp} {Q:VK} (Pv:Addr→Nat→List V→Hp→Prop) (h0:∀ D,H1 D = none→Pv D 0 [] (upd H1 D (.lst [])))
    (hk:∀ D i ys H,H1 D = none→i ≤ xs.length→Pv D i ys H→SqL K H a xs)
    (hs:∀ D i x ys H,H1 D = none→xs[i]? = some x→Pv D i ys H→tt (cmpSt σ fr (some x)) H fun b H2=>if b = true then te (cmpSt σ fr (some x)) H2 (CYes Pv D i xs.length) else CNext Pv D i xs.length H2)
    (hd:∀ D ys H,H1 D = none→Pv D xs.length ys H→Q (.ref D) H):CompAt (Itl K a) fr tt te σ Q H1:=by
  intro D hD
  refine ⟨fun i m H=>m = xs.length - i∧i ≤ xs.length∧∃ ys,Pv D i ys H,⟨_,rfl,Nat.zero_le _,[],h0 D hD⟩,?_⟩
  rintro i m H ⟨rfl,hi,ys,p⟩
  have q:=hk D i ys H hD hi p
  by_cases hlt:i < xs.length
  · refine .inr ⟨⟨xs,xs[i],q,by simp [hlt]⟩,fun x H' y=>?_⟩
    obtain ⟨e,y⟩:=y
    subst e
    exact hs D i x ys _ hD (y xs q) p
  · have e:i = xs.length:=by omega
    subst e
    exact .inl ⟨⟨xs,q,Nat.le_refl _⟩,hd D ys H hD p⟩
theorem comp_range {lo:Int} {n:Nat} {σ:St} {H1:Hp} {Q:VK} (Pv:Addr→Nat→List V→Hp→Prop) (h0:∀ D,H1 D = none→Pv D 0 [] (upd H1 D (.lst [])))
    (hs:∀ D i ys H,H1 D = none→i < n→Pv D i ys H→tt (cmpSt σ fr (some (.int (lo + i)))) H fun b H2=>if b = true then te (cmpSt σ fr (some (.int (lo + i)))) H2 (CYes Pv D i n) else CNext Pv D i n H2)
    (hd:∀ D ys H,H1 D = none→Pv D n ys H→Q (.ref D) H):CompAt (Itr lo n) fr tt te σ Q H1:=by
  intro D hD
  refine ⟨fun i m H=>m = n - i∧i ≤ n∧∃ ys,Pv D i ys H,⟨_,rfl,Nat.zero_le _,[],h0 D hD⟩,?_⟩
  rintro i m H ⟨rfl,hi,ys,p⟩
  by_cases hlt:i < n
  · refine .inr ⟨hlt,fun x H' y=>?_⟩
    obtain ⟨e,y⟩:=y
    subst e; subst y
    exact hs D i ys _ hD hlt p
  · have e:i = n:=by omega
    subst e
    exact .inl ⟨Nat.le_refl _,hd D ys H hD p⟩
end
end L2
namespace L2
open PySem PySem.Spec PyProof.Rows
structure CmpOkG (X:Cx) (N:List Str) (k:Nat) (fr:List Nat) (scope:Scope) (cl:List (Str × Addr)):Prop where
  clos:closureFor scope X.env = pure cl
  kind:scope.kind = .function
  nocell:∀ y ∈ scope.names,y.2 ≠ .cell
  names:∀ y ∈ scope.names,y.2 = .local→scope.names.lookup y.1 = some .local
  len:N.length = k + fr.length
  sub:∀ (i:Nat) (y:Str),N[k + i]? = some y→∃ j,fr[i]? = some j∧X.N[j]? = some y∧(X.env.kindOf y = some .cell∨X.env.kindOf y = some .free)∧((relabel scope X.env).names.lookup y = some .cell∨(relabel scope X.env).names.lookup y = some .free)
  cells:∀ y c,cl.lookup y = some c→X.env.cells.lookup y = some c
  has:∀ y,((relabel scope X.env).names.lookup y = some .cell∨(relabel scope X.env).names.lookup y = some .free)→∃ c,cl.lookup y = some c
theorem cmpOkG_plain {X:Cx} {N:List Str} {k:Nat} {scope:Scope} (len:N.length = k) (kind:scope.kind = .function) (nofree:∀ y ∈ scope.names,y.2 ≠ .free) (nocell:∀ y ∈ scope.names,y.2 ≠ .cell)
    (names:∀ y ∈ scope.names,y.2 = .local→scope.names.lookup y.1 = some .local):CmpOkG X N k [] scope []:=by
  have er:(relabel scope X.env).names = scope.names:=map_eq_self fun y hy=>by
    have z:(y.2 == NameKind.free) = false:=by simpa using nofree y hy
    simp [z]
  have no:∀ y,¬ ((relabel scope X.env).names.lookup y = some .cell∨(relabel scope X.env).names.lookup y = some .free):=fun y h=>by
    rw [er] at h
    rcases h with h | h
    · exact nocell _ (PySem.mem_of_lookup h) rfl
    · exact nofree _ (PySem.mem_of_lookup h) rfl
  refine ⟨closureFor_none nofree,kind,nocell,names,by rw [len]; rfl,fun i y e=>?_,(fun y c e=>by cases e),fun y h=>absurd h (no y)⟩
  have:=(List.getElem?_eq_some_iff.mp e).1
  omega
def cmpStG (σ:St) (fr:List Nat) (ts:St):St:=ts ++ fr.map fun j=>(σ[j]?).join
def CompAtG (J:It) (gt:TG) (k:Nat) (fr:List Nat) (tt:TT) (te:TE) (σ:St) (Q:VK) (H1:Hp):Prop:=∀ D,H1 D = none→∃ W:Nat→Nat→Hp→Prop,(∃ m,W 0 m (upd H1 D (.lst [])))∧∀ i m H,W i m H →
  (J.stop i H∧Q (.ref D) H)∨(J.go i H∧∀ x H',J.yld i H x H'→∀ ts:St,ts.length = k→gt x (cmpStG σ fr ts) H' fun σ2 H2=>(∃ ts2:St,ts2.length = k∧σ2 = cmpStG σ fr ts2)∧tt σ2 H2 fun b H3=>if b = true then te σ2 H3 fun y H4=>∃ ys,H4 D = some (.lst ys)∧ys.length < sizeLine∧∃ m',m' < m∧W (i + 1) m' (upd H4 D (.lst (ys ++ [y])))
    else ∃ m',m' < m∧W (i + 1) m' H3)
def tCompG (wi:TI) (gt:TG) (k:Nat) (fr:List Nat) (tt:TT) (te:TE):TE:=fun σ H Q=>wi σ H fun J H1=>CompAtG J gt k fr tt te σ Q H1
section
variable {X:Cx} {elt iter tg:Expr} {ifs:List Expr} {pos:Pos} {scope:Scope} {cl:List (Str × Addr)} {N:List Str} {k:Nat} {fr:List Nat} {gt:TG} {tt:TT} {te:TE}
theorem comp_coreG {pins:List (Addr × Obj)} {σ:St} {s2:Shared} {H2:Hp} {it:Addr} {fp:List Addr} {tn:Nat→Heap→Prop} {J:It} {Q:VK} {E:Value→Shared→Prop} {RR:Value→Addr→Result→Shared→Prop}
    (O:CmpOkG X N k fr scope cl) (hc:X.calm = true) (I2:Inv X pins σ H2 s2) (T:Turn X.prog X.w X.K tg J fp it tn) (st2:tn 0 s2.heap) (f2:∀ b ∈ fp,FpOk X pins H2 b)
    (ht:∀ fp C s H,PIf (cmpCx X N scope cl fp C s H) ifs tt) (he:∀ fp C s H,PE (cmpCx X N scope cl fp C s H) elt te)
    (hg:∀ fp C s H,PG (cmpCx X N scope cl fp C s H) tg gt) (hW:CompAtG J gt k fr tt te σ Q H2)
    (fin:∀ D C s' H',s2.heap.objs.size ≤ C→H' C = none→(∃ m,s'.heap.Ns C m)→Inv X pins σ H' s'→Q (.ref D) H'→RR (.ref D) C (.ok .next) s') :
    wpAny (model X.prog X.w) X.A (newList []) (fun acc s3=>wpAny (model X.prog X.w) X.A (newFunctionEnv scope X.env.globals cl [] X.env.qual none .none (some X.env)) (fun cenv s4 =>
      codeAny (model X.prog X.w) X.A (.compStart (.ListComp elt [⟨tg,iter,ifs,0⟩] scope pos) 0 (.ref it) acc { cenv with scope:=relabel scope X.env }) (RR acc cenv.locals) s4) E s3) E s2:=by
  refine wpAny_newObj_type (wpAny_newFunctionEnv O.nocell (by intro y hy; simp at hy) (fun h1 hns hsb=>?_) O.kind)
  dsimp only at hns hsb ⊢
  generalize hG:s2.heap.push { cls:=.type "list",dict:=none,data:=.seq ([]:List Value).toArray } = G at hns hsb ⊢
  have hC:G.objs.size = s2.heap.objs.size + 1:=by rw [← hG,Heap.size_push]
  have old:∀ b o,s2.heap.get? b = some o→h1.get? b = some o:=fun b o e=>hsb.extBut b o (Nat.ne_of_lt (by rw [hC]; exact Nat.lt_succ_of_lt (Heap.lt_size e))) (Heap.get?_push_of_some _ (hG ▸ Heap.get?_push_of_some _ e))
  have hacc:h1.get? s2.heap.objs.size = some { cls:=.type "list",data:=.seq ([]:List Value).toArray 0 }:=hsb.extBut _ _ (Nat.ne_of_lt (by rw [hC]; exact Nat.lt_succ_self _)) (Heap.get?_push_of_some _ (hG ▸ Heap.get?_push_size _ rfl))
  have hD:H2 s2.heap.objs.size = none:=I2.fresh
  have okX:(cmpCx X N scope cl fp G.objs.size s2 H2).Ok:=by
    refine ⟨I2.ok.mod,O.kind,I2.ok.glob,I2.ok.blt,by show s2.heap.objs.size ≤ G.objs.size; rw [hC]; exact Nat.le_succ _,fun y z c e1 e2=>I2.ok.inj y z c (O.cells y c e1) (O.cells z c e2),fun y hy=>O.has y hy,fun y c z=>absurd (show false = true from z) Bool.false_ne_true,I2.ok.hd,I2.ok.frames,.inl rfl,
      fun b hb=>⟨?_,fun y c e=>(f2 b hb).2.2.2.2.1 y c (O.cells y c e)⟩,I2.bs,Nat.le_trans I2.ok.bsz I2.sz,fun b o e hb=>?_,fun b hb z=>?_,I2.stack,I2.stkFree⟩
    · obtain ⟨o,e,_⟩:=T.obj _ _ st2 b hb
      show b ≠ G.objs.size
      exact Nat.ne_of_lt (by rw [hC]; exact Nat.lt_succ_of_lt (Heap.lt_size e))
    · rcases (f2 b hb).2.2.2.1 with z | z
      · exact I2.ok.noex b o e z
      · exact absurd (Nat.lt_of_lt_of_le (Heap.lt_size e) (Nat.le_trans I2.ok.bsz z)) (Nat.lt_irrefl _)
    · rcases List.mem_cons.mp (I2.stkSub b z) with z | z
      · exact (f2 b hb).2.1 z
      · exact (f2 b hb).2.2.1 z
  have statX:∀ {H' : Hp},(∀ b ∈ fp,H' b = none)→∀ b ∈ fp,FpOk (cmpCx X N scope cl fp G.objs.size s2 H2) [] H' b:=fun hn b hb =>
    ⟨hn b hb,(okX.exf b hb).1,okX.exfs b hb,.inl hb,(okX.exf b hb).2,fun p hp=>absurd (show p ∈ ([]:List (Addr × Obj)) from hp) (by simp)⟩
  have I' : Inv (cmpCx X N scope cl fp G.objs.size s2 H2) [] (cmpStG σ fr (List.replicate k none)) (upd H2 s2.heap.objs.size (.lst [])) { s2 with heap:=h1,toks:=s2.toks + ([]:List (Str × Value)).length }:=by
    refine ⟨okX,rfl,I2.bare,Un.laid old (Nat.le_refl _) hD,⟨_,hns,fun i y v e1 e2 e3=>?_⟩,fun y c e=>?_,?_,fun y c e=>?_,fun p hp=>absurd (show p ∈ ([]:List (Addr × Obj)) from hp) (by simp),I2.hok.laid old (Nat.le_refl _) ⟨Nat.zero_le _,[],0,.nil,hacc⟩,?_⟩
    · by_cases hik:i < k
      · have e2' : (List.replicate k none ++ fr.map fun j=>(σ[j]?).join)[i]? = some (some v):=e2
        rw [List.getElem?_append_left (by rw [List.length_replicate]; exact hik),List.getElem?_replicate,if_pos hik] at e2'
        cases e2'
      · obtain ⟨j,q1,q2,q3,q4⟩:=O.sub (i - k) y (by rw [show k + (i - k) = i by omega]; exact e1)
        have e2' : (σ[j]?).join = some v:=by
          have:(List.replicate k none ++ fr.map fun j=>(σ[j]?).join)[i]? = some (some v):=e2
          rw [List.getElem?_append_right (by rw [List.length_replicate]; omega),List.length_replicate,List.getElem?_map,q1] at this
          exact Option.some.inj this
        have e4:σ[j]? = some (some v):=by
          cases z:σ[j]? with
          | none=>rw [z] at e2'; cases e2'
          | some t=>rw [z] at e2'; exact congrArg some e2'
        obtain ⟨m,_,hl⟩:=I2.loc
        have vis:Vis X.env.scope y:=.inr q3
        obtain ⟨u,r,l⟩:=hl j y v q2 e4 vis
        refine ⟨u,r,.inr ⟨q4,?_⟩⟩
        obtain ⟨c',hc'⟩:=O.has y q4
        rcases l with ⟨k,_⟩ | ⟨_,c,ec,ic⟩
        · rcases q3 with z | z
          · rw [z] at k; cases k
          · rw [z] at k; cases k
        · have:=O.cells y c' hc'
          have e' : c = c':=Option.some.inj (ec.symm.trans this)
          obtain ⟨o,ho,hd⟩:=ic
          rw [e'] at ho
          exact ⟨c',hc',o,old c' o ho,hd⟩
    · obtain ⟨v,o,ho,hd⟩:=I2.cell y c (O.cells y c e)
      exact ⟨v,o,old c o ho,hd⟩
    · show upd H2 s2.heap.objs.size (.lst []) G.objs.size = none
      rw [upd_ne (Nat.ne_of_gt (by rw [hC]; exact Nat.lt_succ_self _))]
      exact I2.hok.fresh (by rw [hC]; exact Nat.le_succ _)
    · obtain ⟨v,o,ho,hd⟩:=I2.cell y c (O.cells y c e)
      rw [upd_ne (Nat.ne_of_lt (Heap.lt_size ho))]
      exact I2.freeC y c (O.cells y c e)
    · show (cmpStG σ fr (List.replicate k none)).length = N.length
      rw [O.len]; simp [cmpStG]
  have st1:tn 0 h1:=T.keep _ _ _ st2 fun b hb o e=>old b o e
  have loop:∀ s3:Shared,s3 = { s2 with heap:=h1,toks:=s2.toks + ([]:List (Str × Value)).length } →
      codeAny (model X.prog X.w) X.A (.compLoop (.ListComp elt [⟨tg,iter,ifs,0⟩] scope pos) 0 (.ref it) (.ref s2.heap.objs.size) (compEnvC scope cl G.objs.size X.env)) (RR (.ref s2.heap.objs.size) G.objs.size) s3:=by
    rintro s3 rfl
    obtain ⟨W,⟨m0,w0⟩,turn⟩:=hW _ hD
    refine comp_turns (fun n s'=>∃ i ts H',ts.length = k∧Inv (cmpCx X N scope cl fp G.objs.size s2 H2) [] (cmpStG σ fr ts) H' s'∧tn i s'.heap∧(∀ b ∈ fp,H' b = none)∧W i n H') ?_ m0
      ⟨0,List.replicate k none,_,List.length_replicate,I',st1,fun b hb=>by
        rw [upd_ne (by obtain ⟨o,e,_⟩:=T.obj _ _ st2 b hb; exact Nat.ne_of_lt (Heap.lt_size e))]
        exact (f2 b hb).1,w0⟩
    rintro n s' ⟨i,ts,H',hts,I3,st3,fr3,w3⟩
    rcases turn i n H' w3 with ⟨stop,qn⟩ | ⟨go,step⟩
    · refine thn (T.done (cmpCx X N scope cl fp G.objs.size s2 H2) rfl rfl rfl hc i [] s' _ H' _ I3 (statX fr3) st3 stop) fun r s4 ⟨hr,I4⟩=>?_
      subst hr
      obtain ⟨m,hm,_⟩:=I4.loc
      refine fin _ _ s4 H' (by rw [hC]; exact Nat.le_succ _) I4.free ⟨m,hm⟩ (I2.call' (ch:=fp) I4.os I4.base I4.hok I4.bare fun b hb=>?_) qn
      exact ⟨(f2 b hb).2.2.2.1,(f2 b hb).2.1,(f2 b hb).2.2.2.2.1,(f2 b hb).2.2.2.2.2⟩
    · refine thn (T.item (cmpCx X N scope cl fp G.objs.size s2 H2) rfl rfl rfl hc i [] s' _ H' _ I3 (statX fr3) st3 go) fun r s4 ⟨u,hr,h4⟩=>?_
      subst hr
      refine thn h4 fun _ s5 ⟨y,H5,I5,r5,y5,st5,fr5⟩=>?_
      have I5':=I5.pinned (statX fr5) (T.obj _ _ st5)
      refine thn (hg fp G.objs.size s2 H2 _ s5 _ H5 y u _ I5' r5 (step y H5 y5 ts hts)) fun _ s6 ⟨σ6,H6,I6,⟨ts6,hts6,e6⟩,q6⟩=>?_
      subst e6
      have again:∀ {σ7:St} {H7:Hp} {s7:Shared} {m' : Nat},σ7 = cmpStG σ fr ts6→Inv (cmpCx X N scope cl fp G.objs.size s2 H2) ([] ++ pinsAt fp s5.heap) σ7 H7 s7→m' < n→W (i + 1) m' H7 →
          ∃ m,m < n∧∃ i ts H',ts.length = k∧Inv (cmpCx X N scope cl fp G.objs.size s2 H2) [] (cmpStG σ fr ts) H' s7∧tn i s7.heap∧(∀ b ∈ fp,H' b = none)∧W i m H':=fun {σ7 H7 s7 m'} e7 I7 hm w7=>by
        subst e7
        refine ⟨m',hm,i + 1,ts6,H7,hts6,I7.unpinned,T.keep _ _ _ st5 fun b hb o e=>(I7.pin (b,o) (List.mem_append_right _ (List.mem_append_right _ (mem_pinsAt hb e)))).1,fun b hb=>?_,w7⟩
        obtain ⟨o,e,d⟩:=T.obj _ _ st5 b hb
        exact (I7.pin (b,o) (List.mem_append_right _ (List.mem_append_right _ (mem_pinsAt hb e)))).2.1
      refine thn (ht fp G.objs.size s2 H2 _ s6 _ H6 _ I6 q6) fun ok s7 ⟨H7,I7,q7⟩=>?_
      cases ok with
      | false =>
        rw [if_neg Bool.false_ne_true] at q7 ⊢
        obtain ⟨m',hm,w7⟩:=q7
        exact again rfl I7 hm w7
      | true =>
        rw [if_pos rfl] at q7 ⊢
        refine thn (he fp G.objs.size s2 H2 _ s7 _ H7 _ I7 q7) fun u8 s8 ⟨v8,H8,I8,r8,ys,hys,hlen,m',hm,w8⟩=>?_
        refine thn (mt_append (X:=cmpCx X N scope cl fp G.objs.size s2 H2) _ s8 _ H8 (.ref s2.heap.objs.size) [v8] _ [u8] (fun _ H9=>W (i + 1) m' H9) I8 rfl (.cons r8 .nil) ⟨_,ys,v8,rfl,rfl,hys,hlen,w8⟩) fun _ s9 ⟨_,H9,I9,_,w9⟩=>?_
        exact again rfl I9 hm w9
  exact codeAny_compStart_list (loop _ rfl) (T.self _ 0 _ _ _ st1 (loop _ rfl))
theorem pe_compG {wi:TI} (hi:PI X tg iter wi) (O:CmpOkG X N k fr scope cl) (hc:X.calm = true) (hg:∀ fp C s H,PG (cmpCx X N scope cl fp C s H) tg gt) (ht:∀ fp C s H,PIf (cmpCx X N scope cl fp C s H) ifs tt) (he:∀ fp C s H,PE (cmpCx X N scope cl fp C s H) elt te)
    (hs:∀ v,foldedSetIterable iter X.env v = pure v:=by intro _; rfl):PE X (.ListComp elt [⟨tg,iter,ifs,0⟩] scope pos) (tCompG wi gt k fr tt te):=by
  intro pins s σ H Q I h
  rw [eval_ListComp]
  refine wpAny_comprehension_free (use:=none) rfl hs O.clos O.kind O.names (thn (hi pins s σ H _ I h) fun v s1 h1=>thn h1 fun itv s2 h2=>?_)
  obtain ⟨it,fp,tn,J,H2,e,I2,T,st2,f2,hW⟩:=h2
  subst e
  refine comp_coreG (RR:=fun acc C=>compPost (model X.prog X.w) X.A X.xe none (EP X pins σ Q) acc C) O hc I2 T st2 f2 ht he hg hW fun D C s' H' hC hn ⟨m,hm⟩ I' q=>?_
  exact ⟨m,hm,fun h' hs'=>⟨.ref D,H',I2.left I' hC hn hs',rfl,q⟩⟩
theorem compG_list {K:PySem.W.Frag} {a:Addr} {xs:List V} {σ:St} {H1:Hp} {Q:VK} (Pv:Addr→Nat→List V→Hp→Prop) (h0:∀ D,H1 D = none→Pv D 0 [] (upd H1 D (.lst [])))
    (hk:∀ D i ys H,H1 D = none→i ≤ xs.length→Pv D i ys H→SqL K H a xs)
    (hs:∀ D i x ys H,H1 D = none→xs[i]? = some x→Pv D i ys H→∀ ts:St,ts.length = k→gt x (cmpStG σ fr ts) H fun σ2 H2=>(∃ ts2:St,ts2.length = k∧σ2 = cmpStG σ fr ts2)∧tt σ2 H2 fun b H3=>if b = true then te σ2 H3 (CYes Pv D i xs.length) else CNext Pv D i xs.length H3)
    (hd:∀ D ys H,H1 D = none→Pv D xs.length ys H→Q (.ref D) H):CompAtG (Itl K a) gt k fr tt te σ Q H1:=by
  intro D hD
  refine ⟨fun i m H=>m = xs.length - i∧i ≤ xs.length∧∃ ys,Pv D i ys H,⟨_,rfl,Nat.zero_le _,[],h0 D hD⟩,?_⟩
  rintro i m H ⟨rfl,hi,ys,p⟩
  have q:=hk D i ys H hD hi p
  by_cases hlt:i < xs.length
  · refine .inr ⟨⟨xs,xs[i],q,by simp [hlt]⟩,fun x H' y=>?_⟩
    obtain ⟨e,y⟩:=y
    subst e
    exact hs D i x ys _ hD (y xs q) p
  · have e:i = xs.length:=by omega
    subst e
    exact .inl ⟨⟨xs,q,Nat.le_refl _⟩,hd D ys H hD p⟩
end
theorem gTupK {X:Cx} {K:PySem.W.Frag} {es:List Expr} {k:Nat} {t:TGs} {n:Nat} {pos:Pos} (hK:X.K = K) (hc:X.calm = true) (h:PGs X es t) (hn:(assignEach es X.env).length = n:=by rfl) (hst:(assignEach es X.env).findIdx? (·.1) = none:=by rfl):PG X (.Tuple es k pos) (gTup K n t):=hK ▸ pg_tup hc h hn hst
end L2
namespace Srt
open PySem PySem.W PyProof.Rows
def Ok (n:Nat) (lt:Nat→Nat→Bool) {α:Type} : KasT α→(α→Prop)→Prop
  | .ret a,Q=>Q a
  | .ask i j k,Q=>i < n∧j < n∧Ok n lt (k (lt i j)) Q
section
variable {n:Nat} {lt:Nat→Nat→Bool}
abbrev g (p:Array Nat) (i:Nat):Nat:=p.getD i 0
def Bd (n:Nat) (p:Array Nat):Prop:=0 < n∧∀ i,g p i < n
def Up (lt:Nat→Nat→Bool) (p:Array Nat) (k:Nat):Prop:=∀ i j,i ≤ j→j < k→lt (g p j) (g p i) = false
def Dn (lt:Nat→Nat→Bool) (p:Array Nat) (k:Nat):Prop:=∀ i j,i ≤ j→j < k→lt (g p i) (g p j) = false
structure Ord (lt:Nat→Nat→Bool):Prop where
  tr:∀ a b c,lt b a = false→lt c b = false→lt c a = false
  as:∀ a b,lt a b = true→lt b a = false
def Eqs (lt:Nat→Nat→Bool) (p:Array Nat) (a b:Nat):Prop:=∀ i j,a ≤ i→i < b→a ≤ j→j < b→lt (g p i) (g p j) = false
end
end Srt
namespace L2
open PySem PySem.Spec PySem.W PyProof.Rows
def ltP (p q:Int × Int):Bool:=decide (p.1 < q.1) || (decide (p.1 = q.1) && decide (p.2 < q.2))
section
variable {prog:Program} {w:World} {A:Around} {E:Value→Shared→Prop} {s:Shared}
end
section
variable {X:Cx}
end
end L2
namespace L2
structure BothI (S A B A0 B0:List Pr):Prop where
  ap:Apart S
  aA:Apart A
  aB:Apart B
  mem:∀ n,(inP A0 n && inP B0 n) = (inP S n || (inP A n && inP B n))
  gap:∀ s ∈ S,(∀ p ∈ A,s.2 + 2 ≤ p.1)∨(∀ p ∈ B,s.2 + 2 ≤ p.1)
structure GapI (F T:List Pr) (lo hi st:Int):Prop where
  ap:Apart F
  lt:∀ s ∈ F,s.2 + 2 ≤ st
  rng:∀ s ∈ F,lo ≤ s.1∧s.2 ≤ hi
  tk:∀ p ∈ T,p.2 < st
  fr:st = lo∨∃ p ∈ T,st = p.2 + 1
  ge:lo ≤ st
  mem:∀ n,lo ≤ n→n ≤ hi→n < st→inP F n = !inP T n
end L2
namespace L2
structure Walk (ts:List (Int × Int × Int)):Prop where
  le:∀ t ∈ ts,t.1 ≤ t.2.1
  nx:∀ (i:Nat) a b,ts[i]? = some a→ts[i + 1]? = some b→b.1 = a.2.1 + 1
def pcs (msk:Int→Bool) (ts:List (Int × Int × Int)) (n:Int):Bool:=ts.any fun t=>inR n (t.1,t.2.1) && msk t.2.2
structure RunI (R:List Pr) (ts:List (Int × Int × Int)) (msk:Int→Bool) (i:Nat) (at_:Int):Prop where
  ap:Apart R
  mem:∀ n,inP R n = pcs msk (ts.take i) n
  lt:∀ r ∈ R,r.2 < at_
  few:2 * R.length ≤ i∨(2 * R.length ≤ i + 1∧∃ R' l,R = R' ++ [l]∧l.2 = at_ - 1)
section
variable {R:List Pr} {ts:List (Int × Int × Int)} {msk:Int→Bool} {i:Nat} {at_:Int} {t:Int × Int × Int}
end
end L2
namespace L2
def ends (R:List Pr):List Int:=R.flatMap fun p=>[p.1,p.2 + 1]
end L2
namespace L2
open PySem PySem.Spec PyProof.Rows
theorem preSum_take (ns:List Int):∀ k,k ≤ ns.length→preSum (fun i=>ns.getD i 0) k = (ns.take k).sum
  | 0,_=>rfl
  | k + 1,h=>by
    have ih:=preSum_take ns k (by omega)
    show preSum (fun i=>ns.getD i 0) k + ns.getD k 0 = _
    have e:ns[k]? = some ns[k]:=List.getElem?_eq_getElem (by omega)
    rw [ih,List.take_add_one,e,List.sum_append,List.getD_eq_getElem?_getD,e]
    simp
section
variable {X:Cx}
theorem call_sum_ints (hc:X.calm = true):CallR X (.builtin "sum") (fun us H Q=>∃ (a:Addr) (ns:List Int),us = [.ref a]∧SqL X.K H a (ns.map V.int)∧Q (.int ns.sum) H):=by
  intro pins s σ H us vs Q I r h
  obtain ⟨a,ns,rfl,hq,q⟩:=h
  obtain ⟨u,rfl,rx⟩:=r.one
  cases (show u = Value.ref a from rx)
  obtain ⟨its,rv,pl,hz⟩:=I.list hq
  have l1:=rv.length
  rw [List.length_map] at l1
  obtain ⟨oa,ea,_⟩:=id pl.isList
  have hax:a < s.heap.objs.size:=Heap.lt_size ea
  refine call_sum_walkG (wpAny_pyIter_list pl.isList ?_)
  refine ⟨s.heap.objs.size,[s.heap.objs.size,a],[s.heap.objs.size],_,_,_,fun i=>ns.getD i 0,rfl,Walks.list (A:=X.A.in1) (I.ok.hd hc) _ a (Nat.ne_of_lt hax) its.toArray,⟨⟨_,Heap.get?_push_size _ rfl,rfl,rfl⟩,pl.isList.at fun o e=>Heap.get?_push_of_some _ e⟩,fun b hb=>?_,fun i v e=>?_,fun h' tk t' hk=>?_⟩
  · show b < (s.heap.push _).objs.size
    rw [Heap.size_push]
    rcases List.mem_cons.mp hb with z | z
    · rw [z]; exact Nat.lt_succ_self _
    · have z2:b = a:=by simpa using z
      rw [z2]; exact Nat.lt_succ_of_lt hax
  · have e' : its[i]? = some v:=by simpa using e
    have hi:i < ns.length:=by rw [l1]; exact (List.getElem?_eq_some_iff.mp e').1
    have ex:(ns.map V.int)[i]? = some (.int ns[i]):=by rw [List.getElem?_map,List.getElem?_eq_getElem hi]; rfl
    obtain ⟨u,q1,ru⟩:=rv.get ex
    rw [e'] at q1; cases q1
    obtain ⟨t,rfl⟩:=ru
    exact ⟨t,by show Value.int ns[i] t = Value.int (ns.getD i 0) t; rw [List.getD_eq_getElem?_getD,List.getElem?_eq_getElem hi]; rfl⟩
  · refine ⟨.int ns.sum,H,I.kept (t':=tk) fun b o e=>hk b o (fun z=>?_) (Heap.get?_push_of_some _ e),⟨t',?_⟩,q⟩
    · have z2:b = s.heap.objs.size:=by simpa using z
      exact absurd (Heap.lt_size e) (by rw [z2]; exact Nat.lt_irrefl _)
    · rw [List.size_toArray,← l1,preSum_take ns _ (Nat.le_refl _),List.take_length]
end
section
variable {prog:Program} {w:World} {A:Around} {E:Value→Shared→Prop} {s:Shared}
end
section
variable {X:Cx}
end
end L2
namespace L2
open PySem PySem.Spec PyProof.Rows
def Its (z:Str):It:=⟨fun i _=>i < z.cps.size,fun i H x H'=>H' = H∧∃ c,z.cps[i]? = some c∧x = .str ⟨#[c]⟩,fun i _=>z.cps.size ≤ i⟩
theorem turn_ascii {P:Program} {w:World} {K:PySem.W.Frag} {tg:Expr} (z:Str) (t:Tok) (it:Addr):Turn P w K tg (Its z) [it] it (fun i h=>h.IsStrIter it "str_ascii_iterator" z t i) where
  mem:=by simp
  obj:=fun i h st b hb=>by
    obtain ⟨o,e,c,d⟩:=st
    rw [show b = it by simpa using hb]
    exact ⟨o,e,fun v q=>by rw [d] at q; cases q⟩
  keep:=fun i h h' ⟨o,e,r⟩ k=>⟨o,k it (by simp) o e,r⟩
  item:=by
    intro X hP hw hK hc i pins s σ H E I hf st hg
    subst hP hw hK
    have hlt:i < z.cps.size:=hg
    have hi:z.cps[i]? = some z.cps[i]:=Array.getElem?_eq_getElem hlt
    obtain ⟨f0,f1,f2,f3,f4,f5⟩:=hf it (by simp)
    refine wpAny_pyNext_ascii_item st hi fun h' st' sb=>?_
    have I1:Inv X pins σ H { s with heap:=h',toks:=s.toks + 1 }:=I.turned (t':=s.toks + 1) (fun b o hb e=>(sb.2 b hb).trans e) f0 f1 f3 f4 f5
    obtain ⟨o,e,c,d⟩:=id st'
    exact ⟨_,rfl,go_of (s:={ s with heap:=h',toks:=s.toks + 1 }) e c d (by decide) ⟨.str ⟨#[z.cps[i]]⟩,H,I1,⟨_,rfl⟩,⟨rfl,_,hi,rfl⟩,st',fun b hb=>(hf b hb).1⟩⟩
  done:=by
    intro X hP hw hK hc i pins s σ H E I hf st hg
    subst hP hw hK
    obtain ⟨f0,f1,f2,f3,f4,f5⟩:=hf it (by simp)
    exact wpAny_pyNext_ascii_end (I.ok.hd hc) st (by simpa using (show z.cps.size ≤ i from hg)) fun h' eb=>⟨rfl,I.turned (t':=s.toks) (fun b o hb e=>eb b o hb e) f0 f1 f3 f4 f5⟩
  self:=fun _ _ _ _ _ st h=>wpAny_pyIter_striter_ascii st h
theorem turn_wide {P:Program} {w:World} {K:PySem.W.Frag} {tg:Expr} (z:Str) (t:Tok) (it:Addr):Turn P w K tg (Its z) [it] it (fun i h=>h.IsStrIter it "str_iterator" z t i) where
  mem:=by simp
  obj:=fun i h st b hb=>by
    obtain ⟨o,e,c,d⟩:=st
    rw [show b = it by simpa using hb]
    exact ⟨o,e,fun v q=>by rw [d] at q; cases q⟩
  keep:=fun i h h' ⟨o,e,r⟩ k=>⟨o,k it (by simp) o e,r⟩
  item:=by
    intro X hP hw hK hc i pins s σ H E I hf st hg
    subst hP hw hK
    have hlt:i < z.cps.size:=hg
    have hi:z.cps[i]? = some z.cps[i]:=Array.getElem?_eq_getElem hlt
    obtain ⟨f0,f1,f2,f3,f4,f5⟩:=hf it (by simp)
    refine wpAny_pyNext_wide_item st hi fun h' st' sb=>?_
    have I1:Inv X pins σ H { s with heap:=h',toks:=s.toks + 1 }:=I.turned (t':=s.toks + 1) (fun b o hb e=>(sb.2 b hb).trans e) f0 f1 f3 f4 f5
    obtain ⟨o,e,c,d⟩:=id st'
    exact ⟨_,rfl,go_of (s:={ s with heap:=h',toks:=s.toks + 1 }) e c d (by decide) ⟨.str ⟨#[z.cps[i]]⟩,H,I1,⟨_,rfl⟩,⟨rfl,_,hi,rfl⟩,st',fun b hb=>(hf b hb).1⟩⟩
  done:=by
    intro X hP hw hK hc i pins s σ H E I hf st hg
    subst hP hw hK
    obtain ⟨f0,f1,f2,f3,f4,f5⟩:=hf it (by simp)
    exact wpAny_pyNext_wide_end (I.ok.hd hc) st (by simpa using (show z.cps.size ≤ i from hg)) fun h' eb=>⟨rfl,I.turned (t':=s.toks) (fun b o hb e=>eb b o hb e) f0 f1 f3 f4 f5⟩
  self:=fun _ _ _ _ _ st h=>wpAny_pyIter_striter_wide st h
section
variable {X:Cx} {tg:Expr}
def iStr (tl:TE):PySem.W.Frag→St→Hp→(It→Hp→Prop)→Prop:=fun _ σ H R=>tl σ H fun x H1=>∃ z,x = .str z∧R (Its z) H1
theorem pi_str {l:Expr} {tl:TE} (hl:PE X l tl):PI X tg l (iStr tl X.K):=by
  intro pins s σ H R I h
  refine thn (hl pins s σ H _ I h) fun v s1 ⟨x,H1,I1,r1,q1⟩=>?_
  obtain ⟨z,e,q⟩:=q1
  subst e
  obtain ⟨t,rfl⟩:=r1
  have fpo:∀ b ∈ [s1.heap.objs.size],FpOk X pins H1 b:=fun b hb=>by
    rw [show b = s1.heap.objs.size by simpa using hb]
    exact I1.fpOk (Nat.le_refl _) (I1.hok.fresh (Nat.le_refl _))
  cases ha:z.cps.all (· < 128) with
  | true=>exact wpAny_pyIter_ascii ha ⟨s1.heap.objs.size,[s1.heap.objs.size],_,_,H1,rfl,I1.kept (t':=s1.toks) fun b o e=>Heap.get?_push_of_some _ e,turn_ascii z t _,⟨_,Heap.get?_push_size _ rfl,rfl,rfl⟩,fpo,q⟩
  | false=>exact wpAny_pyIter_wide ha ⟨s1.heap.objs.size,[s1.heap.objs.size],_,_,H1,rfl,I1.kept (t':=s1.toks) fun b o e=>Heap.get?_push_of_some _ e,turn_wide z t _,⟨_,Heap.get?_push_size _ rfl,rfl,rfl⟩,fpo,q⟩
end
theorem for_str {z:Str} {g:TG} {tb:TS} {D:Ends} {σ:St} {H:Hp} (Pv:Nat→St→Hp→Prop) (h0:Pv 0 σ H)
    (hs:∀ i c σ H,z.cps.toList[i]? = some c→Pv i σ H→g (.str ⟨#[c]⟩) σ H fun σ2 H2=>tb { D with nx:=Pv (i + 1),ct:=Pv (i + 1),bk:=D.nx } σ2 H2) (hd:∀ σ H,Pv z.cps.size σ H→D.nx σ H) :
    ∃ W:Nat→Nat→St→Hp→Prop,(∃ m,W 0 m σ H)∧∀ i m σ H,W i m σ H →
      ((Its z).stop i H∧D.nx σ H)∨((Its z).go i H∧∃ N:St→Hp→Prop,(∀ σ' H',N σ' H'→∃ m',m' < m∧W (i + 1) m' σ' H')∧∀ x H',(Its z).yld i H x H'→g x σ H' fun σ2 H2=>tb { D with nx:=N,ct:=N,bk:=D.nx } σ2 H2):=by
  refine ⟨fun i m σ H=>m = z.cps.size - i∧i ≤ z.cps.size∧Pv i σ H,⟨_,rfl,Nat.zero_le _,h0⟩,?_⟩
  rintro i m σ H ⟨rfl,hi,p⟩
  by_cases hlt:i < z.cps.size
  · refine .inr ⟨hlt,Pv (i + 1),fun σ' H' p'=>⟨z.cps.size - (i + 1),by omega,rfl,hlt,p'⟩,fun x H' y=>?_⟩
    obtain ⟨e,c,y1,y2⟩:=y
    subst e; subst y2
    exact hs i c σ _ (by simpa using y1) p
  · have e:i = z.cps.size:=by omega
    subst e
    exact .inl ⟨Nat.le_refl _,hd σ H p⟩
section
variable {X:Cx}
def rJoin (K:PySem.W.Frag):V→List V→Hp→VK→Prop:=fun x vs H Q=>∃ (z:Str) (a:Addr) (ys:List Str),x = .str z∧vs = [.ref a]∧SqL K H a (ys.map V.str)∧z.length ≤ 64∧(ys.map (·.length)).sum + ys.length * 64 ≤ 16777216∧Q (.str (Txt.join z ys)) H
theorem pe_gl {x:Str} {v:V} {pos:Pos} (hg:Gl X x) (h:∃ u,X.mg x = some u∧RelV v u) (hd:(x == ("__debug__" : Str)) = false:=by decide):PE X (.Name x pos) (tC v) :=
  let ⟨_,m,r⟩:=h
  pe_glob hg m r hd
end
def sg (g:Str) (c:Nat):Bool:=!(Builtin.Str.occurrences g ⟨#[c]⟩ 0 g.length 1).isEmpty
def allIn (z g:Str):Bool:=z.cps.toList.all (sg g)
end L2
namespace L2
open PySem PySem.Spec PyProof.Rows PySem.NumText
section
variable {X:Cx}
def rSlS:V→Option Int→Option Int→Hp→VK→Prop:=fun x lo hi H Q=>∃ z,x = .str z∧z.length ≤ sizeLine∧Q (.str (Txt.slice z lo hi)) H
def rStarts:V→List V→Hp→VK→Prop:=fun x vs H Q=>∃ z y:Str,x = .str z∧vs = [.str y]∧Q (.bl (Txt.startswith z y)) H
end
structure Figs (cs:List Nat):Prop where
  all:AllDigits cs
  one:cs.length = 1∨∃ c r,cs = c :: r∧49 ≤ c
def numCs (n:Int) (cs:List Nat):List Nat:=if n < 0 then 45 :: cs else cs
end L2
namespace L2
open PySem PySem.Spec PyProof.Rows PySem.W
theorem op_mulO {X:Cx} : OpR X (binaryOp .Mult) (rI IntMulOk fun i j=>.int (i * j)):=opI fun _ _ _ _ _ _ _ hc q=>mul_int q hc
end L2
namespace L2
open PySem PySem.Spec PyProof.Rows
def ExcT (h:Heap) (e T:Addr) (cls a0:Value):Prop :=
  ∃ oe vs oT ts,h.get? e = some oe∧(oe.cls = cls∧vs[0]? = some a0)∧oe.data = .fields vs∧vs[1]? = some (.ref T)∧T ≠ e∧h.get? T = some oT∧oT.data = .fields ts∧ts[3]? = some .none
structure Stp (F X:List Addr) (h h' : Heap):Prop where
  keep:∀ b o,b ∉ F→b ∉ X→h.get? b = some o→h'.get? b = some o
  slot:∀ b o,b ∈ F→h.get? b = some o→∃ sl,h'.get? b = some { o with slots:=sl }
section
variable {M:Model} {A:Around} {E:Value→Shared→Prop} {s:Shared} {base:Heap} {env:Env} {outer:List Env} {L e T:Addr} {oe:Obj} {vs:Array Value} {a0 cls:Value} {Q:Unit→Shared→Prop}
end
end L2
namespace L2
open PySem PySem.Spec PyProof.Rows
section
variable {P:Program} {w:World} {H H' : Hp} {h h' : Heap} {a:Addr} {o:HO} {F Y fs:List Addr}
end
def CX1 (P:Program) (w:World):CXT:=fun outer H s E ev s'=>∃ (e T C:Addr) (a0:Value) (H' : Hp),ev = .ref e∧s'.os = s.os∧AllBare s'.gens∧Un (frs outer) [] H H' s.heap s'.heap∧HOk P w H' s'.heap ∧
  ExcT s'.heap e T (.ref C) a0∧s.heap.get? e = none∧s.heap.get? T = none∧H' e = none∧H' T = none∧E (.ref C) none H'
structure NewAt (X:Cx) (pins:List (Addr × Obj)) (H:Hp) (b:Addr):Prop where
  ent:X.s₀.heap.get? b = none
  unt:H b = none
  loc:b ≠ X.env.locals
  cel:∀ x c,X.env.cells.lookup x = some c→c ≠ b
  pin:∀ p ∈ X.pn ++ pins,p.1 ≠ b
section
variable {X:Cx} {pins:List (Addr × Obj)} {σ:St} {H:Hp} {s:Shared} {h' : Heap} {e T:Addr}
end
structure ExcCls (K:PySem.W.Frag) (C:Addr):Prop where
  ex:∃ (bmB bmN:List Value) (newId B Bn nid initId inN:String),PySem.W.excIn K C bmB newId = true∧ExcBaseFacts Bn newId inN bmN∧bmB.contains (Value.type Bn) = true∧ExcBaseFacts B nid initId bmB
section
variable {P:Program} {w:World} {K:PySem.W.Frag} {mg:Str→Option Value} {base:Heap} {N:List Str} {qual:Str} {scope:Scope} {f:Addr} {cd:Value} {A:Around} {outer:List Env} {s0:Shared} {H0:Hp} {E:XK}
def tRaise (C:Addr) (E:XK) (t:TA):TS:=fun _ σ H=>t σ H fun vs H1=>vs.length ≤ sizeLine∧E (.ref C) none H1
end
end L2
namespace L2
open PySem PySem.Spec PyProof.Rows
def XP (X:Cx) (pins:List (Addr × Obj)) (σ:St) (EX:Addr→Hp→Prop) (ev:Value) (s' : Shared):Prop :=
  ∃ (e T C:Addr) (a0:Value) (H' : Hp),ev = .ref e∧Inv X pins σ H' s'∧ExcT s'.heap e T (.ref C) a0∧NewAt X pins H' e∧NewAt X pins H' T∧EX C H'
abbrev TX:=St→Hp→VK→(Addr→Hp→Prop)→Prop
def PEX (X:Cx) (e:Expr) (t:TX):Prop :=
  ∀ (pins:List (Addr × Obj)) (s:Shared) (σ:St) (H:Hp) (Q:VK) (EX:Addr→Hp→Prop),Inv X pins σ H s→t σ H Q EX→wpAny (model X.prog X.w) X.A (eval e X.env) (EP X pins σ Q) (XP X pins σ EX) s
def CalleeX (P:Program) (w:World) (K:PySem.W.Frag) (mg:Str→Option Value) (base:Heap) (k:Nat) (x:Str) (ps:List Str) (sp:Sp):Prop :=
  ∃ f fd,FnOk P w K mg base (CX1 P w) k f fd ps sp∧Binds K fd ps []∧PySem.W.keepIn K (.ref f) = true∧mg x = some (.ref f)
section
variable {X:Cx} {pins:List (Addr × Obj)} {σ:St} {H:Hp} {s s' : Shared}
end
section
variable {X:Cx} {k:Nat} {x:Str} {ps:List Str} {sp:Sp} {e:Expr} {es:List Expr} {t:TA} {p pos:Pos}
def tFnX (sp:Sp) (t:TA):TX:=fun σ H Q EX=>t σ H fun vs H1=>sp vs H1 Q fun cv _ H2=>∃ C,cv = .ref C∧EX C H2
abbrev TSX:=Ends→St→Hp→(Addr→Hp→Prop)→Prop
def PSX (X:Cx) (st:Stmt) (t:TSX):Prop :=
  ∀ (pins:List (Addr × Obj)) (s:Shared) (σ:St) (H:Hp) (D:Ends) (EX:Addr→Hp→Prop),Inv X pins σ H s→t D σ H EX→wpAny (model X.prog X.w) X.A (exec st X.env) (SP X pins D) (XP X pins σ EX) s
def tSetX (i:Nat) (te:TX):TSX:=fun D σ H EX=>te σ H (fun v H1=>D.nx (σ.set i (some v)) H1) EX
def tDropX (te:TX):TSX:=fun D σ H EX=>te σ H (fun _ H1=>D.nx σ H1) EX
end
def sfx (X:Cx) (e:Addr) (oe:Obj):Cx:={ X with A:=X.A.mark (some (.ref e)),calm:=false,pn:=(e,oe) :: X.pn,xe:=fun _ _=>False }
section
variable {X:Cx} {pins:List (Addr × Obj)} {σ:St} {H:Hp} {s s' : Shared} {e:Addr} {oe:Obj}
end
section
variable {X:Cx} {pins:List (Addr × Obj)} {σ:St} {H:Hp} {s:Shared}
end
def tTry (i:Nat) (B:Addr) (K:PySem.W.Frag) (G:Addr→Prop) (tb:TSX) (ts:Addr→Addr→TS):TS:=fun D σ H=>tb D σ H fun C H1=>PySem.W.exmOne K (.ref C) (.ref B) = some true∧G C ∧
  ∀ e,ts C e { nx:=fun σ' H'=>D.nx (σ'.set i none) H',rt:=D.rt,bk:=fun σ' H'=>D.bk (σ'.set i none) H',ct:=fun σ' H'=>D.ct (σ'.set i none) H' } (σ.set i (some (.ref e))) H1
section
variable {X:Cx} {st b₀:Stmt} {su:List Stmt} {tb:TSX} {ts:Addr→Addr→TS} {Tn n:Str} {B:Addr} {i:Nat} {np hpos pos:Pos}
end
end L2
namespace L2
open PySem PySem.Spec PyProof.Rows
structure ExcLook (K:PySem.W.Frag) (C:Addr):Prop where
  ga:PySem.W.findIn K (.ref C) "__getattribute__" = some (some (.builtin "BaseException.__getattribute__"))
  hk:PySem.W.findIn K (.ref C) "__getattr__" = some none
  cl:PySem.W.findIn K (.ref C) "__class__" = some (some (.builtin "object.__class__"))
  gt:PySem.W.specialIn K (.builtin "object.__class__") "__get__" = some (some (.builtin "getset_descriptor.__get__"))
  tk:PySem.W.takesIn K (.builtin "object.__class__") = some true
  ob:PySem.W.mroIn K C (.type "object") = some true
  be:PySem.W.mroIn K C (.type "BaseException") = some true
  me:PySem.W.kitCls K (.ref C) (.ref C) = some true
section
variable {prog:Program} {w:World} {A:Around} {E:Value→Shared→Prop} {s:Shared} {K:PySem.W.Frag} {e C:Addr} {oe:Obj}
end
section
variable {X:Cx} {e C:Addr} {oe:Obj}
end
end L2
namespace L2
open PySem PySem.Spec PyProof.Rows
section
variable {X:Cx}
def tFr (c:Str) (ta:TE):TE:=fun σ H Q=>ta σ H fun x H1=>∃ z:Str,x = .str z∧z.length ≤ 1000∧(∀ n ∈ z.cps.toList,n < 16 ^ 8)∧c.length ≤ 1000∧∀ z2:Str,Q (.str z2) H1
theorem len_app (x y:Str):(x ++ y).length = x.length + y.length:=by
  show (Str.append x y).cps.size = x.cps.size + y.cps.size
  unfold Str.append
  simp
def rFind:V→List V→Hp→VK→Prop:=fun x vs H Q=>∃ z y:Str,x = .str z∧vs = [.str y]∧Q (.int (Txt.find z y)) H
theorem op_rep_str:OpR X (binaryOp .Mult) (fun x y H Q=>∃ z n,x = .str z∧y = .int n∧MulOk z n∧Q (.str (Txt.mul z n)) H):=by
  intro pins s σ H x y v u Q I rx ry h
  obtain ⟨z,n,rfl,rfl,hk,q⟩:=h
  obtain ⟨t,rfl⟩:=rx
  obtain ⟨t',rfl⟩:=ry
  exact PySem.SB.mul hk fun t' k=>⟨.str _,H,I.tok _,⟨_,rfl⟩,q⟩
end
end L2
namespace L2
open PySem PySem.Spec PyProof.Rows
def MCallee (CX:CXT) (P:Program) (w:World) (K:PySem.W.Frag) (mg:Str→Option Value) (base:Heap) (k:Nat) (C:Addr) (m:Str) (ps:List Str) (sp:Sp):Prop :=
  ∃ f fd,Meth K C m f∧FnOk P w K mg base CX k f fd ps sp∧Binds K fd ps []
def MkCallee (CX:CXT) (P:Program) (w:World) (K:PySem.W.Frag) (mg:Str→Option Value) (base:Heap) (k:Nat) (x:Str) (C:Addr) (ps:List Str) (sp:Sp):Prop :=
  ∃ f fd,Mk K C f∧FnOk P w K mg base CX k f fd ps sp∧Binds K fd ps []∧mg x = some (.ref C)
structure BaseM (K:PySem.W.Frag) (B:Addr) (m:Str) (f:Addr):Prop where
  sp:PySem.W.specialIn K (.ref B) "__getattribute__" = some (some (.builtin "type.__getattribute__"))
  rd:PySem.W.readsIn K B (.type "type") = true
  at_:PySem.W.findCls K (.ref B) (.type "type") m = some (.val (.ref f))
  kp:PySem.W.keepIn K (.ref f) = true
def BCallee (CX:CXT) (P:Program) (w:World) (K:PySem.W.Frag) (mg:Str→Option Value) (base:Heap) (k:Nat) (x:Str) (m:Str) (ps:List Str) (sp:Sp):Prop :=
  ∃ f fd B,BaseM K B m f∧FnOk P w K mg base CX k f fd ps sp∧Binds K fd ps []∧mg x = some (.ref B)
section
variable {CX:CXT} {P:Program} {w:World} {K:PySem.W.Frag} {mg:Str→Option Value} {base:Heap} {j k:Nat} {C:Addr} {x m:Str} {ps:List Str} {sp:Sp}
theorem MCallee.mono (c:MCallee CX P w K mg base j C m ps sp) (h:j ≤ k):MCallee CX P w K mg base k C m ps sp :=
  let ⟨f,fd,M,F,b⟩:=c
  ⟨f,fd,M,F.mono h,b⟩
theorem MkCallee.mono (c:MkCallee CX P w K mg base j x C ps sp) (h:j ≤ k):MkCallee CX P w K mg base k x C ps sp :=
  let ⟨f,fd,M,F,b⟩:=c
  ⟨f,fd,M,F.mono h,b⟩
theorem BCallee.mono (c:BCallee CX P w K mg base j x m ps sp) (h:j ≤ k):BCallee CX P w K mg base k x m ps sp :=
  let ⟨f,fd,B,M,F,b⟩:=c
  ⟨f,fd,B,M,F.mono h,b⟩
end
def tMt (C:Addr) (m:Str) (sp:Sp) (ta:TE) (t:TA):TE:=fun σ H Q=>ta σ H fun x H1=>∃ a dx fs,x = .ref a∧H1 a = some (.ins C dx fs)∧fs.lookup m = none∧t σ H1 fun vs H2=>sp (x :: vs) H2 Q E0
def tMk (C:Addr) (sp:Sp) (t:TA):TE:=fun σ H Q=>t σ H fun vs H1=>∀ x dx,H1 x = none→H1 dx = none→dx ≠ x →
  sp (.ref x :: vs) (upd (upd H1 dx (.own x)) x (.ins C dx [])) (fun v H2=>v = .non∧Q (.ref x) H2) E0
def tMtX (C:Addr) (m:Str) (sp:Sp) (ta:TE) (t:TA):TX:=fun σ H Q EX=>ta σ H fun x H1=>∃ a dx fs,x = .ref a∧H1 a = some (.ins C dx fs)∧fs.lookup m = none∧t σ H1 fun vs H2=>sp (x :: vs) H2 Q fun cv _ H3=>∃ C',cv = .ref C'∧EX C' H3
def tMkX (C:Addr) (sp:Sp) (t:TA):TX:=fun σ H Q EX=>t σ H fun vs H1=>∀ x dx,H1 x = none→H1 dx = none→dx ≠ x →
  sp (.ref x :: vs) (upd (upd H1 dx (.own x)) x (.ins C dx [])) (fun v H2=>v = .non∧Q (.ref x) H2) fun cv _ H3=>∃ C',cv = .ref C'∧EX C' H3
section
variable {X:Cx} {CX:CXT} {k:Nat} {f C:Addr} {fd:FuncData} {ps:List Str} {sp:Sp} {x m:Str} {p np pos apos:Pos} {e o:Expr} {es:List Expr} {ta:TE} {t:TA}
theorem run0 {pins:List (Addr × Obj)} {σ:St} {H:Hp} {s:Shared} {Q:VK} {us:List Value} {vs:List V} {E:XK} (F:FnOk X.prog X.w X.K X.mg X.base CX k f fd ps sp) (hr:Room k X.A) (hb:Binds X.K fd ps []) (hx:Passes CX X E)
    (I:Inv X pins σ H s) (r:Vals vs us) (h:sp vs H Q E):wpAny (model X.prog X.w) X.A (call (.ref f) us) (EP X pins σ Q) X.xe s :=
  run_fn (dvs:=[]) (ds:=[]) F hr hb .nil hx I r (by rw [List.append_nil]; exact h)
theorem pe_mt {pl:Sem Bool} (M:MCallee CX X.prog X.w X.K X.mg X.base k C m ps sp) (hx:Passes CX X E0) (c:Cls X.K C) (hr:Room k X.A) (he:PE X o ta) (ha:PA X (e :: es) t)
    (hst:starEach (e :: es) X.env = (false,eval e X.env) :: starEach es X.env:=by rfl) (hpl:(backTo pos (starEach es X.env)).any (·.1) = false:=by rfl)
    (ht:eval (.Call (.Attribute o m apos) (e :: es) [] pos) X.env = (do
      let ov ← eval o X.env
      standAt apos.atName
      let (f,first) ← holding [ov] (getMethod ov m pl)
      callWith pos f first (backTo pos (starEach (e :: es) X.env)) (backToKw pos (keywordEach [] X.env))):=by rfl) :
    PE X (.Call (.Attribute o m apos) (e :: es) [] pos) (tMt C m sp ta t):=by
  obtain ⟨f,fd,hm,F,hb⟩:=M
  intro pins s σ H Q I h
  refine PySem.W.methodCall_KW (pl:=pl) (thn (he pins s σ H _ I h) fun u s1 ⟨x,H1,I1,rx,a,dx,fs,ex,ea,l,q⟩=>?_) ht
  subst ex
  obtain rfl:u = Value.ref a:=rx
  refine getmeth_ok I1 ea c hm l ?_
  refine PySem.W.callWith_K (first:=[.ref a]) (h₀:=X.base) I.ok.mod.kin hm.kp (thn (ha pos pins s1 σ H1 _ I1 q) fun us s2 ⟨vs,H2,I2,r,q2⟩=>⟨I2.kIn,?_⟩) hst hpl
  exact run0 (us:=.ref a :: us) (vs:=.ref a :: vs) F hr hb hx I2 (.cons rfl r) q2
theorem pe_base {pl:Sem Bool} (M:BCallee CX X.prog X.w X.K X.mg X.base k x m ps sp) (hx:Passes CX X E0) (hr:Room k X.A) (hg:Gl X x) (ha:PA X (e :: es) t) (hdb:(x == ("__debug__" : Str)) = false:=by decide)
    (hst:starEach (e :: es) X.env = (false,eval e X.env) :: starEach es X.env:=by rfl) (hpl:(backTo pos (starEach es X.env)).any (·.1) = false:=by rfl)
    (ht:eval (.Call (.Attribute (.Name x np) m apos) (e :: es) [] pos) X.env = (do
      let ov ← eval (.Name x np) X.env
      standAt apos.atName
      let (f,first) ← holding [ov] (getMethod ov m pl)
      callWith pos f first (backTo pos (starEach (e :: es) X.env)) (backToKw pos (keywordEach [] X.env))):=by rfl) :
    PE X (.Call (.Attribute (.Name x np) m apos) (e :: es) [] pos) (tFn sp t):=by
  obtain ⟨f,fd,B,hB,F,hb,hm⟩:=M
  intro pins s σ H Q I h
  refine PySem.W.methodCall_KW (pl:=pl) (ld_glob I hg hm ?_ hdb) ht
  refine PySem.W.method_cls I.kIn hB.sp (PySem.W.cls_value (mc:=.type "type") I.kIn hB.rd hB.at_ (handed_of (v:=.ref f) rfl) ?_)
  refine PySem.W.callWith_K (first:=[]) (h₀:=X.base) I.ok.mod.kin hB.kp (thn (ha pos pins _ σ H _ (I.tok _) h) fun us s2 ⟨vs,H2,I2,r,q2⟩=>⟨I2.kIn,?_⟩) hst hpl
  exact run0 (us:=us) (vs:=vs) F hr hb hx I2 r q2
theorem pe_mk (M:MkCallee CX X.prog X.w X.K X.mg X.base k x C ps sp) (hx:Passes CX X E0) (hr:Room (k + 1) X.A) (hg:Gl X x) (ha:PA X (e :: es) t) (hdb:(x == ("__debug__" : Str)) = false:=by decide)
    (he:starEach (e :: es) X.env = (false,eval e X.env) :: starEach es X.env:=by rfl) (hpl:(backTo pos (starEach es X.env)).any (·.1) = false:=by rfl) :
    PE X (.Call (.Name x p) (e :: es) [] pos) (tMk C sp t):=by
  obtain ⟨f,fd,M,F,hb,hm⟩:=M
  have h:=pe_make (E:=E0) (dvs:=[]) (ds:=[]) (p:=p) M F hr hg hm hb .nil hx ha hdb he hpl
  intro pins s σ H Q I q
  refine h pins s σ H Q I ?_
  have q' : t σ H fun vs H1=>∀ x dx,H1 x = none→H1 dx = none→dx ≠ x→sp (.ref x :: vs) (upd (upd H1 dx (.own x)) x (.ins C dx [])) (fun v H2=>v = .non∧Q (.ref x) H2) E0:=q
  show t σ H fun vs H1=>∀ x dx,H1 x = none→H1 dx = none→dx ≠ x→sp (.ref x :: (vs ++ [])) (upd (upd H1 dx (.own x)) x (.ins C dx [])) (fun v H2=>v = .non∧Q (.ref x) H2) E0
  have e1:(fun (vs:List V) (H1:Hp)=>∀ x dx,H1 x = none→H1 dx = none→dx ≠ x→sp (.ref x :: (vs ++ [])) (upd (upd H1 dx (.own x)) x (.ins C dx [])) (fun v H2=>v = .non∧Q (.ref x) H2) E0) = fun vs H1=>∀ x dx,H1 x = none→H1 dx = none→dx ≠ x→sp (.ref x :: vs) (upd (upd H1 dx (.own x)) x (.ins C dx [])) (fun v H2=>v = .non∧Q (.ref x) H2) E0:=by
    funext vs H1
    rw [List.append_nil]
  rw [e1]
  exact q'
end
inductive Shw:V→Prop where
  | non:Shw .non
  | bl (b:Bool):Shw (.bl b)
  | int {i:Int} (h:i.natAbs < 10 ^ 60):Shw (.int i)
  | str {z:Str} (h:z.length ≤ 1000) (k:∀ n ∈ z.cps.toList,n < 16 ^ 8):Shw (.str z)
section
variable {X:Cx}
def tFrV (c:Str) (ta:TE):TE:=fun σ H Q=>ta σ H fun x H1=>Shw x∧c.length ≤ 1000∧∀ z2:Str,Q (.str z2) H1
end
def rEqT (K:PySem.W.Frag) (neg:Bool):R2:=fun x y H Q=>∃ a b xs ys,x = .ref a∧y = .ref b∧SqT K H a xs∧SqT K H b ys ∧
  ∃ f:Nat→Bool,(∀ j x y,xs[j]? = some x→ys[j]? = some y→EqI K H x y (f j))∧Q (.bl (if neg then !((List.range (min xs.length ys.length)).all f && xs.length == ys.length) else (List.range (min xs.length ys.length)).all f && xs.length == ys.length)) H
section
variable {X:Cx}
theorem op_eqT {k:Nat} (hr:Room k X.A):OpR X (compareOp .Eq) (rEqT X.K false):=by
  intro pins s σ H x y v u Q I rx ry h
  obtain ⟨a,b,xs,ys,rfl,rfl,ha,hb,f,hf,q⟩:=h
  cases (show v = Value.ref a from rx)
  cases (show u = Value.ref b from ry)
  obtain ⟨its,r,p,_⟩:=I.tuple ha
  obtain ⟨its',r',p',_⟩:=I.tuple hb
  have l1:=r.length
  have l2:=r'.length
  have hu:=hr.units
  refine SeqAt.eq_tupleAt (e:=f) (show s.heap.IsTuple a its.toArray from p) (show s.heap.IsTuple b its'.toArray from p') (by omega) (eqs_at I (by show X.A.units + 1 + 1 < cLine; omega) r r' hf) ⟨.bl _,H,I,rfl,?_⟩
  simp only [List.size_toArray]
  rw [← l1,← l2]
  exact q
theorem rEqT_same {K:PySem.W.Frag} {H:Hp} {Q:VK} {a b:Addr} {xs:List V} (ha:SqT K H a xs) (hb:SqT K H b xs) (fl:∀ x ∈ xs,flatV x = true) (q:Q (.bl true) H):rEqT K false (.ref a) (.ref b) H Q:=by
  refine ⟨a,b,xs,xs,rfl,rfl,ha,hb,fun _=>true,fun j x y e1 e2=>?_,?_⟩
  · rw [e1] at e2; cases e2
    have z:=fl x (List.mem_of_getElem? e1)
    have:=EqI.flat (K:=K) (H:=H) z z
    rw [eqV_refl z] at this
    exact this
  · have:(List.range (min xs.length xs.length)).all (fun _=>true) = true:=by simp
    show Q (.bl ((List.range (min xs.length xs.length)).all (fun _=>true) && xs.length == xs.length)) H
    rw [this,beq_self_eq_true,Bool.and_true]
    exact q
end
end L2
namespace L2
open PySem PySem.Spec PyProof.Rows
section
variable {X:Cx}
def rCatS (K:PySem.W.Frag):R2:=fun x y H Q=>∃ l b xs zs,x = .ref l∧y = .ref b∧SqL K H l xs∧SqL K H b zs∧xs.length + zs.length ≤ sizeLine∧∀ p,H p = none→Q (.ref p) (upd H p (.lst (xs ++ zs)))
end
end L2
namespace L2
open PySem PySem.Spec PyProof.Rows
end L2
namespace L2
open PySem PySem.Spec PyProof.Rows
theorem pe_fldK {X:Cx} {K:PySem.W.Frag} {e:Expr} {f:Str} {pos:Pos} {ta:TE} (h:X.K = K) (he:PE X e ta) (hb:attributeBase e f X.env (eval e X.env) = eval e X.env):PE X (.Attribute e f pos) (tFld K ta f):=h ▸ pe_fld he hb
end L2
namespace L2
open PySem
set_option maxRecDepth 100000
inductive DEq (K:PySem.W.Frag) (H:Hp):Nat→V→V→Bool→Prop where
  | flat {n:Nat} {x y:V} (fx:flatV x = true) (fy:flatV y = true):DEq K H n x y (eqV x y)
  | same {n:Nat} (a:Addr):DEq K H n (.ref a) (.ref a) true
  | lst {n:Nat} {a b:Addr} {xs ys:List V} {f:Nat→Bool} (ne:a ≠ b) (ha:SqL K H a xs) (hb:SqL K H b ys) (hl:xs.length = ys.length) (h:∀ (j:Nat) (x y:V),xs[j]? = some x→ys[j]? = some y→DEq K H n x y (f j)):DEq K H (n + 1) (.ref a) (.ref b) ((List.range xs.length).all f)
  | lst_ne {n:Nat} {a b:Addr} {xs ys:List V} (ne:a ≠ b) (ha:SqL K H a xs) (hb:SqL K H b ys) (hl:xs.length ≠ ys.length):DEq K H (n + 1) (.ref a) (.ref b) false
  | tup {n:Nat} {a b:Addr} {xs ys:List V} {f:Nat→Bool} (ne:a ≠ b) (ha:SqT K H a xs) (hb:SqT K H b ys) (h:∀ (j:Nat) (x y:V),xs[j]? = some x→ys[j]? = some y→DEq K H n x y (f j)):DEq K H (n + 1) (.ref a) (.ref b) ((List.range (min xs.length ys.length)).all f && xs.length == ys.length)
theorem its_at {xs:List V} {its:List Value} (r:Vals xs its) {j:Nat} (h:j < its.toArray.size):∃ x,xs[j]? = some x∧RelV x its.toArray[j]:=by
  have j1:j < its.length:=by simpa using h
  have l1:=r.length
  have x1:xs[j]? = some xs[j]:=List.getElem?_eq_getElem (by omega)
  obtain ⟨u1,q1,r1⟩:=r.get x1
  have eu:its.toArray[j] = u1:=by
    have:=List.getElem?_eq_getElem j1
    rw [this] at q1; simpa using Option.some.inj q1
  exact ⟨xs[j],x1,eu ▸ r1⟩
section
variable {X:Cx} {pins:List (Addr × Obj)} {σ:St} {H:Hp} {s:Shared}
theorem DEq.at {n:Nat} {x y:V} {b:Bool} (e:DEq X.K H n x y b) (I:Inv X pins σ H s):∀ {A:Around} {u v:Value},A.units + n < cLine→RelV x u→RelV y v→SeqAt.EqAt A s u v b:=by
  induction e with
  | flat fx fy=>intro A u v hu rx ry; exact eqAt_V rx ry fx fy
  | same a =>
    intro A u v hu rx ry
    cases (show u = Value.ref a from rx)
    cases (show v = Value.ref a from ry)
    exact SeqAt.EqAt.same _
  | @lst n a b xs ys f ne ha hb hl h ih =>
    intro A u v hu rx ry
    cases (show u = Value.ref a from rx)
    cases (show v = Value.ref b from ry)
    obtain ⟨its,r,p,_⟩:=I.list ha
    obtain ⟨its',r',p',_⟩:=I.list hb
    have l1:=r.length
    have l2:=r'.length
    have h0:=SeqAt.RcAt.lists (A:=A) (e:=f) p.isList p'.isList (by simp only [List.size_toArray]; omega) (by omega) (fun j h1 h2=>by
      obtain ⟨x,e1,q1⟩:=its_at r h1
      obtain ⟨y,e2,q2⟩:=its_at r' h2
      exact ih j x y e1 e2 (by show A.units + 1 + n < cLine; omega) q1 q2)
    rw [show its.toArray.size = xs.length by simp only [List.size_toArray]; omega] at h0
    exact SeqAt.EqAt.of_refs ne h0
  | @lst_ne n a b xs ys ne ha hb hl =>
    intro A u v hu rx ry
    cases (show u = Value.ref a from rx)
    cases (show v = Value.ref b from ry)
    obtain ⟨its,r,p,_⟩:=I.list ha
    obtain ⟨its',r',p',_⟩:=I.list hb
    have l1:=r.length
    have l2:=r'.length
    exact SeqAt.EqAt.of_refs ne (SeqAt.RcAt.lists_lengths p.isList p'.isList (by simp only [List.size_toArray,bne_iff_ne,ne_eq]; omega) (by omega))
  | @tup n a b xs ys f ne ha hb h ih =>
    intro A u v hu rx ry
    cases (show u = Value.ref a from rx)
    cases (show v = Value.ref b from ry)
    obtain ⟨its,r,p,_⟩:=I.tuple ha
    obtain ⟨its',r',p',_⟩:=I.tuple hb
    have l1:=r.length
    have l2:=r'.length
    have h0:=SeqAt.RcAt.tuples (A:=A) (e:=f) (show s.heap.IsTuple a its.toArray from p) (show s.heap.IsTuple b its'.toArray from p') (by omega) (fun j h1 h2=>by
      obtain ⟨x,e1,q1⟩:=its_at r h1
      obtain ⟨y,e2,q2⟩:=its_at r' h2
      exact ih j x y e1 e2 (by show A.units + 1 + n < cLine; omega) q1 q2)
    rw [show its.toArray.size = xs.length by simp only [List.size_toArray]; omega,show its'.toArray.size = ys.length by simp only [List.size_toArray]; omega] at h0
    exact SeqAt.EqAt.of_refs ne h0
end
def rEqDL (K:PySem.W.Frag) (neg:Bool):R2:=fun x y H Q=>∃ a b xs ys,x = .ref a∧y = .ref b∧SqL K H a xs∧SqL K H b ys ∧
  ((xs.length ≠ ys.length∧Q (.bl neg) H)∨(xs.length = ys.length∧∃ f:Nat→Bool,(∀ (j:Nat) (x y:V),xs[j]? = some x→ys[j]? = some y→DEq K H 60 x y (f j))∧Q (.bl (if neg then !(List.range xs.length).all f else (List.range xs.length).all f)) H))
def rEqDT (K:PySem.W.Frag) (neg:Bool):R2:=fun x y H Q=>∃ a b xs ys,x = .ref a∧y = .ref b∧SqT K H a xs∧SqT K H b ys ∧
  ∃ f:Nat→Bool,(∀ (j:Nat) (x y:V),xs[j]? = some x→ys[j]? = some y→DEq K H 60 x y (f j))∧Q (.bl (if neg then !((List.range (min xs.length ys.length)).all f && xs.length == ys.length) else (List.range (min xs.length ys.length)).all f && xs.length == ys.length)) H
section
variable {X:Cx}
theorem deep_at {pins:List (Addr × Obj)} {σ:St} {H:Hp} {s:Shared} {A:Around} {xs ys:List V} {its its' : List Value} {f:Nat→Bool} (I:Inv X pins σ H s) (hu:A.units + 60 < cLine) (r:Vals xs its) (r' : Vals ys its')
    (hf:∀ (j:Nat) (x y:V),xs[j]? = some x→ys[j]? = some y→DEq X.K H 60 x y (f j)):∀ j (h1:j < its.toArray.size) (h2:j < its'.toArray.size),SeqAt.EqAt A s its.toArray[j] its'.toArray[j] (f j):=fun j h1 h2=>by
  obtain ⟨x,e1,q1⟩:=its_at r h1
  obtain ⟨y,e2,q2⟩:=its_at r' h2
  exact (hf j x y e1 e2).at I hu q1 q2
theorem op_neDL {k:Nat} (hr:Room k X.A):OpR X (compareOp .NotEq) (rEqDL X.K true):=by
  intro pins s σ H x y v u Q I rx ry h
  obtain ⟨a,b,xs,ys,rfl,rfl,ha,hb,h⟩:=h
  cases (show v = Value.ref a from rx)
  cases (show u = Value.ref b from ry)
  obtain ⟨its,r,p,_⟩:=I.list ha
  obtain ⟨its',r',p',_⟩:=I.list hb
  have l1:=r.length
  have l2:=r'.length
  have hu:=hr.units
  rcases h with ⟨hn,q⟩ | ⟨hl,f,hf,q⟩
  · refine SeqAt.RcNeAt.lists_lengths p.isList p'.isList (by simp only [List.size_toArray,bne_iff_ne,ne_eq]; omega) (by omega) X.prog X.w X.xe _ ⟨.bl true,H,I,rfl,q⟩
  · refine SeqAt.RcNeAt.lists (e:=f) p.isList p'.isList (by simp only [List.size_toArray]; omega) (by omega) (deep_at I (by show X.A.units + 1 + 60 < cLine; omega) r r' hf) X.prog X.w X.xe _ ⟨.bl _,H,I,rfl,?_⟩
    rw [show its.toArray.size = xs.length by simp only [List.size_toArray]; omega]
    exact q
end
end L2
namespace L2
open PySem PySem.Spec PyProof.Rows
section
variable {κ:Type} [DecidableEq κ]
def cntK (ks:List κ):Nat→Nat
  | 0=>0
  | i + 1=>match ks[i]? with
    | some k=>if k ∈ ks.take i then cntK ks i else cntK ks i + 1
    | none=>cntK ks i
theorem cntK_le (ks:List κ):∀ i,cntK ks i ≤ i
  | 0=>Nat.le_refl _
  | i + 1=>by
    have ih:=cntK_le ks i
    unfold cntK
    split
    · split <;> omega
    · omega
theorem cntK_full (ks:List κ):∀ i,i ≤ ks.length→(cntK ks i = i↔(ks.take i).Nodup)
  | 0,_=>by simp [cntK]
  | i + 1,h=>by
    have ih:=cntK_full ks i (by omega)
    have le:=cntK_le ks i
    have e:ks[i]? = some ks[i]:=List.getElem?_eq_getElem (by omega)
    have et:ks.take (i + 1) = ks.take i ++ [ks[i]]:=by rw [List.take_add_one,e]; rfl
    unfold cntK
    rw [e,et,List.nodup_append]
    dsimp only
    by_cases m:ks[i] ∈ ks.take i
    · rw [if_pos m]
      exact ⟨fun z=>absurd z (by omega),fun z=>absurd rfl (z.2.2 _ m _ (by simp))⟩
    · rw [if_neg m]
      refine ⟨fun z=>⟨ih.mp (by omega),by simp,fun a ha b hb=>?_⟩,fun z=>by rw [ih.mpr z.1]⟩
      rw [show b = ks[i] by simpa using hb]
      exact fun q=>m (q ▸ ha)
variable {prog:Program} {w:World} {A:Around} {E:Value→Shared→Prop} {s:Shared} {knd:KeyKind prog w κ}
theorem setOf_stay {h h' : Heap} {a:Addr} {S:κ→Bool} {n:Nat} (x:h.SetOf knd a S n) (k:∀ o,h.get? a = some o→h'.get? a = some o):h'.SetOf knd a S n:=by
  obtain ⟨o,es,ep,t,ho,r⟩:=x
  exact ⟨o,es,ep,t,k o ho,r⟩
theorem setOf_as {h:Heap} {a:Addr} {S S' : κ→Bool} {n n' : Nat} (x:h.SetOf knd a S n) (e1:S = S') (e2:n = n'):h.SetOf knd a S' n':=e1 ▸ e2 ▸ x
theorem fill_loop {R:Result→Shared→Prop} {I:Addr} {fp wr:List Addr} {G:Array GenState→Array GenState→Prop} {n:Nat} {P:Nat→Value→Prop} {St:Nat→Shared→Prop} (W:WalksS prog w A.in1 I fp wr G n P St) {a:Addr} (ha:a ∉ fp) {ks:List κ}
    (hv:∀ i v,P i v→∃ k,ks[i]? = some k∧knd.is k v = true∧v.scannable = true) (hb:n + 1 < scanBound):∀ (d i:Nat) (s:Shared),n = i + d→St i s→s.heap.SetOf knd a (fun k=>decide (k ∈ ks.take i)) (cntK ks i) →
      (∀ s',Moved (a :: wr) G s s'→s'.heap.SetOf knd a (fun k=>decide (k ∈ ks.take n)) (cntK ks n)→R (.ok (.ret .none)) s')→codeAny (model prog w) A (.builtin "set.update.loop" ⟨[.ref a,.ref I],[]⟩) R s:=by
  have hw:a ∉ wr:=fun z=>ha (W.sub a z)
  intro d
  induction d with
  | zero =>
    intro i s e st x fin
    rw [show n = i by omega] at W fin
    refine codeAny_builtin (R:=R) (A:=A) F.entry_set_update_loop ?_
    rw [Around.under_plainId (A:=A) F.plain_set_update_loop _]
    show wpAny (model prog w) A.in1 (pyNext (.ref I) >>= _) _ _ s
    exact wpAny_bind (W.done s _ _ st fun s' m=>wpAny_pure (fin s' (m.mono fun b hb=>List.mem_cons_of_mem a hb) (setOf_stay x fun o q=>m.heap a o hw q)))
  | succ d ih =>
    intro i s e st x fin
    refine codeAny_builtin (R:=R) (A:=A) F.entry_set_update_loop ?_
    rw [Around.under_plainId (A:=A) F.plain_set_update_loop _]
    show wpAny (model prog w) A.in1 (pyNext (.ref I) >>= _) _ _ s
    refine wpAny_bind (W.item i s _ _ (by omega) st fun v s1 p st1 m=>?_)
    obtain ⟨k,ek,ik,sc⟩:=hv i v p
    have x1:=setOf_stay x fun o q=>m.heap a o hw q
    show wpAny (model prog w) A.in1 (holding [v] (setAdd a v) >>= _) _ _ s1
    refine wpAny_bind (wpAny_holding (show wpAny (model prog w) A.in1 (setAdd a v) _ _ s1 from ?_))
    unfold setAdd
    refine wpAny_holding (wpAny_bind (knd.pyHash ik ?_))
    have le:=cntK_le ks i
    refine wpAny_setAddHashed_of (knd:=knd) (s:={ s1 with toks:=s1.toks + 1 }) ik sc x1 (by omega) fun h' sb x2=>?_
    have et:ks.take (i + 1) = ks.take i ++ [k]:=by rw [List.take_add_one,ek]; rfl
    have x3:h'.SetOf knd a (fun q=>decide (q ∈ ks.take (i + 1))) (cntK ks (i + 1)):=by
      refine setOf_as x2 (funext fun q=>?_) ?_
      · rw [et]
        by_cases z:q ∈ ks.take i <;> by_cases y:q = k <;> simp [z,y]
      · show (if decide (k ∈ ks.take i) = true then cntK ks i else cntK ks i + 1) = match ks[i]? with | some k=>if k ∈ ks.take i then cntK ks i else cntK ks i + 1 | none=>cntK ks i
        rw [ek]
        by_cases z:k ∈ ks.take i <;> simp [z]
    refine wpAny_pure ⟨plainId_quiet F.plain_set_update_loop _,ih (i + 1) { s1 with heap:=h',toks:=s1.toks + 1 } (by omega) (W.frame (i + 1) s1 h' (s1.toks + 1) st1 (Nat.le_succ _) fun b hbf o q=>(sb.2 b fun z=>ha (z ▸ hbf)).trans q) x3 fun s2 m2 x4=>?_⟩
    refine fin s2 (Moved.trans W.gtrans ((m.mono fun b hb=>List.mem_cons_of_mem a hb).then_heap (Nat.le_succ _) fun b o hbn q=>?_) m2) x4
    exact (sb.2 b fun z=>hbn (z ▸ List.mem_cons_self)).trans q
abbrev newS (led:Bool):Obj:={ cls:=.type "set",dict:=none,data:=.set #[] 0 (.fresh 0 0 led) }
def Filled (knd:KeyKind prog w κ) (s:Shared) (ks:List κ) (h' : Heap):Prop :=
  h'.SetOf knd s.heap.objs.size (fun k=>decide (k ∈ ks)) (cntK ks ks.length)∧∀ b o,b < s.heap.objs.size→s.heap.get? b = some o→h'.get? b = some o
theorem init_set {l:Addr} {items:Array Value} {ks:List κ} {led:Bool} (hh:A.handled = none) (hl:s.heap.IsList l items) (hk:∀ (i:Nat) (v:Value),items[i]? = some v→∃ k,ks[i]? = some k∧knd.is k v = true∧v.scannable = true) (hn:ks.length = items.size) (hb:items.size + 1 < scanBound) :
    codeAny (model prog w) A (.call (.builtin "set.__init__") ⟨[.ref s.heap.objs.size,.ref l],[]⟩) (wants (fun r s2=>r = .none∧∃ h' tk,s2 = { s with heap:=h',toks:=tk }∧Filled knd s ks h') E) { s with heap:=s.heap.push (newS led) }:=by
  have g0:(s.heap.push (newS led)).get? s.heap.objs.size = some (newS led):=Heap.get?_push_size s.heap rfl
  have ty:Shared.TypeIs { s with heap:=s.heap.push (newS led) } (.ref s.heap.objs.size) "set" := ⟨newS led,g0,rfl⟩
  refine codeAny_call_builtin F.called_set.init.plain F.entry_set_init (check_set_init_1 ty ?_)
  obtain ⟨⟨c1,c2,c3,c4⟩,ho,hc,m,hd⟩:=hl
  dsimp only at hc hd
  subst hc hd
  have g1:(s.heap.push (newS led)).get? l = some { cls:=.type "list",dict:=c2,data:=.seq items m,slots:=c4 }:=Heap.get?_push_of_some _ ho
  have y1:=F.sub_list_set
  have y2:=F.sub_list_frozenset
  have y3:(Value.type "list" == Value.type "dict") = false:=by decide
  have l1:(s.heap.push (newS led)).IsList l items:=⟨_,g1,rfl,m,rfl⟩
  have lt:l < s.heap.objs.size:=Heap.lt_size ho
  unfold Builtin.«set.__init__» Builtin.Frozenset.updateFrom noKeywords
  generalize hI:pyIter = it
  wp_walk
  subst hI
  refine wpAny_pyIter_list l1 (wpAny_bind (wpAny_runValue ?_))
  have nl:l ≠ (s.heap.push (newS led)).objs.size:=by rw [Heap.size_push]; exact Nat.ne_of_lt (Nat.lt_succ_of_lt lt)
  have nf:s.heap.objs.size ∉ [(s.heap.push (newS led)).objs.size,l]:=by
    rw [Heap.size_push]
    intro z
    rcases List.mem_cons.mp z with z | z
    · exact absurd z (Nat.ne_of_lt (Nat.lt_succ_self _))
    · exact absurd (by simpa using z) (Nat.ne_of_gt lt)
  refine fill_loop (knd:=knd) ((Walks.list (by simp [hh]) _ l nl items).toS) nf (ks:=ks) hk hb items.size 0 _ (Nat.zero_add _).symm ⟨⟨_,Heap.get?_push_size _ rfl,rfl,rfl⟩,l1.push _⟩ (setOf_as ((setObjOf_fresh (knd:=knd) led).setOf (Heap.get?_push_of_some _ g0) (by unfold scanBound; omega)) (funext fun k=>by simp) rfl) fun s' mv x=>?_
  obtain ⟨h',g',d',t',o'⟩:=s'
  obtain rfl:g' = s.gens:=mv.gens
  obtain rfl:d' = s.drawn:=mv.drawn
  obtain rfl:o' = s.os:=mv.os
  refine wpAny_pure (show wpAny (model prog w) _ (ret Value.none) _ _ _ from wpAny_pure ⟨rfl,h',t',rfl,?_,fun b o hb' q=>?_⟩)
  · rw [← hn] at x
    exact setOf_as x (funext fun k=>by rw [List.take_length]) rfl
  · refine mv.heap b o (fun z=>?_) (Heap.get?_push_of_some _ (Heap.get?_push_of_some _ q))
    rcases List.mem_cons.mp z with z | z
    · exact absurd z (Nat.ne_of_lt hb')
    · have z2:b = (s.heap.push (newS led)).objs.size:=by simpa using z
      rw [Heap.size_push] at z2
      exact absurd z2 (Nat.ne_of_lt (Nat.lt_succ_of_lt hb'))
set_option maxRecDepth 100000 in
theorem call_setK {l:Addr} {items:Array Value} {ks:List κ} {Q:Value→Shared→Prop} (hh:A.handled = none) (hl:s.heap.IsList l items) (hk:∀ (i:Nat) (v:Value),items[i]? = some v→∃ k,ks[i]? = some k∧knd.is k v = true∧v.scannable = true) (hn:ks.length = items.size) (hb:items.size + 1 < scanBound)
    (h:∀ h' tk,Filled knd s ks h'→Q (.ref s.heap.objs.size) { s with heap:=h',toks:=tk }):wpAny (model prog w) A (call (.type "set") [.ref l]) Q E s:=by
  obtain ⟨c,tl,mro⟩:=F.called_set.mro
  have a1:=F.called_set.made
  have a2:=F.called_set.sub
  have a3:=F.called_set.notType
  have a4:=F.called_set.canCreate
  have a5:=F.typeCall_set_1 (.ref l)
  refine wpAny_call (codeAny_of_tree (show wpAny (model prog w) _ (callAny (.type "set") _) _ _ _ from wpAny_pure ⟨Code.quiet_builtin _ (by decide +kernel),codeAny_builtin F.entry_type_call ?_⟩))
  rw [Around.under_plain (A:=A) (weight_type_call_type "set" [.ref l] []) rfl]
  repeat (any_goals (first | assumption | wp_step))
  refine codeAny_mono (code_set_new_1 (.ref l) (E:=E) (Q₁:=fun ob s1=>∃ led,ob = .ref s.heap.objs.size∧s1 = { s with heap:=s.heap.push (newS led) }) fun led=>⟨led,rfl,rfl⟩) fun r s1 hr=>?_
  cases r with
  | error e=>exact hr
  | ok fl =>
    cases fl with
    | ret ob =>
      obtain ⟨led,rfl,rfl⟩:=hr
      have g0:(s.heap.push (newS led)).get? s.heap.objs.size = some (newS led):=Heap.get?_push_size s.heap rfl
      have ty:Shared.TypeIs { s with heap:=s.heap.push (newS led) } (.ref s.heap.objs.size) "set" := ⟨newS led,g0,rfl⟩
      have b1:=F.called_set.init.lookup
      have b2:=F.called_set.init.bind (.ref s.heap.objs.size)
      repeat (any_goals (first | assumption | wp_step))
      refine codeAny_mono (init_set (E:=E) (knd:=knd) (by simp [hh]) hl hk hn hb) fun r2 s2 hr2=>?_
      cases r2 with
      | error e=>exact hr2
      | ok f2 =>
        cases f2 with
        | ret r =>
          obtain ⟨rfl,h',tk,rfl,x⟩:=hr2
          repeat (any_goals (first | assumption | wp_step))
          exact h h' tk x
        | _=>exact hr2.elim
    | _=>exact hr.elim
end
def SetO (P:Program) (w:World) (a:Addr) (zs:List Str):HO:=.ext fun h=>h.SetOf (strKind P w) a (fun z=>decide (z ∈ zs)) (cntK zs zs.length)
section
variable {X:Cx}
theorem vals_strs:∀ {zs:List Str} {us:List Value},Vals (zs.map V.str) us→∀ (i:Nat) (v:Value),us[i]? = some v→∃ z t,zs[i]? = some z∧v = .str z t
  | [],_,.nil,i,v,h=>by simp at h
  | z :: zs,_,.cons ⟨t,e⟩ r,0,v,h=>by simp at h; exact ⟨z,t,rfl,by rw [← h,e]⟩
  | z :: zs,_,.cons _ r,i + 1,v,h=>by
    obtain ⟨z',t,e1,e2⟩:=vals_strs r i v (by simpa using h)
    exact ⟨z',t,by simpa using e1,e2⟩
theorem call_set_strs (hc:X.calm = true):CallR X (.type "set") (fun xs H Q=>∃ (p:Addr) (zs:List Str),xs = [.ref p]∧SqL X.K H p (zs.map V.str)∧zs.length ≤ 1000∧∀ l,H l = none→Q (.ref l) (upd H l (SetO X.prog X.w l zs))):=by
  intro pins s σ H xs us Q I r h
  obtain ⟨p,zs,rfl,hS,hz,q⟩:=h
  obtain ⟨u,rfl,ru⟩:=r.one
  obtain rfl:u = Value.ref p:=ru
  obtain ⟨its,rv,pl,_⟩:=I.list hS
  have hl:=rv.length
  rw [List.length_map] at hl
  refine call_setK (knd:=strKind X.prog X.w) (ks:=zs) (I.ok.hd hc) pl.isList (fun i v e=>?_) (by simpa using hl) (by unfold scanBound; simp; omega) fun h' tk x=>?_
  · obtain ⟨z,t,e1,rfl⟩:=vals_strs rv i v (by simpa using e)
    exact ⟨z,e1,by show Value.isStrOf z (.str z t) = true; simp [Value.isStrOf],rfl⟩
  · obtain ⟨x1,x2⟩:=x
    refine ⟨.ref s.heap.objs.size,_,I.laid (a:=s.heap.objs.size) (o:=SetO X.prog X.w s.heap.objs.size zs) (h':=h') (t':=tk) (fun b o q=>x2 b o (Heap.lt_size q) q) (Nat.le_refl _) ?_,rfl,q _ I.fresh⟩
    refine ⟨x1,?_,fun h1 h2 y k=>setOf_stay y k⟩
    obtain ⟨o,_,_,_,g,_⟩:=x1
    exact ⟨o,g⟩
end
end L2
namespace L2
open PySem PySem.Spec PyProof.Rows
def ExcF (h:Heap) (e T:Addr) (cls a0 fl:Value):Prop :=
  ∃ oe vs oT ts,h.get? e = some oe∧(oe.cls = cls∧vs[0]? = some a0)∧oe.data = .fields vs∧vs[1]? = some (.ref T)∧T ≠ e∧h.get? T = some oT∧oT.data = .fields ts∧ts[3]? = some fl
inductive ExcS (h:Heap) (L e:Addr) (cls a0:Value):List Addr→Prop where
  | fresh {oe:Obj} {vs:Array Value} (he:h.get? e = some oe) (hc:oe.cls = cls) (hd:oe.data = .fields vs) (h1:vs[1]? = some Value.none) (h0:vs[0]? = some a0):ExcS h L e cls a0 []
  | fly {T:Addr} (x:ExcF h e T cls a0 .none):ExcS h L e cls a0 [T]
  | held {T:Addr} (x:ExcF h e T cls a0 (rawInt L)):ExcS h L e cls a0 [T]
section
variable {M:Model} {A:Around} {E:Value→Shared→Prop} {s:Shared} {base:Heap} {env:Env} {outer:List Env} {L e T:Addr} {a0 cls fl:Value} {Q:Unit→Shared→Prop} {Ts:List Addr}
end
section
variable {X:Cx} {pins:List (Addr × Obj)} {σ:St} {H:Hp} {s:Shared} {h' : Heap} {Y:List Addr}
end
def XEof (X:Cx) (L:Addr) (E:XK):Value→Shared→Prop:=fun ev s'=>∃ (e C:Addr) (a0:Value) (Ts:List Addr) (pins:List (Addr × Obj)) (σ:St) (H' : Hp),ev = .ref e∧Inv X pins σ H' s'∧ExcS s'.heap L e (.ref C) a0 Ts∧(∀ b ∈ e :: Ts,NewAt X pins H' b)∧E (.ref C) none H'
section
variable {P:Program} {w:World} {K:PySem.W.Frag} {mg:Str→Option Value} {base:Heap} {N:List Str} {qual:Str} {scope:Scope} {f:Addr} {cd:Value} {A:Around} {outer:List Env} {s0:Shared} {H0:Hp} {E:XK}
abbrev cxE (P:Program) (w:World) (K:PySem.W.Frag) (mg:Str→Option Value) (base:Heap) (N:List Str) (qual:Str) (scope:Scope) (f:Addr) (cd:Value) (A:Around) (outer:List Env) (s0:Shared) (H0:Hp) (E:XK):Cx :=
  (cxOf (CX1 P w) P w K mg base N qual scope f cd A outer s0 H0 E).wish (XEof (cxOf (CX1 P w) P w K mg base N qual scope f cd A outer s0 H0 E) s0.heap.objs.size E)
end
end L2
namespace L2
open PySem PySem.Spec PyProof.Rows
section
variable {X:Cx}
def rIndex (K:PySem.W.Frag):V→List V→Hp→VK→Prop:=fun x vs H Q=>∃ (p:Addr) (xs:List V) (y z:V) (j:Nat),x = .ref p∧vs = [y]∧SqL K H p xs∧flatV y = true∧xs.all flatV = true∧xs[j]? = some z∧eqV z y = true∧(∀ (m:Nat) (u:V),m < j→xs[m]? = some u→eqV u y = false)∧Q (.int j) H
theorem mt_index:MtM X "list.index" (rIndex X.K):=by
  intro pins s σ H x vs v us Q I rx rv h
  obtain ⟨p,xs,y,z,j,rfl,rfl,hS,fy,fs,ez,hz,hno,q⟩:=h
  obtain rfl:v = Value.ref p:=rx
  obtain ⟨u,rfl,ru⟩:=rv.one
  obtain ⟨its,r,pl,hsz⟩:=I.list hS
  have hl:=r.length
  have hj:j < xs.length:=(List.getElem?_eq_some_iff.mp ez).1
  have hle:xs.length < 2 ^ 62:=Nat.lt_of_le_of_lt hsz (by decide)
  obtain ⟨⟨c1,c2,c3,c4⟩,ho,hc,n,hd⟩:=pl.isList
  dsimp only at hc hd
  subst hc hd
  have at_:∀ (m:Nat) (hm:m < its.toArray.size) (w:V),xs[m]? = some w→flatV w = true→eqU y its.toArray[m] = eqV w y:=fun m hm w e f=>by
    obtain ⟨t,e1,e2⟩:=r.get e
    have:its.toArray[m] = t:=by
      have h2:its[m]? = some its.toArray[m]:=by
        have:m < its.length:=by simpa using hm
        simp
      rw [h2] at e1; exact Option.some.inj e1
    rw [this]; exact eqU_of e2 f
  have fl:∀ (m:Nat) (w:V),xs[m]? = some w→flatV w = true:=fun m w e=>List.all_eq_true.mp fs w (List.mem_of_getElem? e)
  refine call_meets PySem.F.slot_list_index ⟨_,ho,rfl⟩ PySem.F.entry_list_index (PySem.F.args_list_index_2 _ _) (SeqAt.list_indexAt p its.toArray n c2 c4 u (eqU y) j (by simpa [← hl] using hj) (by omega) ?_ fun m hm hlt=>?_) ⟨ho,fun t ht=>mem_eqAt ru fy r fs t (by simpa using ht),⟨.int j,H,I.tok _,⟨_,rfl⟩,q⟩⟩
  · rw [at_ j _ z ez (fl j z ez)]; exact hz
  · have e:xs[m]? = some xs[m]:=List.getElem?_eq_getElem (by omega)
    rw [at_ m hm _ e (fl m _ e)]; exact hno m _ hlt e
theorem call_len_setO:CallR X (.builtin "len") (fun xs H Q=>∃ (l:Addr) (zs:List Str),xs = [.ref l]∧H l = some (SetO X.prog X.w l zs)∧zs.length ≤ 1000∧Q (.int ((cntK zs zs.length:Nat):Int)) H):=by
  intro pins s σ H xs us Q I r h
  obtain ⟨l,zs,rfl,e,hz,q⟩:=h
  obtain ⟨u,rfl,ru⟩:=r.one
  obtain rfl:u = Value.ref l:=ru
  obtain ⟨⟨o,es,ep,t,g1,g2,g3,_,_,_,g4,g5⟩,_,_⟩:=I.hok l _ e
  have le:=cntK_le zs zs.length
  refine call_len_set g1 g2 g3 g4 (by rw [g5]; omega) ⟨.int _,H,I.tok _,⟨_,rfl⟩,?_⟩
  rw [g5]; exact q
end
def tFnE (sp:Sp) (E:XK) (t:TA):TE:=fun σ H Q=>t σ H fun vs H1=>sp vs H1 Q E
def tMtE (C:Addr) (m:Str) (sp:Sp) (E:XK) (ta:TE) (t:TA):TE:=fun σ H Q=>ta σ H fun x H1=>∃ a dx fs,x = .ref a∧H1 a = some (.ins C dx fs)∧fs.lookup m = none∧t σ H1 fun vs H2=>sp (x :: vs) H2 Q E
def tMkE (C:Addr) (sp:Sp) (E:XK) (t:TA):TE:=fun σ H Q=>t σ H fun vs H1=>∀ x dx,H1 x = none→H1 dx = none→dx ≠ x →
  sp (.ref x :: vs) (upd (upd H1 dx (.own x)) x (.ins C dx [])) (fun v H2=>v = .non∧Q (.ref x) H2) E
section
variable {X:Cx} {k:Nat} {f C:Addr} {fd:FuncData} {ps:List Str} {sp:Sp} {x m:Str} {p np pos apos:Pos} {e o:Expr} {es:List Expr} {ta:TE} {t:TA} {E:XK}
end
end L2
namespace L2
open PySem PySem.Spec PyProof.Rows
theorem ints_items:∀ {ns:List Int} {us:List Value},Vals (ns.map V.int) us→∃ xs:List (Int × Tok),us.toArray = intItems xs.toArray∧ns = xs.map (·.1)
  | [],_,.nil=>⟨[],by simp [intItems],rfl⟩
  | n :: ns,_,.cons ⟨t,e⟩ r=>by
    obtain ⟨xs,e1,e2⟩:=ints_items r
    refine ⟨(n,t) :: xs,?_,by rw [e2]; rfl⟩
    subst e
    have e1':=congrArg Array.toList e1
    simp [intItems] at e1' ⊢
    exact e1'
section
variable {X:Cx}
theorem numAt_mem {xs:Array (Int × Tok)} {i:Nat} (h:i < xs.size):numAt xs i ∈ xs.toList.map (·.1):=by
  rw [numAt_eq]; exact getD_mem (by rw [List.length_map,Array.length_toList]; omega)
theorem call_min_list (hc:X.calm = true):CallR X (.builtin "min") (fun us H Q=>∃ (a:Addr) (ns:List Int),us = [.ref a]∧SqL X.K H a (ns.map V.int)∧0 < ns.length∧∀ m,m ∈ ns→(∀ b ∈ ns,m ≤ b)→Q (.int m) H):=by
  intro pins s σ H us vs Q I r h
  obtain ⟨a,ns,rfl,hq,hne,q⟩:=h
  obtain ⟨u,rfl,rx⟩:=r.one
  cases (show u = Value.ref a from rx)
  obtain ⟨its,rv,pl,hz⟩:=I.list hq
  obtain ⟨xs,e1,e2⟩:=ints_items rv
  have hl:=pl.isList
  rw [e1] at hl
  have hsz:0 < xs.toArray.size:=by
    rw [e2,List.length_map] at hne; simpa using hne
  refine min_intList (I.ok.hd hc) hl hsz fun v h' tk hv hk=>?_
  obtain ⟨t,rfl⟩:=intItems_at hv
  obtain ⟨h1,h2⟩:=argBest_lt (numAt xs.toArray) (xs.toArray.size - 1)
  refine ⟨.int _,H,I.kept (t':=tk) fun b o e=>hk b o e,⟨t,rfl⟩,q _ ?_ fun b hb=>?_⟩
  · rw [e2]; exact numAt_mem (xs:=xs.toArray) (by omega)
  · rw [e2] at hb
    obtain ⟨j,hj,rfl⟩:=mem_getD hb
    rw [List.length_map] at hj
    have z:=h2 j (by simp; omega)
    rw [numAt_eq] at z ⊢
    rw [numAt_eq] at z
    simpa using z
theorem call_max_list (hc:X.calm = true):CallR X (.builtin "max") (fun us H Q=>∃ (a:Addr) (ns:List Int),us = [.ref a]∧SqL X.K H a (ns.map V.int)∧0 < ns.length∧∀ m,m ∈ ns→(∀ b ∈ ns,b ≤ m)→Q (.int m) H):=by
  intro pins s σ H us vs Q I r h
  obtain ⟨a,ns,rfl,hq,hne,q⟩:=h
  obtain ⟨u,rfl,rx⟩:=r.one
  cases (show u = Value.ref a from rx)
  obtain ⟨its,rv,pl,hz⟩:=I.list hq
  obtain ⟨xs,e1,e2⟩:=ints_items rv
  have hl:=pl.isList
  rw [e1] at hl
  have hsz:0 < xs.toArray.size:=by
    rw [e2,List.length_map] at hne; simpa using hne
  refine max_intList (I.ok.hd hc) hl hsz fun v h' tk hv hk=>?_
  obtain ⟨t,rfl⟩:=intItems_at hv
  obtain ⟨h1,h2⟩:=argBest_gt (numAt xs.toArray) (xs.toArray.size - 1)
  refine ⟨.int _,H,I.kept (t':=tk) fun b o e=>hk b o e,⟨t,rfl⟩,q _ ?_ fun b hb=>?_⟩
  · rw [e2]; exact numAt_mem (xs:=xs.toArray) (by omega)
  · rw [e2] at hb
    obtain ⟨j,hj,rfl⟩:=mem_getD hb
    rw [List.length_map] at hj
    have z:=h2 j (by simp; omega)
    rw [numAt_eq] at z ⊢
    rw [numAt_eq] at z
    simpa using z
end
def SetI (P:Program) (w:World) (a:Addr) (ns:List Int):HO:=.ext fun h=>h.SetOf (intKind P w) a (fun z=>decide (z ∈ ns)) (cntK ns ns.length)
section
variable {X:Cx}
theorem vals_intsK:∀ {zs:List Int} {us:List Value},Vals (zs.map V.int) us→∀ (i:Nat) (v:Value),us[i]? = some v→∃ z t,zs[i]? = some z∧v = .int z t
  | [],_,.nil,i,v,h=>by simp at h
  | z :: zs,_,.cons ⟨t,e⟩ r,0,v,h=>by simp at h; exact ⟨z,t,rfl,by rw [← h,e]⟩
  | z :: zs,_,.cons _ r,i + 1,v,h=>by
    obtain ⟨z',t,e1,e2⟩:=vals_intsK r i v (by simpa using h)
    exact ⟨z',t,by simpa using e1,e2⟩
theorem call_set_ints (hc:X.calm = true):CallR X (.type "set") (fun xs H Q=>∃ (p:Addr) (zs:List Int),xs = [.ref p]∧SqL X.K H p (zs.map V.int)∧zs.length ≤ 1000∧∀ l,H l = none→Q (.ref l) (upd H l (SetI X.prog X.w l zs))):=by
  intro pins s σ H xs us Q I r h
  obtain ⟨p,zs,rfl,hS,hz,q⟩:=h
  obtain ⟨u,rfl,ru⟩:=r.one
  obtain rfl:u = Value.ref p:=ru
  obtain ⟨its,rv,pl,_⟩:=I.list hS
  have hl:=rv.length
  rw [List.length_map] at hl
  refine call_setK (knd:=intKind X.prog X.w) (ks:=zs) (I.ok.hd hc) pl.isList (fun i v e=>?_) (by simpa using hl) (by unfold scanBound; simp; omega) fun h' tk x=>?_
  · obtain ⟨z,t,e1,rfl⟩:=vals_intsK rv i v (by simpa using e)
    exact ⟨z,e1,by show Value.isInt z (.int z t) = true; simp [Value.isInt],rfl⟩
  · obtain ⟨x1,x2⟩:=x
    refine ⟨.ref s.heap.objs.size,_,I.laid (a:=s.heap.objs.size) (o:=SetI X.prog X.w s.heap.objs.size zs) (h':=h') (t':=tk) (fun b o q=>x2 b o (Heap.lt_size q) q) (Nat.le_refl _) ?_,rfl,q _ I.fresh⟩
    refine ⟨x1,?_,fun h1 h2 y k=>setOf_stay y k⟩
    obtain ⟨o,_,_,_,g,_⟩:=x1
    exact ⟨o,g⟩
theorem call_len_setI:CallR X (.builtin "len") (fun xs H Q=>∃ (l:Addr) (zs:List Int),xs = [.ref l]∧H l = some (SetI X.prog X.w l zs)∧zs.length ≤ 1000∧Q (.int ((cntK zs zs.length:Nat):Int)) H):=by
  intro pins s σ H xs us Q I r h
  obtain ⟨l,zs,rfl,e,hz,q⟩:=h
  obtain ⟨u,rfl,ru⟩:=r.one
  obtain rfl:u = Value.ref l:=ru
  obtain ⟨⟨o,es,ep,t,g1,g2,g3,_,_,_,g4,g5⟩,_,_⟩:=I.hok l _ e
  have le:=cntK_le zs zs.length
  refine call_len_set g1 g2 g3 g4 (by rw [g5]; omega) ⟨.int _,H,I.tok _,⟨_,rfl⟩,?_⟩
  rw [g5]; exact q
end
theorem cntK_one {κ:Type} [DecidableEq κ] {k:κ} {ks:List κ} : ∀ i,i ≤ ks.length→1 ≤ cntK (k :: ks) (i + 1)∧(cntK (k :: ks) (i + 1) = 1↔∀ x ∈ ks.take i,x = k)
  | 0,_=>by simp [cntK]
  | i + 1,h=>by
    obtain ⟨h1,h2⟩:=cntK_one (k:=k) (ks:=ks) i (by omega)
    have e:(k :: ks)[i + 1]? = some ks[i]:=by simp
    have e' : ks[i]? = some ks[i]:=List.getElem?_eq_getElem (by omega)
    have et:ks.take (i + 1) = ks.take i ++ [ks[i]]:=by rw [List.take_add_one,e']; rfl
    have e2:(k :: ks).take (i + 1) = k :: ks.take i:=rfl
    rw [show cntK (k :: ks) (i + 1 + 1) = match (k :: ks)[i + 1]? with
      | some x=>if x ∈ (k :: ks).take (i + 1) then cntK (k :: ks) (i + 1) else cntK (k :: ks) (i + 1) + 1
      | none=>cntK (k :: ks) (i + 1) from rfl,e,et,e2]
    dsimp only
    by_cases m:ks[i] ∈ k :: ks.take i
    · rw [if_pos m]
      refine ⟨h1,h2.trans ⟨fun z x hx=>?_,fun z x hx=>z x (List.mem_append_left _ hx)⟩⟩
      rcases List.mem_append.mp hx with hx | hx
      · exact z x hx
      · have:x = ks[i]:=by simpa using hx
        rw [this]
        rcases List.mem_cons.mp m with m | m
        · exact m
        · exact z _ m
    · rw [if_neg m]
      refine ⟨by omega,⟨fun z=>absurd z (by omega),fun z=>?_⟩⟩
      exact absurd (z ks[i] (List.mem_append_right _ (by simp))) fun q=>m (by rw [q]; exact List.mem_cons_self)
theorem cntK_same {κ:Type} [DecidableEq κ] {k:κ} {ks:List κ} : cntK (k :: ks) (k :: ks).length = 1↔∀ x ∈ ks,x = k:=by
  have:=(cntK_one (k:=k) (ks:=ks) ks.length (Nat.le_refl _)).2
  rw [List.take_length] at this
  exact this
end L2
namespace L2
open PySem PySem.Spec PyProof.Rows
section
variable {X:Cx}
def rUpper:V→List V→Hp→VK→Prop:=fun x vs H Q=>∃ z:Str,x = .str z∧vs = []∧z.length ≤ 1000∧Q (.str (Txt.upper z)) H
end
end L2
namespace L2
open PySem PySem.Spec PyProof.Rows
def TyG (K:PySem.W.Frag) (H:Hp) (x:V) (t:Value):Prop:=TyOf K H x t∨∃ a ys,x = .ref a∧SqT K H a ys∧t = .type "tuple"
inductive ClV:V→Value→Prop where
  | ty (T:String):ClV (.ty T) (.type T)
  | ref (C:Addr):ClV (.ref C) (.ref C)
section
variable {X:Cx}
theorem call_isiG:CallR X (.builtin "isinstance") (fun xs H Q=>∃ x c cv t b,xs = [x,c]∧ClV c cv∧TyG X.K H x t∧PySem.W.kitOne X.K t cv = some b∧Q (.bl b) H):=by
  intro pins s σ H xs us Q I r h
  obtain ⟨x,c,cv,t,b,rfl,rc,ty,e,q⟩:=h
  cases r with
  | cons rx r2 =>
    cases r2 with
    | @cons _ cu _ _ ry r3 =>
      cases r3
      have ec:cu = cv:=by cases rc <;> exact ry
      subst ec
      rcases ty with ty | ⟨a,ys,rfl,hS,rfl⟩
      · exact isinst_ok I rx ty e fun tk=>⟨.bl b,H,I.tok tk,rfl,q⟩
      · cases (show _ = Value.ref a from rx)
        obtain ⟨its,r,⟨o,h1,h2,_⟩,_⟩:=I.tuple hS
        exact PySem.W.kia_one PySem.W.kitx_tuple I.kIn ⟨o,h1,h2⟩ e (fun z=>nomatch z) fun tk=>⟨.bl b,H,I.tok tk,rfl,q⟩
end
structure InsT (K:PySem.W.Frag) (C:Addr):Prop where
  cl:Cls K C
  ha:PySem.W.findIn K (.ref C) "__class__" = some (some (.builtin "object.__class__"))
  hn:PySem.W.specialIn K (.builtin "object.__class__") "__get__" = some (some (.builtin "getset_descriptor.__get__"))
  tk:PySem.W.takesIn K (.builtin "object.__class__") = some true
  hm:PySem.W.mroIn K C (.type "object") = some true
theorem InsT.ty {K:PySem.W.Frag} {C:Addr} (h:InsT K C) {H:Hp} {a dx:Addr} {fs:List (Str × V)} (e:H a = some (.ins C dx fs)):TyG K H (.ref a) (.ref C):=.inl (.ins e h.cl h.ha h.hn h.tk h.hm)
def PolM (CX:CXT) (P:Program) (w:World) (K:PySem.W.Frag) (mg:Str→Option Value) (base:Heap) (k:Nat) (m:Str) (ps:List Str) (cs:List (Addr × Sp)):Prop :=
  ∀ p ∈ cs,MCallee CX P w K mg base k p.1 m ps p.2∧Cls K p.1
section
variable {CX:CXT} {P:Program} {w:World} {K:PySem.W.Frag} {mg:Str→Option Value} {base:Heap} {k:Nat} {C:Addr} {m:Str} {ps:List Str} {sp:Sp} {cs:List (Addr × Sp)}
theorem poln:PolM CX P w K mg base k m ps []:=fun _ h=>nomatch h
theorem polc (M:MCallee CX P w K mg base k C m ps sp) (c:Cls K C) (r:PolM CX P w K mg base k m ps cs):PolM CX P w K mg base k m ps ((C,sp) :: cs):=fun p h=>by
  rcases List.mem_cons.mp h with rfl | h
  · exact ⟨M,c⟩
  · exact r p h
end
def tMtP (cs:List (Addr × Sp)) (m:Str) (ta:TE) (t:TA):TE:=fun σ H Q=>ta σ H fun x H1=>∃ a p dx fs,x = .ref a∧p ∈ cs∧H1 a = some (.ins p.1 dx fs)∧fs.lookup m = none∧t σ H1 fun vs H2=>p.2 (x :: vs) H2 Q E0
section
variable {X:Cx} {CX:CXT} {k:Nat} {f C:Addr} {fd:FuncData} {ps:List Str} {sp:Sp} {x m:Str} {p np pos apos:Pos} {e o:Expr} {es:List Expr} {ta:TE} {t:TA} {cs:List (Addr × Sp)}
theorem pe_mtP {pl:Sem Bool} (M:PolM CX X.prog X.w X.K X.mg X.base k m ps cs) (hx:Passes CX X E0) (hr:Room k X.A) (he:PE X o ta) (ha:PA X (e :: es) t)
    (hst:starEach (e :: es) X.env = (false,eval e X.env) :: starEach es X.env:=by rfl) (hpl:(backTo pos (starEach es X.env)).any (·.1) = false:=by rfl)
    (ht:eval (.Call (.Attribute o m apos) (e :: es) [] pos) X.env = (do
      let ov ← eval o X.env
      standAt apos.atName
      let (f,first) ← holding [ov] (getMethod ov m pl)
      callWith pos f first (backTo pos (starEach (e :: es) X.env)) (backToKw pos (keywordEach [] X.env))):=by rfl) :
    PE X (.Call (.Attribute o m apos) (e :: es) [] pos) (tMtP cs m ta t):=by
  intro pins s σ H Q I h
  refine PySem.W.methodCall_KW (pl:=pl) (thn (he pins s σ H _ I h) fun u s1 ⟨x,H1,I1,rx,a,p,dx,fs,ex,hp,ea,l,q⟩=>?_) ht
  obtain ⟨⟨f,fd,hm,F,hb⟩,c⟩:=M p hp
  subst ex
  obtain rfl:u = Value.ref a:=rx
  refine getmeth_ok I1 ea c hm l ?_
  refine PySem.W.callWith_K (first:=[.ref a]) (h₀:=X.base) I.ok.mod.kin hm.kp (thn (ha pos pins s1 σ H1 _ I1 q) fun us s2 ⟨vs,H2,I2,r,q2⟩=>⟨I2.kIn,?_⟩) hst hpl
  exact run0 (us:=.ref a :: us) (vs:=.ref a :: vs) F hr hb hx I2 (.cons rfl r) q2
theorem pe_mk0 (M:MkCallee CX X.prog X.w X.K X.mg X.base k x C ps sp) (hx:Passes CX X E0) (hr:Room (k + 1) X.A) (hg:Gl X x) (hdb:(x == ("__debug__" : Str)) = false:=by decide) :
    PE X (.Call (.Name x p) [] [] pos) (tMk C sp tNil):=by
  obtain ⟨f,fd,M,F,hb,hm⟩:=M
  have h:=pe_make0 (E:=E0) (dvs:=[]) (ds:=[]) (p:=p) (pos:=pos) M F hr hg hm hb .nil hx hdb
  intro pins s σ H Q I q
  exact h pins s σ H Q I q
end
def ModT (K:PySem.W.Frag) (a:Addr) (xs:List V):Prop:=∃ (o:Obj) (its:Array Value) (n:Nat),K.lookup a = some o∧o.cls = .type "tuple" ∧ o.data = .seq its n∧its.size ≤ sizeLine∧Vals xs its.toList
theorem ModT.sq {K:PySem.W.Frag} {a:Addr} {xs:List V} (h:ModT K a xs) (H:Hp):SqT K H a xs:=.inr h
theorem ModT.mk {K:PySem.W.Frag} {a:Addr} {xs:List V} {od:Option Addr} {its:Array Value} {n:Nat} {sl:Array (Option Value)} (h:K.lookup a = some ⟨.type "tuple",od,.seq its n,sl⟩) (hs:its.size ≤ sizeLine) (hv:Vals xs its.toList):ModT K a xs :=
  ⟨_,its,n,h,rfl,rfl,hs,hv⟩
end L2
namespace L2
open PySem PySem.Spec PyProof.Rows
theorem Same.seqT {K:PySem.W.Frag} {H H' : Hp} {a:Addr} {xs:List V} (e:Same H H') (h:SqT K H a xs):SqT K H' a xs:=by
  rcases h with (h | ⟨o,h⟩) | h
  · exact .inl (.inl (e _ _ h))
  · exact .inl (.inr ⟨o,e _ _ h⟩)
  · exact .inr h
theorem rEqL_same {K:PySem.W.Frag} {H:Hp} {Q:VK} {a b:Addr} {xs:List V} (ha:SqL K H a xs) (hb:SqL K H b xs) (fl:∀ x ∈ xs,flatV x = true∨∃ r,x = .ref r) (q:Q (.bl true) H):rEqL K false (.ref a) (.ref b) H Q:=by
  refine ⟨a,b,xs,xs,rfl,rfl,ha,hb,.inr ⟨rfl,fun _=>true,fun j x y e1 e2=>?_,?_⟩⟩
  · rw [e1] at e2; cases e2
    rcases fl x (List.mem_of_getElem? e1) with z | ⟨r,rfl⟩
    · have:=EqI.flat (K:=K) (H:=H) z z
      rw [eqV_refl z] at this
      exact this
    · exact .same r
  · have:(List.range xs.length).all (fun _=>true) = true:=by simp
    rw [this]
    exact q
theorem iteTS {c A B:Prop} [Decidable c] (hc:c) (h:A):if decide c = true then A else B:=by rw [if_pos (decide_eq_true hc)]; exact h
theorem iteFS {c A B:Prop} [Decidable c] (hc:¬ c) (h:B):if decide c = true then A else B:=by rw [if_neg (by rw [decide_eq_false hc]; decide)]; exact h
end L2
namespace L2
open PySem PySem.Spec PyProof.Rows
section
variable {X:Cx} {pins:List (Addr × Obj)} {σ:St} {H:Hp} {s:Shared} {h' : Heap}
theorem Inv.turnedPair {ch:List Addr} {T:Addr} {x y:V} {u v:Value} (I:Inv X pins σ H s) (hf:∀ b ∈ ch,FpOk X pins H b) (k:∀ b o,b ∉ ch→s.heap.get? b = some o→h'.get? b = some o)
    (nT:s.heap.get? T = none) (hT:H T = none) (gT:IsPair h' T u v) (rx:RelV x u) (ry:RelV y v):Inv X pins σ (upd H T (.tup [x,y])) { s with heap:=h' }:=by
  have out:∀ b u,H b = some u→b ∉ ch:=fun b u e z=>by
    have f:=(hf b z).1
    rw [f] at e
    cases e
  have neT:∀ {b o},s.heap.get? b = some o→b ≠ T:=fun e z=>by rw [z,nT] at e; cases e
  have neH:∀ {b u},H b = some u→b ≠ T:=fun e z=>by rw [z,hT] at e; cases e
  have J:=Inv.step (H':=upd H T (.tup [x,y])) (h':=h') (g':=s.gens) (d':=s.drawn) (t':=s.toks) (ch:=ch) I
    (fun b hb=>by obtain ⟨_,f1,_,f3,f4,f5⟩:=hf b hb; exact ⟨f3,f1,f4,f5⟩)
    (fun b o _ _ hc e _=>k b o hc e)
    (fun b o _ _ hc e _=>⟨o.slots,k b o hc e⟩)
    (fun b o _ e n=>by rw [upd_ne (neT e)]; exact n)
    (fun b o hc e=>⟨o,k b o hc e⟩)
    (fun b xs e=>by rw [upd_ne (neH e)]; exact e)
    (fun b o w e=>by rw [upd_ne (neH e)]; exact e)
    (fun b ps e=>⟨#[],by rw [upd_ne (neH e),e]; simp⟩)
    (fun m hm=>by
      obtain ⟨o,es,ep,ho,r⟩:=hm
      refine ⟨o,es,ep,k _ o (fun z=>?_) ho,r⟩
      obtain ⟨_,f1,_⟩:=hf _ z
      exact f1 rfl)
    (fun b w e=>by
      by_cases hb:b = T
      · subst hb
        rw [upd_same] at e
        cases e
        exact ⟨by show 2 ≤ sizeLine; decide,[u,v],.cons rx (.cons ry .nil),_,gT,rfl,_,rfl⟩
      · rw [upd_ne hb] at e
        refine (I.hok b w e).stay (fun c z hc q=>k c z ?_ q) (fun c q=>?_) fun c xs q=>?_
        · rcases hc with z | z
          · rw [z]; exact out b w e
          · exact out c _ z
        · rw [upd_ne (neH q)]; exact q
        · rw [upd_ne (neH q)]; exact q)
    I.bare
  exact J
theorem Inv.turnedL {ch:List Addr} (I:Inv X pins σ H s) (hf:∀ b ∈ ch,FpOk X pins H b) (k:∀ b o,b ∉ ch→s.heap.get? b = some o→h'.get? b = some o):Inv X pins σ H { s with heap:=h' }:=by
  have out:∀ b u,H b = some u→b ∉ ch:=fun b u e z=>by
    have f:=(hf b z).1
    rw [f] at e
    cases e
  have J:=Inv.step (H':=H) (h':=h') (g':=s.gens) (d':=s.drawn) (t':=s.toks) (ch:=ch) I
    (fun b hb=>by obtain ⟨_,f1,_,f3,f4,f5⟩:=hf b hb; exact ⟨f3,f1,f4,f5⟩)
    (fun b o _ _ hc e _=>k b o hc e)
    (fun b o _ _ hc e _=>⟨o.slots,k b o hc e⟩)
    (fun b o _ _ n=>n)
    (fun b o hc e=>⟨o,k b o hc e⟩)
    (fun b xs e=>e) (fun b o w e=>e) (fun b ps e=>⟨#[],by rw [e]; simp⟩)
    (fun m hm=>by
      obtain ⟨o,es,ep,ho,r⟩:=hm
      refine ⟨o,es,ep,k _ o (fun z=>?_) ho,r⟩
      obtain ⟨_,f1,_⟩:=hf _ z
      exact f1 rfl)
    (fun b w e=>by
      refine (I.hok b w e).stay (fun c z hc q=>k c z ?_ q) (fun c q=>q) fun c xs q=>q
      rcases hc with z | z
      · rw [z]; exact out b w e
      · exact out c _ z)
    I.bare
  exact J
end
def Itz (K:PySem.W.Frag) (a b:Addr):It :=
  ⟨fun i H=>∃ xs ys x y,SqL K H a xs∧SqL K H b ys∧xs[i]? = some x∧ys[i]? = some y,
   fun i H v H'=>∃ T,H T = none∧v = .ref T∧∀ xs ys x y,SqL K H a xs→SqL K H b ys→xs[i]? = some x→ys[i]? = some y→H' = upd H T (.tup [x,y]),
   fun i H=>∃ xs ys,SqL K H a xs∧SqL K H b ys∧(xs.length ≤ i∨ys.length ≤ i)⟩
def ZipSt (z TI TO i1 i2 a b:Addr) (i:Nat) (h:Heap):Prop:=IsZip h z TI TO .none∧IsPair h TI (.ref i1) (.ref i2)∧(∃ p q,IsPair h TO p q)∧h.IsListIter i1 a i∧h.IsListIter i2 b i
theorem turn_zip {P:Program} {w:World} {K:PySem.W.Frag} {elts:List Expr} {x1} {tp:Pos} {z TI TO i1 i2 a b:Addr} (D:ZipApart z TI TO i1 i2 a b) :
    Turn P w K (.Tuple elts x1 tp) (Itz K a b) [z,TI,TO,i1,i2] z (ZipSt z TI TO i1 i2 a b) where
  mem:=by simp
  obj:=fun i h st c hc=>by
    obtain ⟨g1,g2,⟨p,q,g3⟩,⟨o4,g4,_,d4⟩,⟨o5,g5,_,d5⟩⟩:=st
    simp only [List.mem_cons,List.not_mem_nil,or_false] at hc
    rcases hc with rfl | rfl | rfl | rfl | rfl
    · exact ⟨_,g1,fun v q=>nomatch q⟩
    · exact ⟨_,g2,fun v q=>nomatch q⟩
    · exact ⟨_,g3,fun v q=>nomatch q⟩
    · exact ⟨_,g4,fun v q=>by rw [d4] at q; cases q⟩
    · exact ⟨_,g5,fun v q=>by rw [d5] at q; cases q⟩
  keep:=fun i h h' st k=>by
    obtain ⟨g1,g2,⟨p,q,g3⟩,g4,g5⟩:=st
    exact ⟨k z (by simp) _ g1,k TI (by simp) _ g2,⟨p,q,k TO (by simp) _ g3⟩,g4.at fun o e=>k i1 (by simp) o e,g5.at fun o e=>k i2 (by simp) o e⟩
  item:=by
    intro X hP hw hK hc i pins s σ H E I hf st hg
    subst hP hw hK
    obtain ⟨xs,ys,x,y,qa,qb,ex,ey⟩:=hg
    obtain ⟨g1,g2,⟨p,q,g3⟩,g4,g5⟩:=st
    obtain ⟨us,ru,pu,_⟩:=I.list qa
    obtain ⟨vs,rv,pv,_⟩:=I.list qb
    obtain ⟨u,eu,r1⟩:=ru.get ex
    obtain ⟨v,ev,r2⟩:=rv.get ey
    refine wpAny_pyNext_zip_item D g1 g2 g3 g4 g5 pu.isList pv.isList (x:=u) (y:=v) (by simpa using eu) (by simpa using ev) fun h1 a1 a2 a3 a4 a5 a6 a7=>?_
    refine ⟨_,rfl,wpAny_letOwnedTupleGo_zip (s:={ s with heap:=h1 }) a1 fun h2 b1 b2=>?_⟩
    have nT:s.heap.get? s.heap.objs.size = none:=by
      cases q:s.heap.get? s.heap.objs.size with
      | none=>rfl
      | some o=>exact absurd (Heap.lt_size q) (Nat.lt_irrefl _)
    have hT:H s.heap.objs.size = none:=I.hok.fresh (Nat.le_refl _)
    have nz:s.heap.objs.size ≠ z:=Nat.ne_of_gt (Heap.lt_size g1)
    have kk:∀ c o,c ∉ [z,TO,i1,i2]→s.heap.get? c = some o→h2.get? c = some o:=fun c o hc e=>by
      simp only [List.mem_cons,List.not_mem_nil,or_false,not_or] at hc
      exact b2.extBut _ _ hc.1 (a7 c o hc.1 hc.2.1 hc.2.2.1 hc.2.2.2 e)
    have J:=I.turnedPair (h':=h2) (ch:=[z,TO,i1,i2]) (T:=s.heap.objs.size) (x:=x) (y:=y) (u:=u) (v:=v) (fun c hc=>hf c (by simp at hc ⊢; rcases hc with e | e | e | e <;> simp [e])) kk nT hT (b2.extBut _ _ nz a5) r1 r2
    refine ⟨.ref s.heap.objs.size,upd H s.heap.objs.size (.tup [x,y]),J,rfl,⟨_,hT,rfl,fun xs' ys' x' y' q1 q2 e1 e2=>?_⟩,⟨b1,b2.extBut _ _ D.TIz (a7 TI _ D.TIz D.TITO D.TIi1 D.TIi2 g2),⟨_,_,b2.extBut _ _ D.TOz a2⟩,a3.extBut b2.extBut D.i1z,a4.extBut b2.extBut D.i2z⟩,fun c hc=>?_⟩
    · rw [I.list_inj q1 qa] at e1
      rw [I.list_inj q2 qb] at e2
      rw [ex] at e1; rw [ey] at e2
      cases e1; cases e2
      rfl
    · have h0:=(hf c hc).1
      have:c ≠ s.heap.objs.size:=by
        obtain ⟨o4,g4',_⟩:=g4
        obtain ⟨o5,g5',_⟩:=g5
        simp only [List.mem_cons,List.not_mem_nil,or_false] at hc
        rcases hc with rfl | rfl | rfl | rfl | rfl
        · exact nz.symm
        · exact Nat.ne_of_lt (Heap.lt_size g2)
        · exact Nat.ne_of_lt (Heap.lt_size g3)
        · exact Nat.ne_of_lt (Heap.lt_size g4')
        · exact Nat.ne_of_lt (Heap.lt_size g5')
      rw [upd_ne this]; exact h0
  done:=by
    intro X hP hw hK hc i pins s σ H E I hf st hg
    subst hP hw hK
    obtain ⟨xs,ys,qa,qb,hl⟩:=hg
    obtain ⟨g1,g2,⟨p,q,g3⟩,g4,g5⟩:=st
    obtain ⟨us,ru,pu,_⟩:=I.list qa
    obtain ⟨vs,rv,pv,_⟩:=I.list qb
    have l1:=ru.length
    have l2:=rv.length
    refine wpAny_pyNext_zip_end (I.ok.hd hc) D g1 g2 g3 g4 g5 pu.isList pv.isList ?_ fun h2 k=>⟨rfl,I.turnedL (ch:=[z,TO,i1,i2]) (fun c hc=>hf c (by simp at hc ⊢; rcases hc with e | e | e | e <;> simp [e])) fun c o hc e=>?_⟩
    · rcases hl with hl | hl
      · exact .inl (by simp; omega)
      · exact .inr (by simp; omega)
    · simp only [List.mem_cons,List.not_mem_nil,or_false,not_or] at hc
      exact k c o hc.1 hc.2.1 hc.2.2.1 hc.2.2.2 e
  self:=fun _ _ _ _ _ st h=>wpAny_pyIter_zip st.1 h
def iZip (K:PySem.W.Frag) (ta:TA):TI:=fun σ H R=>ta σ H fun vs H1=>∃ a b,vs = [.ref a,.ref b]∧(∃ xs,SqL K H1 a xs)∧(∃ ys,SqL K H1 b ys)∧R (Itz K a b) H1
section
variable {X:Cx}
theorem pi_zip {e1 e2:Expr} {ta:TA} {p pos:Pos} {elts:List Expr} {x1} {tp:Pos} (hg:Gl X "zip") (hm:X.mg "zip" = none) (ha:PA X [e1,e2] ta)
    (hs:starEach [e1,e2] X.env = [(false,eval e1 X.env),(false,eval e2 X.env)]:=by rfl) (hs2:starEach [e2] X.env = [(false,eval e2 X.env)]:=by rfl) :
    PI X (.Tuple elts x1 tp) (.Call (.Name "zip" p) [e1,e2] [] pos) (iZip X.K ta):=by
  intro pins s σ H R I h
  refine Call_ (ld_blt I hg hm PyProof.Rows.boot_zip (PyProof.Rows.callWith_type1 (thn (ha pos pins s σ H _ I h) fun us s1 ⟨vs,H1,I1,r1,q1⟩=>?_) (by rw [hs,hs2]) (by rw [hs2]; rfl)))
  obtain ⟨a,b,rfl,⟨xs,qa⟩,⟨ys,qb⟩,q⟩:=q1
  obtain ⟨u,v,rfl,ru,rv⟩:=r1.two
  cases (show u = Value.ref a from ru)
  cases (show v = Value.ref b from rv)
  obtain ⟨us,_,pu,_⟩:=I1.list qa
  obtain ⟨vs,_,pv,_⟩:=I1.list qb
  obtain ⟨oa,ea,_⟩:=id pu.isList
  obtain ⟨ob,eb,_⟩:=id pv.isList
  have la:a < s1.heap.objs.size:=Heap.lt_size ea
  have lb:b < s1.heap.objs.size:=Heap.lt_size eb
  refine call_zip_2 pu.isList pv.isList fun h' z1 z2 z3 z4 z5 z6 z7=>?_
  refine wpAny_pyIter_zip (s:={ s1 with heap:=h' }) z1 ?_
  refine ⟨s1.heap.objs.size + 4,[s1.heap.objs.size + 4,s1.heap.objs.size + 2,s1.heap.objs.size + 3,s1.heap.objs.size,s1.heap.objs.size + 1],ZipSt (s1.heap.objs.size + 4) (s1.heap.objs.size + 2) (s1.heap.objs.size + 3) s1.heap.objs.size (s1.heap.objs.size + 1) a b,Itz X.K a b,H1,rfl,I1.kept (t':=s1.toks) z7,turn_zip ?_,⟨z1,z2,⟨_,_,z3⟩,z4,z5⟩,fun c hc=>?_,q⟩
  · refine ⟨?_,?_,?_,?_,?_,?_,?_,?_,?_,?_,?_,?_,?_,?_,?_,?_,?_,?_⟩ <;> first | exact Nat.ne_of_lt (by omega) | exact Nat.ne_of_gt (by omega) | exact Nat.ne_of_lt la | exact Nat.ne_of_lt lb | exact Nat.ne_of_lt (Nat.lt_of_lt_of_le la (Nat.le_add_right _ _)) | exact Nat.ne_of_lt (Nat.lt_of_lt_of_le lb (Nat.le_add_right _ _))
  · have hc' : s1.heap.objs.size ≤ c:=by
      simp only [List.mem_cons,List.not_mem_nil,or_false] at hc
      rcases hc with rfl | rfl | rfl | rfl | rfl <;> omega
    exact I1.fpOk hc' (I1.hok.fresh hc')
end
theorem for_zip {K:PySem.W.Frag} {a b:Addr} {xs ys:List V} {g:TG} {tb:TS} {D:Ends} {σ:St} {H:Hp} (Pv:Nat→St→Hp→Prop) (h0:Pv 0 σ H) (hl:∀ i σ H,Pv i σ H→SqL K H a xs∧SqL K H b ys)
    (hs:∀ i x y σ H T,xs[i]? = some x→ys[i]? = some y→Pv i σ H→H T = none→g (.ref T) σ (upd H T (.tup [x,y])) fun σ2 H2=>tb { D with nx:=Pv (i + 1),ct:=Pv (i + 1),bk:=D.nx } σ2 H2)
    (hd:∀ σ H,Pv (min xs.length ys.length) σ H→D.nx σ H) :
    ∃ W:Nat→Nat→St→Hp→Prop,(∃ m,W 0 m σ H)∧∀ i m σ H,W i m σ H →
      ((Itz K a b).stop i H∧D.nx σ H)∨((Itz K a b).go i H∧∃ N:St→Hp→Prop,(∀ σ' H',N σ' H'→∃ m',m' < m∧W (i + 1) m' σ' H')∧∀ x H',(Itz K a b).yld i H x H'→g x σ H' fun σ2 H2=>tb { D with nx:=N,ct:=N,bk:=D.nx } σ2 H2):=by
  refine ⟨fun i m σ H=>m = min xs.length ys.length - i∧i ≤ min xs.length ys.length∧Pv i σ H,⟨min xs.length ys.length,by simp,Nat.zero_le _,h0⟩,?_⟩
  rintro i m σ H ⟨rfl,hi,p⟩
  obtain ⟨q1,q2⟩:=hl i σ H p
  by_cases lt:i < min xs.length ys.length
  · have e1:xs[i]? = some xs[i]:=List.getElem?_eq_getElem (by omega)
    have e2:ys[i]? = some ys[i]:=List.getElem?_eq_getElem (by omega)
    refine .inr ⟨⟨xs,ys,_,_,q1,q2,e1,e2⟩,Pv (i + 1),fun σ' H' p'=>⟨_,?_,rfl,lt,p'⟩,fun v H' yl=>?_⟩
    · omega
    · obtain ⟨T,hT,rfl,e⟩:=yl
      rw [e xs ys _ _ q1 q2 e1 e2]
      exact hs i _ _ σ H T e1 e2 p hT
  · have e:i = min xs.length ys.length:=by omega
    subst e
    exact .inl ⟨⟨xs,ys,q1,q2,by omega⟩,hd σ H p⟩
end L2
namespace L2
open PySem PySem.Spec PyProof.Rows
section
variable {X:Cx}
end
theorem mul_bits {a b:Int} {m n:Nat} (ha:a.natAbs < 2 ^ m) (hb:b.natAbs < 2 ^ n) (hm:m ≤ 2 ^ 20) (hn:n ≤ 2 ^ 20):IntMulOk a b :=
  .of_bits (Nat.le_trans (PyProof.Rows.intBits_le ha) hm) (Nat.le_trans (PyProof.Rows.intBits_le hb) hn)
end L2
namespace L2
open PySem PySem.Spec PyProof.Rows
theorem call_list_ofK {X:Cx} {K:PySem.W.Frag} (h:X.K = K):CallR X (.type "list") (fun xs H Q=>∃ p ys,xs = [.ref p]∧(SqL K H p ys∨SqT K H p ys)∧∀ l,H l = none→Q (.ref l) (upd H l (.lst ys))):=h ▸ call_list_of
end L2
namespace L2
open PySem PySem.Spec PyProof.Rows
def Ite (K:PySem.W.Frag) (a:Addr):It :=
  ⟨fun i H=>∃ xs x,SqL K H a xs∧xs[i]? = some x,
   fun i H v H'=>∃ T,H T = none∧v = .ref T∧∀ xs x,SqL K H a xs→xs[i]? = some x→H' = upd H T (.tup [.int i,x]),
   fun i H=>∃ xs,SqL K H a xs∧xs.length ≤ i⟩
def EnumSt (e it a:Addr) (i:Nat) (h:Heap):Prop:=(∃ old,IsEnum h e it i old)∧h.IsListIter it a i
theorem turn_enum {P:Program} {w:World} {K:PySem.W.Frag} {elts:List Expr} {x1} {tp:Pos} {e it a:Addr} (hne:e ≠ it) :
    Turn P w K (.Tuple elts x1 tp) (Ite K a) [e,it] e (EnumSt e it a) where
  mem:=by simp
  obj:=fun i h st c hc=>by
    obtain ⟨⟨old,g1⟩,⟨o2,g2,_,d2⟩⟩:=st
    simp only [List.mem_cons,List.not_mem_nil,or_false] at hc
    rcases hc with rfl | rfl
    · exact ⟨_,g1,fun v q=>nomatch q⟩
    · exact ⟨_,g2,fun v q=>by rw [d2] at q; cases q⟩
  keep:=fun i h h' st k=>by
    obtain ⟨⟨old,g1⟩,g2⟩:=st
    exact ⟨⟨old,k e (by simp) _ g1⟩,g2.at fun o q=>k it (by simp) o q⟩
  item:=by
    intro X hP hw hK hc i pins s σ H E I hf st hg
    subst hP hw hK
    obtain ⟨xs,x,qa,ex⟩:=hg
    obtain ⟨⟨old,g1⟩,g2⟩:=st
    obtain ⟨us,ru,pu,_⟩:=I.list qa
    obtain ⟨u,eu,r1⟩:=ru.get ex
    refine wpAny_pyNext_enum_item g1 g2 pu.isList (x:=u) (by simpa using eu) hne fun h1 a1 a2 a3 a4 a5=>?_
    refine ⟨_,rfl,wpAny_letOwnedTupleGo_enum (s:={ s with heap:=h1,toks:=s.toks + 1 }) a1 fun h2 b1 b2=>?_⟩
    have nT:s.heap.get? s.heap.objs.size = none:=by
      cases q:s.heap.get? s.heap.objs.size with
      | none=>rfl
      | some o=>exact absurd (Heap.lt_size q) (Nat.lt_irrefl _)
    have hT:H s.heap.objs.size = none:=I.hok.fresh (Nat.le_refl _)
    have nz:s.heap.objs.size ≠ e:=Nat.ne_of_gt (Heap.lt_size g1)
    have kk:∀ c o,c ∉ [e,it]→s.heap.get? c = some o→h2.get? c = some o:=fun c o hc q=>by
      simp only [List.mem_cons,List.not_mem_nil,or_false,not_or] at hc
      exact b2.extBut _ _ hc.1 (a5 c o hc.1 hc.2 q)
    have J:=I.turnedPair (h':=h2) (ch:=[e,it]) (T:=s.heap.objs.size) (x:=.int i) (y:=x) (u:=.int i s.toks) (v:=u) (fun c hc=>hf c (by simp at hc ⊢; rcases hc with q | q <;> simp [q])) kk nT hT (b2.extBut _ _ nz a3) ⟨_,rfl⟩ r1
    refine ⟨.ref s.heap.objs.size,upd H s.heap.objs.size (.tup [.int i,x]),J.tok _,rfl,⟨_,hT,rfl,fun xs' x' q1 e1=>?_⟩,⟨⟨_,b1⟩,a2.extBut b2.extBut hne.symm⟩,fun c hc=>?_⟩
    · rw [I.list_inj q1 qa,ex] at e1
      cases e1
      rfl
    · have h0:=(hf c hc).1
      have:c ≠ s.heap.objs.size:=by
        obtain ⟨o2,g2',_⟩:=g2
        simp only [List.mem_cons,List.not_mem_nil,or_false] at hc
        rcases hc with rfl | rfl
        · exact nz.symm
        · exact Nat.ne_of_lt (Heap.lt_size g2')
      rw [upd_ne this]; exact h0
  done:=by
    intro X hP hw hK hc i pins s σ H E I hf st hg
    subst hP hw hK
    obtain ⟨xs,qa,hl⟩:=hg
    obtain ⟨⟨old,g1⟩,g2⟩:=st
    obtain ⟨us,ru,pu,_⟩:=I.list qa
    have l1:=ru.length
    refine wpAny_pyNext_enum_end (I.ok.hd hc) g1 g2 pu.isList (by simp; omega) fun h2 k=>⟨rfl,I.turnedL (ch:=[e,it]) (fun c hc=>hf c (by simp at hc ⊢; rcases hc with q | q <;> simp [q])) fun c o hc q=>?_⟩
    simp only [List.mem_cons,List.not_mem_nil,or_false,not_or] at hc
    exact k c o hc.2 q
  self:=fun _ _ _ _ _ st h=>let ⟨⟨_,g⟩,_⟩:=st; wpAny_pyIter_enum g h
def iEnum (K:PySem.W.Frag) (ta:TA):TI:=fun σ H R=>ta σ H fun vs H1=>∃ a,vs = [.ref a]∧(∃ xs,SqL K H1 a xs)∧R (Ite K a) H1
section
variable {X:Cx}
theorem pi_enum {e1:Expr} {ta:TA} {p pos:Pos} {elts:List Expr} {x1} {tp:Pos} (hg:Gl X "enumerate") (hm:X.mg "enumerate" = none) (ha:PA X [e1] ta)
    (hs:starEach [e1] X.env = [(false,eval e1 X.env)]:=by rfl) :
    PI X (.Tuple elts x1 tp) (.Call (.Name "enumerate" p) [e1] [] pos) (iEnum X.K ta):=by
  intro pins s σ H R I h
  refine Call_ (ld_blt I hg hm PyProof.Rows.boot_enumerate (PyProof.Rows.callWith_type1 (thn (ha pos pins s σ H _ I h) fun us s1 ⟨vs,H1,I1,r1,q1⟩=>?_) (by rw [hs]; rfl) rfl))
  obtain ⟨a,rfl,⟨xs,qa⟩,q⟩:=q1
  obtain ⟨u,rfl,ru⟩:=r1.one
  cases (show u = Value.ref a from ru)
  obtain ⟨us,_,pu,_⟩:=I1.list qa
  refine call_enumerate_list pu.isList fun h' z1 z2 z3 z4=>?_
  refine wpAny_pyIter_enum (s:={ s1 with heap:=h' }) z1 ?_
  refine ⟨s1.heap.objs.size + 1,[s1.heap.objs.size + 1,s1.heap.objs.size],EnumSt (s1.heap.objs.size + 1) s1.heap.objs.size a,Ite X.K a,H1,rfl,I1.kept (t':=s1.toks) z4,turn_enum (Nat.ne_of_gt (Nat.lt_succ_self _)),⟨⟨_,z1⟩,z2⟩,fun c hc=>?_,q⟩
  have hc' : s1.heap.objs.size ≤ c:=by
    simp only [List.mem_cons,List.not_mem_nil,or_false] at hc
    rcases hc with rfl | rfl
    · exact Nat.le_succ _
    · exact Nat.le_refl _
  exact I1.fpOk hc' (I1.hok.fresh hc')
end
section
variable {gt:TG} {k:Nat} {fr:List Nat} {tt:TT} {te:TE}
theorem compG_enum {K:PySem.W.Frag} {a:Addr} {xs:List V} {σ:St} {H1:Hp} {Q:VK} (Pv:Addr→Nat→List V→Hp→Prop) (h0:∀ D,H1 D = none→Pv D 0 [] (upd H1 D (.lst [])))
    (hk:∀ D i ys H,H1 D = none→i ≤ xs.length→Pv D i ys H→SqL K H a xs)
    (hs:∀ D i x ys H T,H1 D = none→xs[i]? = some x→Pv D i ys H→H T = none→∀ ts:St,ts.length = k→gt (.ref T) (cmpStG σ fr ts) (upd H T (.tup [.int i,x])) fun σ2 H2=>(∃ ts2:St,ts2.length = k∧σ2 = cmpStG σ fr ts2)∧tt σ2 H2 fun b H3=>if b = true then te σ2 H3 (CYes Pv D i xs.length) else CNext Pv D i xs.length H3)
    (hd:∀ D ys H,H1 D = none→Pv D xs.length ys H→Q (.ref D) H):CompAtG (Ite K a) gt k fr tt te σ Q H1:=by
  intro D hD
  refine ⟨fun i m H=>m = xs.length - i∧i ≤ xs.length∧∃ ys,Pv D i ys H,⟨_,rfl,Nat.zero_le _,[],h0 D hD⟩,?_⟩
  rintro i m H ⟨rfl,hi,ys,p⟩
  have q:=hk D i ys H hD hi p
  by_cases hlt:i < xs.length
  · have ex:xs[i]? = some xs[i]:=List.getElem?_eq_getElem hlt
    refine .inr ⟨⟨xs,xs[i],q,ex⟩,fun x H' y=>?_⟩
    obtain ⟨T,hT,rfl,e⟩:=y
    rw [e xs _ q ex]
    exact hs D i _ ys _ T hD ex p hT
  · have e:i = xs.length:=by omega
    subst e
    exact .inl ⟨⟨xs,q,Nat.le_refl _⟩,hd D ys H hD p⟩
theorem compG_zip {K:PySem.W.Frag} {a b:Addr} {xs ys:List V} {σ:St} {H1:Hp} {Q:VK} (Pv:Addr→Nat→List V→Hp→Prop) (h0:∀ D,H1 D = none→Pv D 0 [] (upd H1 D (.lst [])))
    (hk:∀ D i zs H,H1 D = none→i ≤ min xs.length ys.length→Pv D i zs H→SqL K H a xs∧SqL K H b ys)
    (hs:∀ D i x y zs H T,H1 D = none→xs[i]? = some x→ys[i]? = some y→Pv D i zs H→H T = none→∀ ts:St,ts.length = k→gt (.ref T) (cmpStG σ fr ts) (upd H T (.tup [x,y])) fun σ2 H2=>(∃ ts2:St,ts2.length = k∧σ2 = cmpStG σ fr ts2)∧tt σ2 H2 fun b H3=>if b = true then te σ2 H3 (CYes Pv D i (min xs.length ys.length)) else CNext Pv D i (min xs.length ys.length) H3)
    (hd:∀ D zs H,H1 D = none→Pv D (min xs.length ys.length) zs H→Q (.ref D) H):CompAtG (Itz K a b) gt k fr tt te σ Q H1:=by
  intro D hD
  refine ⟨fun i m H=>m = min xs.length ys.length - i∧i ≤ min xs.length ys.length∧∃ zs,Pv D i zs H,⟨_,rfl,Nat.zero_le _,[],h0 D hD⟩,?_⟩
  rintro i m H ⟨rfl,hi,zs,p⟩
  obtain ⟨q1,q2⟩:=hk D i zs H hD hi p
  by_cases hlt:i < min xs.length ys.length
  · have ex:xs[i]? = some xs[i]:=List.getElem?_eq_getElem (by omega)
    have ey:ys[i]? = some ys[i]:=List.getElem?_eq_getElem (by omega)
    refine .inr ⟨⟨xs,ys,xs[i],ys[i],q1,q2,ex,ey⟩,fun x H' y=>?_⟩
    obtain ⟨T,hT,rfl,e⟩:=y
    rw [e xs ys _ _ q1 q2 ex ey]
    exact hs D i _ _ zs _ T hD ex ey p hT
  · have e:i = min xs.length ys.length:=by omega
    subst e
    exact .inl ⟨⟨xs,ys,q1,q2,by omega⟩,hd D zs H hD p⟩
end
theorem cmpOkG_free {X:Cx} {N:List Str} {k:Nat} {fr:List Nat} {scope:Scope} {cl:List (Str × Addr)} (clos:closureFor scope X.env = pure cl) (kind:scope.kind = .function) (nocell:∀ y ∈ scope.names,y.2 ≠ .cell)
    (names:∀ y ∈ scope.names,y.2 = .local→scope.names.lookup y.1 = some .local) (len:N.length = k + fr.length)
    (sub:((List.range fr.length).all fun i=>match N[k + i]?,fr[i]? with | some y,some j=>(X.N[j]? == some y) && ((X.env.kindOf y == some .cell) && ((relabel scope X.env).names.lookup y == some .cell)) | _,_=>false) = true)
    (cells:∀ p ∈ cl,X.env.cells.lookup p.1 = some p.2) (has:((relabel scope X.env).names.all fun p=>(p.2 != .cell && p.2 != .free) || (cl.lookup p.1).isSome) = true):CmpOkG X N k fr scope cl:=by
  refine ⟨clos,kind,nocell,names,len,fun i y e=>?_,fun y c e=>cells _ (PySem.mem_of_lookup e),fun y h=>?_⟩
  · have hi:i < fr.length:=by have:=(List.getElem?_eq_some_iff.mp e).1; omega
    have z:=List.all_eq_true.mp sub i (List.mem_range.mpr hi)
    rw [e,List.getElem?_eq_getElem hi] at z
    simp only [Bool.and_eq_true,beq_iff_eq] at z
    exact ⟨_,List.getElem?_eq_getElem hi,z.1,.inl z.2.1,.inl z.2.2⟩
  · have look:∀ k,(relabel scope X.env).names.lookup y = some k→(k = .cell∨k = .free)→∃ c,cl.lookup y = some c:=fun k e hk=>by
      have z:=List.all_eq_true.mp has _ (PySem.mem_of_lookup e)
      rcases hk with rfl | rfl
      · exact Option.isSome_iff_exists.mp (by simpa using z)
      · exact Option.isSome_iff_exists.mp (by simpa using z)
    rcases h with h | h
    · exact look _ h (.inl rfl)
    · exact look _ h (.inr rfl)
theorem all_getD (bs:List Bool):(List.range bs.length).all (fun i=>bs.getD i true) = bs.all id:=by
  rw [Bool.eq_iff_iff,List.all_eq_true,List.all_eq_true]
  constructor
  · intro h b hb
    obtain ⟨i,hi,rfl⟩:=List.getElem_of_mem hb
    have:=h i (List.mem_range.mpr hi)
    simpa [List.getD_eq_getElem?_getD,hi] using this
  · intro h i hi
    have hi':=List.mem_range.mp hi
    have:=h bs[i] (List.getElem_mem hi')
    simpa [List.getD_eq_getElem?_getD,hi'] using this
section
variable {X:Cx}
theorem pt_truthK {K:PySem.W.Frag} (hK:X.K = K) {a:Expr} {ta:TE} (ha:PE X a ta) (he:∀ whole,isTrue a X.env whole = (do let v ← whole; standAt a.pos; holding [v] (truthy v)):=by intro _; rfl) :
    PT X a (fun σ H Q=>ta σ H fun x H'=>∃ k,TruV K x H' k∧Q k H'):=hK ▸ pt_truth ha he
theorem call_all_bools (hc:X.calm = true):CallR X (.builtin "all") (fun us H Q=>∃ (a:Addr) (bs:List Bool),us = [.ref a]∧SqL X.K H a (bs.map V.bl)∧Q (.bl (bs.all id)) H):=by
  intro pins s σ H us vs Q I r h
  obtain ⟨a,bs,rfl,hq,q⟩:=h
  obtain ⟨u,rfl,rx⟩:=r.one
  cases (show u = Value.ref a from rx)
  obtain ⟨its,rv,pl,hz⟩:=I.list hq
  have hl:=rv.length
  rw [List.length_map] at hl
  obtain ⟨o,eo,_⟩:=id pl.isList
  have la:a < s.heap.objs.size:=Heap.lt_size eo
  refine call_all_walk (wpAny_pyIter_list pl.isList ⟨s.heap.objs.size,[s.heap.objs.size,a],[s.heap.objs.size],its.toArray.size,_,_,fun i=>bs.getD i true,rfl,Walks.list (by simp [I.ok.hd hc]) _ a (Nat.ne_of_lt la) its.toArray,⟨⟨_,Heap.get?_push_size _ rfl,rfl,rfl⟩,pl.isList.push _⟩,?_,fun h' tk k=>?_⟩)
  · intro i v s2 Q2 E2 hp hq2
    have e1:its[i]? = some v:=by simpa using hp
    have hi:i < bs.length:=by have:=(List.getElem?_eq_some_iff.mp e1).1; omega
    obtain ⟨u,e2,ru⟩:=rv.get (show (bs.map V.bl)[i]? = some (.bl bs[i]) by rw [List.getElem?_map,List.getElem?_eq_getElem hi]; rfl)
    rw [e1] at e2
    cases e2
    obtain rfl:v = .bool bs[i]:=ru
    refine wpAny_truthy_bool ?_
    have:bs.getD i true = bs[i]:=by simp [List.getD_eq_getElem?_getD,hi]
    replace hq2:Q2 (bs.getD i true) s2:=hq2
    rw [this] at hq2
    exact hq2
  · refine ⟨.bl (bs.all id),H,I.kept (t':=tk) fun b o e=>k b o (fun z=>?_) (Heap.get?_push_of_some _ e),?_,q⟩
    · have:b = s.heap.objs.size:=by simpa using z
      exact absurd (Heap.lt_size e) (by rw [this]; exact Nat.lt_irrefl _)
    · show Value.bool ((List.range its.toArray.size).all fun i=>bs.getD i true) = .bool (bs.all id)
      rw [show its.toArray.size = bs.length by simp; omega,all_getD]
end
section
variable {X:Cx} {elt iter tg:Expr} {ifs:List Expr} {pos:Pos} {scope:Scope} {cl:List (Str × Addr)} {N:List Str} {k:Nat} {fr:List Nat} {gt:TG} {tt:TT} {te:TE}
theorem ps_compG {wi:TI} {i:Nat} {y:Str} {py spos:Pos} (hN:X.N.Nodup) (hy:X.N[i]? = some y) (hl:Loc X.env.scope y) (hi:PI X tg iter wi) (O:CmpOkG X N k fr scope cl) (hc:X.calm = true) (hg:∀ fp C s H,PG (cmpCx X N scope cl fp C s H) tg gt)
    (ht:∀ fp C s H,PIf (cmpCx X N scope cl fp C s H) ifs tt) (he:∀ fp C s H,PE (cmpCx X N scope cl fp C s H) elt te) (hs:∀ v,foldedSetIterable iter X.env v = pure v:=by intro _; rfl)
    (hsw:swapsWith (.ListComp elt [⟨tg,iter,ifs,0⟩] scope pos) (some (.Name y py)) spos.line X.env = pure true:=by rfl) (hf:X.fn y = true∨X.env.scope.names.lookup y = some .local:=by first | exact .inl rfl | exact .inr rfl | assumption) :
    PS X (.Assign [.Name y py] (.ListComp elt [⟨tg,iter,ifs,0⟩] scope pos) spos) (tAsg (tCompG wi gt k fr tt te) (gName i)):=by
  intro pins s σ H D0 I h
  rw [exec_Assign_Name_used _ _ _ _ hsw]
  refine wpAny_bind (wpAny_standAt (wpAny_bind ?_))
  show wpAny _ X.A (do let _ ← comprehension (.ListComp elt [⟨tg,iter,ifs,0⟩] scope pos) scope X.env _ (newList []) false (eval iter X.env) (some (assign (.Name y py) X.env))) _ _ s
  refine wpAny_bind (wpAny_mono (wpAny_comprehension_free (use:=some (assign (.Name y py) X.env)) (Q:=fun _ s'=>SP X pins D0 .next s') rfl hs O.clos O.kind O.names (thn (hi pins s σ H _ I h) fun v s1 h1=>thn h1 fun itv s2 h2=>?_)) (fun _ s' hq=>wpAny_pure (wpAny_pure hq)) fun _ _ z=>z)
  obtain ⟨it,fp,tn,J,H2,e,I2,T,st2,f2,hW⟩:=h2
  subst e
  refine comp_coreG (Q:=fun v H1=>gName i v σ H1 D0.nx) (RR:=fun acc C=>compPost (model X.prog X.w) X.A X.xe (some (assign (.Name y py) X.env)) (fun _ s'=>SP X pins D0 .next s') acc C) O hc I2 T st2 f2 ht he hg hW fun D C s' H' hC hn ⟨m,hm⟩ I' q=>?_
  show wpAny _ X.A (assign (.Name y py) X.env (.ref D)) _ _ s'
  refine wpAny_assign_Name (store_ok2 I' hN hy hl (v:=.ref D) rfl (fun s3 I3 ⟨a,hsa,ha⟩=>?_) hf)
  have hCa:C ≠ a:=by
    rcases ha with z | z
    · rw [z]; exact Nat.ne_of_gt (Nat.lt_of_lt_of_le I2.lt hC)
    · obtain ⟨v,o,ho,_⟩:=I2.cell y a z
      exact Nat.ne_of_gt (Nat.lt_of_lt_of_le (Heap.lt_size ho) hC)
  exact ⟨m,hm.sameBut hsa hCa,fun h' hs'=>⟨_,H',I2.left I3 hC hn hs',q⟩⟩
end
end L2
namespace L2
open PySem
set_option maxRecDepth 100000
section
variable {prog:Program} {w:World} {A:Around} {E:Value→Shared→Prop} {s:Shared}
end
section
variable {X:Cx}
def tLR (K:PySem.W.Frag) (ta:TA):TE:=fun σ H Q=>ta σ H fun vs H1=>∃ a xs,vs = [.ref a]∧SqL K H1 a xs∧∀ p,H1 p = none→Q (.ref p) (upd H1 p (.lst xs.reverse))
end
end L2
namespace L2
open PySem
theorem for_enum {K:PySem.W.Frag} {a:Addr} {xs:List V} {g:TG} {tb:TS} {D:Ends} {σ:St} {H:Hp} (Pv:Nat→St→Hp→Prop) (h0:Pv 0 σ H) (hl:∀ i σ H,Pv i σ H→SqL K H a xs)
    (hs:∀ i x σ H T,xs[i]? = some x→Pv i σ H→H T = none→g (.ref T) σ (upd H T (.tup [.int i,x])) fun σ2 H2=>tb { D with nx:=Pv (i + 1),ct:=Pv (i + 1),bk:=D.nx } σ2 H2)
    (hd:∀ σ H,Pv xs.length σ H→D.nx σ H) :
    ∃ W:Nat→Nat→St→Hp→Prop,(∃ m,W 0 m σ H)∧∀ i m σ H,W i m σ H →
      ((Ite K a).stop i H∧D.nx σ H)∨((Ite K a).go i H∧∃ N:St→Hp→Prop,(∀ σ' H',N σ' H'→∃ m',m' < m∧W (i + 1) m' σ' H')∧∀ x H',(Ite K a).yld i H x H'→g x σ H' fun σ2 H2=>tb { D with nx:=N,ct:=N,bk:=D.nx } σ2 H2):=by
  refine ⟨fun i m σ H=>m = xs.length - i∧i ≤ xs.length∧Pv i σ H,⟨xs.length,by simp,Nat.zero_le _,h0⟩,?_⟩
  rintro i m σ H ⟨rfl,hi,p⟩
  have q1:=hl i σ H p
  by_cases lt:i < xs.length
  · have e1:xs[i]? = some xs[i]:=List.getElem?_eq_getElem lt
    refine .inr ⟨⟨xs,_,q1,e1⟩,Pv (i + 1),fun σ' H' p'=>⟨_,?_,rfl,lt,p'⟩,fun v H' yl=>?_⟩
    · omega
    · obtain ⟨T,hT,rfl,e⟩:=yl
      rw [e xs _ q1 e1]
      exact hs i _ σ H T e1 p hT
  · have e:i = xs.length:=by omega
    subst e
    exact .inl ⟨⟨xs,q1,Nat.le_refl _⟩,hd σ H p⟩
end L2
namespace L2
open PySem PySem.Spec PyProof.Rows
theorem cellsFrom_app:∀ (names:List (Str × NameKind)) (n:Nat) (acc:List (Str × Addr)),cellsFrom n names acc = cellsFrom n names [] ++ acc
  | [],_,_=>rfl
  | (x,kd) :: r,n,acc=>by
    unfold cellsFrom
    split
    · rw [cellsFrom_app r (n + 1) ((x,n) :: acc),cellsFrom_app r (n + 1) [(x,n)],List.append_assoc]; rfl
    · exact cellsFrom_app r n acc
theorem cellsFrom_look {names:List (Str × NameKind)} {n:Nat} {acc:List (Str × Addr)} {y:Str} {c:Addr} (e:(cellsFrom n names acc).lookup y = some c):(y,c) ∈ cellsFrom n names []∨acc.lookup y = some c:=by
  rw [cellsFrom_app,List.lookup_append] at e
  cases h:(cellsFrom n names []).lookup y with
  | none=>rw [h] at e; exact .inr e
  | some c'=>rw [h] at e; cases e; exact .inl (PySem.mem_of_lookup h)
theorem wpAny_newEnvN {M:Model} {A:Around} {E:Value→Shared→Prop} {s:Shared} {scope:Scope} {globals:Addr} {cl:List (Str × Addr)} {qual:Str} {env:Env} {Q:Env→Shared→Prop}
    (h:Q { scope,locals:=s.heap.objs.size,globals,cells:=cellsFrom (s.heap.objs.size + 1) scope.names cl,qual,func:=none,code:=env.code,frame:=env.frame,builtins:=env.builtins } { s with heap:=pushCells (s.heap.push { cls:=.type "dict",data:=.dict #[] }) scope.names }) :
    wpAny M A (newFunctionEnv scope globals cl [] qual none .none (some env)) Q E s:=by
  simp only [newFunctionEnv,Option.isSome_some,if_true]
  refine wpAny_bind (wpAny_alloc ?_)
  refine wpAny_bind (wpAny_layCells _ (fun name kind cells=>by cases hkc:kind == NameKind.cell <;> simp [hkc]) _ _ _ _ ?_)
  rw [show ({ s with heap:=s.heap.push { cls:=.type "dict",data:=.dict #[] } } : Shared).heap.objs.size = s.heap.objs.size + 1 from Heap.size_push ..]
  refine wpAny_bind ?_
  rw [List.forIn_nil]
  exact wpAny_pure (wpAny_pure h)
theorem pi_listK {X:Cx} {K:PySem.W.Frag} {tg l:Expr} {tl:TE} (h:X.K = K) (hl:PE X l tl):PI X tg l (iList K tl):=h ▸ pi_list hl
def cmpEnvN (scope:Scope) (cl:List (Str × Addr)) (C:Addr) (env:Env):Env :=
  { scope:=relabel scope env,locals:=C,globals:=env.globals,cells:=cellsFrom (C + 1) scope.names cl,qual:=env.qual,func:=none,code:=env.code,frame:=env.frame,builtins:=env.builtins }
def cmpCxN (X:Cx) (N:List Str) (scope:Scope) (cl:List (Str × Addr)) (fp:List Addr) (C:Addr) (s2:Shared) (H2:Hp):Cx :=
  { prog:=X.prog,w:=X.w,K:=X.K,mg:=X.mg,base:=X.base,A:=X.A,N:=N,s₀:=s2,H₀:=H2,env:=cmpEnvN scope cl C X.env,outer:=X.stack,stack:=X.stack,ex:=fp,fn:=fun y=>scope.names.lookup y == some .cell,calm:=X.calm,pn:=[],xe:=fun _ _=>False }
structure CmpOkN (X:Cx) (N:List Str) (k:Nat) (fr:List Nat) (scope:Scope) (cl:List (Str × Addr)):Prop where
  clos:closureFor scope X.env = pure cl
  kind:scope.kind = .function
  names:∀ y ∈ scope.names,y.2 = .local→scope.names.lookup y.1 = some .local
  len:N.length = k + fr.length
  sub:∀ (i:Nat) (y:Str),N[k + i]? = some y→∃ j,fr[i]? = some j∧X.N[j]? = some y∧(X.env.kindOf y = some .cell∨X.env.kindOf y = some .free)∧((relabel scope X.env).names.lookup y = some .cell∨(relabel scope X.env).names.lookup y = some .free)∧∃ c,cl.lookup y = some c∧∀ C:Addr,(cellsFrom (C + 1) scope.names cl).lookup y = some c
  cells:∀ y c,cl.lookup y = some c→X.env.cells.lookup y = some c
  has:∀ (C:Addr) (y:Str),((relabel scope X.env).names.lookup y = some .cell∨(relabel scope X.env).names.lookup y = some .free)→∃ c,(cellsFrom (C + 1) scope.names cl).lookup y = some c
section
variable {X:Cx} {elt iter tg:Expr} {ifs:List Expr} {pos:Pos} {scope:Scope} {cl:List (Str × Addr)} {N:List Str} {k:Nat} {fr:List Nat} {gt:TG} {tt:TT} {te:TE}
theorem comp_coreN {pins:List (Addr × Obj)} {σ:St} {s2:Shared} {H2:Hp} {it:Addr} {fp:List Addr} {tn:Nat→Heap→Prop} {J:It} {Q:VK} {E:Value→Shared→Prop} {RR:Value→Addr→Result→Shared→Prop}
    (O:CmpOkN X N k fr scope cl) (hc:X.calm = true) (I2:Inv X pins σ H2 s2) (T:Turn X.prog X.w X.K tg J fp it tn) (st2:tn 0 s2.heap) (f2:∀ b ∈ fp,FpOk X pins H2 b)
    (ht:∀ fp C s H,PIf (cmpCxN X N scope cl fp C s H) ifs tt) (he:∀ fp C s H,PE (cmpCxN X N scope cl fp C s H) elt te)
    (hg:∀ fp C s H,PG (cmpCxN X N scope cl fp C s H) tg gt) (hW:CompAtG J gt k fr tt te σ Q H2)
    (fin:∀ D C s' H',s2.heap.objs.size ≤ C→H' C = none→(∃ m,s'.heap.Ns C m)→Inv X pins σ H' s'→Q (.ref D) H'→RR (.ref D) C (.ok .next) s') :
    wpAny (model X.prog X.w) X.A (newList []) (fun acc s3=>wpAny (model X.prog X.w) X.A (newFunctionEnv scope X.env.globals cl [] X.env.qual none .none (some X.env)) (fun cenv s4 =>
      codeAny (model X.prog X.w) X.A (.compStart (.ListComp elt [⟨tg,iter,ifs,0⟩] scope pos) 0 (.ref it) acc { cenv with scope:=relabel scope X.env }) (RR acc cenv.locals) s4) E s3) E s2:=by
  refine wpAny_newObj_type (wpAny_newEnvN ?_)
  dsimp only
  generalize hG:s2.heap.push { cls:=.type "list",dict:=none,data:=.seq ([]:List Value).toArray } = G
  have hC:G.objs.size = s2.heap.objs.size + 1:=by rw [← hG,Heap.size_push]
  have old:∀ b o,s2.heap.get? b = some o→(pushCells (G.push { cls:=.type "dict",data:=.dict #[] }) scope.names).get? b = some o:=fun b o e=>pushCells_keeps _ _ b o (Heap.get?_push_of_some _ (hG ▸ Heap.get?_push_of_some _ e))
  have hacc:(pushCells (G.push { cls:=.type "dict",data:=.dict #[] }) scope.names).get? s2.heap.objs.size = some { cls:=.type "list",data:=.seq ([]:List Value).toArray 0 }:=pushCells_keeps _ _ _ _ (Heap.get?_push_of_some _ (hG ▸ Heap.get?_push_size _ rfl))
  have hns:(pushCells (G.push { cls:=.type "dict",data:=.dict #[] }) scope.names).Ns G.objs.size fun _=>none:=(Heap.Ns.new G (.type "dict")).keeps (pushCells_keeps _ _)
  have cok:=cellsFrom_ok scope.names (G.push { cls:=.type "dict",data:=.dict #[] }) (G.objs.size + 1) [] ⟨fun _ _ hm=>(nomatch hm),List.Pairwise.nil⟩ (by rw [Heap.size_push]; exact Nat.le_refl _)
  rw [Heap.size_push] at cok
  have own:∀ y c,(cellsFrom (G.objs.size + 1) scope.names cl).lookup y = some c→((y,c) ∈ cellsFrom (G.objs.size + 1) scope.names []∧G.objs.size + 1 ≤ c)∨cl.lookup y = some c:=fun y c e=>by
    rcases cellsFrom_look e with h | h
    · exact .inl ⟨h,(cok.empty y c h).2⟩
    · exact .inr h
  generalize pushCells (G.push { cls:=.type "dict",data:=.dict #[] }) scope.names = h1 at old hacc hns cok ⊢
  have hD:H2 s2.heap.objs.size = none:=I2.fresh
  have okX:(cmpCxN X N scope cl fp G.objs.size s2 H2).Ok:=by
    refine ⟨I2.ok.mod,O.kind,I2.ok.glob,I2.ok.blt,by show s2.heap.objs.size ≤ G.objs.size; rw [hC]; exact Nat.le_succ _,fun y z c e1 e2=>?_,fun y hy=>O.has G.objs.size y hy,fun y c hy e=>?_,I2.ok.hd,I2.ok.frames,.inl rfl,
      fun b hb=>⟨?_,fun y c e=>?_⟩,I2.bs,Nat.le_trans I2.ok.bsz I2.sz,fun b o e hb=>?_,fun b hb z=>?_,I2.stack,I2.stkFree⟩
    · have low:∀ y c,cl.lookup y = some c→c < s2.heap.objs.size:=fun y c e=>by
        obtain ⟨v,o,ho,_⟩:=I2.cell y c (O.cells y c e)
        exact Heap.lt_size ho
      rcases own y c e1 with ⟨h1_,g1⟩ | h1_ <;> rcases own z c e2 with ⟨h2_,g2⟩ | h2_
      · exact name_of_addr cok.apart h1_ h2_
      · exact absurd (Nat.lt_of_lt_of_le (low z c h2_) (Nat.le_trans (show s2.heap.objs.size ≤ G.objs.size + 1 by omega) g1)) (Nat.lt_irrefl _)
      · exact absurd (Nat.lt_of_lt_of_le (low y c h1_) (Nat.le_trans (show s2.heap.objs.size ≤ G.objs.size + 1 by omega) g2)) (Nat.lt_irrefl _)
      · exact I2.ok.inj y z c (O.cells y c h1_) (O.cells z c h2_)
    · have hy:(scope.names.lookup y == some NameKind.cell) = true:=hy
      have hy:=beq_iff_eq.mp hy
      have hs_:=PySem.W.cellsFrom_some (x:=y) scope.names (G.objs.size + 1) [] (.inl hy)
      obtain ⟨c',hc'⟩:=Option.isSome_iff_exists.mp hs_
      have e:(cellsFrom (G.objs.size + 1) scope.names cl).lookup y = some c:=e
      rw [cellsFrom_app,List.lookup_append,hc'] at e
      cases e
      exact Nat.le_trans (show s2.heap.objs.size ≤ G.objs.size + 1 by omega) (cok.empty y _ (PySem.mem_of_lookup hc')).2
    · obtain ⟨o,e,_⟩:=T.obj _ _ st2 b hb
      show b ≠ G.objs.size
      exact Nat.ne_of_lt (by rw [hC]; exact Nat.lt_succ_of_lt (Heap.lt_size e))
    · rcases own y c e with ⟨_,g⟩ | h_
      · obtain ⟨o,e',_⟩:=T.obj _ _ st2 b hb
        exact (Nat.ne_of_lt (Nat.lt_of_lt_of_le (Heap.lt_size e') (Nat.le_trans (show s2.heap.objs.size ≤ G.objs.size + 1 by omega) g))).symm
      · exact (f2 b hb).2.2.2.2.1 y c (O.cells y c h_)
    · rcases (f2 b hb).2.2.2.1 with z | z
      · exact I2.ok.noex b o e z
      · exact absurd (Nat.lt_of_lt_of_le (Heap.lt_size e) (Nat.le_trans I2.ok.bsz z)) (Nat.lt_irrefl _)
    · rcases List.mem_cons.mp (I2.stkSub b z) with z | z
      · exact (f2 b hb).2.1 z
      · exact (f2 b hb).2.2.1 z
  have statX:∀ {H' : Hp},(∀ b ∈ fp,H' b = none)→∀ b ∈ fp,FpOk (cmpCxN X N scope cl fp G.objs.size s2 H2) [] H' b:=fun hn b hb =>
    ⟨hn b hb,(okX.exf b hb).1,okX.exfs b hb,.inl hb,(okX.exf b hb).2,fun p hp=>absurd (show p ∈ ([]:List (Addr × Obj)) from hp) (by simp)⟩
  have I' : Inv (cmpCxN X N scope cl fp G.objs.size s2 H2) [] (cmpStG σ fr (List.replicate k none)) (upd H2 s2.heap.objs.size (.lst [])) { s2 with heap:=h1 }:=by
    refine ⟨okX,rfl,I2.bare,Un.laid old (Nat.le_refl _) hD,⟨_,hns,fun i y v e1 e2 e3=>?_⟩,fun y c e=>?_,?_,fun y c e=>?_,fun p hp=>absurd (show p ∈ ([]:List (Addr × Obj)) from hp) (by simp),I2.hok.laid old (Nat.le_refl _) ⟨Nat.zero_le _,[],0,.nil,hacc⟩,?_⟩
    · by_cases hik:i < k
      · have e2' : (List.replicate k none ++ fr.map fun j=>(σ[j]?).join)[i]? = some (some v):=e2
        rw [List.getElem?_append_left (by rw [List.length_replicate]; exact hik),List.getElem?_replicate,if_pos hik] at e2'
        cases e2'
      · obtain ⟨j,q1,q2,q3,q4,c',hc0,hc'⟩:=O.sub (i - k) y (by rw [show k + (i - k) = i by omega]; exact e1)
        have e2' : (σ[j]?).join = some v:=by
          have:(List.replicate k none ++ fr.map fun j=>(σ[j]?).join)[i]? = some (some v):=e2
          rw [List.getElem?_append_right (by rw [List.length_replicate]; omega),List.length_replicate,List.getElem?_map,q1] at this
          exact Option.some.inj this
        have e4:σ[j]? = some (some v):=by
          cases z:σ[j]? with
          | none=>rw [z] at e2'; cases e2'
          | some t=>rw [z] at e2'; exact congrArg some e2'
        obtain ⟨m,_,hl⟩:=I2.loc
        have vis:Vis X.env.scope y:=.inr q3
        obtain ⟨u,r,l⟩:=hl j y v q2 e4 vis
        refine ⟨u,r,.inr ⟨q4,?_⟩⟩
        rcases l with ⟨k,_⟩ | ⟨_,c,ec,ic⟩
        · rcases q3 with z | z
          · rw [z] at k; cases k
          · rw [z] at k; cases k
        · have:=O.cells y c' hc0
          have e' : c = c':=Option.some.inj (ec.symm.trans this)
          obtain ⟨o,ho,hd⟩:=ic
          rw [e'] at ho
          exact ⟨c',hc' _,o,old c' o ho,hd⟩
    · rcases own y c e with ⟨h_,g⟩ | h_
      · exact ⟨none,(cok.empty y c h_).1⟩
      · obtain ⟨v,o,ho,hd⟩:=I2.cell y c (O.cells y c h_)
        exact ⟨v,o,old c o ho,hd⟩
    · show upd H2 s2.heap.objs.size (.lst []) G.objs.size = none
      rw [upd_ne (Nat.ne_of_gt (by rw [hC]; exact Nat.lt_succ_self _))]
      exact I2.hok.fresh (by rw [hC]; exact Nat.le_succ _)
    · rcases own y c e with ⟨h_,g⟩ | h_
      · rw [upd_ne (Nat.ne_of_gt (Nat.lt_of_lt_of_le (show s2.heap.objs.size < G.objs.size + 1 by omega) g))]
        exact I2.hok.fresh (Nat.le_trans (show s2.heap.objs.size ≤ G.objs.size + 1 by omega) g)
      · obtain ⟨v,o,ho,hd⟩:=I2.cell y c (O.cells y c h_)
        rw [upd_ne (Nat.ne_of_lt (Heap.lt_size ho))]
        exact I2.freeC y c (O.cells y c h_)
    · show (cmpStG σ fr (List.replicate k none)).length = N.length
      rw [O.len]; simp [cmpStG]
  have st1:tn 0 h1:=T.keep _ _ _ st2 fun b hb o e=>old b o e
  have loop:∀ s3:Shared,s3 = { s2 with heap:=h1 } →
      codeAny (model X.prog X.w) X.A (.compLoop (.ListComp elt [⟨tg,iter,ifs,0⟩] scope pos) 0 (.ref it) (.ref s2.heap.objs.size) (cmpEnvN scope cl G.objs.size X.env)) (RR (.ref s2.heap.objs.size) G.objs.size) s3:=by
    rintro s3 rfl
    obtain ⟨W,⟨m0,w0⟩,turn⟩:=hW _ hD
    refine comp_turns (fun n s'=>∃ i ts H',ts.length = k∧Inv (cmpCxN X N scope cl fp G.objs.size s2 H2) [] (cmpStG σ fr ts) H' s'∧tn i s'.heap∧(∀ b ∈ fp,H' b = none)∧W i n H') ?_ m0
      ⟨0,List.replicate k none,_,List.length_replicate,I',st1,fun b hb=>by
        rw [upd_ne (by obtain ⟨o,e,_⟩:=T.obj _ _ st2 b hb; exact Nat.ne_of_lt (Heap.lt_size e))]
        exact (f2 b hb).1,w0⟩
    rintro n s' ⟨i,ts,H',hts,I3,st3,fr3,w3⟩
    rcases turn i n H' w3 with ⟨stop,qn⟩ | ⟨go,step⟩
    · refine thn (T.done (cmpCxN X N scope cl fp G.objs.size s2 H2) rfl rfl rfl hc i [] s' _ H' _ I3 (statX fr3) st3 stop) fun r s4 ⟨hr,I4⟩=>?_
      subst hr
      obtain ⟨m,hm,_⟩:=I4.loc
      refine fin _ _ s4 H' (by rw [hC]; exact Nat.le_succ _) I4.free ⟨m,hm⟩ (I2.call' (ch:=fp) I4.os I4.base I4.hok I4.bare fun b hb=>?_) qn
      exact ⟨(f2 b hb).2.2.2.1,(f2 b hb).2.1,(f2 b hb).2.2.2.2.1,(f2 b hb).2.2.2.2.2⟩
    · refine thn (T.item (cmpCxN X N scope cl fp G.objs.size s2 H2) rfl rfl rfl hc i [] s' _ H' _ I3 (statX fr3) st3 go) fun r s4 ⟨u,hr,h4⟩=>?_
      subst hr
      refine thn h4 fun _ s5 ⟨y,H5,I5,r5,y5,st5,fr5⟩=>?_
      have I5':=I5.pinned (statX fr5) (T.obj _ _ st5)
      refine thn (hg fp G.objs.size s2 H2 _ s5 _ H5 y u _ I5' r5 (step y H5 y5 ts hts)) fun _ s6 ⟨σ6,H6,I6,⟨ts6,hts6,e6⟩,q6⟩=>?_
      subst e6
      have again:∀ {σ7:St} {H7:Hp} {s7:Shared} {m' : Nat},σ7 = cmpStG σ fr ts6→Inv (cmpCxN X N scope cl fp G.objs.size s2 H2) ([] ++ pinsAt fp s5.heap) σ7 H7 s7→m' < n→W (i + 1) m' H7 →
          ∃ m,m < n∧∃ i ts H',ts.length = k∧Inv (cmpCxN X N scope cl fp G.objs.size s2 H2) [] (cmpStG σ fr ts) H' s7∧tn i s7.heap∧(∀ b ∈ fp,H' b = none)∧W i m H':=fun {σ7 H7 s7 m'} e7 I7 hm w7=>by
        subst e7
        refine ⟨m',hm,i + 1,ts6,H7,hts6,I7.unpinned,T.keep _ _ _ st5 fun b hb o e=>(I7.pin (b,o) (List.mem_append_right _ (List.mem_append_right _ (mem_pinsAt hb e)))).1,fun b hb=>?_,w7⟩
        obtain ⟨o,e,d⟩:=T.obj _ _ st5 b hb
        exact (I7.pin (b,o) (List.mem_append_right _ (List.mem_append_right _ (mem_pinsAt hb e)))).2.1
      refine thn (ht fp G.objs.size s2 H2 _ s6 _ H6 _ I6 q6) fun ok s7 ⟨H7,I7,q7⟩=>?_
      cases ok with
      | false =>
        rw [if_neg Bool.false_ne_true] at q7 ⊢
        obtain ⟨m',hm,w7⟩:=q7
        exact again rfl I7 hm w7
      | true =>
        rw [if_pos rfl] at q7 ⊢
        refine thn (he fp G.objs.size s2 H2 _ s7 _ H7 _ I7 q7) fun u8 s8 ⟨v8,H8,I8,r8,ys,hys,hlen,m',hm,w8⟩=>?_
        refine thn (mt_append (X:=cmpCxN X N scope cl fp G.objs.size s2 H2) _ s8 _ H8 (.ref s2.heap.objs.size) [v8] _ [u8] (fun _ H9=>W (i + 1) m' H9) I8 rfl (.cons r8 .nil) ⟨_,ys,v8,rfl,rfl,hys,hlen,w8⟩) fun _ s9 ⟨_,H9,I9,_,w9⟩=>?_
        exact again rfl I9 hm w9
  exact codeAny_compStart_list (loop _ rfl) (T.self _ 0 _ _ _ st1 (loop _ rfl))
theorem ps_compN {wi:TI} {i:Nat} {y:Str} {py spos:Pos} (hN:X.N.Nodup) (hy:X.N[i]? = some y) (hl:Loc X.env.scope y) (hi:PI X tg iter wi) (O:CmpOkN X N k fr scope cl) (hc:X.calm = true) (hg:∀ fp C s H,PG (cmpCxN X N scope cl fp C s H) tg gt)
    (ht:∀ fp C s H,PIf (cmpCxN X N scope cl fp C s H) ifs tt) (he:∀ fp C s H,PE (cmpCxN X N scope cl fp C s H) elt te) (hs:∀ v,foldedSetIterable iter X.env v = pure v:=by intro _; rfl)
    (hsw:swapsWith (.ListComp elt [⟨tg,iter,ifs,0⟩] scope pos) (some (.Name y py)) spos.line X.env = pure true:=by rfl) (hf:X.fn y = true∨X.env.scope.names.lookup y = some .local:=by first | exact .inl rfl | exact .inr rfl | assumption) :
    PS X (.Assign [.Name y py] (.ListComp elt [⟨tg,iter,ifs,0⟩] scope pos) spos) (tAsg (tCompG wi gt k fr tt te) (gName i)):=by
  intro pins s σ H D0 I h
  rw [exec_Assign_Name_used _ _ _ _ hsw]
  refine wpAny_bind (wpAny_standAt (wpAny_bind ?_))
  show wpAny _ X.A (do let _ ← comprehension (.ListComp elt [⟨tg,iter,ifs,0⟩] scope pos) scope X.env _ (newList []) false (eval iter X.env) (some (assign (.Name y py) X.env))) _ _ s
  refine wpAny_bind (wpAny_mono (wpAny_comprehension_free (use:=some (assign (.Name y py) X.env)) (Q:=fun _ s'=>SP X pins D0 .next s') rfl hs O.clos O.kind O.names (thn (hi pins s σ H _ I h) fun v s1 h1=>thn h1 fun itv s2 h2=>?_)) (fun _ s' hq=>wpAny_pure (wpAny_pure hq)) fun _ _ z=>z)
  obtain ⟨it,fp,tn,J,H2,e,I2,T,st2,f2,hW⟩:=h2
  subst e
  refine comp_coreN (Q:=fun v H1=>gName i v σ H1 D0.nx) (RR:=fun acc C=>compPost (model X.prog X.w) X.A X.xe (some (assign (.Name y py) X.env)) (fun _ s'=>SP X pins D0 .next s') acc C) O hc I2 T st2 f2 ht he hg hW fun D C s' H' hC hn ⟨m,hm⟩ I' q=>?_
  show wpAny _ X.A (assign (.Name y py) X.env (.ref D)) _ _ s'
  refine wpAny_assign_Name (store_ok2 I' hN hy hl (v:=.ref D) rfl (fun s3 I3 ⟨a,hsa,ha⟩=>?_) hf)
  have hCa:C ≠ a:=by
    rcases ha with z | z
    · rw [z]; exact Nat.ne_of_gt (Nat.lt_of_lt_of_le I2.lt hC)
    · obtain ⟨v,o,ho,_⟩:=I2.cell y a z
      exact Nat.ne_of_gt (Nat.lt_of_lt_of_le (Heap.lt_size ho) hC)
  exact ⟨m,hm.sameBut hsa hCa,fun h' hs'=>⟨_,H',I2.left I3 hC hn hs',q⟩⟩
end
def SubN (X:Cx) (N:List Str) (scope:Scope) (cl:List (Str × Addr)):List Nat→Nat→Prop
  | [],_=>True
  | j :: fr,i=>(∃ (y:Str) (c:Addr),N[i]? = some y∧X.N[j]? = some y∧X.env.kindOf y = some .cell∧(relabel scope X.env).names.lookup y = some .cell∧cl.lookup y = some c∧∀ C:Addr,(cellsFrom (C + 1) scope.names cl).lookup y = some c)∧SubN X N scope cl fr (i + 1)
theorem SubN.at {X:Cx} {N:List Str} {scope:Scope} {cl:List (Str × Addr)} : ∀ {fr:List Nat} {k:Nat},SubN X N scope cl fr k→∀ (i j:Nat),fr[i]? = some j→∃ (y:Str) (c:Addr),N[k + i]? = some y∧X.N[j]? = some y∧X.env.kindOf y = some .cell∧(relabel scope X.env).names.lookup y = some .cell∧cl.lookup y = some c∧∀ C:Addr,(cellsFrom (C + 1) scope.names cl).lookup y = some c
  | [],_,_,i,j,e=>by simp at e
  | a :: fr,k,h,0,j,e=>by
    have:a = j:=by simpa using e
    subst this
    exact h.1
  | a :: fr,k,h,i + 1,j,e=>by
    have:=SubN.at h.2 i j (by simpa using e)
    rw [show k + 1 + i = k + (i + 1) by omega] at this
    exact this
theorem cmpOkN_mk {X:Cx} {N:List Str} {k:Nat} {fr:List Nat} {scope:Scope} {cl:List (Str × Addr)} (clos:closureFor scope X.env = pure cl) (kind:scope.kind = .function) (names:∀ y ∈ scope.names,y.2 = .local→scope.names.lookup y.1 = some .local)
    (len:N.length = k + fr.length) (sub:SubN X N scope cl fr k) (cells:∀ p ∈ cl,X.env.cells.lookup p.1 = some p.2) (has:∀ C:Addr,((relabel scope X.env).names.all fun p=>(p.2 != .cell && p.2 != .free) || ((cellsFrom (C + 1) scope.names cl).lookup p.1).isSome) = true):CmpOkN X N k fr scope cl:=by
  refine ⟨clos,kind,names,len,fun i y e=>?_,fun y c e=>cells _ (PySem.mem_of_lookup e),fun C y h=>?_⟩
  · have hi:i < fr.length:=by have:=(List.getElem?_eq_some_iff.mp e).1; omega
    obtain ⟨y',c,h1,h2,h3,h4,h5,h6⟩:=sub.at i fr[i] (List.getElem?_eq_getElem hi)
    rw [e] at h1
    cases h1
    exact ⟨fr[i],List.getElem?_eq_getElem hi,h2,.inl h3,.inl h4,c,h5,h6⟩
  · have look:∀ kd,(relabel scope X.env).names.lookup y = some kd→(kd = .cell∨kd = .free)→∃ c,(cellsFrom (C + 1) scope.names cl).lookup y = some c:=fun kd e hk=>by
      have z:=List.all_eq_true.mp (has C) _ (PySem.mem_of_lookup e)
      rcases hk with rfl | rfl
      · exact Option.isSome_iff_exists.mp (by simpa using z)
      · exact Option.isSome_iff_exists.mp (by simpa using z)
    rcases h with h | h
    · exact look _ h (.inl rfl)
    · exact look _ h (.inr rfl)
def rInsert:V→List V→Hp→VK→Prop:=fun x vs H Q=>∃ (l:Addr) (xs:List V) (i:Int) (k:Nat) (y:V),x = .ref l∧vs = [.int i,y]∧i = (k:Int)∧H l = some (.lst xs)∧k ≤ xs.length∧xs.length < sizeLine∧Q .non (upd H l (.lst (xs.take k ++ y :: xs.drop k)))
theorem mt_insert {X:Cx} : MtM X "list.insert" rInsert:=by
  intro pins s σ H x vs v us Q I rx rv h
  obtain ⟨l,xs,i,k,y,rfl,rfl,hik,hH,hk,hz,q⟩:=h
  cases rx
  obtain ⟨u1,us,rfl,r1,rv2⟩:∃ u1 us',us = u1 :: us'∧RelV (.int i) u1∧Vals [y] us':=by
    match us,rv with
    | u1 :: us',.cons a b=>exact ⟨u1,us',rfl,a,b⟩
  obtain ⟨u,rfl,ru⟩:=rv2.one
  obtain ⟨t,rfl⟩:=r1
  obtain ⟨z,its,n,r,hl,e⟩:=I.lstM hH
  have h62:sizeLine ≤ 2 ^ 61:=by decide
  have hfit:Builtin.List.listFitsIndex i = true:=fitsIndex_both (by omega) (by omega)
  have hc0:¬ (!Builtin.List.listFitsIndex i) = true:=by rw [hfit]; decide
  have hsz:its.toArray.size ≤ sizeLine:=by rw [List.size_toArray]; omega
  refine call_meets F.slot_list_insert ⟨_,e,rfl⟩ F.entry_list_insert (F.args_list_insert_3 _ _ _) (PySem.AutoSeq1.list_insert_list_int_val_1 l its.toArray n i t u hc0 hsz) ⟨e,?_⟩
  refine ⟨.non,_,I.lset (its':=its.take k ++ u :: its.drop k) hH e ?_ ((r.take k).append (.cons ru (r.drop k))) ?_,rfl,q⟩
  · have hk2:¬ (i < 0):=by omega
    have hk3:min i.toNat its.length = k:=by omega
    simp only [if_neg hk2,List.size_toArray,hk3]
    apply Array.ext'
    simp
    rw [← List.length_drop,List.take_length]
  · simp; omega
theorem mt_indexK {X:Cx} {K:PySem.W.Frag} (h:X.K = K):MtM X "list.index" (rIndex K):=h ▸ mt_index
theorem pe_bmK {X:Cx} {K:PySem.W.Frag} {T:String} {name:Str} {id:String} {r:V→List V→Hp→VK→Prop} {o e:Expr} {es:List Expr} {to:TE} {t:TA} {apos cpos:Pos} (hK:X.K = K) (pa:PlainAttrs T) (slot:Slot T name id) (hty:typeOf (.builtin id) = pure (.type "method_descriptor")) (hm:MtR X id r) (ho:PE X o to) (ha:PA X (e :: es) t)
    (hbase:attributeBase o name X.env (eval o X.env) = eval o X.env:=by rfl)
    (hfew:((backTo cpos (starEach (e :: es) X.env)).all (fun x=>!x.1) && (backToKw cpos (keywordEach [] X.env)).all (fun x=>x.1.isSome)
      && decide ((e :: es).length + ([]:List Keyword).length + (if ([]:List Keyword).isEmpty then 0 else 1) < 30)) = true:=by rfl)
    (hline:(apos.endLine == cpos.line) = true:=by rfl) (hs:starEach (e :: es) X.env = (false,eval e X.env) :: starEach es X.env:=by rfl) (hplain:(backTo cpos (starEach es X.env)).any (·.1) = false:=by rfl) :
    PE X (.Call (.Attribute o name apos) (e :: es) [] cpos) (tBM K T r to t):=hK ▸ pe_bm pa slot hty hm ho ha hbase hfew hline hs hplain
end L2
set_option Elab.async false
set_option maxRecDepth 100000
set_option maxHeartbeats 4000000
set_option linter.all false
namespace My
open PySem L2
def top (i:Nat):Stmt:=PySem.Challenge.pw_rowjudge_k61_columns_turned.main.body.getD i (.Pass ⟨0,0,0,0⟩)
abbrev Y32:Stmt:=top 13
abbrev Y36:Stmt:=top 14
abbrev Y35:Stmt:=top 15
abbrev Y31:Stmt:=top 19
abbrev Y34:Stmt:=top 21
abbrev Y66:Stmt:=top 32
abbrev Y61:Stmt:=top 37
abbrev Y60:Stmt:=top 38
abbrev Y63:Stmt:=top 39
abbrev Y62:Stmt:=top 40
abbrev Y59:Stmt:=top 41
abbrev Y33:Stmt:=top 42
abbrev Y58:Stmt:=top 43
abbrev Y37:Stmt:=top 44
abbrev Y65:Stmt:=top 45
abbrev Y64:Stmt:=top 47
abbrev Y41:Stmt:=top 49
abbrev Y48:Stmt:=top 50
abbrev Y53:Stmt:=top 51
abbrev Y57:Stmt:=top 52
abbrev Y43:Stmt:=top 53
abbrev Y44:Stmt:=top 54
abbrev Y54:Stmt:=top 55
abbrev Y39:Stmt:=top 56
abbrev Y40:Stmt:=top 57
abbrev Y51:Stmt:=top 58
abbrev Y55:Stmt:=top 59
abbrev Y50:Stmt:=top 60
abbrev Y42:Stmt:=top 61
abbrev Y46:Stmt:=top 62
abbrev Y56:Stmt:=top 63
abbrev Y45:Stmt:=top 64
abbrev Y52:Stmt:=top 65
abbrev Y49:Stmt:=top 66
abbrev Y47:Stmt:=top 67
abbrev Y17:Stmt:=inClass (top 36) 0
abbrev Y4:Stmt:=inClass (top 26) 0
abbrev Y18:Stmt:=inClass (top 25) 0
abbrev Y13:Stmt:=inClass (top 27) 0
abbrev Y22:Stmt:=inClass (top 25) 0
abbrev Y8:Stmt:=inClass (top 28) 0
abbrev Y20:Stmt:=inClass (top 25) 0
abbrev Y10:Stmt:=inClass (top 29) 0
abbrev Y21:Stmt:=inClass (top 25) 0
abbrev Y6:Stmt:=inClass (top 30) 0
abbrev Y19:Stmt:=inClass (top 25) 0
abbrev Y15:Stmt:=inClass (top 31) 0
abbrev Y23:Stmt:=inClass (top 25) 0
abbrev Y2:Stmt:=inClass (top 16) 5
abbrev Y3:Stmt:=inClass (top 16) 5
abbrev Y12:Stmt:=inClass (top 17) 0
abbrev Y0:Stmt:=inClass (top 16) 0
abbrev Y30:Stmt:=inClass (top 18) 0
abbrev Y1:Stmt:=inClass (top 16) 0
abbrev Y24:Stmt:=inClass (top 25) 1
abbrev Y5:Stmt:=inClass (top 26) 1
abbrev Y28:Stmt:=inClass (top 25) 1
abbrev Y14:Stmt:=inClass (top 27) 1
abbrev Y26:Stmt:=inClass (top 25) 1
abbrev Y9:Stmt:=inClass (top 28) 1
abbrev Y27:Stmt:=inClass (top 25) 1
abbrev Y11:Stmt:=inClass (top 29) 1
abbrev Y25:Stmt:=inClass (top 25) 1
abbrev Y7:Stmt:=inClass (top 30) 1
abbrev Y29:Stmt:=inClass (top 25) 1
abbrev Y16:Stmt:=inClass (top 31) 1
abbrev Y38:Stmt:=top 68
theorem Z32:FnScope ["text", "signs", "sign"] ["text", "signs"] (defScope Y32):=⟨rfl,rfl,rfl,by decide +kernel,rfl,by decide +kernel,by decide +kernel⟩
theorem Z36:FnScope ["text"] ["text"] (defScope Y36):=⟨rfl,rfl,rfl,by decide +kernel,rfl,by decide +kernel,by decide +kernel⟩
theorem Z35:FnScope ["value"] ["value"] (defScope Y35):=⟨rfl,rfl,rfl,by decide +kernel,rfl,by decide +kernel,by decide +kernel⟩
theorem Z31:FnScope ["one", "other"] ["one", "other"] (defScope Y31):=⟨rfl,rfl,rfl,by decide +kernel,rfl,by decide +kernel,by decide +kernel⟩
theorem Z34:FnScope ["spans", "number", "low", "high"] ["spans", "number"] (defScope Y34):=⟨rfl,rfl,rfl,by decide +kernel,rfl,by decide +kernel,by decide +kernel⟩
theorem Z66:FnScope ["name", "way"] ["name"] (defScope Y66):=⟨rfl,rfl,rfl,by decide +kernel,rfl,by decide +kernel,by decide +kernel⟩
theorem Z61:FnScope ["names", "name"] ["names"] (defScope Y61):=⟨rfl,rfl,rfl,by decide +kernel,rfl,by decide +kernel,by decide +kernel⟩
theorem Z60:FnScope ["names", "rows"] ["names", "rows"] (defScope Y60):=⟨rfl,rfl,rfl,by decide +kernel,rfl,by decide +kernel,by decide +kernel⟩
theorem Z63:FnScope ["way", "outcome"] ["way", "outcome"] (defScope Y63):=⟨rfl,rfl,rfl,by decide +kernel,rfl,by decide +kernel,by decide +kernel⟩
theorem Z62:FnScope ["domains", "outcome", "cells", "code", "domain", "spans", "low", "high"] ["domains", "outcome", "cells", "code"] (defScope Y62):=⟨rfl,rfl,rfl,by decide +kernel,rfl,by decide +kernel,by decide +kernel⟩
theorem Z59:FnScope ["cells", "code"] ["cells", "code"] (defScope Y59):=⟨rfl,rfl,rfl,by decide +kernel,rfl,by decide +kernel,by decide +kernel⟩
theorem Z33:FnScope ["table", "k", "codes", "cells", "spans", "code"] ["table", "k", "codes"] (defScope Y33):=⟨rfl,rfl,rfl,by decide +kernel,rfl,by decide +kernel,by decide +kernel⟩
theorem Z58:FnScope ["table", "codes"] ["table", "codes"] (defScope Y58):=⟨rfl,rfl,rfl,by decide +kernel,rfl,by decide +kernel,by decide +kernel⟩
theorem Z37:FnScope ["table", "rows", "codes"] ["table", "rows"] (defScope Y37):=⟨rfl,rfl,rfl,by decide +kernel,rfl,by decide +kernel,by decide +kernel⟩
theorem Z65:FnScope ["table", "codes"] ["table", "codes"] (defScope Y65):=⟨rfl,rfl,rfl,by decide +kernel,rfl,by decide +kernel,by decide +kernel⟩
theorem Z64:FnScope ["table", "order", "names", "domains", "rows"] ["table", "order"] (defScope Y64):=⟨rfl,rfl,rfl,by decide +kernel,rfl,by decide +kernel,by decide +kernel⟩
theorem Z41:FnScope ["script", "k"] ["script", "k"] (defScope Y41):=⟨rfl,rfl,rfl,by decide +kernel,rfl,by decide +kernel,by decide +kernel⟩
theorem Z48:FnScope ["cell", "k", "big"] ["cell", "k"] (defScope Y48):=⟨rfl,rfl,rfl,by decide +kernel,rfl,by decide +kernel,by decide +kernel⟩
theorem Z53:FnScope ["cells", "most", "seeds", "k", "cell", "at"] ["cells", "most"] (defScope Y53):=⟨rfl,rfl,rfl,by decide +kernel,rfl,by decide +kernel,by decide +kernel⟩
theorem Z57:FnScope ["cell", "k", "ahead", "behind"] ["cell", "k"] (defScope Y57):=⟨rfl,rfl,rfl,by decide +kernel,rfl,by decide +kernel,by decide +kernel⟩
theorem Z43:FnScope ["m", "most", "words", "at", "pairs", "k", "wide"] ["m", "most"] (defScope Y43):=⟨rfl,rfl,rfl,by decide +kernel,rfl,by decide +kernel,by decide +kernel⟩
theorem Z44:FnScope ["column"] ["column"] (defScope Y44):=⟨rfl,rfl,rfl,by decide +kernel,rfl,by decide +kernel,by decide +kernel⟩
theorem Z54:FnScope ["pairs", "bits", "spans", "k", "pair"] ["pairs", "bits"] (defScope Y54):=⟨rfl,rfl,rfl,by decide +kernel,rfl,by decide +kernel,by decide +kernel⟩
theorem Z39:FnScope ["m", "columns", "out", "last", "bits", "seed", "j", "column", "every", "code", "at"] ["m", "columns", "out", "last"] (defScope Y39):=⟨rfl,rfl,rfl,by decide +kernel,rfl,by decide +kernel,by decide +kernel⟩
theorem Z40:FnScope ["seeds", "columns", "out", "rows", "last", "m"] ["seeds", "columns", "out"] (defScope Y40):=⟨rfl,rfl,rfl,by decide +kernel,rfl,by decide +kernel,by decide +kernel⟩
theorem Z51:FnScope ["bit_rows", "columns", "rows", "bits", "code"] ["bit_rows", "columns"] (defScope Y51):=⟨rfl,rfl,rfl,by decide +kernel,rfl,by decide +kernel,by decide +kernel⟩
theorem Z55:FnScope ["head", "columns", "out", "way", "bit_rows", "names", "domains"] ["head", "columns", "out", "way", "bit_rows"] (defScope Y55):=⟨rfl,rfl,rfl,by decide +kernel,rfl,by decide +kernel,by decide +kernel⟩
theorem Z50:FnScope ["columns", "points", "column", "more", "point", "k"] ["columns"] (defScope Y50):=⟨rfl,rfl,rfl,by decide +kernel,rfl,by decide +kernel,by decide +kernel⟩
theorem Z42:FnScope ["columns", "point", "turn"] ["columns", "point", "turn"] (defScope Y42):=⟨rfl,rfl,rfl,by decide +kernel,rfl,by decide +kernel,by decide +kernel⟩
theorem Z46:FnScope ["bit_row", "point"] ["bit_row", "point"] (defScope Y46):=⟨rfl,rfl,rfl,by decide +kernel,rfl,by decide +kernel,by decide +kernel⟩
theorem Z56:FnScope ["turn", "out", "way"] ["turn", "out"] (defScope Y56):=⟨rfl,rfl,rfl,by decide +kernel,rfl,by decide +kernel,by decide +kernel⟩
theorem Z45:FnScope ["way", "bit_rows", "out", "point", "codes"] ["way", "bit_rows", "out", "point"] (defScope Y45):=⟨rfl,rfl,rfl,by decide +kernel,rfl,by decide +kernel,by decide +kernel⟩
theorem Z52:FnScope ["found", "due"] ["found", "due"] (defScope Y52):=⟨rfl,rfl,rfl,by decide +kernel,rfl,by decide +kernel,by decide +kernel⟩
theorem Z49:FnScope ["cell", "count", "order", "j"] ["cell", "count"] (defScope Y49):=⟨rfl,rfl,rfl,by decide +kernel,rfl,by decide +kernel,by decide +kernel⟩
theorem Z47:FnScope ["table", "names", "rows", "columns", "domain", "column"] ["table", "names", "rows", "columns"] (defScope Y47):=⟨rfl,rfl,rfl,by decide +kernel,rfl,by decide +kernel,by decide +kernel⟩
theorem Z17:FnScope ["self", "name", "names", "domains", "outcome", "way", "rows", "cells", "code"] ["self", "name", "names", "domains", "outcome", "way", "rows"] (defScope Y17):=⟨rfl,rfl,rfl,by decide +kernel,rfl,by decide +kernel,by decide +kernel⟩
theorem Z4:FnScope ["self"] ["self"] (defScope Y4):=⟨rfl,rfl,rfl,by decide +kernel,rfl,by decide +kernel,by decide +kernel⟩
theorem Z18:FnScope ["self", "called"] ["self", "called"] (defScope Y18):=⟨rfl,rfl,rfl,by decide +kernel,rfl,by decide +kernel,by decide +kernel⟩
theorem Z13:FnScope ["self"] ["self"] (defScope Y13):=⟨rfl,rfl,rfl,by decide +kernel,rfl,by decide +kernel,by decide +kernel⟩
theorem Z22:FnScope ["self", "called"] ["self", "called"] (defScope Y22):=⟨rfl,rfl,rfl,by decide +kernel,rfl,by decide +kernel,by decide +kernel⟩
theorem Z8:FnScope ["self"] ["self"] (defScope Y8):=⟨rfl,rfl,rfl,by decide +kernel,rfl,by decide +kernel,by decide +kernel⟩
theorem Z20:FnScope ["self", "called"] ["self", "called"] (defScope Y20):=⟨rfl,rfl,rfl,by decide +kernel,rfl,by decide +kernel,by decide +kernel⟩
theorem Z10:FnScope ["self"] ["self"] (defScope Y10):=⟨rfl,rfl,rfl,by decide +kernel,rfl,by decide +kernel,by decide +kernel⟩
theorem Z21:FnScope ["self", "called"] ["self", "called"] (defScope Y21):=⟨rfl,rfl,rfl,by decide +kernel,rfl,by decide +kernel,by decide +kernel⟩
theorem Z6:FnScope ["self"] ["self"] (defScope Y6):=⟨rfl,rfl,rfl,by decide +kernel,rfl,by decide +kernel,by decide +kernel⟩
theorem Z19:FnScope ["self", "called"] ["self", "called"] (defScope Y19):=⟨rfl,rfl,rfl,by decide +kernel,rfl,by decide +kernel,by decide +kernel⟩
theorem Z15:FnScope ["self"] ["self"] (defScope Y15):=⟨rfl,rfl,rfl,by decide +kernel,rfl,by decide +kernel,by decide +kernel⟩
theorem Z23:FnScope ["self", "called"] ["self", "called"] (defScope Y23):=⟨rfl,rfl,rfl,by decide +kernel,rfl,by decide +kernel,by decide +kernel⟩
theorem Z2:FnScope ["self", "value"] ["self", "value"] (defScope Y2):=⟨rfl,rfl,rfl,by decide +kernel,rfl,by decide +kernel,by decide +kernel⟩
theorem Z3:FnScope ["self", "value"] ["self", "value"] (defScope Y3):=⟨rfl,rfl,rfl,by decide +kernel,rfl,by decide +kernel,by decide +kernel⟩
theorem Z12:FnScope ["self", "low", "high"] ["self", "low", "high"] (defScope Y12):=⟨rfl,rfl,rfl,by decide +kernel,rfl,by decide +kernel,by decide +kernel⟩
theorem Z0:FnScope ["self", "low", "high"] ["self", "low", "high"] (defScope Y0):=⟨rfl,rfl,rfl,by decide +kernel,rfl,by decide +kernel,by decide +kernel⟩
theorem Z30:FnScope ["self", "words", "word"] ["self", "words"] (defScope Y30):=⟨rfl,rfl,rfl,by decide +kernel,rfl,by decide +kernel,by decide +kernel⟩
theorem Z1:FnScope ["self", "low", "high"] ["self", "low", "high"] (defScope Y1):=⟨rfl,rfl,rfl,by decide +kernel,rfl,by decide +kernel,by decide +kernel⟩
theorem Z24:FnScope ["self", "codes", "outcome"] ["self", "codes", "outcome"] (defScope Y24):=⟨rfl,rfl,rfl,by decide +kernel,rfl,by decide +kernel,by decide +kernel⟩
theorem Z5:FnScope ["self", "codes", "outcome"] ["self", "codes", "outcome"] (defScope Y5):=⟨rfl,rfl,rfl,by decide +kernel,rfl,by decide +kernel,by decide +kernel⟩
theorem Z28:FnScope ["self", "codes", "outcome"] ["self", "codes", "outcome"] (defScope Y28):=⟨rfl,rfl,rfl,by decide +kernel,rfl,by decide +kernel,by decide +kernel⟩
theorem Z14:FnScope ["self", "codes", "outcome"] ["self", "codes", "outcome"] (defScope Y14):=⟨rfl,rfl,rfl,by decide +kernel,rfl,by decide +kernel,by decide +kernel⟩
theorem Z26:FnScope ["self", "codes", "outcome"] ["self", "codes", "outcome"] (defScope Y26):=⟨rfl,rfl,rfl,by decide +kernel,rfl,by decide +kernel,by decide +kernel⟩
theorem Z9:FnScope ["self", "codes", "outcome"] ["self", "codes", "outcome"] (defScope Y9):=⟨rfl,rfl,rfl,by decide +kernel,rfl,by decide +kernel,by decide +kernel⟩
theorem Z27:FnScope ["self", "codes", "outcome"] ["self", "codes", "outcome"] (defScope Y27):=⟨rfl,rfl,rfl,by decide +kernel,rfl,by decide +kernel,by decide +kernel⟩
theorem Z11:FnScope ["self", "codes", "outcome"] ["self", "codes", "outcome"] (defScope Y11):=⟨rfl,rfl,rfl,by decide +kernel,rfl,by decide +kernel,by decide +kernel⟩
theorem Z25:FnScope ["self", "codes", "outcome"] ["self", "codes", "outcome"] (defScope Y25):=⟨rfl,rfl,rfl,by decide +kernel,rfl,by decide +kernel,by decide +kernel⟩
theorem Z7:FnScope ["self", "codes", "outcome"] ["self", "codes", "outcome"] (defScope Y7):=⟨rfl,rfl,rfl,by decide +kernel,rfl,by decide +kernel,by decide +kernel⟩
theorem Z29:FnScope ["self", "codes", "outcome"] ["self", "codes", "outcome"] (defScope Y29):=⟨rfl,rfl,rfl,by decide +kernel,rfl,by decide +kernel,by decide +kernel⟩
theorem Z16:FnScope ["self", "codes", "outcome"] ["self", "codes", "outcome"] (defScope Y16):=⟨rfl,rfl,rfl,by decide +kernel,rfl,by decide +kernel,by decide +kernel⟩
theorem Z38:FnScope ["script", "head", "turn", "count", "columns", "out", "way", "bit_rows", "table", "names", "rows", "order", "found", "others", "due", "point", "codes", "back"] ["script"] (defScope Y38):=⟨rfl,rfl,rfl,by decide +kernel,rfl,by decide +kernel,by decide +kernel⟩
structure Bl (K:PySem.W.Frag) (mg:Str→Option Value) (qA qB qC qD qE qF qG qH qI qJ qK qL qM:Addr):Prop where
  Way_:mg "Way" = some (.ref qA)
  n_Way:PySem.W.nsIn K mainGlobals "Way" = some (some (.ref qA))
  First_:mg "First" = some (.ref qB)
  n_First:PySem.W.nsIn K mainGlobals "First" = some (some (.ref qB))
  Only_:mg "Only" = some (.ref qC)
  n_Only:PySem.W.nsIn K mainGlobals "Only" = some (some (.ref qC))
  Like_:mg "Like" = some (.ref qD)
  n_Like:PySem.W.nsIn K mainGlobals "Like" = some (some (.ref qD))
  Low_:mg "Low" = some (.ref qE)
  n_Low:PySem.W.nsIn K mainGlobals "Low" = some (some (.ref qE))
  High_:mg "High" = some (.ref qF)
  n_High:PySem.W.nsIn K mainGlobals "High" = some (some (.ref qF))
  Sum_:mg "Sum" = some (.ref qG)
  n_Sum:PySem.W.nsIn K mainGlobals "Sum" = some (some (.ref qG))
  Domain_:mg "Domain" = some (.ref qH)
  n_Domain:PySem.W.nsIn K mainGlobals "Domain" = some (some (.ref qH))
  Numbers_:mg "Numbers" = some (.ref qI)
  n_Numbers:PySem.W.nsIn K mainGlobals "Numbers" = some (some (.ref qI))
  Words_:mg "Words" = some (.ref qJ)
  n_Words:PySem.W.nsIn K mainGlobals "Words" = some (some (.ref qJ))
  Table_:mg "Table" = some (.ref qK)
  n_Table:PySem.W.nsIn K mainGlobals "Table" = some (some (.ref qK))
  k_First:Cls K qB
  k_Only:Cls K qC
  k_Like:Cls K qD
  k_Low:Cls K qE
  k_High:Cls K qF
  k_Sum:Cls K qG
  k_Numbers:Cls K qI
  k_Words:Cls K qJ
  k_Table:Cls K qK
  t_First:InsT K qB
  t_Only:InsT K qC
  t_Like:InsT K qD
  t_Low:InsT K qE
  t_High:InsT K qF
  t_Sum:InsT K qG
  t_Numbers:InsT K qI
  t_Words:InsT K qJ
  t_Table:InsT K qK
  NONE_:mg "NONE" = some (.ref qL)
  q_NONE:ModT K qL [.str "none",.int (0)]
  CLASH_:mg "CLASH" = some (.ref qM)
  q_CLASH:ModT K qM [.str "clash",.int (0)]
  na_First_called:NoAttr K qB "called"
  na_Only_called:NoAttr K qC "called"
  na_Like_called:NoAttr K qD "called"
  na_Low_called:NoAttr K qE "called"
  na_High_called:NoAttr K qF "called"
  na_Sum_called:NoAttr K qG "called"
  na_Numbers_low:NoAttr K qI "low"
  na_Numbers_high:NoAttr K qI "high"
  na_Numbers_words:NoAttr K qI "words"
  na_Words_low:NoAttr K qJ "low"
  na_Words_high:NoAttr K qJ "high"
  na_Words_words:NoAttr K qJ "words"
  na_Table_name:NoAttr K qK "name"
  na_Table_names:NoAttr K qK "names"
  na_Table_domains:NoAttr K qK "domains"
  na_Table_outcome:NoAttr K qK "outcome"
  na_Table_way:NoAttr K qK "way"
  na_Table_rows:NoAttr K qK "rows"
  f_nn:PySem.W.kitOne K (.ref qI) (.ref qI) = some true
  f_wn:PySem.W.kitOne K (.ref qJ) (.ref qI) = some false
  f_ww:PySem.W.kitOne K (.ref qJ) (.ref qJ) = some true
  f_tt:PySem.W.kitOne K (.ref qK) (.ref qK) = some true
  f_nw:PySem.W.kitOne K (.ref qI) (.ref qJ) = some false
  len_:mg "len" = none
  isinstance_:mg "isinstance" = none
  int_:mg "int" = none
  bool_:mg "bool" = none
  set_:mg "set" = none
  zip_:mg "zip" = none
  list_:mg "list" = none
  sum_:mg "sum" = none
  range_:mg "range" = none
  enumerate_:mg "enumerate" = none
  all_:mg "all" = none
  min_:mg "min" = none
  max_:mg "max" = none
  tuple_:mg "tuple" = none
  str_:mg "str" = none
  MOST_SIGNS_:∃ u,mg "MOST_SIGNS" = some u∧RelV (V.int 12) u
  SMALL_LETTERS_:∃ u,mg "SMALL_LETTERS" = some u∧RelV (V.str "abcdefghijklmnopqrstuvwxyz") u
  MOST_ROWS_:∃ u,mg "MOST_ROWS" = some u∧RelV (V.int 200) u
  MOST_COLUMNS_:∃ u,mg "MOST_COLUMNS" = some u∧RelV (V.int 4) u
  MOST_WORDS_:∃ u,mg "MOST_WORDS" = some u∧RelV (V.int 40) u
theorem cut_from (ns:List Int) (k:Nat) (hi:Option Int):∃ ms:List Int,cutV (ns.map V.int) (some (k:Int)) hi = ms.map V.int∧ms.length ≤ ns.length - k:=by
  unfold cutV
  have e:HT.sIx (ns.map V.int).length 0 (some (k:Int)) = min k ns.length:=by
    simp only [HT.sIx,List.length_map]
    split <;> omega
  refine ⟨(ns.drop (HT.sIx (ns.map V.int).length 0 (some (k:Int)))).take (HT.sIx (ns.map V.int).length (ns.map V.int).length hi - HT.sIx (ns.map V.int).length 0 (some (k:Int))),?_,?_⟩
  · rw [List.map_take,List.map_drop]
  · rw [List.length_take,List.length_drop,e]; omega
theorem p10 (n:Nat):(0:Int) < 10 ^ n:=Int.pow_pos (by decide)
theorem in_t {n:Int} {p:Int × Int} (c:decide (p.1 ≤ n) = true) (d:decide (n ≤ p.2) = true):inR n p = true:=by unfold inR; rw [c,d]; rfl
theorem in_f1 {n:Int} {p:Int × Int} (c:¬ decide (p.1 ≤ n) = true):inR n p = false:=by unfold inR; rw [Bool.eq_false_iff.mpr c]; rfl
theorem in_f2 {n:Int} {p:Int × Int} (d:¬ decide (n ≤ p.2) = true):inR n p = false:=by unfold inR; rw [Bool.eq_false_iff.mpr d,Bool.and_false]
theorem z0 (a b:Int):atI [V.int a,V.int b] 0 = some (V.int a):=rfl
theorem z1 (a b:Int):atI [V.int a,V.int b] 1 = some (V.int b):=rfl
theorem ret_r1 {H:Hp} {r:Addr} {o:HO} {b:Addr} {u:HO} (h:H r = some u) (n:H b = none):upd H b o r = some u:=by rw [upd_ne (ne_of_none h n)]; exact h
theorem ixN_last {n:Nat} (h:0 < n):ixN n (-1) = some (n - 1):=by
  unfold ixN
  rw [if_neg (by decide),if_pos (by omega)]
  congr 1
  omega
theorem set_last {α:Type} (l:List α) (x y:α):(l ++ [x]).set ((l ++ [x]).length - 1) y = l ++ [y]:=by
  have e:(l ++ [x]).length - 1 = l.length:=by simp
  rw [e,List.set_append_right _ _ (Nat.le_refl _),Nat.sub_self]
  rfl
theorem take_snoc {α:Type} {l:List α} {i:Nat} {x:α} (e:l[i]? = some x):l.take (i + 1) = l.take i ++ [x]:=by rw [List.take_add_one,e]; rfl
theorem get_map {ns:List Int} {i:Nat} {c:Int} (e:ns[i]? = some c):(ns.map V.int)[i]? = some (.int c):=by rw [List.getElem?_map,e]; rfl
theorem of_map {ns:List Int} {i:Nat} {x:V} (e:(ns.map V.int)[i]? = some x):∃ c,x = .int c∧ns[i]? = some c:=by
  rw [List.getElem?_map] at e
  cases q:ns[i]? with
  | none=>rw [q] at e; cases e
  | some c=>rw [q] at e; cases e; exact ⟨c,rfl,rfl⟩
def lets:Str := "abcdefghijklmnopqrstuvwxyz"
def isw (z:Str):Bool:=decide ((1:Int) ≤ ((z.length:Nat):Int)) && (decide (((z.length:Nat):Int) ≤ 12) && (!decide (V.str z = V.str "not") && allIn z lets))
theorem all_no {l:List Nat} {i:Nat} {c:Nat} {p:Nat→Bool} (e:l[i]? = some c) (h:p c = false):l.all p = false:=by
  cases q:l.all p with
  | false=>rfl
  | true=>rw [List.all_eq_true.mp q c (List.mem_of_getElem? e)] at h; cases h
theorem all_succ {l:List Nat} {i:Nat} {c:Nat} {p:Nat→Bool} (e:l[i]? = some c) (h:p c = true) (ha:(l.take i).all p = true):(l.take (i + 1)).all p = true:=by
  rw [take_snoc e,List.all_append,ha]; simp [h]
theorem all_done {z g:Str} (h:(z.cps.toList.take z.cps.size).all (sg g) = true):allIn z g = true:=by
  have e:z.cps.toList.take z.cps.size = z.cps.toList:=by rw [← Array.length_toList]; exact List.take_length
  rw [e] at h; exact h
theorem not_sg {g:Str} {c:Nat} (h:(!(!(Builtin.Str.occurrences g ⟨#[c]⟩ 0 g.length 1).isEmpty)) = true):sg g c = false:=by unfold sg; simpa using h
theorem is_sg {g:Str} {c:Nat} (h:¬ (!(!(Builtin.Str.occurrences g ⟨#[c]⟩ 0 g.length 1).isEmpty)) = true):sg g c = true:=by unfold sg; simpa using h
theorem big {n:Nat} (h:n ≤ 1000):n ≤ sizeLine:=Nat.le_of_lt (small1000 h)
def mkd (C:Addr) (H:Hp) (x dx:Addr) (lo hi:Int):Hp:=upd (upd H x (.ins C dx [("low",.int lo)])) x (.ins C dx [("low",.int lo),("high",.int hi)])
theorem put2 (v u:V):putF (Str.ofString "high") u [(Str.ofString "low",v)] = [(Str.ofString "low",v),(Str.ofString "high",u)]:=by
  unfold putF putF
  rw [if_neg (by decide)]
theorem put3 (v u t:V):putF (Str.ofString "words") t [(Str.ofString "low",v),(Str.ofString "high",u)] = [(Str.ofString "low",v),(Str.ofString "high",u),(Str.ofString "words",t)]:=by
  unfold putF putF putF
  rw [if_neg (by decide),if_neg (by decide)]
def hiW (zs:List Str):Int:=((zs.length:Nat):Int) - 1
structure Good (zs:List Str):Prop where
  some_:1 ≤ zs.length
  few:zs.length ≤ 40
  words:∀ z ∈ zs,isw z = true
  once:zs.Nodup
theorem flat_strs (zs:List Str):(zs.map V.str).all flatV = true:=by
  rw [List.all_map]
  exact List.all_eq_true.mpr fun _ _=>rfl
theorem get_strs {zs:List Str} {i:Nat} {x:V} (e:(zs.map V.str)[i]? = some x):∃ z,x = .str z∧zs[i]? = some z:=by
  rw [List.getElem?_map] at e
  cases q:zs[i]? with
  | none=>rw [q] at e; cases e
  | some z=>rw [q] at e; cases e; exact ⟨z,rfl,rfl⟩
theorem put_strs {zs:List Str} {i:Nat} {z:Str} (e:zs[i]? = some z):(zs.map V.str)[i]? = some (.str z):=by rw [List.getElem?_map,e]; rfl
def six:List Str:=[Str.ofString "first",Str.ofString "only",Str.ofString "like",Str.ofString "low",Str.ofString "high",Str.ofString "sum"]
theorem six_inj {i j:Nat} {z:Str} (h:six[i]? = some z) (k:six[j]? = some z):i = j:=nodup_ix (show six.Nodup by decide +kernel) h k
def WyN (C:Addr) (H:Hp) (x:Addr) (z:Str):Prop:=∃ dx,H x = some (.ins C dx [("called",.str z)])
theorem WyN.same {C:Addr} {H H' : Hp} {x:Addr} {z:Str} (h:WyN C H x z) (s:Same H H'):WyN C H' x z:=let ⟨dx,e⟩:=h; ⟨dx,s _ _ e⟩
def fnew (C:Addr) (z:Str):Sp:=fun vs H Q _=>∃ (x dx:Addr),vs = [.ref x]∧H x = some (.ins C dx [])∧Q .non (upd H x (.ins C dx [("called",.str z)]))
theorem small2:2 ≤ sizeLine:=by decide
def cl6 (a b c d e f:Addr):List Addr:=[a,b,c,d,e,f]
def DomC (C:Addr) (H:Hp) (a:Addr) (lo hi:Int):Prop:=∃ dx fs,H a = some (.ins C dx fs)∧fs.lookup (Str.ofString "low") = some (.int lo)∧fs.lookup (Str.ofString "high") = some (.int hi)∧fs.lookup (Str.ofString "has_code") = none
def Dom (cN cW:Addr) (H:Hp) (a:Addr) (b:Int × Int):Prop:=∃ C,(C = cN∨C = cW)∧DomC C H a b.1 b.2
theorem Dom.same {cN cW:Addr} {H H' : Hp} {a:Addr} {b:Int × Int} (h:Dom cN cW H a b) (s:Same H H'):Dom cN cW H' a b:=let ⟨C,hC,dx,fs,e,r⟩:=h; ⟨C,hC,dx,fs,s _ _ e,r⟩
def RefL {α:Type} (xs:List V) (as:List α) (P:Addr→α→Prop):Prop:=xs.length = as.length∧∀ (j:Nat) (a:α),as[j]? = some a→∃ r,xs[j]? = some (.ref r)∧P r a
theorem RefL.mono {α:Type} {xs:List V} {as:List α} {P Q:Addr→α→Prop} (h:RefL xs as P) (k:∀ r a,P r a→Q r a):RefL xs as Q:=⟨h.1,fun j a e=>let ⟨r,e1,p⟩:=h.2 j a e; ⟨r,e1,k r a p⟩⟩
theorem RefL.nil {α:Type} {P:Addr→α→Prop} : RefL [] [] P:=⟨rfl,(fun j a e=>by simp at e)⟩
theorem RefL.snoc {α:Type} {xs:List V} {as:List α} {P:Addr→α→Prop} {r:Addr} {a:α} (h:RefL xs as P) (p:P r a):RefL (xs ++ [.ref r]) (as ++ [a]) P:=by
  refine ⟨by simp [h.1],fun j b e=>?_⟩
  by_cases hj:j < as.length
  · rw [List.getElem?_append_left hj] at e
    obtain ⟨r',e1,q⟩:=h.2 j b e
    exact ⟨r',by rw [List.getElem?_append_left (by rw [h.1]; exact hj)]; exact e1,q⟩
  · have hj2:j = as.length:=by
      have:=(List.getElem?_eq_some_iff.mp e).1
      simp at this; omega
    subst hj2
    simp at e
    subst e
    exact ⟨r,by rw [← h.1]; simp,p⟩
theorem RefL.get {α:Type} {xs:List V} {as:List α} {P:Addr→α→Prop} (h:RefL xs as P) {j:Nat} {x:V} (e:xs[j]? = some x):∃ r a,x = .ref r∧as[j]? = some a∧P r a:=by
  have hj:=(List.getElem?_eq_some_iff.mp e).1
  have ea:=List.getElem?_eq_getElem (l:=as) (i:=j) (by rw [← h.1]; exact hj)
  obtain ⟨r,e1,p⟩:=h.2 j _ ea
  rw [e] at e1; cases e1
  exact ⟨r,_,rfl,ea,p⟩
abbrev Prs:=List (Int × Int)
def SpA (N:Addr→Prop) (H:Hp) (l:Addr) (ps:Prs):Prop:=N l∧∃ ys,H l = some (.lst ys)∧PL H ys ps
def CL (N:Addr→Prop) (H:Hp) (xs:List V) (pss:List Prs):Prop:=RefL xs pss (SpA N H)
abbrev Rw:=List Prs × Int
def RowA (N:Addr→Prop) (H:Hp) (r:Addr) (rw_:Rw):Prop:=∃ ce cs,H r = some (.tup [.ref ce,.int rw_.2])∧N ce∧H ce = some (.lst cs)∧CL N H cs rw_.1
def RL (N:Addr→Prop) (H:Hp) (xs:List V) (rws:List Rw):Prop:=RefL xs rws (RowA N H)
theorem SpA.same {N:Addr→Prop} {H H' : Hp} {l:Addr} {ps:Prs} (h:SpA N H l ps) (s:Same H H'):SpA N H' l ps:=let ⟨n,ys,e,p⟩:=h; ⟨n,ys,s _ _ e,p.mono s.tups⟩
theorem CL.same {N:Addr→Prop} {H H' : Hp} {xs:List V} {pss:List Prs} (h:CL N H xs pss) (s:Same H H'):CL N H' xs pss:=RefL.mono h fun _ _ p=>p.same s
theorem RowA.same {N:Addr→Prop} {H H' : Hp} {r:Addr} {w:Rw} (h:RowA N H r w) (s:Same H H'):RowA N H' r w:=let ⟨ce,cs,e,n,f,c⟩:=h; ⟨ce,cs,s _ _ e,n,s _ _ f,c.same s⟩
theorem RL.same {N:Addr→Prop} {H H' : Hp} {xs:List V} {rws:List Rw} (h:RL N H xs rws) (s:Same H H'):RL N H' xs rws:=RefL.mono h fun _ _ p=>p.same s
abbrev NT:Addr→Prop:=fun _=>True
theorem SpA.any {N:Addr→Prop} {H:Hp} {l:Addr} {ps:Prs} (h:SpA N H l ps):SpA NT H l ps:=⟨trivial,h.2⟩
theorem CL.any {N:Addr→Prop} {H:Hp} {xs:List V} {pss:List Prs} (h:CL N H xs pss):CL NT H xs pss:=RefL.mono h fun _ _ p=>p.any
theorem RowA.any {N:Addr→Prop} {H:Hp} {r:Addr} {w:Rw} (h:RowA N H r w):RowA NT H r w:=let ⟨ce,cs,e,_,f,c⟩:=h; ⟨ce,cs,e,trivial,f,c.any⟩
theorem RL.any {N:Addr→Prop} {H:Hp} {xs:List V} {rws:List Rw} (h:RL N H xs rws):RL NT H xs rws:=RefL.mono h fun _ _ p=>p.any
theorem SpA.wk {N N' : Addr→Prop} {H:Hp} {l:Addr} {ps:Prs} (h:SpA N H l ps) (k:∀ a,N a→N' a):SpA N' H l ps:=⟨k _ h.1,h.2⟩
theorem CL.wk {N N' : Addr→Prop} {H:Hp} {xs:List V} {pss:List Prs} (h:CL N H xs pss) (k:∀ a,N a→N' a):CL N' H xs pss:=RefL.mono h fun _ _ p=>p.wk k
theorem RowA.wk {N N' : Addr→Prop} {H:Hp} {r:Addr} {w:Rw} (h:RowA N H r w) (k:∀ a,N a→N' a):RowA N' H r w:=let ⟨ce,cs,e,n,f,c⟩:=h; ⟨ce,cs,e,k _ n,f,c.wk k⟩
theorem SpA.updN {N:Addr→Prop} {D:Addr} {H:Hp} {l:Addr} {ps:Prs} {zs:List V} {o:HO} (h:SpA N H l ps) (n:¬ N D) (e:H D = some (.lst zs)):SpA N (upd H D o) l ps :=
  let ⟨m,ys,f,p⟩:=h
  ⟨m,ys,(upd_ne (fun z=>n (by rw [← z]; exact m))).trans f,p.mono (sameT_lst e)⟩
theorem CL.updN {N:Addr→Prop} {D:Addr} {H:Hp} {xs:List V} {pss:List Prs} {zs:List V} {o:HO} (h:CL N H xs pss) (n:¬ N D) (e:H D = some (.lst zs)):CL N (upd H D o) xs pss:=RefL.mono h fun _ _ p=>p.updN n e
theorem RowA.updN {N:Addr→Prop} {D:Addr} {H:Hp} {r:Addr} {w:Rw} {zs:List V} {o:HO} (h:RowA N H r w) (n:¬ N D) (e:H D = some (.lst zs)):RowA N (upd H D o) r w :=
  let ⟨ce,cs,f,m,g,c⟩:=h
  ⟨ce,cs,(upd_ne (ne_of f e (by intro z; cases z))).trans f,m,(upd_ne (fun z=>n (by rw [← z]; exact m))).trans g,c.updN n e⟩
theorem RL.updN {N:Addr→Prop} {D:Addr} {H:Hp} {xs:List V} {rws:List Rw} {zs:List V} {o:HO} (h:RL N H xs rws) (n:¬ N D) (e:H D = some (.lst zs)):RL N (upd H D o) xs rws:=RefL.mono h fun _ _ p=>p.updN n e
def Fr (H:Hp) (D:Addr):Addr→Prop:=fun a=>H a = none∧a ≠ D
theorem Fr.out {H:Hp} {D:Addr} : ¬ Fr H D D:=fun h=>h.2 rfl
structure RngOk (b:Int × Int) (zs:List Str):Prop where
  le:b.1 ≤ b.2
  ws:zs ≠ []→Good zs∧b = (0,hiW zs)
def ColA (N:Addr→Prop) (H:Hp) (l:Addr) (b:Int × Int):Prop:=∃ (w:Addr) (zs:List Str),N l∧N w∧H l = some (.lst [.int b.1,.int b.2,.ref w])∧H w = some (.lst (zs.map V.str))∧RngOk b zs
def Cols (N:Addr→Prop) (H:Hp) (xs:List V) (bs:Prs):Prop:=RefL xs bs (ColA N H)
structure RowOk (bs:Prs) (o:Int × Int) (w:Rw):Prop where
  len:w.1.length = bs.length
  inn:∀ (j:Nat) (ps:Prs) (b:Int × Int),w.1[j]? = some ps→bs[j]? = some b→∀ p ∈ ps,b.1 ≤ p.1∧p.2 ≤ b.2
  lo:o.1 ≤ w.2
  hi:w.2 ≤ o.2
def rfit (pss:List Prs) (cs:List Int):Bool:=(List.range cs.length).all fun j=>inP (pss.getD j []) (cs.getD j 0)
theorem pf1 (v0 v1:V):putF (Str.ofString "names") v1 [(Str.ofString "name",v0)] = [(Str.ofString "name",v0),(Str.ofString "names",v1)]:=by
  unfold putF putF
  rw [if_neg (by decide)]
theorem pf2 (v0 v1 v2:V):putF (Str.ofString "domains") v2 [(Str.ofString "name",v0),(Str.ofString "names",v1)] = [(Str.ofString "name",v0),(Str.ofString "names",v1),(Str.ofString "domains",v2)]:=by
  unfold putF putF putF
  rw [if_neg (by decide),if_neg (by decide)]
theorem pf3 (v0 v1 v2 v3:V):putF (Str.ofString "outcome") v3 [(Str.ofString "name",v0),(Str.ofString "names",v1),(Str.ofString "domains",v2)] = [(Str.ofString "name",v0),(Str.ofString "names",v1),(Str.ofString "domains",v2),(Str.ofString "outcome",v3)]:=by
  unfold putF putF putF putF
  rw [if_neg (by decide),if_neg (by decide),if_neg (by decide)]
theorem pf4 (v0 v1 v2 v3 v4:V):putF (Str.ofString "way") v4 [(Str.ofString "name",v0),(Str.ofString "names",v1),(Str.ofString "domains",v2),(Str.ofString "outcome",v3)] = [(Str.ofString "name",v0),(Str.ofString "names",v1),(Str.ofString "domains",v2),(Str.ofString "outcome",v3),(Str.ofString "way",v4)]:=by
  unfold putF putF putF putF putF
  rw [if_neg (by decide),if_neg (by decide),if_neg (by decide),if_neg (by decide)]
theorem pf5 (v0 v1 v2 v3 v4 v5:V):putF (Str.ofString "rows") v5 [(Str.ofString "name",v0),(Str.ofString "names",v1),(Str.ofString "domains",v2),(Str.ofString "outcome",v3),(Str.ofString "way",v4)] = [(Str.ofString "name",v0),(Str.ofString "names",v1),(Str.ofString "domains",v2),(Str.ofString "outcome",v3),(Str.ofString "way",v4),(Str.ofString "rows",v5)]:=by
  unfold putF putF putF putF putF putF
  rw [if_neg (by decide),if_neg (by decide),if_neg (by decide),if_neg (by decide),if_neg (by decide)]
def hide (H:Hp) (x:Addr):Hp:=fun b=>if b = x then none else H b
theorem hide_of {H:Hp} {x b:Addr} {o:HO} (e:H b = some o) (n:b ≠ x):hide H x b = some o:=by unfold hide; rw [if_neg n]; exact e
theorem hide_same {H H' : Hp} {x:Addr} (k:∀ b o,b ≠ x→H b = some o→H' b = some o):Same (hide H x) H':=fun b o e=>by
  unfold hide at e
  by_cases h:b = x
  · rw [if_pos h] at e; cases e
  · rw [if_neg h] at e; exact k b o h e
theorem PL.hide {H:Hp} {x C dx:Addr} {fs:List (Str × V)} (hx:H x = some (.ins C dx fs)) {ys:List V} {ps:Prs} (h:PL H ys ps):PL (hide H x) ys ps :=
  h.mono fun b xs e=>hide_of e (ne_of e hx (by intro z; cases z))
theorem RL.hide {H:Hp} {x C dx:Addr} {fs:List (Str × V)} (hx:H x = some (.ins C dx fs)) {xs:List V} {rws:List Rw} (h:RL NT H xs rws):RL NT (My.hide H x) xs rws :=
  RefL.mono h fun r w ⟨ce,cs,e,_,f,c⟩=>⟨ce,cs,hide_of e (ne_of e hx (by intro z; cases z)),trivial,hide_of f (ne_of f hx (by intro z; cases z)),RefL.mono c fun l ps ⟨_,ys,g,p⟩=>⟨trivial,ys,hide_of g (ne_of g hx (by intro z; cases z)),PL.hide hx p⟩⟩
def wcs (c k:Int):List Nat:=List.replicate (c / 26 % 6).toNat (97 + (c % 26).toNat) ++ ([97 + (k / 7 % 7).toNat,97 + (k % 7).toNat] ++ List.replicate (k % 5).toNat (97 + (c / 156 % 26).toNat))
def wd (c k:Int):Str:=⟨(wcs c k).toArray⟩
theorem wcs_len (c k:Int):(wcs c k).length = (c / 26 % 6).toNat + (2 + (k % 5).toNat):=by unfold wcs; simp; omega
theorem wcs_at0 (c k:Int):(wcs c k)[(c / 26 % 6).toNat]? = some (97 + (k / 7 % 7).toNat):=by
  unfold wcs
  rw [List.getElem?_append_right (by simp)]
  simp
theorem wcs_at1 (c k:Int):(wcs c k)[(c / 26 % 6).toNat + 1]? = some (97 + (k % 7).toNat):=by
  unfold wcs
  rw [List.getElem?_append_right (by simp)]
  simp
theorem wd_len (c k:Int):(wd c k).length = (c / 26 % 6).toNat + (2 + (k % 5).toNat):=by
  rw [← wcs_len c k]; unfold wd; simp [Str.length]
theorem wd_le (c k:Int):2 ≤ (wd c k).length∧(wd c k).length ≤ 11:=by
  rw [wd_len]
  have h0:=Int.emod_lt_of_pos (c / 26) (show (0:Int) < 6 by decide)
  have h1:=Int.emod_lt_of_pos k (show (0:Int) < 5 by decide)
  omega
theorem sg_let {c:Nat} (h:97 ≤ c∧c ≤ 122):sg lets c = true:=by
  have:∀ d:Nat,d < 26→sg lets (97 + d) = true:=by decide +kernel
  have z:=this (c - 97) (by omega)
  rw [show 97 + (c - 97) = c by omega] at z
  exact z
theorem wcs_let (c k:Int):∀ x ∈ wcs c k,97 ≤ x∧x ≤ 122:=fun x hx=>by
  have h0:=Int.emod_lt_of_pos c (show (0:Int) < 26 by decide)
  have h1:=Int.emod_lt_of_pos (c / 156) (show (0:Int) < 26 by decide)
  have h2:=Int.emod_lt_of_pos (k / 7) (show (0:Int) < 7 by decide)
  have h3:=Int.emod_lt_of_pos k (show (0:Int) < 7 by decide)
  unfold wcs at hx
  simp only [List.mem_append,List.mem_replicate,List.mem_cons,List.not_mem_nil,or_false] at hx
  rcases hx with ⟨_,rfl⟩ | (rfl | rfl) | ⟨_,rfl⟩ <;> omega
theorem wd_isw (c k:Int):isw (wd c k) = true:=by
  have hl:=wd_le c k
  have ha:allIn (wd c k) lets = true:=by
    unfold allIn wd
    rw [List.all_eq_true]
    intro x hx
    exact sg_let (wcs_let c k x (by simpa using hx))
  have hn:¬ (V.str (wd c k) = V.str (Str.ofString "not")):=fun h=>by
    injection h with h
    have e:Str.ofString "not" = ⟨[110,111,116].toArray⟩:=by decide +kernel
    rw [e] at h
    unfold wd at h
    injection h with h
    have h:wcs c k = [110,111,116]:=by simpa using congrArg Array.toList h
    have z:=wcs_at0 c k
    rw [h] at z
    have h2:=Int.emod_lt_of_pos (k / 7) (show (0:Int) < 7 by decide)
    have m:=List.mem_of_getElem? z
    simp only [List.mem_cons,List.not_mem_nil,or_false] at m
    omega
  unfold isw
  rw [ha,decide_eq_true (show (1:Int) ≤ (((wd c k).length:Nat):Int) by omega),decide_eq_true (show (((wd c k).length:Nat):Int) ≤ 12 by omega)]
  show (true && (true && (!decide (V.str (wd c k) = V.str (Str.ofString "not")) && true))) = true
  rw [decide_eq_false hn]; rfl
theorem wd_inj {c k k' : Int} (h0:0 ≤ k) (h1:k < 49) (h2:0 ≤ k') (h3:k' < 49) (e:wd c k = wd c k'):k = k':=by
  unfold wd at e
  injection e with e
  have e:wcs c k = wcs c k':=by simpa using congrArg Array.toList e
  have a:=wcs_at0 c k
  have b:=wcs_at1 c k
  rw [e,wcs_at0] at a
  rw [e,wcs_at1] at b
  injection a with a
  injection b with b
  omega
theorem lets_at {s:Str} {n:Nat} (h:s.cps.toList = (List.range n).map (97 + ·)) {k:Int} (h0:0 ≤ k) (h1:k < n):atI s.cps.toList k = some (97 + k.toNat):=by
  have hk:k.toNat < n:=by omega
  have z:s.cps.toList[k.toNat]? = some (97 + k.toNat):=by rw [h,List.getElem?_map,List.getElem?_range hk]; rfl
  have q:=atI_nat z
  rw [show ((k.toNat:Nat):Int) = k by omega] at q
  exact q
theorem abc26:(Str.ofString "abcdefghijklmnopqrstuvwxyz").cps.toList = (List.range 26).map (97 + ·):=by decide +kernel
theorem abc7:(Str.ofString "abcdefg").cps.toList = (List.range 7).map (97 + ·):=by decide +kernel
theorem mul1 (c:Nat) (n:Int):Txt.mul ⟨#[c]⟩ n = ⟨(List.replicate n.toNat c).toArray⟩:=by
  have h:=PyProof.Rows.mul_one_list c n
  cases q:Txt.mul ⟨#[c]⟩ n with
  | mk a=>rw [q] at h; simp only at h; rw [← h]
def wds (c:Int) (n:Nat):List Str:=(List.range n).map fun j:Nat=>wd c (j:Int)
theorem wds_succ (c:Int) (n:Nat):wds c (n + 1) = wds c n ++ [wd c (n:Int)]:=by unfold wds; rw [List.range_succ,List.map_append]; rfl
theorem wds_nodup {c:Int} {n:Nat} (h:n ≤ 49) (f:Nat→Int) (hf:∀ j,j < n→0 ≤ f j∧f j < 49) (inj:∀ i j,f i = f j→i = j):((List.range n).map fun j:Nat=>wd c (f j)).Nodup:=by
  rw [List.nodup_iff_pairwise_ne,List.pairwise_map]
  refine List.Pairwise.imp_of_mem (R:=fun a b=>a ≠ b) (fun {a b} ha hb hab e=>?_) List.nodup_range
  have a1:=hf a (List.mem_range.mp ha)
  have b1:=hf b (List.mem_range.mp hb)
  exact hab (inj a b (wd_inj a1.1 a1.2 b1.1 b1.2 e))
theorem wds_good {c:Int} {n:Nat} (h1:1 ≤ n) (h2:n ≤ 40):Good (wds c n):=by
  refine ⟨by unfold wds; simp; omega,by unfold wds; simp; omega,fun z hz=>?_,wds_nodup (n:=n) (by omega) (fun j:Nat=>(j:Int)) (fun j hj=>⟨by omega,by omega⟩) fun i j e=>by omega⟩
  unfold wds at hz
  obtain ⟨j,_,rfl⟩:=List.mem_map.mp hz
  exact wd_isw _ _
abbrev SI:=Str × Int
def tp (p:SI):List V:=[.str p.1,.int p.2]
def say (i:Int):SI:=(Str.ofString "say",i)
def clash:SI:=(Str.ofString "clash",0)
def non_:SI:=(Str.ofString "none",0)
def least (ns:List Int):Int:=ns.foldl (fun m c=>if c < m then c else m) (ns.headD 0)
def great (ns:List Int):Int:=ns.foldl (fun m c=>if c > m then c else m) (ns.headD 0)
theorem fold_min (ns:List Int):∀ m:Int,(ns.foldl (fun m c=>if c < m then c else m) m = m∨ns.foldl (fun m c=>if c < m then c else m) m ∈ ns)∧ns.foldl (fun m c=>if c < m then c else m) m ≤ m∧∀ x ∈ ns,ns.foldl (fun m c=>if c < m then c else m) m ≤ x:=by
  induction ns with
  | nil=>intro m; exact ⟨.inl rfl,Int.le_refl _,fun x h=>by cases h⟩
  | cons n ns ih =>
    intro m
    obtain ⟨h1,h2,h3⟩:=ih (if n < m then n else m)
    rw [List.foldl_cons]
    refine ⟨?_,?_,fun x hx=>?_⟩
    · rcases h1 with h1 | h1
      · rw [h1]; split
        · exact .inr List.mem_cons_self
        · exact .inl rfl
      · exact .inr (List.mem_cons_of_mem _ h1)
    · split at h2 <;> split <;> omega
    · rcases List.mem_cons.mp hx with rfl | hx
      · split at h2 <;> split <;> omega
      · exact h3 x hx
theorem fold_max (ns:List Int):∀ m:Int,(ns.foldl (fun m c=>if c > m then c else m) m = m∨ns.foldl (fun m c=>if c > m then c else m) m ∈ ns)∧m ≤ ns.foldl (fun m c=>if c > m then c else m) m∧∀ x ∈ ns,x ≤ ns.foldl (fun m c=>if c > m then c else m) m:=by
  induction ns with
  | nil=>intro m; exact ⟨.inl rfl,Int.le_refl _,fun x h=>by cases h⟩
  | cons n ns ih =>
    intro m
    obtain ⟨h1,h2,h3⟩:=ih (if n > m then n else m)
    rw [List.foldl_cons]
    refine ⟨?_,?_,fun x hx=>?_⟩
    · rcases h1 with h1 | h1
      · rw [h1]; split
        · exact .inr List.mem_cons_self
        · exact .inl rfl
      · exact .inr (List.mem_cons_of_mem _ h1)
    · split at h2 <;> split <;> omega
    · rcases List.mem_cons.mp hx with rfl | hx
      · split at h2 <;> split <;> omega
      · exact h3 x hx
theorem least_is {n:Int} {ns:List Int} : least (n :: ns) ∈ n :: ns∧∀ x ∈ n :: ns,least (n :: ns) ≤ x:=by
  obtain ⟨h1,h2,h3⟩:=fold_min (n :: ns) n
  refine ⟨?_,h3⟩
  rcases h1 with h1 | h1
  · show (n :: ns).foldl _ n ∈ _
    rw [h1]; exact List.mem_cons_self
  · exact h1
theorem great_is {n:Int} {ns:List Int} : great (n :: ns) ∈ n :: ns∧∀ x ∈ n :: ns,x ≤ great (n :: ns):=by
  obtain ⟨h1,h2,h3⟩:=fold_max (n :: ns) n
  refine ⟨?_,h3⟩
  rcases h1 with h1 | h1
  · show (n :: ns).foldl _ n ∈ _
    rw [h1]; exact List.mem_cons_self
  · exact h1
theorem least_un {n m:Int} {ns:List Int} (h1:m ∈ n :: ns) (h2:∀ b ∈ n :: ns,m ≤ b):m = least (n :: ns):=by
  have a:=h2 _ least_is.1
  have b:=least_is.2 _ h1
  omega
theorem great_un {n m:Int} {ns:List Int} (h1:m ∈ n :: ns) (h2:∀ b ∈ n :: ns,b ≤ m):m = great (n :: ns):=by
  have a:=h2 _ great_is.1
  have b:=great_is.2 _ h1
  omega
def fLow (ns:List Int):SI:=say (least ns)
def fHigh (ns:List Int):SI:=say (great ns)
def fLike (ns:List Int):SI:=if least ns = great ns then say (least ns) else clash
theorem like_same {n:Int} {ns:List Int} : (∀ x ∈ ns,x = n)↔least (n :: ns) = great (n :: ns):=by
  constructor
  · intro h
    have e:∀ x ∈ n :: ns,x = n:=fun x hx=>by
      rcases List.mem_cons.mp hx with r | hx
      · exact r
      · exact h x hx
    rw [e _ least_is.1,e _ great_is.1]
  · intro h x hx
    have a1:=least_is.2 x (List.mem_cons_of_mem n hx)
    have a2:=great_is.2 x (List.mem_cons_of_mem n hx)
    have a3:=least_is.2 n (List.mem_cons_self (l:=ns))
    have a4:=great_is.2 n (List.mem_cons_self (l:=ns))
    omega
theorem like_head {n:Int} {ns:List Int} (h:∀ x ∈ ns,x = n):least (n :: ns) = n:=by
  have e:∀ x ∈ n :: ns,x = n:=fun x hx=>by
    rcases List.mem_cons.mp hx with r | hx
    · exact r
    · exact h x hx
  exact e _ least_is.1
def ver (f:List Int→SI):List Int→SI
  | []=>non_
  | n :: ns=>f (n :: ns)
def Wy (C:Addr) (H:Hp) (x:Addr):Prop:=∃ dx z,H x = some (.ins C dx [("called",.str z)])
def fFirst (ns:List Int):SI:=say (ns.headD 0)
def fOnly (ns:List Int):SI:=if ns.length = 1 then say (ns.headD 0) else clash
def near (lo hi n:Int):Int:=if n < lo then lo else if n > hi then hi else n
def wf:Nat→Int→Int→List Int→SI
  | 0,_,_=>fFirst
  | 1,_,_=>fOnly
  | 2,_,_=>fLike
  | 3,_,_=>fLow
  | 4,_,_=>fHigh
  | _,lo,hi=>fun ns=>say (near lo hi ns.sum)
theorem at0 (n:Int) (ns:List Int):atI ((n :: ns).map V.int) 0 = some (.int n):=atI_nat (j:=0) rfl
def spCh (K:PySem.W.Frag) (C cN cW:Addr) (i:Nat):Sp:=fun vs H Q _=>∃ (x c o:Addr) (n:Int) (ns:List Int) (b:Int × Int),vs = [.ref x,.ref c,.ref o]∧Wy C H x∧Dom cN cW H o b∧b.1 ≤ b.2∧SqL K H c ((n :: ns).map V.int)∧ns.length < 900∧∀ (r:Addr) (H' : Hp),Same H H'→SqT K H' r (tp (wf i b.1 b.2 (n :: ns)))→Q (.ref r) H'
def spVe (K:PySem.W.Frag) (C cN cW:Addr) (i:Nat):Sp:=fun vs H Q _=>∃ (x c o:Addr) (ns:List Int) (b:Int × Int),vs = [.ref x,.ref c,.ref o]∧Wy C H x∧Dom cN cW H o b∧b.1 ≤ b.2∧SqL K H c (ns.map V.int)∧ns.length < 900∧∀ (r:Addr) (H' : Hp),Same H H'→SqT K H' r (tp (ver (wf i b.1 b.2) ns))→Q (.ref r) H'
def msk (f:Nat→Bool):Nat→Nat
  | 0=>0
  | n + 1=>(if f n then 2 ^ n else 0) + msk f n
theorem msk_succ (f:Nat→Bool) (n:Nat):msk f (n + 1) = (if f n then 2 ^ n else 0) + msk f n:=rfl
theorem msk_lt (f:Nat→Bool):∀ n,msk f n < 2 ^ n
  | 0=>Nat.one_pos
  | n + 1=>by
    have:=msk_lt f n
    unfold msk
    rw [Nat.pow_succ]
    split <;> omega
theorem msk_bit (f:Nat→Bool) (k:Nat):∀ n,(msk f n).testBit k = (decide (k < n) && f k)
  | 0=>by simp [msk]
  | n + 1=>by
    have ih:=msk_bit f k n
    have lt:=msk_lt f n
    unfold msk
    rcases Nat.lt_trichotomy k n with h | h | h
    · split
      · rw [Nat.testBit_two_pow_add_gt h,ih]; simp [h,Nat.lt_succ_of_lt h]
      · rw [Nat.zero_add,ih]; simp [h,Nat.lt_succ_of_lt h]
    · subst h
      split
      · rename_i hf
        rw [Nat.testBit_two_pow_add_eq,Nat.testBit_lt_two_pow lt]; simp [hf]
      · rename_i hf
        rw [Nat.zero_add,Nat.testBit_lt_two_pow lt]; simp [hf]
    · have lt2:(if f n = true then 2 ^ n else 0) + msk f n < 2 ^ k:=Nat.lt_of_lt_of_le (msk_lt f (n + 1)) (Nat.pow_le_pow_right (by decide) h)
      rw [Nat.testBit_lt_two_pow lt2]
      simp; omega
def bitOn (m:Int) (k:Nat):Bool:=Builtin.bitAnd (m / 2 ^ k) 1 != 0
theorem bitOn_msk (f:Nat→Bool) (n k:Nat):bitOn ((msk f n:Nat):Int) k = (decide (k < n) && f k):=by
  rw [← msk_bit]
  unfold bitOn
  have e:((msk f n:Nat):Int) / 2 ^ k = ((msk f n / 2 ^ k:Nat):Int):=by simp
  rw [e,PyProof.Rows.bitAnd_pp (Int.natCast_nonneg _) (by decide)]
  unfold Nat.testBit
  rw [Nat.shiftRight_eq_div_pow,Int.toNat_natCast,Nat.and_comm]
  show ((((1:Int).toNat &&& (msk f n / 2 ^ k):Nat):Int) != 0) = _
  rw [Bool.eq_iff_iff,bne_iff_ne,bne_iff_ne]
  constructor
  · intro h z; exact h (by rw [show (1:Int).toNat = 1 from rfl,z]; rfl)
  · intro h z; exact h (by rw [show (1:Int).toNat = 1 from rfl] at z; omega)
def pkF (rws:List Rw) (f:Nat→Bool) (n:Nat):List Int:=((List.range n).filter f).map fun k=>(rws.getD k ([],0)).2
theorem pkF_succ (rws:List Rw) (f:Nat→Bool) (n:Nat):pkF rws f (n + 1) = pkF rws f n ++ (if f n then [(rws.getD n ([],0)).2] else []):=by
  unfold pkF
  rw [List.range_succ,List.filter_append,List.map_append]
  cases h:f n with
  | true=>rw [List.filter_cons_of_pos h]; simp
  | false=>rw [List.filter_cons_of_neg (by rw [h]; exact Bool.false_ne_true)]; simp
theorem pkF_len (rws:List Rw) (f:Nat→Bool) (n:Nat):(pkF rws f n).length ≤ n:=by
  unfold pkF
  rw [List.length_map]
  exact Nat.le_trans (List.length_filter_le ..) (by simp)
theorem pkF_msk (rws:List Rw) (f:Nat→Bool) (n:Nat):pkF rws (bitOn ((msk f n:Nat):Int)) n = pkF rws f n:=by
  unfold pkF
  congr 1
  apply List.filter_congr
  intro k hk
  rw [bitOn_msk]
  simp [List.mem_range.mp hk]
def Tbl (cT cN cW:Addr) (H:Hp) (t:Addr) (rws:List Rw) (i:Nat) (o:Int × Int):Prop:=∃ (rl ou dx:Addr) (fs:List (Str × V)) (xs:List V) (wy:Str),H t = some (.ins cT dx fs)∧fs.lookup (Str.ofString "rows") = some (.ref rl)∧fs.lookup (Str.ofString "way") = some (.str wy)∧fs.lookup (Str.ofString "outcome") = some (.ref ou)∧H rl = some (.lst xs)∧RL NT H xs rws∧six[i]? = some wy∧Dom cN cW H ou o∧o.1 ≤ o.2∧xs.length ≤ 200
theorem Tbl.same {cT cN cW:Addr} {H H' : Hp} {t:Addr} {rws:List Rw} {i:Nat} {o:Int × Int} (h:Tbl cT cN cW H t rws i o) (s:Same H H'):Tbl cT cN cW H' t rws i o :=
  let ⟨rl,ou,dx,fs,xs,wy,h1,h2,h3,h4,h5,h6,h7,h8,h9,h10⟩:=h
  ⟨rl,ou,dx,fs,xs,wy,s _ _ h1,h2,h3,h4,s _ _ h5,h6.same s,h7,h8.same s,h9,h10⟩
def fitF (rws:List Rw) (cs:List Int) (k:Nat):Bool:=rfit (rws.getD k ([],0)).1 cs
theorem getD_at {rws:List Rw} {k:Nat} {w:Rw} (e:rws[k]? = some w):rws.getD k ([],0) = w:=by rw [List.getD_eq_getElem?_getD,e]; rfl
def fl (rws:List Rw) (cs:List Int):List Int:=(rws.filter fun w=>rfit w.1 cs).map (·.2)
theorem fl_snoc (rws:List Rw) (w:Rw) (cs:List Int):fl (rws ++ [w]) cs = fl rws cs ++ (if rfit w.1 cs then [w.2] else []):=by
  unfold fl
  rw [List.filter_append,List.map_append]
  cases h:rfit w.1 cs <;> simp [List.filter_cons,h]
theorem pkF_take (rws:List Rw) (cs:List Int):∀ n,n ≤ rws.length→pkF rws (fitF rws cs) n = fl (rws.take n) cs
  | 0,_=>by simp [pkF,fl]
  | n + 1,h=>by
    have ew:rws[n]? = some rws[n]:=List.getElem?_eq_getElem h
    rw [pkF_succ,pkF_take rws cs n (Nat.le_of_succ_le h),take_snoc ew,fl_snoc,getD_at ew]
    unfold fitF
    rw [getD_at ew]
theorem pkF_fl (rws:List Rw) (cs:List Int):pkF rws (fitF rws cs) rws.length = fl rws cs:=by
  rw [pkF_take rws cs _ (Nat.le_refl _),List.take_length]
def ord:List Nat:=[3,4,2,1,0,5]
def w6:List Str:=[Str.ofString "low",Str.ofString "high",Str.ofString "like",Str.ofString "only",Str.ofString "first",Str.ofString "sum"]
def dueL (lo hi:Int) (ns:List Int):List SI:=ord.map fun i=>ver (wf i lo hi) ns
def DL (H:Hp) (xs:List V) (ps:List SI):Prop:=RefL xs ps fun r p=>H r = some (.tup (tp p))
def TblX (cT:Addr) (H:Hp) (t:Addr) (nm wy:Str) (ou:Addr) (zs:List Str) (dv:List V):Prop:=∃ (dx na dl:Addr) (fs:List (Str × V)),H t = some (.ins cT dx fs)∧fs.lookup (Str.ofString "name") = some (.str nm)∧fs.lookup (Str.ofString "way") = some (.str wy)∧fs.lookup (Str.ofString "outcome") = some (.ref ou)∧fs.lookup (Str.ofString "names") = some (.ref na)∧fs.lookup (Str.ofString "domains") = some (.ref dl)∧H na = some (.lst (zs.map V.str))∧H dl = some (.lst dv)
theorem deq_lst {K:PySem.W.Frag} {H:Hp} {n:Nat} {a b:Addr} {xs ys:List V} (ha:SqL K H a xs) (hb:SqL K H b ys) (hl:xs.length = ys.length) (h:∀ (j:Nat) (x y:V),xs[j]? = some x→ys[j]? = some y→DEq K H n x y true):DEq K H (n + 1) (.ref a) (.ref b) true:=by
  by_cases e:a = b
  · subst e; exact .same a
  · have:=DEq.lst (f:=fun _=>true) e ha hb hl h
    rw [show (List.range xs.length).all (fun _=>true) = true by simp] at this
    exact this
theorem deq_tup {K:PySem.W.Frag} {H:Hp} {n:Nat} {a b:Addr} {xs ys:List V} (ha:SqT K H a xs) (hb:SqT K H b ys) (hl:xs.length = ys.length) (h:∀ (j:Nat) (x y:V),xs[j]? = some x→ys[j]? = some y→DEq K H n x y true):DEq K H (n + 1) (.ref a) (.ref b) true:=by
  by_cases e:a = b
  · subst e; exact .same a
  · have:=DEq.tup (f:=fun _=>true) e ha hb h
    rw [show ((List.range (min xs.length ys.length)).all (fun _=>true) && xs.length == ys.length) = true by simp [hl]] at this
    exact this
theorem deq_int {K:PySem.W.Frag} {H:Hp} {n:Nat} (i:Int):DEq K H n (.int i) (.int i) true:=by
  have:=DEq.flat (K:=K) (H:=H) (n:=n) (x:=.int i) (y:=.int i) rfl rfl
  rw [show eqV (.int i) (.int i) = true by simp [eqV]] at this
  exact this
theorem deq_pl {K:PySem.W.Frag} {H:Hp} {n:Nat} {xs ys:List V} {ps:Prs} (h:PL H xs ps) (h' : PL H ys ps) (j:Nat) (x y:V) (e1:xs[j]? = some x) (e2:ys[j]? = some y):DEq K H (n + 1) x y true:=by
  obtain ⟨u,r,g1,rfl,h1⟩:=h.get e1
  obtain ⟨u',r',g2,rfl,h2⟩:=h'.get e2
  rw [g1] at g2
  cases g2
  refine deq_tup (SqT.of h1) (SqT.of h2) rfl fun j x y f1 f2=>?_
  rw [f1] at f2
  cases f2
  match j,f1 with
  | 0,f1=>cases f1; exact deq_int _
  | 1,f1=>cases f1; exact deq_int _
  | j + 2,f1=>simp at f1
theorem deq_row {K:PySem.W.Frag} {H:Hp} {r r' : Addr} {w:Rw} (h:RowA NT H r w) (h' : RowA NT H r' w):DEq K H 60 (.ref r) (.ref r') true:=by
  obtain ⟨ce,cs,g1,_,g2,g3⟩:=h
  obtain ⟨ce',cs',g1',_,g2',g3'⟩:=h'
  refine deq_tup (n:=59) (SqT.of g1) (SqT.of g1') rfl fun j x y e1 e2=>?_
  match j,e1,e2 with
  | 0,e1,e2 =>
    cases e1; cases e2
    refine deq_lst (n:=58) (SqL.of g2) (SqL.of g2') (by rw [g3.1,g3'.1]) fun j x y f1 f2=>?_
    obtain ⟨l,ps,rfl,ep,_,ys,el,hp⟩:=RefL.get g3 f1
    obtain ⟨l',ps',rfl,ep',_,ys',el',hp'⟩:=RefL.get g3' f2
    rw [ep] at ep'
    cases ep'
    exact deq_lst (n:=57) (SqL.of el) (SqL.of el') (by rw [hp.length,hp'.length]) (deq_pl (n:=56) hp hp')
  | 1,e1,e2=>cases e1; cases e2; exact deq_int _
  | j + 2,e1,e2=>simp at e1
theorem neDL_same {K:PySem.W.Frag} {H:Hp} {Q:VK} {a b:Addr} {xs ys:List V} (ha:SqL K H a xs) (hb:SqL K H b ys) (hl:xs.length = ys.length) (h:∀ (j:Nat) (x y:V),xs[j]? = some x→ys[j]? = some y→DEq K H 60 x y true) (q:Q (.bl false) H):rEqDL K true (.ref a) (.ref b) H Q:=by
  refine ⟨a,b,xs,ys,rfl,rfl,ha,hb,.inr ⟨hl,fun _=>true,h,?_⟩⟩
  rw [show (List.range xs.length).all (fun _=>true) = true by simp]
  exact q
theorem deq_rows {K:PySem.W.Frag} {H:Hp} {xs ys:List V} {rws:List Rw} (h:RL NT H xs rws) (h' : RL NT H ys rws) (j:Nat) (x y:V) (e1:xs[j]? = some x) (e2:ys[j]? = some y):DEq K H 60 x y true:=by
  obtain ⟨r,w,rfl,ew,hr⟩:=RefL.get h e1
  obtain ⟨r',w',rfl,ew',hr'⟩:=RefL.get h' e2
  rw [ew] at ew'
  cases ew'
  exact deq_row hr hr'
structure Col where
  prs:Prs
  w:Bool
  sd:Int
def ColN (N:Addr→Prop) (H:Hp) (l:Addr) (c:Col):Prop:=∃ (pl:Addr) (ts:List V),N l∧N pl∧H l = some (.lst [.ref pl,.bl c.w,.int c.sd])∧H pl = some (.lst ts)∧PL H ts c.prs
theorem ColN.same {N:Addr→Prop} {H H' : Hp} {l:Addr} {c:Col} (h:ColN N H l c) (s:Same H H'):ColN N H' l c:=let ⟨pl,ts,n,m,e,f,p⟩:=h; ⟨pl,ts,n,m,s _ _ e,s _ _ f,p.mono s.tups⟩
theorem ColN.wk {N N' : Addr→Prop} {H:Hp} {l:Addr} {c:Col} (h:ColN N H l c) (k:∀ a,N a→N' a):ColN N' H l c:=let ⟨pl,ts,n,m,r⟩:=h; ⟨pl,ts,k _ n,k _ m,r⟩
theorem ColN.any {N:Addr→Prop} {H:Hp} {l:Addr} {c:Col} (h:ColN N H l c):ColN NT H l c:=h.wk fun _ _=>trivial
theorem ColN.updN {N:Addr→Prop} {D:Addr} {H:Hp} {l:Addr} {c:Col} {zs:List V} {o:HO} (h:ColN N H l c) (n:¬ N D) (e:H D = some (.lst zs)):ColN N (upd H D o) l c :=
  let ⟨pl,ts,n1,n2,e1,e2,p⟩:=h
  ⟨pl,ts,n1,n2,(upd_ne (fun z=>n (by rw [← z]; exact n1))).trans e1,(upd_ne (fun z=>n (by rw [← z]; exact n2))).trans e2,p.mono (sameT_lst e)⟩
def ColsN (N:Addr→Prop) (H:Hp) (xs:List V) (cs:List Col):Prop:=RefL xs cs (ColN N H)
theorem ColsN.same {N:Addr→Prop} {H H' : Hp} {xs:List V} {cs:List Col} (h:ColsN N H xs cs) (s:Same H H'):ColsN N H' xs cs:=RefL.mono h fun _ _ p=>p.same s
theorem ColsN.any {N:Addr→Prop} {H:Hp} {xs:List V} {cs:List Col} (h:ColsN N H xs cs):ColsN NT H xs cs:=RefL.mono h fun _ _ p=>p.any
theorem ColsN.updN {N:Addr→Prop} {D:Addr} {H:Hp} {xs:List V} {cs:List Col} {zs:List V} {o:HO} (h:ColsN N H xs cs) (n:¬ N D) (e:H D = some (.lst zs)):ColsN N (upd H D o) xs cs:=RefL.mono h fun _ _ p=>p.updN n e
structure Ch (ps:Prs):Prop where
  le:∀ (i:Nat) (p:Int × Int),ps[i]? = some p→p.1 ≤ p.2
  nxt:∀ (i:Nat) (p q:Int × Int),ps[i]? = some p→ps[i + 1]? = some q→q.1 = p.2 + 1
theorem Ch.nil:Ch []:=⟨fun i p e=>by simp at e,fun i p q e=>by simp at e⟩
theorem Ch.snoc {ps:Prs} {a b:Int} (h:Ch ps) (hab:a ≤ b) (hl:∀ p,ps[ps.length - 1]? = some p→a = p.2 + 1):Ch (ps ++ [(a,b)]):=by
  refine ⟨fun i p e=>?_,fun i p q e f=>?_⟩
  · by_cases hi:i < ps.length
    · rw [List.getElem?_append_left hi] at e; exact h.le i p e
    · have:i = ps.length:=by have:=(List.getElem?_eq_some_iff.mp e).1; simp at this; omega
      subst this; simp at e; subst e; exact hab
  · have hf:=(List.getElem?_eq_some_iff.mp f).1
    rw [List.length_append,List.length_singleton] at hf
    rw [List.getElem?_append_left (by omega)] at e
    by_cases hi:i + 1 < ps.length
    · rw [List.getElem?_append_left hi] at f; exact h.nxt i p q e f
    · have:i = ps.length - 1:=by omega
      subst this
      rw [show ps.length - 1 + 1 = ps.length by omega] at f
      simp at f; subst f
      exact hl p e
theorem Ch.mono {ps:Prs} (h:Ch ps) {i:Nat} {p:Int × Int} (e:ps[i]? = some p):∀ (d:Nat) (q:Int × Int),ps[i + d]? = some q→p.1 ≤ q.1∧p.2 ≤ q.2∧(0 < d→p.2 < q.1)
  | 0,q,f=>by rw [Nat.add_zero,e] at f; cases f; exact ⟨Int.le_refl _,Int.le_refl _,fun z=>absurd z (by omega)⟩
  | d + 1,q,f=>by
    have hlt:i + d < ps.length:=by have:=(List.getElem?_eq_some_iff.mp f).1; omega
    obtain ⟨r,er⟩:∃ r,ps[i + d]? = some r:=⟨_,List.getElem?_eq_getElem hlt⟩
    obtain ⟨a,b,c⟩:=h.mono e d r er
    have n:=h.nxt (i + d) r q er f
    have l1:=h.le (i + d) r er
    have l2:=h.le _ q f
    have l3:=h.le _ p e
    omega
theorem Ch.lt {ps:Prs} (h:Ch ps) {i j:Nat} {p q:Int × Int} (e:ps[i]? = some p) (f:ps[j]? = some q) (hij:i < j):p.2 < q.1:=by
  have:=h.mono e (j - i) q (by rw [show i + (j - i) = j by omega]; exact f)
  exact this.2.2 (by omega)
structure ColOk (c:Col):Prop where
  some_:1 ≤ c.prs.length
  few:c.prs.length ≤ 6
  ch:Ch c.prs
  w0:c.w = true→∀ p,c.prs[0]? = some p→p.1 = 0
  wl:c.w = true→∀ (i:Nat) (p:Int × Int),c.prs[i]? = some p→p.2 < 40
def Col.lo (c:Col):Int:=(c.prs.headD (0,0)).1
def Col.hi (c:Col):Int:=(c.prs.getLastD (0,0)).2
def Col.b (c:Col):Int × Int:=(c.lo,c.hi)
theorem ColOk.first {c:Col} (h:ColOk c):∃ p,c.prs[0]? = some p∧p.1 = c.lo:=by
  have:=h.some_
  unfold Col.lo
  match c.prs,this with
  | p :: r,_=>exact ⟨p,rfl,rfl⟩
theorem ColOk.last {c:Col} (h:ColOk c):∃ p,c.prs[c.prs.length - 1]? = some p∧p.2 = c.hi:=by
  have:=h.some_
  unfold Col.hi
  generalize c.prs = l at this ⊢
  rcases List.eq_nil_or_concat l with rfl | ⟨l',x,rfl⟩
  · simp at this
  · exact ⟨x,by simp,by simp⟩
theorem ColOk.inn {c:Col} (h:ColOk c) {i:Nat} {p:Int × Int} (e:c.prs[i]? = some p):c.lo ≤ p.1∧p.2 ≤ c.hi:=by
  obtain ⟨p0,e0,f0⟩:=h.first
  obtain ⟨p1,e1,f1⟩:=h.last
  have hi:=(List.getElem?_eq_some_iff.mp e).1
  have a:=h.ch.mono e0 i p (by rw [Nat.zero_add]; exact e)
  have b:=h.ch.mono e (c.prs.length - 1 - i) p1 (by rw [show i + (c.prs.length - 1 - i) = c.prs.length - 1 by omega]; exact e1)
  omega
theorem ColOk.le {c:Col} (h:ColOk c):c.lo ≤ c.hi:=by
  obtain ⟨p0,e0,f0⟩:=h.first
  have:=h.inn e0
  have:=h.ch.le _ _ e0
  omega
structure Srt (ps:Prs):Prop where
  le:∀ (i:Nat) (p:Int × Int),ps[i]? = some p→p.1 ≤ p.2
  lt:∀ (i j:Nat) (p q:Int × Int),i < j→ps[i]? = some p→ps[j]? = some q→p.2 < q.1
structure SpOk (prs:Prs) (b n:Nat) (ps:Prs):Prop where
  srt:Srt ps
  iff:∀ x:Int,inP ps x = true↔∃ (k:Nat) (p:Int × Int),k < n∧prs[k]? = some p∧b.testBit k = true∧p.1 ≤ x∧x ≤ p.2
theorem inP_ex {ps:Prs} {x:Int} : inP ps x = true↔∃ (i:Nat) (p:Int × Int),ps[i]? = some p∧p.1 ≤ x∧x ≤ p.2:=by
  unfold inP inR
  rw [List.any_eq_true]
  constructor
  · rintro ⟨p,hp,e⟩
    obtain ⟨i,ei⟩:=List.getElem?_of_mem hp
    simp at e
    exact ⟨i,p,ei,e.1,e.2⟩
  · rintro ⟨i,p,e,h1,h2⟩
    exact ⟨p,List.mem_of_getElem? e,by simp [h1,h2]⟩
theorem Srt.snoc {ps:Prs} {a b:Int} (h:Srt ps) (hab:a ≤ b) (hl:∀ (i:Nat) (p:Int × Int),ps[i]? = some p→p.2 < a):Srt (ps ++ [(a,b)]):=by
  have at_:∀ (i:Nat) (p:Int × Int),(ps ++ [(a,b)])[i]? = some p→ps[i]? = some p∧i < ps.length∨p = (a,b)∧i = ps.length:=fun i p e=>by
    by_cases hi:i < ps.length
    · rw [List.getElem?_append_left hi] at e; exact .inl ⟨e,hi⟩
    · have:i = ps.length:=by have:=(List.getElem?_eq_some_iff.mp e).1; simp at this; omega
      subst this; simp at e; exact .inr ⟨e.symm,rfl⟩
  refine ⟨fun i p e=>?_,fun i j p q hij e f=>?_⟩
  · rcases at_ i p e with ⟨e,_⟩ | ⟨rfl,_⟩
    · exact h.le i p e
    · exact hab
  · rcases at_ i p e with ⟨e,hi⟩ | ⟨rfl,hi⟩
    · rcases at_ j q f with ⟨f,hj⟩ | ⟨rfl,hj⟩
      · exact h.lt i j p q hij e f
      · exact hl i p e
    · have:=(List.getElem?_eq_some_iff.mp f).1
      simp at this
      omega
theorem SpOk.nil {prs:Prs} {b:Nat} : SpOk prs b 0 []:=⟨⟨fun i p e=>by simp at e,fun i j p q _ e=>by simp at e⟩,fun x=>⟨(fun h=>by cases h),fun ⟨k,p,hk,_⟩=>absurd hk (by omega)⟩⟩
theorem SpOk.skip {prs ps:Prs} {b n:Nat} (h:SpOk prs b n ps) (hb:b.testBit n = false):SpOk prs b (n + 1) ps:=by
  refine ⟨h.srt,fun x=>(h.iff x).trans ⟨fun ⟨k,p,hk,r⟩=>⟨k,p,by omega,r⟩,fun ⟨k,p,hk,e,t,r⟩=>⟨k,p,?_,e,t,r⟩⟩⟩
  rcases Nat.lt_or_ge k n with z | z
  · exact z
  · have:k = n:=by omega
    subst this; rw [hb] at t; cases t
theorem SpOk.ahead {prs ps:Prs} {b n:Nat} (h:SpOk prs b n ps) (hc:Ch prs) {q:Int × Int} (e:prs[n]? = some q) {i:Nat} {p:Int × Int} (f:ps[i]? = some p):p.2 < q.1:=by
  have hle:=h.srt.le i p f
  obtain ⟨k,r,hk,er,_,r1,r2⟩:=(h.iff p.2).mp (inP_ex.mpr ⟨i,p,f,hle,Int.le_refl _⟩)
  have:=hc.lt er e hk
  omega
theorem SpOk.put {prs ps:Prs} {b n:Nat} (h:SpOk prs b n ps) (hc:Ch prs) (hb:b.testBit n = true) {q:Int × Int} (e:prs[n]? = some q):SpOk prs b (n + 1) (ps ++ [(q.1,q.2)]):=by
  refine ⟨h.srt.snoc (hc.le n q e) fun i p f=>h.ahead hc e f,fun x=>?_⟩
  have es:inP (ps ++ [(q.1,q.2)]) x = (inP ps x || inR x (q.1,q.2)):=by unfold inP; rw [List.any_append]; simp
  rw [es,Bool.or_eq_true,h.iff x]
  constructor
  · rintro (⟨k,p,hk,r⟩ | hr)
    · exact ⟨k,p,by omega,r⟩
    · unfold inR at hr
      simp at hr
      exact ⟨n,q,by omega,e,hb,hr.1,hr.2⟩
  · rintro ⟨k,p,hk,ep,t,r1,r2⟩
    rcases Nat.lt_or_ge k n with z | z
    · exact .inl ⟨k,p,z,ep,t,r1,r2⟩
    · have:k = n:=by omega
      subst this
      rw [e] at ep; cases ep
      exact .inr (by unfold inR; simp [r1,r2])
theorem SpOk.join {prs ps:Prs} {b n:Nat} {u:Int × Int} (h:SpOk prs b (n + 1) (ps ++ [u])) (hc:Ch prs) (hb:b.testBit (n + 1) = true) (hb0:b.testBit n = true) {p0 q:Int × Int} (e0:prs[n]? = some p0) (e:prs[n + 1]? = some q) (eu:u.2 = p0.2):SpOk prs b (n + 2) (ps ++ [(u.1,q.2)]):=by
  have hq:=hc.le _ q e
  have hn:=hc.nxt n p0 q e0 e
  have hu:=h.srt.le ps.length u (by simp)
  have hS:Srt ps:=by
    refine ⟨fun i p e=>h.srt.le i p ?_,fun i j p r hij e f=>h.srt.lt i j p r hij ?_ ?_⟩
    · rw [List.getElem?_append_left (List.getElem?_eq_some_iff.mp e).1]; exact e
    · rw [List.getElem?_append_left (List.getElem?_eq_some_iff.mp e).1]; exact e
    · rw [List.getElem?_append_left (List.getElem?_eq_some_iff.mp f).1]; exact f
  refine ⟨hS.snoc (by omega) fun i p f=>?_,fun x=>?_⟩
  · have hi:=(List.getElem?_eq_some_iff.mp f).1
    exact h.srt.lt i ps.length p u hi (by rw [List.getElem?_append_left hi]; exact f) (by simp)
  have es:∀ v:Int × Int,inP (ps ++ [v]) x = (inP ps x || inR x v):=fun v=>by unfold inP; rw [List.any_append]; simp
  have h1:=h.iff x
  rw [es u,Bool.or_eq_true] at h1
  rw [es (u.1,q.2),Bool.or_eq_true]
  have eR:inR x (u.1,q.2) = true↔u.1 ≤ x∧x ≤ q.2:=by unfold inR; simp
  have eU:inR x u = true↔u.1 ≤ x∧x ≤ u.2:=by unfold inR; simp
  rw [eU] at h1
  rw [eR]
  constructor
  · rintro (z | ⟨z1,z2⟩)
    · obtain ⟨k,p,hk,r⟩:=h1.mp (.inl z)
      exact ⟨k,p,by omega,r⟩
    · by_cases hx:x ≤ u.2
      · obtain ⟨k,p,hk,r⟩:=h1.mp (.inr ⟨z1,hx⟩)
        exact ⟨k,p,by omega,r⟩
      · exact ⟨n + 1,q,by omega,e,hb,by omega,z2⟩
  · rintro ⟨k,p,hk,ep,t,r1,r2⟩
    rcases Nat.lt_or_ge k (n + 1) with z | z
    · rcases h1.mpr ⟨k,p,z,ep,t,r1,r2⟩ with w | ⟨w1,w2⟩
      · exact .inl w
      · exact .inr ⟨w1,by omega⟩
    · have:k = n + 1:=by omega
      subst this
      rw [e] at ep; cases ep
      exact .inr ⟨by omega,r2⟩
theorem SpOk.lastAt {prs ps:Prs} {b n:Nat} (h:SpOk prs b (n + 1) ps) (hc:Ch prs) (hb:b.testBit n = true) {q:Int × Int} (e:prs[n]? = some q):∃ ps' u,ps = ps' ++ [u]∧u.2 = q.2:=by
  have hq:=hc.le _ q e
  obtain ⟨i,p,f,f1,f2⟩:=inP_ex.mp ((h.iff q.2).mpr ⟨n,q,by omega,e,hb,hq,Int.le_refl _⟩)
  rcases List.eq_nil_or_concat ps with rfl | ⟨ps',u,rfl⟩
  · simp at f
  · rw [List.concat_eq_append] at h f
    refine ⟨ps',u,List.concat_eq_append,?_⟩
    have eu:(ps' ++ [u])[ps'.length]? = some u:=by simp
    have hu:=h.srt.le _ _ eu
    have top:∀ x,inP (ps' ++ [u]) x = true→x ≤ q.2:=fun x hx=>by
      obtain ⟨k,r,hk,er,_,_,r2⟩:=(h.iff x).mp hx
      rcases Nat.lt_or_ge k n with z | z
      · have:=hc.lt er e z; omega
      · have:k = n:=by omega
        subst this; rw [e] at er; cases er; exact r2
    have t:=top u.2 (inP_ex.mpr ⟨_,u,eu,hu,Int.le_refl _⟩)
    have hi:=(List.getElem?_eq_some_iff.mp f).1
    rw [List.length_append,List.length_singleton] at hi
    rcases Nat.lt_or_ge i ps'.length with z | z
    · have:=h.srt.lt i ps'.length p u z f eu
      omega
    · have:i = ps'.length:=by omega
      subst this
      rw [show (ps' ++ [u])[ps'.length]? = some u by simp] at f
      cases f
      omega
theorem bit_and (b k:Nat):(decide (V.int (Builtin.bitAnd ((b:Int) / 2 ^ k) 1) = V.int 1)) = b.testBit k:=by
  have e:(b:Int) / 2 ^ k = ((b / 2 ^ k:Nat):Int):=by simp
  rw [e,PyProof.Rows.bitAnd_pp (Int.natCast_nonneg _) (by decide)]
  unfold Nat.testBit
  rw [Nat.shiftRight_eq_div_pow,Int.toNat_natCast,Nat.and_comm]
  show decide (V.int (((1:Int).toNat &&& (b / 2 ^ k):Nat):Int) = V.int 1) = _
  rw [show (1:Int).toNat = 1 from rfl]
  have h2:1 &&& (b / 2 ^ k) = (b / 2 ^ k) % 2:=by rw [Nat.and_comm]; exact Nat.and_one_is_mod _
  rw [h2]
  have h3:=Nat.mod_lt (b / 2 ^ k) (show 0 < 2 by decide)
  by_cases z:b / 2 ^ k % 2 = 1
  · rw [z]; decide
  · have z0:b / 2 ^ k % 2 = 0:=by omega
    rw [z0]; decide
def mrg (prs:Prs) (b:Nat):Nat→Prs
  | 0=>[]
  | n + 1=>if b.testBit n then (if (decide (0 < n) && b.testBit (n - 1)) then (mrg prs b n).dropLast ++ [(((mrg prs b n).getLastD (0,0)).1,(prs.getD n (0,0)).2)] else mrg prs b n ++ [prs.getD n (0,0)]) else mrg prs b n
theorem mrg_no {prs:Prs} {b n:Nat} (h:b.testBit n = false):mrg prs b (n + 1) = mrg prs b n:=by
  show (if b.testBit n then _ else _) = _
  rw [h]; rfl
theorem mrg_put {prs:Prs} {b n:Nat} {q:Int × Int} (h:b.testBit n = true) (hn:(decide (0 < n) && b.testBit (n - 1)) = false) (e:prs[n]? = some q):mrg prs b (n + 1) = mrg prs b n ++ [(q.1,q.2)]:=by
  show (if b.testBit n then _ else _) = _
  rw [h,if_pos rfl,hn,if_neg (by decide),List.getD_eq_getElem?_getD,e]
  rfl
theorem mrg_join {prs ps:Prs} {b n:Nat} {q u:Int × Int} (h:b.testBit (n + 1) = true) (h0:b.testBit n = true) (is:ps ++ [u] = mrg prs b (n + 1)) (e:prs[n + 1]? = some q):mrg prs b (n + 2) = ps ++ [(u.1,q.2)]:=by
  show (if b.testBit (n + 1) then (if (decide (0 < n + 1) && b.testBit (n + 1 - 1)) then (mrg prs b (n + 1)).dropLast ++ [(((mrg prs b (n + 1)).getLastD (0,0)).1,(prs.getD (n + 1) (0,0)).2)] else _) else _) = _
  rw [h,if_pos rfl,Nat.add_sub_cancel,h0,if_pos (by simp),← is,List.getD_eq_getElem?_getD,e]
  simp
abbrev BW:=List Nat × Int
def vN (bs:List Nat):List V:=bs.map fun b:Nat=>V.int (b:Int)
theorem vN_len (bs:List Nat):(vN bs).length = bs.length:=by unfold vN; rw [List.length_map]
theorem vN_at {bs:List Nat} {j b:Nat} (e:bs[j]? = some b):(vN bs)[j]? = some (.int (b:Int)):=by unfold vN; rw [List.getElem?_map,e]; rfl
theorem vN_of {bs:List Nat} {j:Nat} {x:V} (e:(vN bs)[j]? = some x):∃ b:Nat,x = .int (b:Int)∧bs[j]? = some b:=by
  unfold vN at e
  rw [List.getElem?_map] at e
  cases q:bs[j]? with
  | none=>rw [q] at e; cases e
  | some b=>rw [q] at e; cases e; exact ⟨b,rfl,rfl⟩
theorem vN_app (bs cs:List Nat):vN bs ++ vN cs = vN (bs ++ cs):=by unfold vN; rw [List.map_append]
def BRowA (N:Addr→Prop) (H:Hp) (r:Addr) (w:BW):Prop:=∃ bl,H r = some (.tup [.ref bl,.int w.2])∧N bl∧H bl = some (.lst (vN w.1))
theorem BRowA.same {N:Addr→Prop} {H H' : Hp} {r:Addr} {w:BW} (h:BRowA N H r w) (s:Same H H'):BRowA N H' r w:=let ⟨bl,e,n,f⟩:=h; ⟨bl,s _ _ e,n,s _ _ f⟩
theorem BRowA.wk {N N' : Addr→Prop} {H:Hp} {r:Addr} {w:BW} (h:BRowA N H r w) (k:∀ a,N a→N' a):BRowA N' H r w:=let ⟨bl,e,n,f⟩:=h; ⟨bl,e,k _ n,f⟩
theorem BRowA.updN {N:Addr→Prop} {D:Addr} {H:Hp} {r:Addr} {w:BW} {zs:List V} {o:HO} (h:BRowA N H r w) (n:¬ N D) (e:H D = some (.lst zs)):BRowA N (upd H D o) r w :=
  let ⟨bl,f,m,g⟩:=h
  ⟨bl,(upd_ne (ne_of f e (by intro z; cases z))).trans f,m,(upd_ne (fun z=>n (by rw [← z]; exact m))).trans g⟩
def BRL (N:Addr→Prop) (H:Hp) (xs:List V) (ws:List BW):Prop:=RefL xs ws (BRowA N H)
theorem BRL.same {N:Addr→Prop} {H H' : Hp} {xs:List V} {ws:List BW} (h:BRL N H xs ws) (s:Same H H'):BRL N H' xs ws:=RefL.mono h fun _ _ p=>p.same s
theorem BRL.wk {N N' : Addr→Prop} {H:Hp} {xs:List V} {ws:List BW} (h:BRL N H xs ws) (k:∀ a,N a→N' a):BRL N' H xs ws:=RefL.mono h fun _ _ p=>p.wk k
theorem BRL.updN {N:Addr→Prop} {D:Addr} {H:Hp} {xs:List V} {ws:List BW} {zs:List V} {o:HO} (h:BRL N H xs ws) (n:¬ N D) (e:H D = some (.lst zs)):BRL N (upd H D o) xs ws:=RefL.mono h fun _ _ p=>p.updN n e
structure BitOk (cs:List Col) (o:Col) (w:BW):Prop where
  len:w.1.length = cs.length
  lt:∀ (j b:Nat) (c:Col),w.1[j]? = some b→cs[j]? = some c→b < 2 ^ c.prs.length
  lo:o.lo ≤ w.2
  hi:w.2 ≤ o.hi
theorem cutTake (xs:List V) (k:Nat):cutV xs none (some (k:Int)) = xs.take k:=by
  unfold cutV
  have e:HT.sIx xs.length xs.length (some (k:Int)) = min k xs.length:=by
    simp only [HT.sIx]
    split <;> omega
  have e2:HT.sIx xs.length 0 none = 0:=by simp [HT.sIx]
  rw [e,e2,List.drop_zero,Nat.sub_zero]
  rcases Nat.le_total k xs.length with h | h
  · rw [Nat.min_eq_left h]
  · rw [Nat.min_eq_right h,List.take_length,List.take_of_length_le h]
theorem cutDrop (xs:List V) (k:Nat):cutV xs (some (k:Int)) none = xs.drop k:=by
  unfold cutV
  have e:HT.sIx xs.length 0 (some (k:Int)) = min k xs.length:=by
    simp only [HT.sIx]
    split <;> omega
  have e2:HT.sIx xs.length xs.length none = xs.length:=by simp [HT.sIx]
  rw [e,e2,← List.length_drop,List.take_length]
  rcases Nat.le_total k xs.length with h | h
  · rw [Nat.min_eq_left h]
  · rw [Nat.min_eq_right h,List.drop_length,List.drop_of_length_le h]
theorem vN_take (bs:List Nat) (k:Nat):(vN bs).take k = vN (bs.take k):=by unfold vN; rw [List.map_take]
theorem vN_drop (bs:List Nat) (k:Nat):(vN bs).drop k = vN (bs.drop k):=by unfold vN; rw [List.map_drop]
theorem set_is {bs:List Nat} {k:Nat} (h:k < bs.length) (x:Nat):bs.take k ++ [x] ++ bs.drop (k + 1) = bs.set k x:=by
  rw [List.set_eq_take_append_cons_drop,if_pos h]; simp
theorem four {e v:Int} (he:0 < e) (hv:0 ≤ v) {m:Int} : ∃ b:Nat,atI [V.int (v % (e + 1)),.int (v % (e + 1)),.int e,.int (v % e)] (m % 4) = some (.int (b:Int))∧(b:Int) ≤ e:=by
  have h0:=Int.emod_nonneg m (show (4:Int) ≠ 0 by decide)
  have h1:=Int.emod_lt_of_pos m (show (0:Int) < 4 by decide)
  have a0:=Int.emod_nonneg v (show e + 1 ≠ 0 by omega)
  have a1:=Int.emod_lt_of_pos v (show 0 < e + 1 by omega)
  have b0:=Int.emod_nonneg v (show e ≠ 0 by omega)
  have b1:=Int.emod_lt_of_pos v he
  generalize m % 4 = k at h0 h1 ⊢
  generalize v % (e + 1) = x at a0 a1 ⊢
  generalize v % e = y at b0 b1 ⊢
  have:k = 0∨k = 1∨k = 2∨k = 3:=by omega
  rcases this with rfl | rfl | rfl | rfl
  · exact ⟨x.toNat,by rw [Int.toNat_of_nonneg a0]; rfl,by omega⟩
  · exact ⟨x.toNat,by rw [Int.toNat_of_nonneg a0]; rfl,by omega⟩
  · exact ⟨e.toNat,by rw [Int.toNat_of_nonneg (by omega)]; rfl,by omega⟩
  · exact ⟨y.toNat,by rw [Int.toNat_of_nonneg b0]; rfl,by omega⟩
theorem end2 {p:Int × Int} {m:Int} : ∃ x:Int,atI [V.int p.1,V.int p.2] (m % 2) = some (.int x)∧(x = p.1∨x = p.2):=by
  have h0:=Int.emod_nonneg m (show (2:Int) ≠ 0 by decide)
  have h1:=Int.emod_lt_of_pos m (show (0:Int) < 2 by decide)
  generalize m % 2 = k at h0 h1 ⊢
  have:k = 0∨k = 1:=by omega
  rcases this with rfl | rfl
  · exact ⟨_,rfl,.inl rfl⟩
  · exact ⟨_,rfl,.inr rfl⟩
theorem pl_at {H:Hp} {ts:List V} {ps:Prs} (h:PL H ts ps) {i:Int} (h0:0 ≤ i) (h1:i < ((ts.length:Nat):Int)):∃ r p,atI ts i = some (.ref r)∧ps[i.toNat]? = some p∧H r = some (.tup [.int p.1,.int p.2]):=by
  obtain ⟨x,ex⟩:∃ x,ts[i.toNat]? = some x:=⟨_,List.getElem?_eq_getElem (by omega)⟩
  obtain ⟨p,r,f1,rfl,f2⟩:=h.get ex
  have:=atI_nat ex
  rw [Int.toNat_of_nonneg h0] at this
  exact ⟨r,p,this,f1,f2⟩
structure RwOf (cs:List Col) (w:BW) (x:Rw):Prop where
  code:x.2 = w.2
  len:x.1.length = cs.length
  sp:∀ (j:Nat) (ps:Prs) (c:Col) (b:Nat),x.1[j]? = some ps→cs[j]? = some c→w.1[j]? = some b→SpOk c.prs b c.prs.length ps
  is:∀ (j:Nat) (ps:Prs) (c:Col) (b:Nat),x.1[j]? = some ps→cs[j]? = some c→w.1[j]? = some b→ps = mrg c.prs b c.prs.length
def RwsOf (cs:List Col) (ws:List BW) (rws:List Rw):Prop:=rws.length = ws.length∧∀ (k:Nat) (w:BW) (x:Rw),ws[k]? = some w→rws[k]? = some x→RwOf cs w x
theorem RwsOf.nil {cs:List Col} : RwsOf cs [] []:=⟨rfl,fun k w x e=>by simp at e⟩
theorem RwsOf.snoc {cs:List Col} {ws:List BW} {rws:List Rw} {w:BW} {x:Rw} (h:RwsOf cs ws rws) (hx:RwOf cs w x):RwsOf cs (ws ++ [w]) (rws ++ [x]):=by
  refine ⟨by simp [h.1],fun k w' x' e f=>?_⟩
  by_cases hk:k < ws.length
  · rw [List.getElem?_append_left hk] at e
    rw [List.getElem?_append_left (by rw [h.1]; exact hk)] at f
    exact h.2 k w' x' e f
  · have hk2:k = ws.length:=by have:=(List.getElem?_eq_some_iff.mp e).1; simp at this; omega
    subst hk2
    simp at e
    subst e
    rw [← h.1] at f
    simp at f
    subst f
    exact hx
theorem RwOf.rowOk {cs:List Col} {oc:Col} {w:BW} {x:Rw} (h:RwOf cs w x) (hb:BitOk cs oc w) (hok:∀ c ∈ cs,ColOk c):RowOk (cs.map Col.b) oc.b x:=by
  refine ⟨by rw [h.len,List.length_map],fun j ps b e f p hp=>?_,by rw [h.code]; exact hb.lo,by rw [h.code]; exact hb.hi⟩
  rw [List.getElem?_map] at f
  cases ec:cs[j]? with
  | none=>rw [ec] at f; cases f
  | some c =>
    rw [ec] at f
    cases f
    have ok:=hok c (List.mem_of_getElem? ec)
    obtain ⟨bt,eb⟩:∃ bt,w.1[j]? = some bt:=⟨_,List.getElem?_eq_getElem (by rw [hb.len]; exact (List.getElem?_eq_some_iff.mp ec).1)⟩
    have so:=h.sp j ps c bt e ec eb
    obtain ⟨i,ei⟩:=List.getElem?_of_mem hp
    have hle:=so.srt.le i p ei
    obtain ⟨k1,p1,_,e1,_,r1,_⟩:=(so.iff p.1).mp (inP_ex.mpr ⟨i,p,ei,Int.le_refl _,hle⟩)
    obtain ⟨k2,p2,_,e2,_,_,r2⟩:=(so.iff p.2).mp (inP_ex.mpr ⟨i,p,ei,hle,Int.le_refl _⟩)
    have i1:=ok.inn e1
    have i2:=ok.inn e2
    show c.lo ≤ p.1∧p.2 ≤ c.hi
    omega
theorem RwsOf.rowOk {cs:List Col} {oc:Col} {ws:List BW} {rws:List Rw} (h:RwsOf cs ws rws) (hb:∀ w ∈ ws,BitOk cs oc w) (hok:∀ c ∈ cs,ColOk c):∀ x ∈ rws,RowOk (cs.map Col.b) oc.b x:=fun x hx=>by
  obtain ⟨k,ek⟩:=List.getElem?_of_mem hx
  obtain ⟨w,ew⟩:∃ w,ws[k]? = some w:=⟨_,List.getElem?_eq_getElem (by rw [← h.1]; exact (List.getElem?_eq_some_iff.mp ek).1)⟩
  exact (h.2 k w x ew ek).rowOk (hb w (List.mem_of_getElem? ew)) hok
def grow (pts:List (List Nat)) (n:Nat):List (List Nat):=pts.flatMap fun p=>(List.range n).map fun k=>p ++ [k]
def prodP (ls:List Nat):List (List Nat):=ls.foldl grow [[]]
theorem prodP_snoc (ls:List Nat) (n:Nat):prodP (ls ++ [n]) = grow (prodP ls) n:=by unfold prodP; rw [List.foldl_append]; rfl
theorem mem_grow {pts:List (List Nat)} {n:Nat} {q:List Nat} : q ∈ grow pts n↔∃ p ∈ pts,∃ k,k < n∧q = p ++ [k]:=by
  unfold grow
  rw [List.mem_flatMap]
  constructor
  · rintro ⟨p,hp,h⟩
    obtain ⟨k,hk,rfl⟩:=List.mem_map.mp h
    exact ⟨p,hp,k,List.mem_range.mp hk,rfl⟩
  · rintro ⟨p,hp,k,hk,rfl⟩
    exact ⟨p,hp,List.mem_map.mpr ⟨k,List.mem_range.mpr hk,rfl⟩⟩
theorem grow_take {pts:List (List Nat)} {n a:Nat} {p:List Nat} (e:pts[a]? = some p):grow (pts.take (a + 1)) n = grow (pts.take a) n ++ (List.range n).map fun k=>p ++ [k]:=by
  unfold grow
  rw [take_snoc e,List.flatMap_append]
  simp
theorem grow_len (pts:List (List Nat)) (n:Nat):(grow pts n).length = pts.length * n:=by
  unfold grow
  induction pts with
  | nil=>simp
  | cons p pts ih=>rw [List.flatMap_cons,List.length_append,ih,List.length_map,List.length_range,List.length_cons,Nat.succ_mul]; omega
def PtOk (ls:List Nat) (p:List Nat):Prop:=p.length = ls.length∧∀ (j a m:Nat),p[j]? = some a→ls[j]? = some m→a < m
theorem mem_prodP:∀ {r ls:List Nat} (_:ls.reverse = r) {p:List Nat},p ∈ prodP ls↔PtOk ls p
  | [],ls,h,p=>by
    have:ls = []:=List.reverse_eq_nil_iff.mp h
    subst this
    show p ∈ [[]]↔_
    rw [List.mem_singleton]
    constructor
    · rintro rfl; exact ⟨rfl,fun j a m e=>by simp at e⟩
    · rintro ⟨h,_⟩; exact List.length_eq_zero_iff.mp h
  | n :: r,ls,h,p=>by
    have e:ls = r.reverse ++ [n]:=by rw [← List.reverse_reverse ls,h,List.reverse_cons]
    subst e
    rw [prodP_snoc,mem_grow]
    have ih:∀ {p:List Nat},p ∈ prodP r.reverse↔PtOk r.reverse p:=mem_prodP (List.reverse_reverse r)
    constructor
    · rintro ⟨q,hq,k,hk,rfl⟩
      obtain ⟨l1,l2⟩:=ih.mp hq
      refine ⟨by rw [List.length_append,List.length_append,l1]; rfl,fun j a m f g=>?_⟩
      by_cases hj:j < q.length
      · rw [List.getElem?_append_left hj] at f
        rw [List.getElem?_append_left (by rw [← l1]; exact hj)] at g
        exact l2 j a m f g
      · have:j = q.length:=by have:=(List.getElem?_eq_some_iff.mp f).1; simp at this; omega
        subst this
        simp at f
        subst f
        rw [l1] at g
        simp at g
        subst g
        exact hk
    · rintro ⟨l1,l2⟩
      rw [List.length_append,List.length_singleton] at l1
      rcases List.eq_nil_or_concat p with rfl | ⟨q,k,rfl⟩
      · simp at l1
      · rw [List.concat_eq_append] at l1 l2 ⊢
        rw [List.length_append,List.length_singleton] at l1
        have lq:q.length = r.reverse.length:=by omega
        refine ⟨q,ih.mpr ⟨lq,fun j a m f g=>?_⟩,k,?_,rfl⟩
        · refine l2 j a m ?_ ?_
          · rw [List.getElem?_append_left (List.getElem?_eq_some_iff.mp f).1]; exact f
          · rw [List.getElem?_append_left (List.getElem?_eq_some_iff.mp g).1]; exact g
        · refine l2 q.length k n (by simp) ?_
          rw [lq]; simp
theorem PtOk.iff {ls p:List Nat} : p ∈ prodP ls↔PtOk ls p:=mem_prodP rfl
def PtL (N:Addr→Prop) (H:Hp) (xs:List V) (pts:List (List Nat)):Prop:=RefL xs pts fun r p=>N r∧H r = some (.lst (vN p))
theorem PtL.same {N:Addr→Prop} {H H' : Hp} {xs:List V} {pts:List (List Nat)} (h:PtL N H xs pts) (s:Same H H'):PtL N H' xs pts:=RefL.mono h fun _ _ p=>⟨p.1,s _ _ p.2⟩
theorem PtL.updN {N:Addr→Prop} {D:Addr} {H:Hp} {xs:List V} {pts:List (List Nat)} {o:HO} (h:PtL N H xs pts) (n:¬ N D):PtL N (upd H D o) xs pts:=RefL.mono h fun _ _ p=>⟨p.1,(upd_ne (fun z=>n (by rw [← z]; exact p.1))).trans p.2⟩
theorem PtL.any {N:Addr→Prop} {H:Hp} {xs:List V} {pts:List (List Nat)} (h:PtL N H xs pts):PtL NT H xs pts:=RefL.mono h fun _ _ p=>⟨trivial,p.2⟩
theorem small2000 {n:Nat} (h:n ≤ 2000):n < sizeLine:=Nat.lt_of_le_of_lt h (by decide)
def lens (cs:List Col):List Nat:=cs.map fun c=>c.prs.length
def AtP (cs:List Col) (p:List Nat) (cd:List Int):Prop:=cd.length = cs.length∧∀ (j:Nat) (x:Int) (c:Col) (a:Nat),cd[j]? = some x→cs[j]? = some c→p[j]? = some a→∃ pr,c.prs[a]? = some pr∧(x = pr.1∨x = pr.2)
def bfit (bs p:List Nat):Bool:=(List.range p.length).all fun j=>(bs.getD j 0).testBit (p.getD j 0)
theorem bfit_iff {bs p:List Nat} (hl:bs.length = p.length):bfit bs p = true↔∀ (j a b:Nat),p[j]? = some a→bs[j]? = some b→b.testBit a = true:=by
  unfold bfit
  rw [List.all_eq_true]
  constructor
  · intro h j a b e f
    have:=h j (List.mem_range.mpr (List.getElem?_eq_some_iff.mp e).1)
    rw [List.getD_eq_getElem?_getD,List.getD_eq_getElem?_getD,e,f] at this
    exact this
  · intro h j hj
    have hj:=List.mem_range.mp hj
    have e:=List.getElem?_eq_getElem hj
    have f:=List.getElem?_eq_getElem (l:=bs) (i:=j) (by omega)
    rw [List.getD_eq_getElem?_getD,List.getD_eq_getElem?_getD,e,f]
    exact h j _ _ e f
theorem SpOk.atPair {prs ps:Prs} {b:Nat} (h:SpOk prs b prs.length ps) (hc:Ch prs) {a:Nat} {pr:Int × Int} (e:prs[a]? = some pr) {x:Int} (h1:pr.1 ≤ x) (h2:x ≤ pr.2):inP ps x = true↔b.testBit a = true:=by
  rw [h.iff x]
  constructor
  · rintro ⟨k,p,hk,ep,t,r1,r2⟩
    rcases Nat.lt_trichotomy k a with z | z | z
    · have:=hc.lt ep e z; omega
    · subst z; exact t
    · have:=hc.lt e ep z; omega
  · intro t
    exact ⟨a,pr,(List.getElem?_eq_some_iff.mp e).1,e,t,h1,h2⟩
theorem lens_len (cs:List Col):(lens cs).length = cs.length:=by unfold lens; rw [List.length_map]
theorem rfit_eq {cs:List Col} {oc:Col} {w:BW} {x:Rw} {p:List Nat} {cd:List Int} (h:RwOf cs w x) (hb:BitOk cs oc w) (hok:∀ c ∈ cs,ColOk c) (hp:PtOk (lens cs) p) (hc:AtP cs p cd):rfit x.1 cd = bfit w.1 p:=by
  have lp:p.length = cs.length:=by rw [hp.1,lens_len]
  rw [Bool.eq_iff_iff,bfit_iff (by rw [hb.len,lp])]
  unfold rfit
  rw [List.all_eq_true]
  have key:∀ (j a b:Nat),p[j]? = some a→w.1[j]? = some b→∀ z,cd[j]? = some z→(inP (x.1.getD j []) z = true↔b.testBit a = true):=fun j a b ep ew z ez=>by
    have hj:j < cs.length:=by rw [← lp]; exact (List.getElem?_eq_some_iff.mp ep).1
    have ec:=List.getElem?_eq_getElem hj
    have ex:=List.getElem?_eq_getElem (l:=x.1) (i:=j) (by rw [h.len]; exact hj)
    have ok:=hok _ (List.mem_of_getElem? ec)
    obtain ⟨pr,e1,e2⟩:=hc.2 j z _ a ez ec ep
    have hle:=ok.ch.le _ _ e1
    rw [List.getD_eq_getElem?_getD,ex]
    exact (h.sp j _ _ b ex ec ew).atPair ok.ch e1 (by rcases e2 with rfl | rfl <;> omega) (by rcases e2 with rfl | rfl <;> omega)
  constructor
  · intro hh j a b ep ew
    have hj:j < cd.length:=by rw [hc.1,← lp]; exact (List.getElem?_eq_some_iff.mp ep).1
    have ez:=List.getElem?_eq_getElem hj
    have:=hh j (List.mem_range.mpr hj)
    rw [List.getD_eq_getElem?_getD (l:=cd),ez] at this
    exact (key j a b ep ew _ ez).mp this
  · intro hh j hj
    have hj:=List.mem_range.mp hj
    have ez:=List.getElem?_eq_getElem hj
    have ep:=List.getElem?_eq_getElem (l:=p) (i:=j) (by rw [lp,← hc.1]; exact hj)
    have ew:=List.getElem?_eq_getElem (l:=w.1) (i:=j) (by rw [hb.len,← hc.1]; exact hj)
    rw [List.getD_eq_getElem?_getD (l:=cd),ez]
    exact (key j _ _ ep ew _ ez).mpr (hh j _ _ ep ew)
def bF (ws:List BW) (p:List Nat) (k:Nat):Bool:=bfit (ws.getD k ([],0)).1 p
def cnt (ws:List BW) (p:List Nat):List Nat:=(List.range ws.length).filter (bF ws p)
theorem most4 {h:Int} : ∃ v:Int,atI [V.int 6,.int 4,.int 3,.int 2] (1 + h % 4 - 1) = some (.int v)∧1 ≤ v∧v ≤ 6:=by
  have h0:=Int.emod_nonneg h (show (4:Int) ≠ 0 by decide)
  have h1:=Int.emod_lt_of_pos h (show (0:Int) < 4 by decide)
  generalize h % 4 = k at h0 h1 ⊢
  have:k = 0∨k = 1∨k = 2∨k = 3:=by omega
  rcases this with rfl | rfl | rfl | rfl
  · exact ⟨_,rfl,by decide,by decide⟩
  · exact ⟨_,rfl,by decide,by decide⟩
  · exact ⟨_,rfl,by decide,by decide⟩
  · exact ⟨_,rfl,by decide,by decide⟩
def DomX (cN cW:Addr) (H:Hp) (a:Addr) (c:Col):Prop:=(c.w = false∧∃ dx fs,H a = some (.ins cN dx fs)∧fs.lookup (Str.ofString "low") = some (.int c.lo)∧fs.lookup (Str.ofString "high") = some (.int c.hi)∧fs.lookup (Str.ofString "has_code") = none) ∨
  (c.w = true∧∃ dx fs l,H a = some (.ins cW dx fs)∧fs.lookup (Str.ofString "low") = some (.int c.lo)∧fs.lookup (Str.ofString "high") = some (.int c.hi)∧fs.lookup (Str.ofString "has_code") = none∧fs.lookup (Str.ofString "words") = some (.ref l)∧H l = some (.lst ((wds c.sd (c.hi + 1).toNat).map V.str)))
theorem DomX.same {cN cW:Addr} {H H' : Hp} {a:Addr} {c:Col} (h:DomX cN cW H a c) (s:Same H H'):DomX cN cW H' a c:=by
  rcases h with ⟨w,dx,fs,e,r⟩ | ⟨w,dx,fs,l,e,r1,r2,r3,r4,r5⟩
  · exact .inl ⟨w,dx,fs,s _ _ e,r⟩
  · exact .inr ⟨w,dx,fs,l,s _ _ e,r1,r2,r3,r4,s _ _ r5⟩
theorem DomX.dom {cN cW:Addr} {H:Hp} {a:Addr} {c:Col} (h:DomX cN cW H a c):Dom cN cW H a c.b:=by
  rcases h with ⟨w,dx,fs,e,r1,r2,r3⟩ | ⟨w,dx,fs,l,e,r1,r2,r3,_⟩
  · exact ⟨cN,.inl rfl,dx,fs,e,r1,r2,r3⟩
  · exact ⟨cW,.inr rfl,dx,fs,e,r1,r2,r3⟩
def prm {α:Type} (os:List Nat) (xs:List α):List α:=os.filterMap (xs[·]?)
structure Pm (os:List Nat) (n:Nat):Prop where
  len:os.length = n
  lt:∀ k ∈ os,k < n
  nd:os.Nodup
  all:∀ k,k < n→k ∈ os
theorem prm_cons {α:Type} {o:Nat} {os:List Nat} {xs:List α} (h:o < xs.length):prm (o :: os) xs = xs[o] :: prm os xs:=by
  unfold prm
  rw [List.filterMap_cons,List.getElem?_eq_getElem h]
theorem prm_get {α:Type} : ∀ {os:List Nat} {xs:List α},(∀ k ∈ os,k < xs.length)→(prm os xs).length = os.length∧∀ (j k:Nat),os[j]? = some k→(prm os xs)[j]? = xs[k]?
  | [],xs,_=>⟨rfl,fun j k e=>by simp at e⟩
  | o :: os,xs,h=>by
    obtain ⟨h1,h2⟩:=prm_get (os:=os) (xs:=xs) fun k hk=>h k (List.mem_cons_of_mem _ hk)
    have ho:=h o List.mem_cons_self
    rw [prm_cons ho]
    refine ⟨by rw [List.length_cons,List.length_cons,h1],fun j k f=>?_⟩
    match j,f with
    | 0,f =>
      have:o = k:=by simpa using f
      subst this
      rw [List.getElem?_eq_getElem ho]; rfl
    | j + 1,f=>exact h2 j k (by simpa using f)
theorem prm_snoc {α:Type} {os:List Nat} {k:Nat} {xs:List α} {x:α} (e:xs[k]? = some x):prm (os ++ [k]) xs = prm os xs ++ [x]:=by
  unfold prm
  rw [List.filterMap_append]
  simp [e]
theorem mem_prm {α:Type} {os:List Nat} {xs:List α} {x:α} (h:x ∈ prm os xs):x ∈ xs:=by
  unfold prm at h
  obtain ⟨k,_,e⟩:=List.mem_filterMap.mp h
  exact List.mem_of_getElem? e
theorem nd_ix {α:Type} {xs:List α} (h:xs.Nodup) {i j:Nat} {x:α} (e:xs[i]? = some x) (f:xs[j]? = some x):i = j:=by
  obtain ⟨hi,ei⟩:=List.getElem?_eq_some_iff.mp e
  obtain ⟨hj,ej⟩:=List.getElem?_eq_some_iff.mp f
  have p:=List.pairwise_iff_getElem.mp (List.nodup_iff_pairwise_ne.mp h)
  rcases Nat.lt_trichotomy i j with q | q | q
  · exact absurd (ei.trans ej.symm) (p i j hi hj q)
  · exact q
  · exact absurd (ej.trans ei.symm) (p j i hj hi q)
theorem prm_nodup {α:Type} {os:List Nat} {xs:List α} (ho:os.Nodup) (hx:xs.Nodup) (hl:∀ k ∈ os,k < xs.length):(prm os xs).Nodup:=by
  induction os with
  | nil=>exact List.nodup_nil
  | cons o os ih =>
    rw [List.nodup_cons] at ho
    have hi:=ih ho.2 fun k hk=>hl k (List.mem_cons_of_mem _ hk)
    have h0:=hl o List.mem_cons_self
    rw [prm_cons h0,List.nodup_cons]
    refine ⟨fun hm=>?_,hi⟩
    unfold prm at hm
    obtain ⟨k,hk,f⟩:=List.mem_filterMap.mp hm
    have:k = o:=nd_ix hx f (List.getElem?_eq_getElem h0)
    subst this
    exact ho.1 hk
def TF (cT:Addr) (H:Hp) (t:Addr) (nm wy:Str) (ou:Addr) (zs:List Str) (dv:List V) (rws:List Rw):Prop:=∃ (rl dx na dl:Addr) (fs:List (Str × V)) (xs:List V),H t = some (.ins cT dx fs)∧fs.lookup (Str.ofString "rows") = some (.ref rl)∧fs.lookup (Str.ofString "name") = some (.str nm)∧fs.lookup (Str.ofString "way") = some (.str wy)∧fs.lookup (Str.ofString "outcome") = some (.ref ou)∧fs.lookup (Str.ofString "names") = some (.ref na)∧fs.lookup (Str.ofString "domains") = some (.ref dl)∧H na = some (.lst (zs.map V.str))∧H dl = some (.lst dv)∧H rl = some (.lst xs)∧RL NT H xs rws∧xs.length ≤ 200
theorem TF.same {cT:Addr} {H H' : Hp} {t:Addr} {nm wy:Str} {ou:Addr} {zs:List Str} {dv:List V} {rws:List Rw} (h:TF cT H t nm wy ou zs dv rws) (s:Same H H'):TF cT H' t nm wy ou zs dv rws :=
  let ⟨rl,dx,na,dl,fs,xs,h1,h2,h3,h4,h5,h6,h7,h8,h9,h10,h11,r⟩:=h
  ⟨rl,dx,na,dl,fs,xs,s _ _ h1,h2,h3,h4,h5,h6,h7,s _ _ h8,s _ _ h9,s _ _ h10,h11.same s,r⟩
theorem TF.tbl {cT cN cW:Addr} {H:Hp} {t:Addr} {nm wy:Str} {ou:Addr} {zs:List Str} {dv:List V} {rws:List Rw} {i:Nat} {o:Int × Int} (h:TF cT H t nm wy ou zs dv rws) (hi:six[i]? = some wy) (ho:Dom cN cW H ou o) (hl:o.1 ≤ o.2):Tbl cT cN cW H t rws i o :=
  let ⟨rl,dx,_,_,fs,xs,h1,h2,_,h4,h5,_,_,_,_,h10,h11,h12⟩:=h
  ⟨rl,ou,dx,fs,xs,wy,h1,h2,h4,h5,h10,h11,hi,ho,hl,h12⟩
def trn (os:List Nat) (x:Rw):Rw:=(prm os x.1,x.2)
structure TOk (cN cW:Addr) (H:Hp) (nm wy:Str) (ou:Addr) (zs:List Str) (dv:List V) (rws:List Rw) (bs:Prs) (o:Int × Int):Prop where
  words:∀ z ∈ nm :: zs,isw z = true
  once:(nm :: zs).Nodup
  one:1 ≤ zs.length
  four:zs.length ≤ 4
  way:wy ∈ six
  sum:wy = Str.ofString "sum" → ∃ dx fs,H ou = some (.ins cN dx fs)
  doms:RefL dv bs (Dom cN cW H)
  out:Dom cN cW H ou o
  len:bs.length = zs.length
  rows:∀ w ∈ rws,RowOk bs o w
  few:rws.length ≤ 200
theorem TOk.same {cN cW:Addr} {H H' : Hp} {nm wy:Str} {ou:Addr} {zs:List Str} {dv:List V} {rws:List Rw} {bs:Prs} {o:Int × Int} (h:TOk cN cW H nm wy ou zs dv rws bs o) (s:Same H H'):TOk cN cW H' nm wy ou zs dv rws bs o :=
  ⟨h.words,h.once,h.one,h.four,h.way,fun z=>let ⟨dx,fs,e⟩:=h.sum z; ⟨dx,fs,s _ _ e⟩,RefL.mono h.doms fun _ _ p=>p.same s,h.out.same s,h.len,h.rows,h.few⟩
theorem RefL.prm {α:Type} {xs:List V} {as:List α} {P:Addr→α→Prop} (h:RefL xs as P) {os:List Nat} (hl:∀ k ∈ os,k < as.length):RefL (My.prm os xs) (My.prm os as) P:=by
  have g1:=prm_get (xs:=xs) (os:=os) (fun k hk=>by rw [h.1]; exact hl k hk)
  have g2:=prm_get (xs:=as) (os:=os) hl
  refine ⟨by rw [g1.1,g2.1],fun j a e=>?_⟩
  have hj:j < os.length:=by rw [← g2.1]; exact (List.getElem?_eq_some_iff.mp e).1
  have ek:=List.getElem?_eq_getElem hj
  rw [g2.2 j _ ek] at e
  obtain ⟨r,e1,p⟩:=h.2 _ a e
  exact ⟨r,by rw [g1.2 j _ ek]; exact e1,p⟩
theorem RowOk.trn {bs:Prs} {o:Int × Int} {x:Rw} (h:RowOk bs o x) {os:List Nat} (hl:∀ k ∈ os,k < bs.length):RowOk (prm os bs) o (My.trn os x):=by
  have g1:=prm_get (xs:=x.1) (os:=os) (fun k hk=>by rw [h.len]; exact hl k hk)
  have g2:=prm_get (xs:=bs) (os:=os) hl
  refine ⟨by show (prm os x.1).length = _; rw [g1.1,g2.1],fun j ps b e f=>?_,h.lo,h.hi⟩
  have e:(prm os x.1)[j]? = some ps:=e
  have hj:j < os.length:=by rw [← g1.1]; exact (List.getElem?_eq_some_iff.mp e).1
  have ek:=List.getElem?_eq_getElem hj
  rw [g1.2 j _ ek] at e
  rw [g2.2 j _ ek] at f
  exact h.inn _ ps b e f
theorem TOk.trn {cN cW:Addr} {H:Hp} {nm wy:Str} {ou:Addr} {zs:List Str} {dv:List V} {rws:List Rw} {bs:Prs} {o:Int × Int} (h:TOk cN cW H nm wy ou zs dv rws bs o) {os:List Nat} (hp:Pm os zs.length):TOk cN cW H nm wy ou (prm os zs) (prm os dv) (rws.map (My.trn os)) (prm os bs) o:=by
  have hl:=prm_get (xs:=zs) (os:=os) hp.lt
  have hlb:∀ k ∈ os,k < bs.length:=fun k hk=>by rw [h.len]; exact hp.lt k hk
  have hl2:=prm_get (xs:=bs) (os:=os) hlb
  have hn:=List.nodup_cons.mp h.once
  refine ⟨fun z hz=>?_,List.nodup_cons.mpr ⟨fun hm=>hn.1 (mem_prm hm),prm_nodup hp.nd hn.2 hp.lt⟩,by rw [hl.1,hp.len]; exact h.one,by rw [hl.1,hp.len]; exact h.four,h.way,h.sum,h.doms.prm hlb,h.out,by rw [hl2.1,hl.1],fun w hw=>?_,by rw [List.length_map]; exact h.few⟩
  · rcases List.mem_cons.mp hz with rfl | hz
    · exact h.words _ List.mem_cons_self
    · exact h.words z (List.mem_cons_of_mem _ (mem_prm hz))
  · obtain ⟨x,hx,rfl⟩:=List.mem_map.mp hw
    exact (h.rows x hx).trn hlb
theorem hide_upd {H:Hp} {D:Addr} {o:HO} : hide (upd H D o) D = hide H D:=by
  funext b
  unfold hide
  by_cases h:b = D
  · rw [if_pos h,if_pos h]
  · rw [if_neg h,if_neg h,upd_ne h]
theorem hide_mono {H H' : Hp} {D:Addr} (s:Same H H'):Same (hide H D) (hide H' D):=fun b o e=>by
  unfold hide at e ⊢
  by_cases h:b = D
  · rw [if_pos h] at e; cases e
  · rw [if_neg h] at e ⊢; exact s b o e
theorem hide_le (H:Hp) (D:Addr):Same (hide H D) H:=fun b o e=>by
  unfold hide at e
  by_cases h:b = D
  · rw [if_pos h] at e; cases e
  · rw [if_neg h] at e; exact e
theorem DomX.hide {cN cW:Addr} {H:Hp} {a D:Addr} {c:Col} {zs:List V} (h:DomX cN cW H a c) (e:H D = some (.lst zs)) (hz:∀ x ∈ zs,∃ r,x = .ref r) (hn:c.w = true→0 ≤ c.hi):DomX cN cW (My.hide H D) a c:=by
  rcases h with ⟨w,dx,fs,e1,r⟩ | ⟨w,dx,fs,l,e1,r1,r2,r3,r4,r5⟩
  · exact .inl ⟨w,dx,fs,hide_of e1 (ne_of e1 e (by intro z; cases z)),r⟩
  · refine .inr ⟨w,dx,fs,l,hide_of e1 (ne_of e1 e (by intro z; cases z)),r1,r2,r3,r4,hide_of r5 fun z=>?_⟩
    rw [z,e] at r5
    injection r5 with r5
    injection r5 with r5
    have h0:=hn w
    have hl:0 < (wds c.sd (c.hi + 1).toNat).length:=by unfold wds; simp; omega
    obtain ⟨r,hr⟩:=hz (.str (wds c.sd (c.hi + 1).toNat)[0]) (by rw [r5]; exact List.mem_map.mpr ⟨_,List.getElem_mem hl,rfl⟩)
    cases hr
theorem hide_keep {H H' : Hp} {D:Addr} (s:Same H H') (n:H D = none):Same H (hide H' D):=fun b o e=>hide_of (s b o e) (ne_of_none e n)
def pc (ws:List BW) (p:List Nat):List Int:=(ws.filter fun w=>bfit w.1 p).map (·.2)
theorem pc_snoc (ws:List BW) (w:BW) (p:List Nat):pc (ws ++ [w]) p = pc ws p ++ (if bfit w.1 p then [w.2] else []):=by
  unfold pc
  rw [List.filter_append,List.map_append]
  cases h:bfit w.1 p <;> simp [List.filter_cons,h]
theorem pc_len (ws:List BW) (p:List Nat):(pc ws p).length ≤ ws.length:=by
  unfold pc
  rw [List.length_map]
  exact List.length_filter_le ..
theorem sne {a b:Str} (h:a ≠ b):¬ (V.str a = V.str b):=fun e=>by injection e with e; exact h e
theorem RwOf.eq {cs:List Col} {w:BW} {x x' : Rw} (h:RwOf cs w x) (h' : RwOf cs w x') (hl:w.1.length = cs.length):x = x':=by
  have e2:x.2 = x'.2:=by rw [h.code,h'.code]
  have e1:x.1 = x'.1:=by
    refine List.ext_getElem? fun j=>?_
    by_cases hj:j < cs.length
    · have ex:=List.getElem?_eq_getElem (l:=x.1) (i:=j) (by rw [h.len]; exact hj)
      have ex':=List.getElem?_eq_getElem (l:=x'.1) (i:=j) (by rw [h'.len]; exact hj)
      have ec:=List.getElem?_eq_getElem hj
      have ew:=List.getElem?_eq_getElem (l:=w.1) (i:=j) (by rw [hl]; exact hj)
      rw [ex,ex',h.is j _ _ _ ex ec ew,h'.is j _ _ _ ex' ec ew]
    · rw [List.getElem?_eq_none (by rw [h.len]; omega),List.getElem?_eq_none (by rw [h'.len]; omega)]
  cases x; cases x'
  cases e1; cases e2
  rfl
theorem RwsOf.eq {cs:List Col} {ws:List BW} {rws rws' : List Rw} (h:RwsOf cs ws rws) (h' : RwsOf cs ws rws') (hl:∀ w ∈ ws,w.1.length = cs.length):rws = rws':=by
  refine List.ext_getElem? fun k=>?_
  by_cases hk:k < ws.length
  · have ew:=List.getElem?_eq_getElem hk
    have ex:=List.getElem?_eq_getElem (l:=rws) (i:=k) (by rw [h.1]; exact hk)
    have ex':=List.getElem?_eq_getElem (l:=rws') (i:=k) (by rw [h'.1]; exact hk)
    rw [ex,ex',(h.2 k _ _ ew ex).eq (h'.2 k _ _ ew ex') (hl _ (List.mem_of_getElem? ew))]
  · rw [List.getElem?_eq_none (by rw [h.1]; omega),List.getElem?_eq_none (by rw [h'.1]; omega)]
theorem prm_back {α:Type} {os bk:List Nat} {n:Nat} (h:Pm os n) (hl:bk.length = n) (hb:∀ (k j:Nat),bk[k]? = some j→os[j]? = some k) {xs:List α} (hx:xs.length = n):prm bk (prm os xs) = xs:=by
  have g1:=prm_get (os:=os) (xs:=xs) (fun k hk=>by rw [hx]; exact h.lt k hk)
  have hlt:∀ j ∈ bk,j < (prm os xs).length:=fun j hj=>by
    obtain ⟨k,ek⟩:=List.getElem?_of_mem hj
    rw [g1.1]
    exact (List.getElem?_eq_some_iff.mp (hb k j ek)).1
  have g2:=prm_get (os:=bk) (xs:=prm os xs) hlt
  refine List.ext_getElem? fun k=>?_
  by_cases hk:k < n
  · have ek:=List.getElem?_eq_getElem (l:=bk) (i:=k) (by rw [hl]; exact hk)
    rw [g2.2 k _ ek,g1.2 _ k (hb k _ ek)]
  · rw [List.getElem?_eq_none (by rw [g2.1,hl]; omega),List.getElem?_eq_none (by rw [hx]; omega)]
theorem back_pm {os bk:List Nat} {n:Nat} (h:Pm os n) (hl:bk.length = n) (hb:∀ (k j:Nat),bk[k]? = some j→os[j]? = some k):Pm bk n:=by
  refine ⟨hl,fun j hj=>?_,?_,fun j hj=>?_⟩
  · obtain ⟨k,ek⟩:=List.getElem?_of_mem hj
    have:=(List.getElem?_eq_some_iff.mp (hb k j ek)).1
    rw [h.len] at this; exact this
  · rw [List.nodup_iff_pairwise_ne,List.pairwise_iff_getElem]
    intro i j hi hj hij e
    have e1:=hb i _ (List.getElem?_eq_getElem hi)
    have e2:=hb j _ (List.getElem?_eq_getElem hj)
    rw [e,e2] at e1
    injection e1 with e1
    omega
  · have ek:=List.getElem?_eq_getElem (l:=os) (i:=j) (by rw [h.len]; exact hj)
    have hk:=h.lt _ (List.mem_of_getElem? ek)
    have ej:=List.getElem?_eq_getElem (l:=bk) (i:=os[j]'(by rw [h.len]; exact hj)) (by rw [hl]; exact hk)
    have:=nd_ix h.nd (hb _ _ ej) ek
    rw [← this]
    exact List.mem_of_getElem? ej
theorem rfit_prm {pss:List Prs} {cd:List Int} {os:List Nat} {n:Nat} (h:Pm os n) (h1:pss.length = n) (h2:cd.length = n):rfit (prm os pss) (prm os cd) = rfit pss cd:=by
  have g1:=prm_get (os:=os) (xs:=pss) (fun k hk=>by rw [h1]; exact h.lt k hk)
  have g2:=prm_get (os:=os) (xs:=cd) (fun k hk=>by rw [h2]; exact h.lt k hk)
  have at_:∀ (j k:Nat),os[j]? = some k→inP ((prm os pss).getD j []) ((prm os cd).getD j 0) = inP (pss.getD k []) (cd.getD k 0):=fun j k e=>by
    rw [List.getD_eq_getElem?_getD,List.getD_eq_getElem?_getD,List.getD_eq_getElem?_getD,List.getD_eq_getElem?_getD,g1.2 j k e,g2.2 j k e]
  unfold rfit
  rw [Bool.eq_iff_iff,List.all_eq_true,List.all_eq_true]
  constructor
  · intro hh k hk
    have hk:=List.mem_range.mp hk
    obtain ⟨j,ej⟩:=List.getElem?_of_mem (h.all k (by rw [← h2]; exact hk))
    rw [← at_ j k ej]
    exact hh j (List.mem_range.mpr (by rw [g2.1]; exact (List.getElem?_eq_some_iff.mp ej).1))
  · intro hh j hj
    have hj:=List.mem_range.mp hj
    rw [g2.1] at hj
    have ej:=List.getElem?_eq_getElem hj
    rw [at_ j _ ej]
    exact hh _ (List.mem_range.mpr (by rw [h2]; exact h.lt _ (List.mem_of_getElem? ej)))
theorem fl_trn {cs:List Col} {oc:Col} {ws:List BW} {rws:List Rw} {p:List Nat} {cd:List Int} {os:List Nat} (h:RwsOf cs ws rws) (hb:∀ w ∈ ws,BitOk cs oc w) (hok:∀ c ∈ cs,ColOk c) (hp:PtOk (lens cs) p) (hc:AtP cs p cd) (pm:Pm os cs.length):fl (rws.map (trn os)) (prm os cd) = pc ws p:=by
  have key:∀ n,n ≤ ws.length→fl ((rws.take n).map (trn os)) (prm os cd) = pc (ws.take n) p:=fun n=>by
    induction n with
    | zero=>intro _; rfl
    | succ n ih =>
      intro hn
      have ew:=List.getElem?_eq_getElem (l:=ws) (i:=n) (by omega)
      have ex:=List.getElem?_eq_getElem (l:=rws) (i:=n) (by rw [h.1]; omega)
      have ro:=h.2 n _ _ ew ex
      have bo:=hb _ (List.mem_of_getElem? ew)
      rw [take_snoc ew,take_snoc ex,List.map_append,List.map_singleton,fl_snoc,pc_snoc,ih (by omega)]
      show _ ++ (if rfit (prm os _) (prm os cd) then [_] else []) = _
      rw [rfit_prm pm ro.len hc.1,rfit_eq ro bo hok hp hc]
      show _ ++ (if _ then [(rws[n]'_).2] else []) = _
      rw [ro.code]
  have:=key ws.length (Nat.le_refl _)
  rw [List.take_length,← h.1,List.take_length] at this
  exact this
def J32 (K:PySem.W.Frag) (qA qB qC qD qE qF qG qH qI qJ qK qL qM:Addr):Sp:=fun vs H Q _=>∃ (z g:Str),vs = [.str z,.str g]∧Q (.bl (allIn z g)) H
def J35 (K:PySem.W.Frag) (qA qB qC qD qE qF qG qH qI qJ qK qL qM:Addr):Sp:=fun vs H Q _=>∃ i:Int,vs = [.int i]∧Q (.bl true) H
def J31 (K:PySem.W.Frag) (qA qB qC qD qE qF qG qH qI qJ qK qL qM:Addr):Sp:=fun vs H Q _=>∃ (a b:Addr) (c:Col),vs = [.ref a,.ref b]∧DomX qI qJ H a c∧DomX qI qJ H b c∧Q (.bl true) H
def J34 (K:PySem.W.Frag) (qA qB qC qD qE qF qG qH qI qJ qK qL qM:Addr):Sp:=fun vs H Q _=>∃ (a:Addr) (xs:List V) (ps:List (Int × Int)) (n:Int),vs = [.ref a,.int n]∧SqL K H a xs∧PL H xs ps∧Q (.bl (inP ps n)) H
def J60 (K:PySem.W.Frag) (qA qB qC qD qE qF qG qH qI qJ qK qL qM:Addr):Sp:=fun vs H Q _=>∃ (p r:Addr) (xs ys:List V),vs = [.ref p,.ref r]∧SqL K H p xs∧SqL K H r ys∧1 ≤ xs.length∧xs.length ≤ 4∧ys.length ≤ 200∧Q .non H
def J59 (K:PySem.W.Frag) (qA qB qC qD qE qF qG qH qI qJ qK qL qM:Addr):Sp:=fun vs H Q _=>∃ (cl:Addr) (xs:List V) (w:Rw),vs = [.ref cl,.int w.2]∧H cl = some (.lst xs)∧CL NT H xs w.1∧w.1.length ≤ 100∧∀ (r:Addr) (H' : Hp),Same H H'→H r = none→RowA (fun a=>H a = none) H' r w→Q (.ref r) H'
def J41 (K:PySem.W.Frag) (qA qB qC qD qE qF qG qH qI qJ qK qL qM:Addr):Sp:=fun vs H Q _=>∃ (a:Addr) (ns:List Int) (k:Int),vs = [.ref a,.int k]∧SqL K H a (ns.map V.int)∧0 ≤ k∧∀ r:Int,Q (.int r) H
def J48 (K:PySem.W.Frag) (qA qB qC qD qE qF qG qH qI qJ qK qL qM:Addr):Sp:=fun vs H Q _=>∃ c k:Int,vs = [.int c,.int k]∧0 ≤ k∧k ≤ 100∧∀ r:Int,0 ≤ r→Q (.int r) H
def J57 (K:PySem.W.Frag) (qA qB qC qD qE qF qG qH qI qJ qK qL qM:Addr):Sp:=fun vs H Q _=>∃ c k:Int,vs = [.int c,.int k]∧Q (.str (wd c k)) H
def J54 (K:PySem.W.Frag) (qA qB qC qD qE qF qG qH qI qJ qK qL qM:Addr):Sp:=fun vs H Q _=>∃ (pl:Addr) (ts:List V) (prs:Prs) (b:Nat),vs = [.ref pl,.int (b:Int)]∧H pl = some (.lst ts)∧PL H ts prs∧Ch prs∧prs.length ≤ 6∧∀ (l:Addr) (ps:Prs) (H' : Hp),Same H H'→SpA (fun a=>H a = none) H' l ps→SpOk prs b prs.length ps→ps = mrg prs b prs.length→Q (.ref l) H'
def J50 (K:PySem.W.Frag) (qA qB qC qD qE qF qG qH qI qJ qK qL qM:Addr):Sp:=fun vs H Q _=>∃ (cl:Addr) (xs:List V) (cs:List Col),vs = [.ref cl]∧H cl = some (.lst xs)∧ColsN NT H xs cs∧(∀ c ∈ cs,ColOk c)∧cs.length ≤ 4∧∀ (l:Addr) (zs:List V) (H' : Hp),Same H H'→H' l = some (.lst zs)→PtL NT H' zs (prodP (lens cs))→Q (.ref l) H'
def J42 (K:PySem.W.Frag) (qA qB qC qD qE qF qG qH qI qJ qK qL qM:Addr):Sp:=fun vs H Q _=>∃ (cl pl:Addr) (xs:List V) (cs:List Col) (p:List Nat) (tn:Int),vs = [.ref cl,.ref pl,.int tn]∧H cl = some (.lst xs)∧ColsN NT H xs cs∧(∀ c ∈ cs,ColOk c)∧cs.length ≤ 4∧H pl = some (.lst (vN p))∧PtOk (lens cs) p∧∀ (l:Addr) (cd:List Int) (H' : Hp),Same H H'→H' l = some (.lst (cd.map V.int))→AtP cs p cd→Q (.ref l) H'
def J46 (K:PySem.W.Frag) (qA qB qC qD qE qF qG qH qI qJ qK qL qM:Addr):Sp:=fun vs H Q _=>∃ (r pl:Addr) (w:BW) (p:List Nat),vs = [.ref r,.ref pl]∧BRowA NT H r w∧H pl = some (.lst (vN p))∧w.1.length = p.length∧p.length ≤ 100∧∀ H',Same H H'→Q (.bl (bfit w.1 p)) H'
def J56 (K:PySem.W.Frag) (qA qB qC qD qE qF qG qH qI qJ qK qL qM:Addr):Sp:=fun vs H Q _=>∃ (tn:Int) (ol:Addr) (oc:Col),vs = [.int tn,.ref ol]∧ColN NT H ol oc∧∀ (wy:Str) (i:Nat) (H' : Hp),Same H H'→six[i]? = some wy→(wy = Str.ofString "sum" → oc.w = false)→Q (.str wy) H'
def J52 (K:PySem.W.Frag) (qA qB qC qD qE qF qG qH qI qJ qK qL qM:Addr):Sp:=fun vs H Q _=>∃ (r d:Addr) (p:SI),vs = [.ref r,.ref d]∧SqT K H r (tp p)∧SqT K H d (tp p)∧Q (.bl true) H
def J49 (K:PySem.W.Frag) (qA qB qC qD qE qF qG qH qI qJ qK qL qM:Addr):Sp:=fun vs H Q _=>∃ (c:Int) (n:Nat),vs = [.int c,.int (n:Int)]∧n ≤ 4∧∀ (l:Addr) (os:List Nat) (H' : Hp),Same H H'→H' l = some (.lst (vN os))→Pm os n→Q (.ref l) H'
def J18 (K:PySem.W.Frag) (qA qB qC qD qE qF qG qH qI qJ qK qL qM:Addr):Sp:=fun vs H Q _=>∃ (x dx:Addr) (z:Str),vs = [.ref x,.str z]∧H x = some (.ins qB dx [])∧Q .non (upd H x (.ins qB dx [("called",.str z)]))
def J22 (K:PySem.W.Frag) (qA qB qC qD qE qF qG qH qI qJ qK qL qM:Addr):Sp:=fun vs H Q _=>∃ (x dx:Addr) (z:Str),vs = [.ref x,.str z]∧H x = some (.ins qC dx [])∧Q .non (upd H x (.ins qC dx [("called",.str z)]))
def J20 (K:PySem.W.Frag) (qA qB qC qD qE qF qG qH qI qJ qK qL qM:Addr):Sp:=fun vs H Q _=>∃ (x dx:Addr) (z:Str),vs = [.ref x,.str z]∧H x = some (.ins qD dx [])∧Q .non (upd H x (.ins qD dx [("called",.str z)]))
def J21 (K:PySem.W.Frag) (qA qB qC qD qE qF qG qH qI qJ qK qL qM:Addr):Sp:=fun vs H Q _=>∃ (x dx:Addr) (z:Str),vs = [.ref x,.str z]∧H x = some (.ins qE dx [])∧Q .non (upd H x (.ins qE dx [("called",.str z)]))
def J19 (K:PySem.W.Frag) (qA qB qC qD qE qF qG qH qI qJ qK qL qM:Addr):Sp:=fun vs H Q _=>∃ (x dx:Addr) (z:Str),vs = [.ref x,.str z]∧H x = some (.ins qF dx [])∧Q .non (upd H x (.ins qF dx [("called",.str z)]))
def J23 (K:PySem.W.Frag) (qA qB qC qD qE qF qG qH qI qJ qK qL qM:Addr):Sp:=fun vs H Q _=>∃ (x dx:Addr) (z:Str),vs = [.ref x,.str z]∧H x = some (.ins qG dx [])∧Q .non (upd H x (.ins qG dx [("called",.str z)]))
def J0 (K:PySem.W.Frag) (qA qB qC qD qE qF qG qH qI qJ qK qL qM:Addr):Sp:=fun vs H Q _=>∃ (x dx:Addr) (lo hi:Int),vs = [.ref x,.int lo,.int hi]∧H x = some (.ins qI dx [])∧Q .non (mkd qI H x dx lo hi)
def J1 (K:PySem.W.Frag) (qA qB qC qD qE qF qG qH qI qJ qK qL qM:Addr):Sp:=fun vs H Q _=>∃ (x dx:Addr) (lo hi:Int),vs = [.ref x,.int lo,.int hi]∧H x = some (.ins qJ dx [])∧Q .non (mkd qJ H x dx lo hi)
def J5 (K:PySem.W.Frag) (qA qB qC qD qE qF qG qH qI qJ qK qL qM:Addr):Sp:=spCh K qB qI qJ 0
def J14 (K:PySem.W.Frag) (qA qB qC qD qE qF qG qH qI qJ qK qL qM:Addr):Sp:=spCh K qC qI qJ 1
def J9 (K:PySem.W.Frag) (qA qB qC qD qE qF qG qH qI qJ qK qL qM:Addr):Sp:=spCh K qD qI qJ 2
def J11 (K:PySem.W.Frag) (qA qB qC qD qE qF qG qH qI qJ qK qL qM:Addr):Sp:=spCh K qE qI qJ 3
def J7 (K:PySem.W.Frag) (qA qB qC qD qE qF qG qH qI qJ qK qL qM:Addr):Sp:=spCh K qF qI qJ 4
def J16 (K:PySem.W.Frag) (qA qB qC qD qE qF qG qH qI qJ qK qL qM:Addr):Sp:=spCh K qG qI qJ 5
def J36 (K:PySem.W.Frag) (qA qB qC qD qE qF qG qH qI qJ qK qL qM:Addr):Sp:=fun vs H Q _=>∃ (z:Str),vs = [.str z]∧z.length ≤ 1000∧Q (.bl (isw z)) H
def J33 (K:PySem.W.Frag) (qA qB qC qD qE qF qG qH qI qJ qK qL qM:Addr):Sp:=fun vs H Q _=>∃ (t rl c dx:Addr) (fs:List (Str × V)) (xs:List V) (rws:List Rw) (k:Nat) (w:Rw) (cs:List Int),vs = [.ref t,.int k,.ref c]∧H t = some (.ins qK dx fs)∧fs.lookup (Str.ofString "rows") = some (.ref rl)∧H rl = some (.lst xs)∧RL NT H xs rws∧rws[k]? = some w∧SqL K H c (cs.map V.int)∧w.1.length = cs.length∧∀ H',Same H H'→Q (.bl (rfit w.1 cs)) H'
def J53 (K:PySem.W.Frag) (qA qB qC qD qE qF qG qH qI qJ qK qL qM:Addr):Sp:=fun vs H Q _=>∃ (a:Addr) (ns:List Int) (m:Int),vs = [.ref a,.int m]∧SqL K H a (ns.map V.int)∧ns.length ≤ 900∧1 ≤ m∧m ≤ 200∧∀ (l:Addr) (ms:List Int) (H' : Hp),Same H H'→H' l = some (.lst (ms.map V.int))→((ms.length:Nat):Int) ≤ m→ms.length ≤ ns.length→(∀ x ∈ ms,0 ≤ x)→Q (.ref l) H'
def J43 (K:PySem.W.Frag) (qA qB qC qD qE qF qG qH qI qJ qK qL qM:Addr):Sp:=fun vs H Q _=>∃ m most:Int,vs = [.int m,.int most]∧1 ≤ most∧most ≤ 6∧∀ (l:Addr) (c:Col) (H' : Hp),Same H H'→ColN (fun a=>H a = none) H' l c→ColOk c→Q (.ref l) H'
def J39 (K:PySem.W.Frag) (qA qB qC qD qE qF qG qH qI qJ qK qL qM:Addr):Sp:=fun vs H Q _=>∃ (m:Int) (cl ol la:Addr) (xs:List V) (cs:List Col) (oc:Col),vs = [.int m,.ref cl,.ref ol,.ref la]∧H cl = some (.lst xs)∧ColsN NT H xs cs∧(∀ c ∈ cs,ColOk c)∧1 ≤ cs.length∧cs.length ≤ 4∧ColN NT H ol oc∧ColOk oc∧0 ≤ m∧(H la = some (.lst [])∨∃ w,BRowA NT H la w∧BitOk cs oc w)∧∀ (r:Addr) (w:BW) (H' : Hp),Same H H'→BRowA (fun a=>H a = none) H' r w→BitOk cs oc w→Q (.ref r) H'
def J51 (K:PySem.W.Frag) (qA qB qC qD qE qF qG qH qI qJ qK qL qM:Addr):Sp:=fun vs H Q _=>∃ (l cl:Addr) (zs xs:List V) (ws:List BW) (cs:List Col),vs = [.ref l,.ref cl]∧H l = some (.lst zs)∧BRL NT H zs ws∧ws.length ≤ 200∧H cl = some (.lst xs)∧ColsN NT H xs cs∧(∀ c ∈ cs,ColOk c)∧cs.length ≤ 4∧(∀ w ∈ ws,w.1.length = cs.length)∧∀ (l' : Addr) (zs' : List V) (rws:List Rw) (H' : Hp),Same H H'→H' l' = some (.lst zs')→RL (fun a=>H a = none) H' zs' rws→RwsOf cs ws rws→Q (.ref l') H'
def J45 (K:PySem.W.Frag) (qA qB qC qD qE qF qG qH qI qJ qK qL qM:Addr):Sp:=fun vs H Q _=>∃ (wy:Str) (i:Nat) (bl_ ol pl:Addr) (zs:List V) (ws:List BW) (oc:Col) (p:List Nat),vs = [.str wy,.ref bl_,.ref ol,.ref pl]∧six[i]? = some wy∧H bl_ = some (.lst zs)∧BRL NT H zs ws∧ws.length ≤ 200∧ColN NT H ol oc∧ColOk oc∧H pl = some (.lst (vN p))∧(∀ w ∈ ws,w.1.length = p.length)∧p.length ≤ 100∧∀ (r:Addr) (H' : Hp),Same H H'→H' r = some (.tup (tp (ver (wf i oc.lo oc.hi) (pc ws p))))→Q (.ref r) H'
def J4 (K:PySem.W.Frag) (qA qB qC qD qE qF qG qH qI qJ qK qL qM:Addr):Sp:=fnew qB (Str.ofString "first")
def J13 (K:PySem.W.Frag) (qA qB qC qD qE qF qG qH qI qJ qK qL qM:Addr):Sp:=fnew qC (Str.ofString "only")
def J8 (K:PySem.W.Frag) (qA qB qC qD qE qF qG qH qI qJ qK qL qM:Addr):Sp:=fnew qD (Str.ofString "like")
def J10 (K:PySem.W.Frag) (qA qB qC qD qE qF qG qH qI qJ qK qL qM:Addr):Sp:=fnew qE (Str.ofString "low")
def J6 (K:PySem.W.Frag) (qA qB qC qD qE qF qG qH qI qJ qK qL qM:Addr):Sp:=fnew qF (Str.ofString "high")
def J15 (K:PySem.W.Frag) (qA qB qC qD qE qF qG qH qI qJ qK qL qM:Addr):Sp:=fnew qG (Str.ofString "sum")
def J2 (K:PySem.W.Frag) (qA qB qC qD qE qF qG qH qI qJ qK qL qM:Addr):Sp:=fun vs H Q _=>∃ (a:Addr) (b:Int × Int) (i:Int),vs = [.ref a,.int i]∧DomC qI H a b.1 b.2∧b.1 ≤ i∧i ≤ b.2∧Q (.bl true) H
def J3 (K:PySem.W.Frag) (qA qB qC qD qE qF qG qH qI qJ qK qL qM:Addr):Sp:=fun vs H Q _=>∃ (a:Addr) (b:Int × Int) (i:Int),vs = [.ref a,.int i]∧DomC qJ H a b.1 b.2∧b.1 ≤ i∧i ≤ b.2∧Q (.bl true) H
def J12 (K:PySem.W.Frag) (qA qB qC qD qE qF qG qH qI qJ qK qL qM:Addr):Sp:=fun vs H Q _=>∃ (x dx:Addr) (lo hi:Int),vs = [.ref x,.int lo,.int hi]∧H x = some (.ins qI dx [])∧lo ≤ hi∧Q .non (mkd qI H x dx lo hi)
def J24 (K:PySem.W.Frag) (qA qB qC qD qE qF qG qH qI qJ qK qL qM:Addr):Sp:=spVe K qB qI qJ 0
def J28 (K:PySem.W.Frag) (qA qB qC qD qE qF qG qH qI qJ qK qL qM:Addr):Sp:=spVe K qC qI qJ 1
def J26 (K:PySem.W.Frag) (qA qB qC qD qE qF qG qH qI qJ qK qL qM:Addr):Sp:=spVe K qD qI qJ 2
def J27 (K:PySem.W.Frag) (qA qB qC qD qE qF qG qH qI qJ qK qL qM:Addr):Sp:=spVe K qE qI qJ 3
def J25 (K:PySem.W.Frag) (qA qB qC qD qE qF qG qH qI qJ qK qL qM:Addr):Sp:=spVe K qF qI qJ 4
def J29 (K:PySem.W.Frag) (qA qB qC qD qE qF qG qH qI qJ qK qL qM:Addr):Sp:=spVe K qG qI qJ 5
def J61 (K:PySem.W.Frag) (qA qB qC qD qE qF qG qH qI qJ qK qL qM:Addr):Sp:=fun vs H Q _=>∃ (p:Addr) (zs:List Str),vs = [.ref p]∧SqL K H p (zs.map V.str)∧(∀ z ∈ zs,isw z = true)∧zs.Nodup∧zs.length ≤ 100∧∀ H',Same H H'→Q .non H'
def J62 (K:PySem.W.Frag) (qA qB qC qD qE qF qG qH qI qJ qK qL qM:Addr):Sp:=fun vs H Q _=>∃ (dl ou cl:Addr) (dv xs:List V) (bs:Prs) (o:Int × Int) (w:Rw),vs = [.ref dl,.ref ou,.ref cl,.int w.2]∧SqL K H dl dv∧RefL dv bs (Dom qI qJ H)∧Dom qI qJ H ou o∧H cl = some (.lst xs)∧CL NT H xs w.1∧RowOk bs o w∧∀ H',Same H H'→Q .non H'
def J58 (K:PySem.W.Frag) (qA qB qC qD qE qF qG qH qI qJ qK qL qM:Addr):Sp:=fun vs H Q _=>∃ (t c:Addr) (rws:List Rw) (i:Nat) (o:Int × Int) (cs:List Int),vs = [.ref t,.ref c]∧Tbl qK qI qJ H t rws i o∧SqL K H c (cs.map V.int)∧(∀ w ∈ rws,w.1.length = cs.length)∧∀ H',Same H H'→Q (.int ((msk (fitF rws cs) rws.length:Nat):Int)) H'
def J40 (K:PySem.W.Frag) (qA qB qC qD qE qF qG qH qI qJ qK qL qM:Addr):Sp:=fun vs H Q _=>∃ (sl cl ol:Addr) (ns:List Int) (xs:List V) (cs:List Col) (oc:Col),vs = [.ref sl,.ref cl,.ref ol]∧H sl = some (.lst (ns.map V.int))∧ns.length ≤ 200∧(∀ n ∈ ns,0 ≤ n)∧H cl = some (.lst xs)∧ColsN NT H xs cs∧(∀ c ∈ cs,ColOk c)∧1 ≤ cs.length∧cs.length ≤ 4∧ColN NT H ol oc∧ColOk oc∧∀ (l:Addr) (zs:List V) (ws:List BW) (H' : Hp),Same H H'→H' l = some (.lst zs)→BRL (fun a=>H a = none) H' zs ws→ws.length = ns.length→(∀ w ∈ ws,BitOk cs oc w)→Q (.ref l) H'
def J30 (K:PySem.W.Frag) (qA qB qC qD qE qF qG qH qI qJ qK qL qM:Addr):Sp:=fun vs H Q _=>∃ (x dx p:Addr) (zs:List Str),vs = [.ref x,.ref p]∧H x = some (.ins qJ dx [])∧H p = some (.lst (zs.map V.str))∧Good zs ∧
  ∀ (H' : Hp) (l:Addr),(∀ b o,b ≠ x→H b = some o→H' b = some o)→H' x = some (.ins qJ dx [("low",.int 0),("high",.int (hiW zs)),("words",.ref l)])→H' l = some (.lst (zs.map V.str))→Q .non H'
def J66 (K:PySem.W.Frag) (qA qB qC qD qE qF qG qH qI qJ qK qL qM:Addr):Sp:=fun vs H Q _=>∃ z:Str,vs = [.str z]∧z ∈ six∧(∀ i:Nat,six[i]? = some z→∀ (x C:Addr) (H' : Hp),Same H H'→(cl6 qB qC qD qE qF qG)[i]? = some C→WyN C H' x z→Q (.ref x) H')
def J63 (K:PySem.W.Frag) (qA qB qC qD qE qF qG qH qI qJ qK qL qM:Addr):Sp:=fun vs H Q _=>∃ (z:Str) (ou:Addr),vs = [.str z,.ref ou]∧z ∈ six∧(z = Str.ofString "sum" → ∃ dx fs,H ou = some (.ins qI dx fs))∧∀ H',Same H H'→Q .non H'
def J37 (K:PySem.W.Frag) (qA qB qC qD qE qF qG qH qI qJ qK qL qM:Addr):Sp:=fun vs H Q _=>∃ (t:Addr) (rws:List Rw) (i:Nat) (o:Int × Int) (m:Int),vs = [.ref t,.int m]∧Tbl qK qI qJ H t rws i o∧∀ (r:Addr) (H' : Hp),Same H H'→SqT K H' r (tp (ver (wf i o.1 o.2) (pkF rws (bitOn m) rws.length)))→Q (.ref r) H'
def J44 (K:PySem.W.Frag) (qA qB qC qD qE qF qG qH qI qJ qK qL qM:Addr):Sp:=fun vs H Q _=>∃ (l:Addr) (c:Col),vs = [.ref l]∧ColN NT H l c∧ColOk c∧∀ (a:Addr) (H' : Hp),Same H H'→DomX qI qJ H' a c→Q (.ref a) H'
def J65 (K:PySem.W.Frag) (qA qB qC qD qE qF qG qH qI qJ qK qL qM:Addr):Sp:=fun vs H Q _=>∃ (t c:Addr) (rws:List Rw) (i:Nat) (o:Int × Int) (cs:List Int),vs = [.ref t,.ref c]∧Tbl qK qI qJ H t rws i o∧SqL K H c (cs.map V.int)∧(∀ w ∈ rws,w.1.length = cs.length)∧∀ (r:Addr) (H' : Hp),Same H H'→SqT K H' r (tp (ver (wf i o.1 o.2) (pkF rws (fitF rws cs) rws.length)))→Q (.ref r) H'
def J47 (K:PySem.W.Frag) (qA qB qC qD qE qF qG qH qI qJ qK qL qM:Addr):Sp:=fun vs H Q _=>∃ (t na rl cl ou:Addr) (nm wy:Str) (zs:List Str) (dv xs rx:List V) (rws:List Rw) (cs:List Col),vs = [.ref t,.ref na,.ref rl,.ref cl]∧TF qK H t nm wy ou zs dv rws∧H na = some (.lst (zs.map V.str))∧H rl = some (.lst rx)∧RL NT H rx rws∧H cl = some (.lst xs)∧ColsN NT H xs cs∧(∀ c ∈ cs,ColOk c)∧RefL dv cs (DomX qI qJ H)∧∀ H',Same H H'→Q (.bl true) H'
def J17 (K:PySem.W.Frag) (qA qB qC qD qE qF qG qH qI qJ qK qL qM:Addr):Sp:=fun vs H Q _=>∃ (x dx na dl ou rl:Addr) (nm wy:Str) (zs:List Str) (dv rx:List V) (bs:Prs) (o:Int × Int) (rws:List Rw),vs = [.ref x,.str nm,.ref na,.ref dl,.ref ou,.str wy,.ref rl]∧H x = some (.ins qK dx [])∧H na = some (.lst (zs.map V.str))∧(∀ z ∈ nm :: zs,isw z = true)∧(nm :: zs).Nodup∧1 ≤ zs.length∧zs.length ≤ 4∧wy ∈ six∧(wy = Str.ofString "sum" → ∃ dx fs,H ou = some (.ins qI dx fs))∧H dl = some (.lst dv)∧RefL dv bs (Dom qI qJ H)∧Dom qI qJ H ou o∧H rl = some (.lst rx)∧RL NT H rx rws∧rx.length ≤ 200∧bs.length ≤ 4∧(∀ w ∈ rws,RowOk bs o w) ∧
  ∀ (H' : Hp) (fs:List (Str × V)) (rl' : Addr) (xs' : List V),(∀ b o,b ≠ x→H b = some o→H' b = some o)→H' x = some (.ins qK dx fs)→fs.lookup (Str.ofString "rows") = some (.ref rl')→fs.lookup (Str.ofString "way") = some (.str wy)→fs.lookup (Str.ofString "outcome") = some (.ref ou)→fs.lookup (Str.ofString "name") = some (.str nm)→(∃ na' dl' : Addr,fs.lookup (Str.ofString "names") = some (.ref na')∧fs.lookup (Str.ofString "domains") = some (.ref dl')∧H' na' = some (.lst (zs.map V.str))∧H' dl' = some (.lst dv))→H' rl' = some (.lst xs')→RL NT H' xs' rws→Q .non H'
def J64 (K:PySem.W.Frag) (qA qB qC qD qE qF qG qH qI qJ qK qL qM:Addr):Sp:=fun vs H Q _=>∃ (t ol ou:Addr) (os:List Nat) (nm wy:Str) (zs:List Str) (dv:List V) (rws:List Rw) (bs:Prs) (o:Int × Int),vs = [.ref t,.ref ol]∧H ol = some (.lst (vN os))∧TF qK H t nm wy ou zs dv rws∧TOk qI qJ H nm wy ou zs dv rws bs o∧Pm os zs.length∧∀ (t' : Addr) (H' : Hp),Same H H'→TF qK H' t' nm wy ou (prm os zs) (prm os dv) (rws.map (trn os))→Q (.ref t') H'
def J55 (K:PySem.W.Frag) (qA qB qC qD qE qF qG qH qI qJ qK qL qM:Addr):Sp:=fun vs H Q _=>∃ (h:Int) (cl ol bl_:Addr) (wy:Str) (xs zs:List V) (cs:List Col) (oc:Col) (ws:List BW) (i:Nat),vs = [.int h,.ref cl,.ref ol,.str wy,.ref bl_]∧H cl = some (.lst xs)∧ColsN NT H xs cs∧(∀ c ∈ cs,ColOk c)∧1 ≤ cs.length∧cs.length ≤ 4∧ColN NT H ol oc∧ColOk oc∧six[i]? = some wy∧(wy = Str.ofString "sum" → oc.w = false)∧H bl_ = some (.lst zs)∧BRL NT H zs ws∧ws.length ≤ 200∧(∀ w ∈ ws,BitOk cs oc w)∧∀ (t ou:Addr) (dv:List V) (rws:List Rw) (H' : Hp),Same H H'→TF qK H' t (wd (h / 16) 0) wy ou ((List.range cs.length).map fun j:Nat=>wd (h / 16) (1 + (0 + (j:Int)))) dv rws→TOk qI qJ H' (wd (h / 16) 0) wy ou ((List.range cs.length).map fun j:Nat=>wd (h / 16) (1 + (0 + (j:Int)))) dv rws (cs.map Col.b) oc.b→RefL dv cs (DomX qI qJ H')→DomX qI qJ H' ou oc→RwsOf cs ws rws→Q (.ref t) H'
def J38 (K:PySem.W.Frag):Sp:=fun vs H Q _=>∃ (a:Addr) (ns:List Int),vs = [.ref a]∧SqL K H a (ns.map V.int)∧ns.length ≤ 63∧∀ H',Q (.bl true) H'
section
variable {P:Program} {w:World} {K:PySem.W.Frag} {mg:Str→Option Value} {base:Heap} {f:Addr} {fd:FuncData} {qA qB qC qD qE qF qG qH qI qJ qK qL qM:Addr}
theorem O_32 (F:Fun K "all_among" "all_among" Y32 f fd) (bl:Bl K mg qA qB qC qD qE qF qG qH qI qJ qK qL qM)  : FnOk P w K mg base CX0 1 f fd ["text", "signs"] (J32 K qA qB qC qD qE qF qG qH qI qJ qK qL qM):=by
  refine F.ok Z32 (fun vs H Q E h=>?_) (fun cdv A outer s H vs Q E hr h=>?_)
  · obtain ⟨z,g,rfl,q⟩:=h
    rfl
  obtain ⟨z,g,rfl,q⟩:=h
  refine ⟨_,(pss_cons (ps_for PassesOwn.never rfl (pi_str (pv 0)) (pg_name (i:=2) Z32.nd rfl (Or.inl rfl))
     (pss_one (ps_if (pt_cmpR op_notin_str (pv 2) (pv 1) (by with_unfolding_all rfl))
     (pss_one (ps_ret pe_bl))
     pss_nil)))
     (pss_one (ps_ret pe_bl))),?_⟩
  refine ⟨_,rfl,z,rfl,for_str (fun i σ H'=>(∃ c2:Option V,σ = [some (.str z),some (.str g),c2])∧H' = H∧(z.cps.toList.take i).all (sg g) = true) ⟨⟨_,rfl⟩,rfl,rfl⟩ (fun i c σ H' e h=>?_) (fun σ H' h=>?_)⟩
  · obtain ⟨⟨c2,rfl⟩,e0,ha⟩:=h
    rw [e0]
    refine ⟨_,rfl,_,rfl,_,_,rfl,rfl,_,rfl,?_⟩
    refine ite2 (fun d=>?_) (fun d=>?_)
    · have z2:allIn z g = false:=all_no e (not_sg d)
      rw [z2] at q; exact q
    · exact ⟨⟨_,rfl⟩,rfl,all_succ e (is_sg d) ha⟩
  · obtain ⟨⟨c2,rfl⟩,e0,ha⟩:=h
    rw [e0]
    rw [all_done ha] at q; exact q
theorem O_35 (F:Fun K "is_whole" "is_whole" Y35 f fd) (bl:Bl K mg qA qB qC qD qE qF qG qH qI qJ qK qL qM)  : FnOk P w K mg base CX0 1 f fd ["value"] (J35 K qA qB qC qD qE qF qG qH qI qJ qK qL qM):=by
  refine F.ok Z35 (fun vs H Q E h=>?_) (fun cdv A outer s H vs Q E hr h=>?_)
  · obtain ⟨i,rfl,q⟩:=h
    rfl
  obtain ⟨i,rfl,q⟩:=h
  refine ⟨_,(pss_one (ps_ret (pe_and (pe_callB call_isiG rfl bl.isinstance_ PyProof.Rows.boot_isinstance (pa_cons (pv 0) (pa_cons (pe_bltn (v:=.ty "int") rfl bl.int_ PyProof.Rows.boot_int rfl) pa_nil))) (pe_one (pe_not (pe_callB call_isiG rfl bl.isinstance_ PyProof.Rows.boot_isinstance (pa_cons (pv 0) (pa_cons (pe_bltn (v:=.ty "bool") rfl bl.bool_ PyProof.Rows.boot_bool rfl) pa_nil)))))))),?_⟩
  exact ⟨_,rfl,_,_,_,_,true,rfl,.ty _,.inl (.int _),(by first | rfl | with_unfolding_all rfl | decide +kernel),_,rfl,iteT ⟨_,rfl,_,_,_,_,false,rfl,.ty _,.inl (.int _),(by first | rfl | with_unfolding_all rfl | decide +kernel),_,rfl,q⟩⟩
theorem O_31 (F:Fun K "alike" "alike" Y31 f fd) (bl:Bl K mg qA qB qC qD qE qF qG qH qI qJ qK qL qM)  : FnOk P w K mg base CX0 1 f fd ["one", "other"] (J31 K qA qB qC qD qE qF qG qH qI qJ qK qL qM):=by
  refine F.ok Z31 (fun vs H Q E h=>?_) (fun cdv A outer s H vs Q E hr h=>?_)
  · obtain ⟨a,b,c,rfl,ha,hb,q⟩:=h
    rfl
  obtain ⟨a,b,c,rfl,ha,hb,q⟩:=h
  refine ⟨_,(pss_cons (ps_if (PW.pt (pw_and (pt_val (pe_callB call_isiG rfl bl.isinstance_ PyProof.Rows.boot_isinstance (pa_cons (pv 0) (pa_cons (pe_glob (v:=.ref qI) rfl bl.Numbers_ rfl) pa_nil)))) (pw_and1 (pt_val (pe_callB call_isiG rfl bl.isinstance_ PyProof.Rows.boot_isinstance (pa_cons (pv 1) (pa_cons (pe_glob (v:=.ref qI) rfl bl.Numbers_ rfl) pa_nil)))))))
     (pss_one (ps_ret (pe_and (pe_cmpR op_eq (pe_fld (pv 0) rfl) (pe_fld (pv 1) rfl) (nomark _)) (pe_one (pe_cmpR op_eq (pe_fld (pv 0) rfl) (pe_fld (pv 1) rfl) (nomark _))))))
     pss_nil)
     (pss_cons (ps_if (PW.pt (pw_and (pt_val (pe_callB call_isiG rfl bl.isinstance_ PyProof.Rows.boot_isinstance (pa_cons (pv 0) (pa_cons (pe_glob (v:=.ref qJ) rfl bl.Words_ rfl) pa_nil)))) (pw_and1 (pt_val (pe_callB call_isiG rfl bl.isinstance_ PyProof.Rows.boot_isinstance (pa_cons (pv 1) (pa_cons (pe_glob (v:=.ref qJ) rfl bl.Words_ rfl) pa_nil)))))))
     (pss_one (ps_ret (pe_cmpR (op_eqL hr) (pe_fld (pv 0) rfl) (pe_fld (pv 1) rfl) (nomark _))))
     pss_nil)
     (pss_one (ps_ret pe_bl)))),?_⟩
  rcases ha with ⟨w1,dx,fs,e,r1,r2,r3⟩ | ⟨w1,dx,fs,l,e,r1,r2,r3,r4,r5⟩
  · rcases hb with ⟨w2,dx2,fs2,e2,t1,t2,t3⟩ | ⟨w2,_⟩
    · refine ⟨_,rfl,_,_,_,_,true,rfl,.ref _,bl.t_Numbers.ty e,bl.f_nn,_,rfl,iteT ?_⟩
      refine ⟨_,rfl,_,_,_,_,true,rfl,.ref _,bl.t_Numbers.ty e2,bl.f_nn,_,rfl,iteT ?_⟩
      refine ⟨_,rfl,a,_,_,_,_,rfl,e,bl.k_Numbers,bl.na_Numbers_low,r1,_,rfl,b,_,_,_,_,rfl,e2,bl.k_Numbers,bl.na_Numbers_low,t1,rfl,_,rfl,iteTS rfl ?_⟩
      refine ⟨_,rfl,a,_,_,_,_,rfl,e,bl.k_Numbers,bl.na_Numbers_high,r2,_,rfl,b,_,_,_,_,rfl,e2,bl.k_Numbers,bl.na_Numbers_high,t2,rfl,?_⟩
      rw [decide_eq_true rfl]
      exact q
    · rw [w1] at w2; cases w2
  · rcases hb with ⟨w2,_⟩ | ⟨w2,dx2,fs2,l2,e2,t1,t2,t3,t4,t5⟩
    · rw [w1] at w2; cases w2
    · refine ⟨_,rfl,_,_,_,_,false,rfl,.ref _,bl.t_Words.ty e,bl.f_wn,_,rfl,iteF (iteF ?_)⟩
      refine ⟨_,rfl,_,_,_,_,true,rfl,.ref _,bl.t_Words.ty e,bl.f_ww,_,rfl,iteT ?_⟩
      refine ⟨_,rfl,_,_,_,_,true,rfl,.ref _,bl.t_Words.ty e2,bl.f_ww,_,rfl,iteT ?_⟩
      refine ⟨_,rfl,a,_,_,_,_,rfl,e,bl.k_Words,bl.na_Words_words,r4,_,rfl,b,_,_,_,_,rfl,e2,bl.k_Words,bl.na_Words_words,t4,?_⟩
      exact rEqL_same (SqL.of r5) (SqL.of t5) (fun x hx=>.inl (List.all_eq_true.mp (flat_strs _) x hx)) q
theorem O_34 (F:Fun K "holds" "holds" Y34 f fd) (bl:Bl K mg qA qB qC qD qE qF qG qH qI qJ qK qL qM)  : FnOk P w K mg base CX0 1 f fd ["spans", "number"] (J34 K qA qB qC qD qE qF qG qH qI qJ qK qL qM):=by
  refine F.ok Z34 (fun vs H Q E h=>?_) (fun cdv A outer s H vs Q E hr h=>?_)
  · obtain ⟨a,xs,ps,n,rfl,hS,hP,q⟩:=h
    rfl
  obtain ⟨a,xs,ps,n,rfl,hS,hP,q⟩:=h
  refine ⟨_,(pss_cons (ps_for PassesOwn.never rfl (pi_list (pv 0)) (pg_tup rfl (pgs_cons (pg_name (i:=2) Z34.nd rfl (Or.inl rfl)) (pgs_cons (pg_name (i:=3) Z34.nd rfl (Or.inl rfl)) pgs_nil)))
     (pss_one (ps_if (pt_chain op_le op_le (pv 2) (pv 1) (pv 3))
     (pss_one (ps_ret pe_bl))
     pss_nil)))
     (pss_one (ps_ret pe_bl))),?_⟩
  refine ⟨_,rfl,a,rfl,⟨_,hS⟩,for_list (xs:=xs) (fun i σ H'=>(∃ c2 c3,σ = [some (.ref a),some (.int n),c2,c3])∧H' = H∧(ps.take i).any (inR n) = false) ⟨⟨_,_,rfl⟩,rfl,rfl⟩ (fun i σ H' _ h=>by obtain ⟨_,e,_⟩:=h; rw [e]; exact hS) (fun i x σ H' e h=>?_) (fun σ H' h=>?_)⟩
  · obtain ⟨⟨c2,c3,rfl⟩,e0,hn⟩:=h
    rw [e0]
    obtain ⟨p,r,e1,rfl,hr'⟩:=hP.get e
    refine ⟨r,_,rfl,SqT.of hr',rfl,_,_,rfl,_,_,rfl,rfl,?_⟩
    refine ⟨_,rfl,_,rfl,_,_,rfl,rfl,_,rfl,?_⟩
    refine ite2 (fun c=>?_) (fun c=>?_)
    · refine ⟨_,rfl,_,_,rfl,rfl,_,rfl,?_⟩
      refine ite2 (fun d=>?_) (fun d=>?_)
      · have z2:inP ps n = true:=any_of_get e1 (in_t c d)
        rw [z2] at q; exact q
      · exact ⟨⟨_,_,rfl⟩,rfl,any_take_succ e1 hn (in_f2 d)⟩
    · exact ⟨_,rfl,iteF ⟨⟨_,_,rfl⟩,rfl,any_take_succ e1 hn (in_f1 c)⟩⟩
  · obtain ⟨⟨c2,c3,rfl⟩,e0,hn⟩:=h
    rw [e0]
    have z:inP ps n = false:=by
      rw [hP.length,List.take_length] at hn
      exact hn
    rw [z] at q; exact q
theorem O_60 (F:Fun K "refuse_counts" "refuse_counts" Y60 f fd) (bl:Bl K mg qA qB qC qD qE qF qG qH qI qJ qK qL qM)  : FnOk P w K mg base CX0 1 f fd ["names", "rows"] (J60 K qA qB qC qD qE qF qG qH qI qJ qK qL qM):=by
  refine F.ok Z60 (fun vs H Q E h=>?_) (fun cdv A outer s H vs Q E hr h=>?_)
  · obtain ⟨p,r,xs,ys,rfl,hP,hR,h1,h4,h200,q⟩:=h
    rfl
  obtain ⟨p,r,xs,ys,rfl,hP,hR,h1,h4,h200,q⟩:=h
  refine ⟨_,(pss_cons (ps_if (pt_not (pt_chain op_le op_le pe_int (pe_callB call_len_seq rfl bl.len_ PySem.boot_len (pa_cons (pv 0) pa_nil)) (pe_gl rfl bl.MOST_COLUMNS_)))
     (pss_one ps_never)
     pss_nil)
     (pss_one (ps_if (pt_cmpR op_gt (pe_callB call_len_seq rfl bl.len_ PySem.boot_len (pa_cons (pv 1) pa_nil)) (pe_gl rfl bl.MOST_ROWS_) (nomark _))
     (pss_one ps_never)
     pss_nil))),?_⟩
  refine ⟨_,rfl,p,_,rfl,.inl (hP),_,_,rfl,rfl,_,rfl,iteTS (by omega) ?_⟩
  refine ⟨_,_,rfl,rfl,_,rfl,?_⟩
  rw [decide_eq_true (show ((xs.length:Nat):Int) ≤ 4 by omega)]
  refine iteF ?_
  exact ⟨_,rfl,r,_,rfl,.inl (hR),_,_,rfl,rfl,_,rfl,iteFS (by omega) q⟩
theorem O_59 (F:Fun K "own_row" "own_row" Y59 f fd) (bl:Bl K mg qA qB qC qD qE qF qG qH qI qJ qK qL qM)  : FnOk P w K mg base CX0 1 f fd ["cells", "code"] (J59 K qA qB qC qD qE qF qG qH qI qJ qK qL qM):=by
  refine F.ok Z59 (fun vs H Q E h=>?_) (fun cdv A outer s H vs Q E hr h=>?_)
  · obtain ⟨cl,xs,w_,rfl,hC,hcl,h100,q⟩:=h
    rfl
  obtain ⟨cl,xs,w_,rfl,hC,hcl,h100,q⟩:=h
  refine ⟨_,(pss_one (ps_ret (pe_tup (pa_cons (pe_comp (pi_list (pv 0)) (cmpOk_plain rfl (by decide +kernel) (by decide +kernel) (by decide +kernel) rfl) rfl (fun _ _ _ _=>pif_nil) (fun _ _ _ _=>(pe_callTy (call_list_ofK (K:=K) rfl) rfl bl.list_ PyProof.Rows.boot_list (pa_cons (pv 0) pa_nil)))) (pa_cons (pv 1) pa_nil))))),?_⟩
  refine ⟨_,rfl,cl,rfl,⟨_,SqL.of hC⟩,comp_list (xs:=xs) (fun D i zs H'=>Same H H'∧H' D = some (.lst zs)∧CL (Fr H D) H' zs (w_.1.take i))
    (fun D hD=>⟨same_new hD _,upd_same,RefL.nil⟩) (fun D i zs H' hD _ h=>SqL.of (h.1 _ _ hC)) (fun D i x zs H' hD e h=>?_) (fun D zs H' hD h=>?_)⟩
  · obtain ⟨sm,eD,hz⟩:=h
    obtain ⟨l,ps,rfl,ep,hl⟩:=RefL.get hcl e
    obtain ⟨_,ys,el,hp⟩:=hl.same sm
    have hi:i < xs.length:=(List.getElem?_eq_some_iff.mp e).1
    have hlz:zs.length < sizeLine:=by
      have h1:=hz.1
      rw [List.length_take] at h1
      exact small1000 (by omega)
    refine ⟨_,rfl,l,_,rfl,.inl (SqL.of el),fun l2 hl2=>?_⟩
    have s2:=same_new hl2 (.lst ys)
    have e2:upd H' l2 (.lst ys) l2 = some (.lst ys):=upd_same
    have eD2:=s2 _ _ eD
    generalize upd H' l2 (.lst ys) = H2 at s2 e2 eD2 ⊢
    have n2:H l2 = none:=sm.free hl2
    have nD:l2 ≠ D:=fun z=>by rw [z,eD] at hl2; cases hl2
    refine CYes.mk hi eD2 hlz ⟨(sm.trans s2).upd hD,upd_same,?_⟩
    rw [take_snoc ep]
    exact CL.updN (RefL.snoc (hz.same s2) ⟨⟨n2,nD⟩,ys,e2,hp.mono s2.tups⟩) Fr.out eD2
  · obtain ⟨sm,eD,hz⟩:=h
    rw [hcl.1,List.take_length] at hz
    refine ⟨_,rfl,small2,fun r hr'=>q r _ (sm.trans (same_new hr' _)) (sm.free hr') ⟨D,zs,upd_same,hD,same_new hr' _ _ _ eD,?_⟩⟩
    exact (hz.same (same_new hr' _)).wk fun a h=>h.1
theorem O_41 (F:Fun K "_law_cell_at" "_law_cell_at" Y41 f fd) (bl:Bl K mg qA qB qC qD qE qF qG qH qI qJ qK qL qM)  : FnOk P w K mg base CX0 1 f fd ["script", "k"] (J41 K qA qB qC qD qE qF qG qH qI qJ qK qL qM):=by
  refine F.ok Z41 (fun vs H Q E h=>?_) (fun cdv A outer s H vs Q E hr h=>?_)
  · obtain ⟨a,ns,k,rfl,hS,h0,q⟩:=h
    rfl
  obtain ⟨a,ns,k,rfl,hS,h0,q⟩:=h
  refine ⟨_,(pss_cons (ps_if (pt_cmpR op_lt (pv 1) (pe_callB call_len_seq rfl bl.len_ PySem.boot_len (pa_cons (pv 0) pa_nil)) (nomark _))
     (pss_one (ps_ret (pe_ix ix_list (pv 0) (pv 1) (fun _ _=>rfl))))
     pss_nil)
     (pss_one (ps_ret pe_int))),?_⟩
  refine ⟨_,rfl,_,rfl,a,_,rfl,.inl hS,_,_,rfl,rfl,_,rfl,?_⟩
  refine ite2 (fun c=>?_) (fun c=>?_)
  · have c' : k < (((ns.map V.int).length:Nat):Int):=dec_t c
    rw [List.length_map] at c'
    have hk:k.toNat < ns.length:=by omega
    have hv:atI (ns.map V.int) k = some (.int ns[k.toNat]):=by
      have z:atI (ns.map V.int) ((k.toNat:Nat):Int) = some (.int ns[k.toNat]):=atI_nat (by rw [List.getElem?_map,List.getElem?_eq_getElem hk]; rfl)
      rw [show ((k.toNat:Nat):Int) = k by omega] at z
      exact z
    exact ⟨_,rfl,_,rfl,a,_,_,_,rfl,rfl,hS,hv,q _⟩
  · exact q 0
theorem O_48 (F:Fun K "_law_mixed" "_law_mixed" Y48 f fd) (bl:Bl K mg qA qB qC qD qE qF qG qH qI qJ qK qL qM)  : FnOk P w K mg base CX0 1 f fd ["cell", "k"] (J48 K qA qB qC qD qE qF qG qH qI qJ qK qL qM):=by
  refine F.ok Z48 (fun vs H Q E h=>?_) (fun cdv A outer s H vs Q E hr h=>?_)
  · obtain ⟨c,k,rfl,h0,h1,q⟩:=h
    rfl
  obtain ⟨c,k,rfl,h0,h1,q⟩:=h
  refine ⟨_,(pss_cut (ps_set (i:=2) Z48.nd rfl (Or.inl rfl) (pe_op op_mulO (pe_op op_add (pe_op op_mod (pv 0) (pe_op op_pow pe_int pe_int)) pe_int) (pe_op op_add pe_int (pe_op op_mul (pe_op op_mul pe_int (pv 1)) (pv 1)))))
     (pss_cut (ps_set (i:=2) Z48.nd rfl (Or.inl rfl) (pe_op op_add (pv 2) (pe_op op_mul pe_int (pv 1))))
     (pss_one (ps_ret (pe_op op_mod (pe_op op_mulO (pv 2) (pv 2)) (pe_op op_add (pe_op op_pow pe_int pe_int) pe_int)))))),?_⟩
  have a0:=Int.emod_nonneg c (Int.ne_of_gt (p10 (60:Int).toNat))
  have a1:=Int.emod_lt_of_pos c (p10 (60:Int).toNat)
  have t60:(10:Int) ^ (60:Int).toNat < 2 ^ 200:=by decide
  have kk:0 ≤ 2 * k * k∧2 * k * k ≤ 20000:=by
    have z1:0 ≤ 2 * k:=by omega
    have z2:=Int.mul_nonneg z1 h0
    have z3:2 * k * k ≤ 2 * k * 100:=Int.mul_le_mul_of_nonneg_left h1 z1
    omega
  refine ⟨fun σ' H'=>H' = H∧∃ b:Int,0 ≤ b∧b < 2 ^ 400∧σ' = [some (.int c),some (.int k),some (.int b)],?_,?_⟩
  · have hA:0 ≤ c % 10 ^ (60:Int).toNat + 1∧c % 10 ^ (60:Int).toNat + 1 ≤ 2 ^ 200:=⟨by omega,by omega⟩
    have hB:0 ≤ 31415926535897932384626433832795028841971 + 2 * k * k∧31415926535897932384626433832795028841971 + 2 * k * k < 2 ^ 140:=by
      have:(31415926535897932384626433832795028841971:Int) + 20000 < 2 ^ 140:=by decide
      omega
    have hM:IntMulOk (c % 10 ^ (60:Int).toNat + 1) (31415926535897932384626433832795028841971 + 2 * k * k):=by
      refine mul_bits (m:=201) (n:=140) ?_ ?_ (by decide) (by decide)
      · have:(2:Int) ^ 200 < ((2 ^ 201:Nat):Int):=by decide
        omega
      · have:(2:Int) ^ 140 = ((2 ^ 140:Nat):Int):=by decide
        omega
    refine ⟨_,rfl,_,_,rfl,rfl,⟨by decide,by decide,by decide⟩,_,_,rfl,rfl,p10 _,_,_,rfl,rfl,_,rfl,_,_,rfl,rfl,.inl ⟨by decide,by decide⟩,_,rfl,_,_,rfl,rfl,.inr ⟨by omega,by omega⟩,_,_,rfl,rfl,_,_,rfl,rfl,hM,rfl,_,Int.mul_nonneg hA.1 hB.1,?_,rfl⟩
    have z:=Int.mul_le_mul hA.2 (Int.le_of_lt hB.2) hB.1 (by decide)
    have z2:(2:Int) ^ 200 * 2 ^ 140 < 2 ^ 400:=by decide
    omega
  rintro σ1 H1 ⟨rfl,b,b0,b1,rfl⟩
  refine ⟨fun σ' H'=>H' = H1∧∃ b:Int,0 ≤ b∧b < 2 ^ 401∧σ' = [some (.int c),some (.int k),some (.int b)],?_,?_⟩
  · refine ⟨_,rfl,_,rfl,_,_,rfl,rfl,.inl ⟨by decide,by decide⟩,_,_,rfl,rfl,rfl,_,by omega,?_,rfl⟩
    have z2:(2:Int) ^ 400 + 7919 * 100 < 2 ^ 401:=by decide
    omega
  rintro σ2 H2 ⟨rfl,b',b2,b3,rfl⟩
  have hM:IntMulOk b' b':=by
    have e:(2:Int) ^ 401 = ((2 ^ 401:Nat):Int):=by decide
    refine mul_bits (m:=401) (n:=401) ?_ ?_ (by decide) (by decide) <;> omega
  have hp:(0:Int) < 10 ^ (60:Int).toNat + 9:=by have:=p10 (60:Int).toNat; omega
  exact ⟨_,rfl,_,rfl,_,_,rfl,rfl,hM,_,_,rfl,rfl,⟨by decide,by decide,by decide⟩,_,_,rfl,rfl,_,_,rfl,rfl,hp,q _ (Int.emod_nonneg _ (Int.ne_of_gt hp))⟩
theorem O_57 (F:Fun K "_law_word" "_law_word" Y57 f fd) (bl:Bl K mg qA qB qC qD qE qF qG qH qI qJ qK qL qM)  : FnOk P w K mg base CX0 1 f fd ["cell", "k"] (J57 K qA qB qC qD qE qF qG qH qI qJ qK qL qM):=by
  refine F.ok Z57 (fun vs H Q E h=>?_) (fun cdv A outer s H vs Q E hr h=>?_)
  · obtain ⟨c,k,rfl,q⟩:=h
    rfl
  obtain ⟨c,k,rfl,q⟩:=h
  refine ⟨_,(pss_cut (ps_set (i:=2) Z57.nd rfl (Or.inl rfl) (pe_op op_rep_str (pe_ix ix_str pe_str (pe_op op_mod (pv 0) pe_int) (fun _ _=>rfl)) (pe_op op_mod (pe_op op_fdiv (pv 0) pe_int) pe_int)))
     (pss_cut (ps_set (i:=3) Z57.nd rfl (Or.inl rfl) (pe_op op_rep_str (pe_ix ix_str pe_str (pe_op op_mod (pe_op op_fdiv (pv 0) pe_int) pe_int) (fun _ _=>rfl)) (pe_op op_mod (pv 1) pe_int)))
     (pss_one (ps_ret (pe_op op_add_str (pe_op op_add_str (pe_op op_add_str (pv 2) (pe_ix ix_str pe_str (pe_op op_mod (pe_op op_fdiv (pv 1) pe_int) pe_int) (fun _ _=>rfl))) (pe_ix ix_str pe_str (pe_op op_mod (pv 1) pe_int) (fun _ _=>rfl))) (pv 3)))))),?_⟩
  have m1:∀ (x:Nat) (n:Int),0 ≤ n→n < 10→MulOk ⟨#[x]⟩ n:=fun x n h0 h1=>by
    have:n = 0∨n = 1∨n = 2∨n = 3∨n = 4∨n = 5∨n = 6∨n = 7∨n = 8∨n = 9:=by omega
    have e:(⟨#[x]⟩:Str).length = 1:=rfl
    unfold MulOk
    rw [e]
    rcases this with rfl | rfl | rfl | rfl | rfl | rfl | rfl | rfl | rfl | rfl <;> decide
  have a0:=Int.emod_nonneg c (show (26:Int) ≠ 0 by decide)
  have a1:=Int.emod_lt_of_pos c (show (0:Int) < 26 by decide)
  have b0:=Int.emod_nonneg (c / 26) (show (6:Int) ≠ 0 by decide)
  have b1:=Int.emod_lt_of_pos (c / 26) (show (0:Int) < 6 by decide)
  have d0:=Int.emod_nonneg (c / 156) (show (26:Int) ≠ 0 by decide)
  have d1:=Int.emod_lt_of_pos (c / 156) (show (0:Int) < 26 by decide)
  have e0:=Int.emod_nonneg k (show (5:Int) ≠ 0 by decide)
  have e1:=Int.emod_lt_of_pos k (show (0:Int) < 5 by decide)
  have f0:=Int.emod_nonneg (k / 7) (show (7:Int) ≠ 0 by decide)
  have f1:=Int.emod_lt_of_pos (k / 7) (show (0:Int) < 7 by decide)
  have g0:=Int.emod_nonneg k (show (7:Int) ≠ 0 by decide)
  have g1:=Int.emod_lt_of_pos k (show (0:Int) < 7 by decide)
  refine ⟨fun σ' H'=>H' = H∧σ' = [some (.int c),some (.int k),some (.str ⟨(List.replicate (c / 26 % 6).toNat (97 + (c % 26).toNat)).toArray⟩),none],?_,?_⟩
  · refine ⟨_,rfl,_,_,rfl,rfl,(by show (0:Int) < 26; decide),_,_,_,rfl,rfl,(by decide),lets_at abc26 a0 a1,_,rfl,_,_,rfl,rfl,⟨by decide,by decide⟩,_,_,rfl,rfl,(by show (0:Int) < 6; decide),_,_,rfl,rfl,m1 _ _ b0 (by omega),rfl,?_⟩
    rw [mul1]
    rfl
  rintro σ1 H1 ⟨rfl,rfl⟩
  refine ⟨fun σ' H'=>H' = H1∧σ' = [some (.int c),some (.int k),some (.str ⟨(List.replicate (c / 26 % 6).toNat (97 + (c % 26).toNat)).toArray⟩),some (.str ⟨(List.replicate (k % 5).toNat (97 + (c / 156 % 26).toNat)).toArray⟩)],?_,?_⟩
  · refine ⟨_,rfl,_,_,rfl,rfl,⟨by decide,by decide⟩,_,_,rfl,rfl,(by show (0:Int) < 26; decide),_,_,_,rfl,rfl,(by decide),lets_at abc26 d0 d1,_,rfl,_,_,rfl,rfl,(by show (0:Int) < 5; decide),_,_,rfl,rfl,m1 _ _ e0 (by omega),rfl,?_⟩
    rw [mul1]
    rfl
  rintro σ2 H2 ⟨rfl,rfl⟩
  have n1:(⟨(List.replicate (c / 26 % 6).toNat (97 + (c % 26).toNat)).toArray⟩:Str).length ≤ 6:=by simp [Str.length]; omega
  have n2:(⟨(List.replicate (k % 5).toNat (97 + (c / 156 % 26).toNat)).toArray⟩:Str).length ≤ 6:=by simp [Str.length]; omega
  have o1:∀ x:Nat,(⟨#[x]⟩:Str).length = 1:=fun _=>rfl
  refine ⟨_,rfl,_,rfl,_,_,rfl,rfl,⟨by decide,by decide⟩,_,_,rfl,rfl,(by show (0:Int) < 7; decide),_,_,_,rfl,rfl,(by decide),lets_at abc7 f0 f1,_,_,rfl,rfl,big (by rw [o1]; omega),_,rfl,_,_,rfl,rfl,(by show (0:Int) < 7; decide),_,_,_,rfl,rfl,(by decide),lets_at abc7 g0 g1,_,_,rfl,rfl,big (by rw [len_app,o1,o1]; omega),_,rfl,_,_,rfl,rfl,big (by rw [len_app,len_app,o1,o1]; omega),?_⟩
  have e:∀ (A B:List Nat) (x y:Nat),(⟨A.toArray⟩:Str) ++ (⟨#[x]⟩:Str) ++ (⟨#[y]⟩:Str) ++ (⟨B.toArray⟩:Str) = ⟨(A ++ ([x,y] ++ B)).toArray⟩:=fun A B x y=>by
    show Str.append (Str.append (Str.append _ _) _) _ = _
    unfold Str.append
    simp
  show Q (.str (_ ++ _ ++ _ ++ _)) H2
  rw [e]
  exact q
theorem O_54 (F:Fun K "_law_spans" "_law_spans" Y54 f fd) (bl:Bl K mg qA qB qC qD qE qF qG qH qI qJ qK qL qM)  : FnOk P w K mg base CX0 1 f fd ["pairs", "bits"] (J54 K qA qB qC qD qE qF qG qH qI qJ qK qL qM):=by
  refine F.ok Z54 (fun vs H Q E h=>?_) (fun cdv A outer s H vs Q E hr h=>?_)
  · obtain ⟨pl,ts,prs,b,rfl,hpl,hp,hch,h6,q⟩:=h
    rfl
  obtain ⟨pl,ts,prs,b,rfl,hpl,hp,hch,h6,q⟩:=h
  refine ⟨_,(pss_cons (ps_set (i:=2) Z54.nd rfl (Or.inl rfl) (pe_lst pa_nil))
     (pss_cons (ps_for PassesOwn.never rfl (pi_enum rfl bl.enumerate_ (pa_cons (pv 0) pa_nil)) (pg_tup rfl (pgs_cons (pg_name (i:=3) Z54.nd rfl (Or.inl rfl)) (pgs_cons (pg_name (i:=4) Z54.nd rfl (Or.inl rfl)) pgs_nil)))
     (pss_one (ps_if (pt_cmpR op_eq (pe_op op_and (pe_op op_shr (pv 1) (pv 3)) pe_int) pe_int (nomark _))
     (pss_one (ps_if (PW.pt (pw_and (pt_cmpR op_gt (pv 3) pe_int (nomark _)) (pw_and1 (pt_cmpR op_eq (pe_op op_and (pe_op op_shr (pv 1) (pe_op op_sub (pv 3) pe_int)) pe_int) pe_int (nomark _)))))
     (pss_one (ps_asg (pe_tup (pa_cons (pe_ix ix_tup (pe_ix ix_list (pv 2) (pe_un un_neg pe_int) (fun _ _=>rfl)) pe_int (fun _ _=>rfl)) (pa_cons (pe_ix ix_tup (pv 4) pe_int (fun _ _=>rfl)) pa_nil))) (pg_sub (pv 2) (pe_un un_neg pe_int) set_list)))
     (pss_one (ps_expr (pe_bm PySem.F.plainAttrs_list PySem.F.slot_list_append PySem.F.type_list_append mt_append (pv 2) (pa_cons (pv 4) pa_nil))))))
     pss_nil)))
     (pss_one (ps_ret (pv 2))))),?_⟩
  have htl:=hp.length
  refine ⟨(by show 0 ≤ sizeLine; decide),fun sp hsp=>?_⟩
  have s0:Same H (upd H sp (.lst [])):=same_new hsp _
  have e0:upd H sp (.lst []) sp = some (.lst []):=upd_same
  generalize upd H sp (.lst []) = H0 at s0 e0 ⊢
  refine ⟨_,rfl,pl,rfl,⟨_,SqL.of (s0 _ _ hpl)⟩,for_enum (xs:=ts) (fun i σ H'=>Same H H'∧∃ (ys:List V) (ps:Prs) (c3 c4:Option V),H' sp = some (.lst ys)∧PL H' ys ps∧SpOk prs b i ps∧ps = mrg prs b i∧ys.length ≤ i∧σ = [some (.ref pl),some (.int (b:Int)),some (.ref sp),c3,c4]) ⟨s0,[],[],_,_,e0,.nil,SpOk.nil,rfl,Nat.le_refl _,rfl⟩ (fun i σ H' hh=>SqL.of (hh.1 _ _ hpl)) (fun i y σ H' T ey hh hT=>?_) (fun σ H' hh=>?_)⟩
  · obtain ⟨sm,ys,ps,c3,c4,es,hP,ok,his,hly,rfl⟩:=hh
    obtain ⟨u,ru,eu,rfl,hu⟩:=hp.get ey
    have hi:i < prs.length:=(List.getElem?_eq_some_iff.mp eu).1
    have s2:=sm.trans (same_new hT (.tup [.int (i:Int),.ref ru]))
    have eT:upd H' T (.tup [.int (i:Int),.ref ru]) T = some (.tup [.int (i:Int),.ref ru]):=upd_same
    have es2:upd H' T (.tup [.int (i:Int),.ref ru]) sp = some (.lst ys):=ret_r1 es hT
    have hP2:=hP.mono (same_new hT (.tup [.int (i:Int),.ref ru])).tups
    have hu2:=s2 _ _ hu
    generalize upd H' T (.tup [.int (i:Int),.ref ru]) = H2 at s2 eT es2 hP2 hu2 ⊢
    refine ⟨T,_,rfl,SqT.of eT,rfl,_,_,rfl,_,_,rfl,rfl,?_⟩
    refine ⟨_,rfl,_,rfl,_,_,rfl,rfl,(by show (0:Int) ≤ (i:Int); omega),_,_,rfl,rfl,rfl,_,rfl,?_⟩
    have eb:=bit_and b i
    refine ite2 (fun g=>?_) (fun g=>⟨s2,ys,ps,_,_,es2,hP2,ok.skip (by rw [← eb]; exact Bool.eq_false_iff.mpr g),by rw [his,mrg_no (by rw [← eb]; exact Bool.eq_false_iff.mpr g)],by omega,rfl⟩)
    have gb:b.testBit i = true:=by rw [← eb]; exact g
    refine ⟨_,rfl,_,_,rfl,rfl,_,rfl,?_⟩
    refine ite2 (fun g1=>?_) (fun g1=>iteF ?e1)
    have g1' : (0:Int) < (i:Int):=dec_t g1
    obtain ⟨n,rfl⟩:∃ n,i = n + 1:=⟨i - 1,by omega⟩
    have eb0:=bit_and b n
    refine ⟨_,rfl,_,rfl,_,_,rfl,rfl,_,_,rfl,rfl,(by show (0:Int) ≤ ((n + 1:Nat):Int) - 1; omega),_,_,rfl,rfl,rfl,_,rfl,?_⟩
    have en:(((n + 1:Nat):Int) - 1).toNat = n:=by omega
    rw [en]
    refine ite2 (fun g2=>?_) (fun g2=>?e2)
    have gb0:b.testBit n = true:=by rw [← eb0]; exact g2
    obtain ⟨p0,ep0⟩:∃ p0,prs[n]? = some p0:=⟨_,List.getElem?_eq_getElem (by omega)⟩
    obtain ⟨ps',v,eps,ev⟩:=ok.lastAt hch gb0 ep0
    obtain ⟨ys',r,ps2,p2,ey',eq',hP',er⟩:=hP2.last (by intro z; rw [z] at hP2; have:=hP2.length; rw [eps] at this; simp at this)
    rw [eq'] at eps
    obtain ⟨rfl,hv⟩:=List.append_inj' eps rfl
    have hv:p2 = v:=by simpa using hv
    subst hv
    subst ey' eq'
    refine ⟨_,rfl,_,rfl,sp,_,_,_,rfl,rfl,SqL.of es2,atI_last _ _,r,_,_,_,rfl,rfl,SqT.of er,z0 _ _,_,rfl,ru,_,_,_,rfl,rfl,SqT.of hu2,z1 _ _,small2,fun t ht=>?_⟩
    have x1:upd H2 t (.tup [.int p2.1,.int u.2]) sp = some (.lst (ys' ++ [.ref r])):=ret_r1 es2 ht
    refine ⟨_,rfl,_,rfl,sp,_,_,_,rfl,rfl,x1,ixN_last (by simp),?_⟩
    rw [set_last]
    have st:SameT H2 (upd (upd H2 t (.tup [.int p2.1,.int u.2])) sp (.lst (ys' ++ [.ref t]))):=(sameT_new ht).trans (sameT_lst x1)
    refine ⟨(s2.trans (same_new ht _)).upd hsp,ys' ++ [.ref t],ps2 ++ [(p2.1,u.2)],_,_,upd_same,(hP'.mono st).snoc (sameT_lst x1 _ _ upd_same),ok.join hch gb gb0 ep0 eu ev,?_,?_,rfl⟩
    · rw [mrg_join gb gb0 his eu]
    · rw [List.length_append,List.length_singleton] at hly ⊢
      omega
    all_goals
      refine ⟨_,rfl,.inl ⟨rfl,_,SqL.of es2⟩,_,rfl,sp,_,_,rfl,rfl,es2,small1000 (by omega),?_⟩
      have st:SameT H2 (upd H2 sp (.lst (ys ++ [.ref ru]))):=sameT_lst es2
      exact ⟨s2.upd hsp,ys ++ [.ref ru],ps ++ [(u.1,u.2)],_,_,upd_same,(hP2.mono st).snoc (st _ _ hu2),ok.put hch gb eu,by rw [his,mrg_put gb (by first | (rw [show i = 0 by (have:¬ ((0:Int) < (i:Int)):=fun z=>g1 (decide_eq_true z)); omega]; rfl) | (rw [show n + 1 - 1 = n by omega,← eb0,Bool.eq_false_iff.mpr g2,Bool.and_false])) eu],by rw [List.length_append,List.length_singleton]; omega,rfl⟩
  · obtain ⟨sm,ys,ps,c3,c4,es,hP,ok,his,hly,rfl⟩:=hh
    rw [htl] at ok his
    exact ⟨_,rfl,q sp ps H' sm ⟨hsp,ys,es,hP⟩ ok his⟩
theorem O_50 (F:Fun K "_law_points" "_law_points" Y50 f fd) (bl:Bl K mg qA qB qC qD qE qF qG qH qI qJ qK qL qM)  : FnOk P w K mg base CX0 1 f fd ["columns"] (J50 K qA qB qC qD qE qF qG qH qI qJ qK qL qM):=by
  refine F.ok Z50 (fun vs H Q E h=>?_) (fun cdv A outer s H vs Q E hr h=>?_)
  · obtain ⟨cl,xs,cs,rfl,hcl,hcs,hok,h4,q⟩:=h
    rfl
  obtain ⟨cl,xs,cs,rfl,hcl,hcs,hok,h4,q⟩:=h
  refine ⟨_,(pss_cons (ps_set (i:=1) Z50.nd rfl (Or.inl rfl) (pe_lst (pa_cons (pe_lst pa_nil) pa_nil)))
     (pss_cons (ps_for PassesOwn.never rfl (pi_list (pv 0)) (pg_name (i:=2) Z50.nd rfl (Or.inl rfl))
     (pss_cons (ps_set (i:=3) Z50.nd rfl (Or.inl rfl) (pe_lst pa_nil))
     (pss_cut (ps_for PassesOwn.never rfl (pi_list (pv 1)) (pg_name (i:=4) Z50.nd rfl (Or.inl rfl))
     (pss_one (ps_for PassesOwn.never rfl (pi_range1 rfl bl.range_ (pa_cons (pe_callB call_len_seq rfl bl.len_ PySem.boot_len (pa_cons (pe_ix ix_list (pv 2) pe_int (fun _ _=>rfl)) pa_nil)) pa_nil)) (pg_name (i:=5) Z50.nd rfl (Or.inl rfl))
     (pss_one (ps_expr (pe_bm PySem.F.plainAttrs_list PySem.F.slot_list_append PySem.F.type_list_append mt_append (pv 3) (pa_cons (pe_op op_cat (pv 4) (pe_lst (pa_cons (pv 5) pa_nil))) pa_nil)))))))
     (pss_one (ps_set (i:=1) Z50.nd rfl (Or.inl rfl) (pv 3))))))
     (pss_one (ps_ret (pv 1))))),?_⟩
  have hxl:xs.length = cs.length:=hcs.1
  refine ⟨(by show 0 ≤ sizeLine; decide),fun a0 ha0=>?_⟩
  have s0:=same_new ha0 (.lst (vN []))
  have e0:upd H a0 (.lst (vN [])) a0 = some (.lst (vN [])):=upd_same
  have ee:upd H a0 (.lst []) = upd H a0 (.lst (vN [])):=rfl
  rw [ee]
  clear ee
  generalize upd H a0 (.lst (vN [])) = H0 at s0 e0 ⊢
  refine ⟨(by show 1 ≤ sizeLine; decide),fun p0 hp0=>?_⟩
  have s1:=s0.trans (same_new hp0 (.lst [.ref a0]))
  have e1:upd H0 p0 (.lst [.ref a0]) p0 = some (.lst [.ref a0]):=upd_same
  have e1a:=same_new hp0 (.lst [.ref a0]) _ _ e0
  generalize upd H0 p0 (.lst [.ref a0]) = H1 at s1 e1 e1a ⊢
  have st0:PtL NT H1 [.ref a0] [[]]:=⟨rfl,fun j p e=>by
    match j,e with
    | 0,e=>cases e; exact ⟨a0,rfl,trivial,e1a⟩
    | j + 1,e=>simp at e⟩
  refine ⟨_,rfl,cl,rfl,⟨_,SqL.of (s1 _ _ hcl)⟩,for_list (xs:=xs) (fun i σ H'=>Same H H'∧∃ (pl:Addr) (zs:List V) (c2 c3 c4 c5:Option V),H' pl = some (.lst zs)∧PtL NT H' zs (prodP ((lens cs).take i))∧zs.length ≤ 6 ^ i∧σ = [some (.ref cl),some (.ref pl),c2,c3,c4,c5]) ⟨s1,p0,_,_,_,_,_,e1,st0,by show 1 ≤ 6 ^ 0; decide,rfl⟩ (fun i σ H' _ h=>SqL.of (h.1 _ _ hcl)) (fun i y σ H' ey hh=>?_) (fun σ H' hh=>?_)⟩
  · obtain ⟨sm,pl,zs,c2,c3,c4,c5,epl,hpt,hsz,rfl⟩:=hh
    obtain ⟨lc,c,rfl,ec,cpl,ts,_,_,g1,g2,g3⟩:=RefL.get (hcs.same sm) ey
    have hi:i < cs.length:=(List.getElem?_eq_some_iff.mp ec).1
    have ok:=hok c (List.mem_of_getElem? ec)
    have k6:=ok.few
    have htl:=g3.length
    have hlen6:6 ^ i ≤ 216:=by
      have:i ≤ 3:=by omega
      exact Nat.le_trans (Nat.pow_le_pow_right (by decide) this) (by decide)
    refine ⟨(by show 0 ≤ sizeLine; decide),fun M hM=>?_⟩
    have u1:=same_new hM (.lst [])
    have eM:upd H' M (.lst []) M = some (.lst []):=upd_same
    generalize upd H' M (.lst []) = H2 at u1 eM ⊢
    have hptl:zs.length = (prodP ((lens cs).take i)).length:=hpt.1
    refine ⟨fun σ' H3=>Same H' H3∧∃ (ys:List V) (c4 c5:Option V),H3 M = some (.lst ys)∧PtL (· ≠ M) H3 ys (grow (prodP ((lens cs).take i)) c.prs.length)∧σ' = [some (.ref cl),some (.ref pl),some (.ref lc),some (.ref M),c4,c5],?_,?_⟩
    · refine ⟨_,rfl,pl,rfl,⟨_,SqL.of (u1 _ _ epl)⟩,for_list (xs:=zs) (fun a σ H3=>Same H' H3∧∃ (ys:List V) (c4 c5:Option V),H3 M = some (.lst ys)∧PtL (· ≠ M) H3 ys (grow ((prodP ((lens cs).take i)).take a) c.prs.length)∧σ = [some (.ref cl),some (.ref pl),some (.ref lc),some (.ref M),c4,c5]) ⟨u1,[],_,_,eM,RefL.nil,rfl⟩ (fun a σ H3 _ h=>SqL.of (h.1 _ _ epl)) (fun a y σ H3 ey2 h3=>?_) (fun σ H3 h3=>?_)⟩
      · obtain ⟨t3,ys,c4,c5,eM3,hy,rfl⟩:=h3
        obtain ⟨r,p,rfl,ep,_,hr3⟩:=RefL.get (hpt.same t3) ey2
        have ha:a < zs.length:=(List.getElem?_eq_some_iff.mp ey2).1
        refine ⟨_,rfl,lc,_,_,_,rfl,rfl,SqL.of (t3 _ _ g1),rfl,cpl,_,rfl,.inl (SqL.of (t3 _ _ g2)),_,rfl,(by show -(2 ^ 62) ≤ ((ts.length:Nat):Int); omega),(by show ((ts.length:Nat):Int) < 2 ^ 62; omega),for_range (fun b σ H4=>Same H' H4∧∃ (ys:List V) (c5:Option V),H4 M = some (.lst ys)∧PtL (· ≠ M) H4 ys (grow ((prodP ((lens cs).take i)).take a) c.prs.length ++ (List.range b).map fun k=>p ++ [k])∧σ = [some (.ref cl),some (.ref pl),some (.ref lc),some (.ref M),some (.ref r),c5]) ⟨t3,ys,_,eM3,by simpa using hy,rfl⟩ (fun b σ H4 hb h4_=>?_) (fun σ H4 h4_=>?_)⟩
        · obtain ⟨t4,ys4,c5',eM4,hy4,rfl⟩:=h4_
          have hr4:H4 r = some (.lst (vN p)):=by
            obtain ⟨r',p',er',ep',_,hr'⟩:=RefL.get hpt ey2
            cases er'
            rw [ep] at ep'; cases ep'
            exact t4 _ _ hr'
          have hb2:b < c.prs.length:=by first | omega | (rw [← htl]; omega)
          have hys:ys4.length ≤ 2000:=by
            have h1:=hy4.1
            rw [List.length_append,grow_len,List.length_take,List.length_map,List.length_range] at h1
            have h2:min a (prodP ((lens cs).take i)).length * c.prs.length ≤ 216 * 6:=Nat.mul_le_mul (by omega) k6
            omega
          have hpl:p.length ≤ 4:=by
            have:=(PtOk.iff.mp (List.mem_of_getElem? ep)).1
            rw [List.length_take] at this
            unfold lens at this
            rw [List.length_map] at this
            omega
          refine ⟨_,rfl,.inl ⟨rfl,_,SqL.of eM4⟩,_,rfl,_,rfl,(by show 1 ≤ sizeLine; decide),fun k1 hk1=>?_⟩
          have v1:=same_new hk1 (.lst (vN [b]))
          have f1:upd H4 k1 (.lst (vN [b])) k1 = some (.lst (vN [b])):=upd_same
          have ee:upd H4 k1 (.lst [V.int (0 + (b:Int))]) = upd H4 k1 (.lst (vN [b])):=by rw [Int.zero_add]; rfl
          rw [ee]
          clear ee
          generalize upd H4 k1 (.lst (vN [b])) = H5 at v1 f1 ⊢
          refine ⟨r,k1,_,_,rfl,rfl,v1 _ _ hr4,f1,Nat.le_of_lt (small1000 (by rw [vN_len,vN_len]; simp; omega)),fun k2 hk2=>?_⟩
          rw [vN_app]
          have v2:=same_new hk2 (.lst (vN (p ++ [b])))
          have f2:upd H5 k2 (.lst (vN (p ++ [b]))) k2 = some (.lst (vN (p ++ [b]))):=upd_same
          have eM5:=v1 _ _ eM4
          have nk:k2 ≠ M:=fun z=>by rw [z,eM5] at hk2; cases hk2
          generalize upd H5 k2 (.lst (vN (p ++ [b]))) = H6 at v2 f2 ⊢
          have eM6:=v2 _ _ eM5
          refine ⟨M,_,_,rfl,rfl,eM6,small2000 hys,?_⟩
          have hy6:PtL (· ≠ M) H6 (ys4 ++ [.ref k2]) (grow ((prodP ((lens cs).take i)).take a) c.prs.length ++ ((List.range b).map fun k=>p ++ [k]) ++ [p ++ [b]]):=RefL.snoc (hy4.same (v1.trans v2)) ⟨nk,f2⟩
          refine ⟨((t4.trans v1).trans v2).upd hM,ys4 ++ [.ref k2],_,upd_same,?_,rfl⟩
          rw [List.range_succ,List.map_append,List.map_singleton,← List.append_assoc]
          exact hy6.updN (fun z=>z rfl)
        · obtain ⟨t4,ys4,c5',eM4,hy4,rfl⟩:=h4_
          refine ⟨t4,ys4,_,_,eM4,?_,rfl⟩
          rw [grow_take ep]
          rw [htl] at hy4
          exact hy4
      · obtain ⟨t3,ys,c4,c5,eM3,hy,rfl⟩:=h3
        rw [hptl,List.take_length] at hy
        exact ⟨t3,ys,_,_,eM3,hy,rfl⟩
    rintro σ3 H3 ⟨t3,ys,c4',c5',eM3,hy,rfl⟩
    have el:(lens cs)[i]? = some c.prs.length:=by unfold lens; rw [List.getElem?_map,ec]; rfl
    have hyl:=hy.1
    rw [grow_len] at hyl
    refine ⟨_,rfl,sm.trans t3,M,ys,_,_,_,_,eM3,?_,?_,rfl⟩
    · rw [take_snoc el,prodP_snoc]
      exact hy.any
    · rw [hyl,← hptl,Nat.pow_succ]
      exact Nat.mul_le_mul hsz k6
  · obtain ⟨sm,pl,zs,c2,c3,c4,c5,epl,hpt,hsz,rfl⟩:=hh
    have:(lens cs).length = cs.length:=by unfold lens; rw [List.length_map]
    rw [hxl,← this,List.take_length] at hpt
    exact ⟨_,rfl,q pl zs H' sm epl hpt⟩
theorem O_42 (F:Fun K "_law_codes" "_law_codes" Y42 f fd) (bl:Bl K mg qA qB qC qD qE qF qG qH qI qJ qK qL qM)  : FnOk P w K mg base CX0 1 f fd ["columns", "point", "turn"] (J42 K qA qB qC qD qE qF qG qH qI qJ qK qL qM):=by
  refine F.ok Z42 (fun vs H Q E h=>?_) (fun cdv A outer s H vs Q E hr h=>?_)
  · obtain ⟨cl,pl,xs,cs,p,tn,rfl,hcl,hcs,hok,h4,hpl,hpt,q⟩:=h
    rfl
  obtain ⟨cl,pl,xs,cs,p,tn,rfl,hcl,hcs,hok,h4,hpl,hpt,q⟩:=h
  refine ⟨_,(pss_one (ps_ret (pe_compG (pi_zip rfl bl.zip_ (pa_cons (pv 0) (pa_cons (pv 1) pa_nil))) (cmpOkG_free (N:=["column", "k", "turn"]) (k:=2) (fr:=[2]) (cl:=[("turn",s.heap.objs.size + 1)]) rfl rfl (by decide +kernel) (by decide +kernel) rfl rfl (List.forall_mem_cons.mpr ⟨rfl,List.forall_mem_nil _⟩) rfl) rfl (fun _ _ _ _=>(gTupK (K:=K) (n:=2) rfl rfl (pgs_cons (pg_name (i:=0) (show (["column", "k", "turn"]:List Str).Nodup by decide +kernel) rfl (Or.inl rfl) (Or.inr rfl)) (pgs_cons (pg_name (i:=1) (show (["column", "k", "turn"]:List Str).Nodup by decide +kernel) rfl (Or.inl rfl) (Or.inr rfl)) pgs_nil)))) (fun _ _ _ _=>pif_nil) (fun _ _ _ _=>(pe_ix (ix_tupK (K:=K) rfl) (pe_ix (ix_listK (K:=K) rfl) (pe_ix (ix_listK (K:=K) rfl) (pv 0) pe_int (fun _ _=>rfl)) (pv 1) (fun _ _=>rfl)) (pe_op op_mod (pe_op op_add (pv 1) (pv 2)) pe_int) (fun _ _=>rfl)))))),?_⟩
  have hxl:xs.length = cs.length:=hcs.1
  have hpl_:p.length = cs.length:=by rw [hpt.1]; unfold lens; rw [List.length_map]
  have hmin:min xs.length (vN p).length = cs.length:=by rw [vN_len]; omega
  refine ⟨_,rfl,_,rfl,cl,pl,rfl,⟨_,SqL.of hcl⟩,⟨_,SqL.of hpl⟩,compG_zip (xs:=xs) (ys:=vN p) (fun D i ys H2=>Same H H2∧H2 D = some (.lst ys)∧∃ cd:List Int,ys = cd.map V.int∧cd.length = i∧∀ (j:Nat) (x:Int) (c:Col) (a:Nat),cd[j]? = some x→cs[j]? = some c→p[j]? = some a→∃ pr,c.prs[a]? = some pr∧(x = pr.1∨x = pr.2))
    (fun D hD=>⟨same_new hD _,upd_same,[],rfl,rfl,(fun j x c a e=>by simp at e)⟩) (fun D i ys H2 hD _ h=>⟨SqL.of (h.1 _ _ hcl),SqL.of (h.1 _ _ hpl)⟩) (fun D j x y ys H2 T hD ex ey2 h hT ts hts=>?_) (fun D ys H2 hD h=>?_)⟩
  · obtain ⟨s2,eD,cd,rfl,hlen,hat⟩:=h
    obtain ⟨lc,c,rfl,ec,cpl,tp_,_,_,g1,g2,g3⟩:=RefL.get (hcs.same s2) ex
    obtain ⟨a,rfl,ea⟩:=vN_of ey2
    obtain ⟨t0,t1,rfl⟩:∃ t0 t1,ts = [t0,t1]:=by
      match ts,hts with
      | [t0,t1],_=>exact ⟨t0,t1,rfl⟩
    have s3:=same_new hT (.tup [.ref lc,.int (a:Int)])
    have eT:upd H2 T (.tup [.ref lc,.int (a:Int)]) T = some (.tup [.ref lc,.int (a:Int)]):=upd_same
    generalize upd H2 T (.tup [.ref lc,.int (a:Int)]) = H3 at s3 eT ⊢
    have hac:a < c.prs.length:=hpt.2 j a _ ea (by unfold lens; rw [List.getElem?_map,ec]; rfl)
    obtain ⟨rp,pr,e1,e2,e3⟩:=pl_at g3 (i:=(a:Int)) (by omega) (by rw [g3.length]; omega)
    rw [Int.toNat_natCast] at e2
    obtain ⟨x,ex2,hx⟩:=end2 (p:=pr) (m:=(a:Int) + tn)
    refine ⟨T,_,rfl,SqT.of eT,rfl,_,_,rfl,_,_,rfl,rfl,⟨[some (.ref lc),some (.int (a:Int))],rfl,rfl⟩,?_⟩
    have hj:j < min xs.length (vN p).length:=by
      have:=(List.getElem?_eq_some_iff.mp ex).1
      rw [hmin,← hxl]; exact this
    have eD3:=s3 _ _ eD
    refine ⟨_,rfl,lc,_,_,_,rfl,rfl,SqL.of (s3 _ _ g1),rfl,_,rfl,cpl,_,_,_,rfl,rfl,SqL.of (s3 _ _ g2),e1,_,rfl,_,rfl,_,_,rfl,rfl,_,_,rfl,rfl,(by show (0:Int) < 2; decide),rp,_,_,_,rfl,rfl,SqT.of (s3 _ _ e3),ex2,CYes.mk hj eD3 (small1000 (by rw [List.length_map]; omega)) ⟨(s2.trans s3).upd hD,upd_same,cd ++ [x],by simp,by simp [hlen],fun j' x' c' a' f1 f2 f3=>?_⟩⟩
    by_cases hj' : j' < cd.length
    · rw [List.getElem?_append_left hj'] at f1
      exact hat j' x' c' a' f1 f2 f3
    · have hj2:j' = cd.length:=by have:=(List.getElem?_eq_some_iff.mp f1).1; simp at this; omega
      subst hj2
      simp at f1
      subst f1
      rw [hlen] at f2 f3
      rw [ec] at f2
      rw [ea] at f3
      cases f2; cases f3
      exact ⟨pr,e2,hx⟩
  · obtain ⟨s2,eD,cd,rfl,hlen,hat⟩:=h
    rw [hmin] at hlen
    exact q D cd H2 s2 eD ⟨hlen,hat⟩
theorem O_46 (F:Fun K "_law_fit" "_law_fit" Y46 f fd) (bl:Bl K mg qA qB qC qD qE qF qG qH qI qJ qK qL qM)  : FnOk P w K mg base CX0 1 f fd ["bit_row", "point"] (J46 K qA qB qC qD qE qF qG qH qI qJ qK qL qM):=by
  refine F.ok Z46 (fun vs H Q E h=>?_) (fun cdv A outer s H vs Q E hr h=>?_)
  · obtain ⟨r,pl,w_,p,rfl,⟨bl0,f1,_,f2⟩,hpl,hlen,h100,q⟩:=h
    rfl
  obtain ⟨r,pl,w_,p,rfl,⟨bl0,f1,_,f2⟩,hpl,hlen,h100,q⟩:=h
  refine ⟨_,(pss_one (ps_ret (pe_callB (call_all_bools rfl) rfl bl.all_ PyProof.Rows.boot_all (pa_cons (pe_compG (pi_zip rfl bl.zip_ (pa_cons (pe_ix ix_tup (pv 0) pe_int (fun _ _=>rfl)) (pa_cons (pv 1) pa_nil))) (cmpOkG_plain (N:=["bit", "k"]) (k:=2) rfl rfl (by decide +kernel) (by decide +kernel) (by decide +kernel)) rfl (fun _ _ _ _=>(gTupK (K:=K) (n:=2) rfl rfl (pgs_cons (pg_name (i:=0) (show (["bit", "k"]:List Str).Nodup by decide +kernel) rfl (Or.inl rfl) (Or.inr rfl)) (pgs_cons (pg_name (i:=1) (show (["bit", "k"]:List Str).Nodup by decide +kernel) rfl (Or.inl rfl) (Or.inr rfl)) pgs_nil)))) (fun _ _ _ _=>pif_nil) (fun _ _ _ _=>(pe_cmpR op_eq (pe_op op_and (pe_op op_shr (pv 0) (pv 1)) pe_int) pe_int (nomark _)))) pa_nil)))),?_⟩
  have hmin:min (vN w_.1).length (vN p).length = p.length:=by rw [vN_len,vN_len]; omega
  refine ⟨_,rfl,r,_,_,_,rfl,rfl,SqT.of f1,rfl,_,rfl,bl0,pl,rfl,⟨_,SqL.of f2⟩,⟨_,SqL.of hpl⟩,compG_zip (xs:=vN w_.1) (ys:=vN p) (fun D i ys H2=>Same H H2∧H2 D = some (.lst ys)∧ys = ((List.range i).map fun j=>(w_.1.getD j 0).testBit (p.getD j 0)).map V.bl)
    (fun D hD=>⟨same_new hD _,upd_same,rfl⟩) (fun D i ys H2 hD _ h=>⟨SqL.of (h.1 _ _ f2),SqL.of (h.1 _ _ hpl)⟩) (fun D j x y ys H2 T hD ex ey2 h hT ts hts=>?_) (fun D ys H2 hD h=>?_)⟩
  · obtain ⟨s2,eD,rfl⟩:=h
    obtain ⟨b,rfl,eb⟩:=vN_of ex
    obtain ⟨a,rfl,ea⟩:=vN_of ey2
    obtain ⟨t0,t1,rfl⟩:∃ t0 t1,ts = [t0,t1]:=by
      match ts,hts with
      | [t0,t1],_=>exact ⟨t0,t1,rfl⟩
    have s3:=same_new hT (.tup [.int (b:Int),.int (a:Int)])
    have eT:upd H2 T (.tup [.int (b:Int),.int (a:Int)]) T = some (.tup [.int (b:Int),.int (a:Int)]):=upd_same
    generalize upd H2 T (.tup [.int (b:Int),.int (a:Int)]) = H3 at s3 eT ⊢
    refine ⟨T,_,rfl,SqT.of eT,rfl,_,_,rfl,_,_,rfl,rfl,⟨[some (.int (b:Int)),some (.int (a:Int))],rfl,rfl⟩,?_⟩
    have hj:j < min (vN w_.1).length (vN p).length:=by
      have:=(List.getElem?_eq_some_iff.mp ea).1
      rw [hmin]; exact this
    have hj2:j < p.length:=by rw [hmin] at hj; exact hj
    have eD3:=s3 _ _ eD
    refine ⟨_,rfl,_,rfl,_,_,rfl,rfl,(by show (0:Int) ≤ (a:Int); omega),_,_,rfl,rfl,rfl,CYes.mk hj eD3 (small1000 (by rw [List.length_map,List.length_map,List.length_range]; omega)) ⟨(s2.trans s3).upd hD,upd_same,?_⟩⟩
    have g1:w_.1.getD j 0 = b:=by rw [List.getD_eq_getElem?_getD,eb]; rfl
    have g2:p.getD j 0 = a:=by rw [List.getD_eq_getElem?_getD,ea]; rfl
    rw [List.range_succ,List.map_append,List.map_append]
    congr 1
    show [V.bl (decide (V.int (Builtin.bitAnd ((b:Int) / 2 ^ a) 1) = V.int 1))] = [V.bl ((w_.1.getD j 0).testBit (p.getD j 0))]
    rw [bit_and,g1,g2]
  · obtain ⟨s2,eD,rfl⟩:=h
    rw [hmin] at eD
    refine ⟨D,_,rfl,SqL.of eD,?_⟩
    have e:(((List.range p.length).map fun j=>(w_.1.getD j 0).testBit (p.getD j 0)).all id) = bfit w_.1 p:=by unfold bfit; rw [List.all_map]; rfl
    rw [e]
    exact q H2 s2
theorem O_56 (F:Fun K "_law_way" "_law_way" Y56 f fd) (bl:Bl K mg qA qB qC qD qE qF qG qH qI qJ qK qL qM)  : FnOk P w K mg base CX0 1 f fd ["turn", "out"] (J56 K qA qB qC qD qE qF qG qH qI qJ qK qL qM):=by
  refine F.ok Z56 (fun vs H Q E h=>?_) (fun cdv A outer s H vs Q E hr h=>?_)
  · obtain ⟨tn,ol,oc,rfl,⟨pl,ts,_,_,e1,e2,hp⟩,q⟩:=h
    rfl
  obtain ⟨tn,ol,oc,rfl,⟨pl,ts,_,_,e1,e2,hp⟩,q⟩:=h
  refine ⟨_,(pss_cut (ps_set (i:=2) Z56.nd rfl (Or.inl rfl) (pe_ix ix_list (pe_lst (pa_cons pe_str (pa_cons pe_str (pa_cons pe_str (pa_cons pe_str (pa_cons pe_str (pa_cons pe_str pa_nil))))))) (pe_op op_mod (pv 0) pe_int) (fun _ _=>rfl)))
     (pss_cons (ps_if (PW.pt (pw_and (pt_cmpR op_eq (pv 2) pe_str (nomark _)) (pw_and1 (pt_val (pe_ix ix_list (pv 1) pe_int (fun _ _=>rfl))))))
     (pss_one (ps_set (i:=2) Z56.nd rfl (Or.inl rfl) pe_str))
     pss_nil)
     (pss_one (ps_ret (pv 2))))),?_⟩
  have k0:=Int.emod_nonneg tn (show (6:Int) ≠ 0 by decide)
  have k1:=Int.emod_lt_of_pos tn (show (0:Int) < 6 by decide)
  refine ⟨fun σ' H'=>Same H H'∧∃ (wy:Str) (i:Nat),six[i]? = some wy∧σ' = [some (.int tn),some (.ref ol),some (.str wy)],?_,?_⟩
  · refine ⟨(by show 6 ≤ sizeLine; decide),fun p hp_=>?_⟩
    obtain ⟨wy,i,hw,hi⟩:∃ (wy:Str) (i:Nat),atI [V.str (Str.ofString "first"),.str (Str.ofString "only"),.str (Str.ofString "like"),.str (Str.ofString "low"),.str (Str.ofString "high"),.str (Str.ofString "sum")] (tn % 6) = some (.str wy)∧six[i]? = some wy:=by
      generalize tn % 6 = k at k0 k1 ⊢
      have:k = 0∨k = 1∨k = 2∨k = 3∨k = 4∨k = 5:=by omega
      rcases this with rfl | rfl | rfl | rfl | rfl | rfl
      · exact ⟨_,0,rfl,rfl⟩
      · exact ⟨_,1,rfl,rfl⟩
      · exact ⟨_,2,rfl,rfl⟩
      · exact ⟨_,3,rfl,rfl⟩
      · exact ⟨_,4,rfl,rfl⟩
      · exact ⟨_,5,rfl,rfl⟩
    exact ⟨_,rfl,_,_,rfl,rfl,(by show (0:Int) < 6; decide),p,_,_,_,rfl,rfl,SqL.of upd_same,hw,same_new hp_ _,wy,i,hi,rfl⟩
  rintro σ1 H1 ⟨s1,wy,i,hi,rfl⟩
  refine ⟨_,rfl,rfl,_,rfl,?_⟩
  by_cases g:wy = Str.ofString "sum"
  · subst g
    refine iteTS rfl ?_
    refine ⟨_,rfl,ol,_,_,_,rfl,rfl,SqL.of (s1 _ _ e1),rfl,_,rfl,?_⟩
    cases hw:oc.w with
    | true=>exact iteT ⟨_,rfl,q _ 0 H1 s1 rfl fun z=>absurd z (by decide)⟩
    | false=>exact iteF ⟨_,rfl,q _ i H1 s1 hi fun _=>hw⟩
  · exact iteFS (fun e=>by injection e with e; exact g e) (iteF ⟨_,rfl,q _ i H1 s1 hi fun z=>absurd z g⟩)
theorem O_52 (F:Fun K "_law_same" "_law_same" Y52 f fd) (bl:Bl K mg qA qB qC qD qE qF qG qH qI qJ qK qL qM)  : FnOk P w K mg base CX0 1 f fd ["found", "due"] (J52 K qA qB qC qD qE qF qG qH qI qJ qK qL qM):=by
  refine F.ok Z52 (fun vs H Q E h=>?_) (fun cdv A outer s H vs Q E hr h=>?_)
  · obtain ⟨r,d,p,rfl,hr',hd,q⟩:=h
    rfl
  obtain ⟨r,d,p,rfl,hr',hd,q⟩:=h
  refine ⟨_,(pss_cons (ps_if (PW.pt (pw_or (pt_not (pt_val (pe_callB call_isiG rfl bl.isinstance_ PyProof.Rows.boot_isinstance (pa_cons (pv 0) (pa_cons (pe_bltn (v:=.ty "tuple") rfl bl.tuple_ PyProof.Rows.boot_tuple rfl) pa_nil))))) (pw_or (pt_cmpR op_ne (pe_callB call_len_seq rfl bl.len_ PySem.boot_len (pa_cons (pv 0) pa_nil)) pe_int (nomark _)) (pw_or1 (pt_not (pt_val (pe_callB call_isiG rfl bl.isinstance_ PyProof.Rows.boot_isinstance (pa_cons (pe_ix ix_tup (pv 0) pe_int (fun _ _=>rfl)) (pa_cons (pe_bltn (v:=.ty "str") rfl bl.str_ PyProof.Rows.boot_str rfl) pa_nil)))))))))
     (pss_one (ps_ret pe_bl))
     pss_nil)
     (pss_one (ps_ret (pe_and (pe_callB call_isiG rfl bl.isinstance_ PyProof.Rows.boot_isinstance (pa_cons (pe_ix ix_tup (pv 0) pe_int (fun _ _=>rfl)) (pa_cons (pe_bltn (v:=.ty "int") rfl bl.int_ PyProof.Rows.boot_int rfl) pa_nil))) (pe_and (pe_not (pe_callB call_isiG rfl bl.isinstance_ PyProof.Rows.boot_isinstance (pa_cons (pe_ix ix_tup (pv 0) pe_int (fun _ _=>rfl)) (pa_cons (pe_bltn (v:=.ty "bool") rfl bl.bool_ PyProof.Rows.boot_bool rfl) pa_nil)))) (pe_one (pe_cmpR (op_eqT hr) (pv 0) (pv 1) (nomark _)))))))),?_⟩
  refine ⟨_,rfl,_,_,_,_,true,rfl,.ty _,.inr ⟨r,_,rfl,hr',rfl⟩,(by first | rfl | with_unfolding_all rfl | decide +kernel),_,rfl,iteF ?_⟩
  refine ⟨_,rfl,r,_,rfl,.inr (hr'),rfl,_,rfl,iteNS rfl ?_⟩
  refine ⟨_,rfl,r,_,_,_,rfl,rfl,hr',rfl,_,_,_,_,true,rfl,.ty _,.inl (.str _),(by first | rfl | with_unfolding_all rfl | decide +kernel),_,rfl,iteF ?_⟩
  refine ⟨_,rfl,r,_,_,_,rfl,rfl,hr',rfl,_,_,_,_,true,rfl,.ty _,.inl (.int _),(by first | rfl | with_unfolding_all rfl | decide +kernel),_,rfl,iteT ?_⟩
  refine ⟨_,rfl,r,_,_,_,rfl,rfl,hr',rfl,_,_,_,_,false,rfl,.ty _,.inl (.int _),(by first | rfl | with_unfolding_all rfl | decide +kernel),_,rfl,true,rfl,iteT ?_⟩
  refine ⟨_,rfl,_,rfl,?_⟩
  refine rEqT_same hr' hd (fun x hx=>?_) q
  rcases List.mem_cons.mp hx with rfl | hx
  · rfl
  · rw [show x = .int p.2 by simpa using hx]; rfl
theorem O_49 (F:Fun K "_law_order" "_law_order" Y49 f fd) (bl:Bl K mg qA qB qC qD qE qF qG qH qI qJ qK qL qM)  : FnOk P w K mg base CX0 1 f fd ["cell", "count"] (J49 K qA qB qC qD qE qF qG qH qI qJ qK qL qM):=by
  refine F.ok Z49 (fun vs H Q E h=>?_) (fun cdv A outer s H vs Q E hr h=>?_)
  · obtain ⟨c,n,rfl,h4,q⟩:=h
    rfl
  obtain ⟨c,n,rfl,h4,q⟩:=h
  refine ⟨_,(pss_cons (ps_set (i:=2) Z49.nd rfl (Or.inl rfl) (pe_lst pa_nil))
     (pss_cons (ps_for PassesOwn.never rfl (pi_range1 rfl bl.range_ (pa_cons (pv 1) pa_nil)) (pg_name (i:=3) Z49.nd rfl (Or.inl rfl))
     (pss_cons (ps_expr (pe_bm PySem.F.plainAttrs_list PySem.F.slot_list_insert PySem.F.type_list_insert mt_insert (pv 2) (pa_cons (pe_op op_mod (pv 0) (pe_op op_add (pv 3) pe_int)) (pa_cons (pv 3) pa_nil))))
     (pss_one (ps_set (i:=0) Z49.nd rfl (Or.inl rfl) (pe_op op_fdiv (pv 0) (pe_op op_add (pv 3) pe_int))))))
     (pss_one (ps_ret (pv 2))))),?_⟩
  refine ⟨(by show 0 ≤ sizeLine; decide),fun l hl=>?_⟩
  have s0:Same H (upd H l (.lst (vN []))):=same_new hl _
  have e0:upd H l (.lst (vN [])) l = some (.lst (vN [])):=upd_same
  have ee:upd H l (.lst []) = upd H l (.lst (vN [])):=rfl
  rw [ee]
  clear ee
  generalize upd H l (.lst (vN [])) = H0 at s0 e0 ⊢
  refine ⟨_,rfl,_,rfl,(by omega),(by omega),for_range (fun i σ H'=>Same H H'∧∃ (c2:Int) (os:List Nat) (c3:Option V),H' l = some (.lst (vN os))∧Pm os i∧σ = [some (.int c2),some (.int (n:Int)),some (.ref l),c3]) ⟨s0,c,[],_,e0,⟨rfl,(fun k h=>by cases h),List.nodup_nil,(fun k h=>absurd h (by omega))⟩,rfl⟩ (fun i σ H' hi hh=>?_) (fun σ H' hh=>?_)⟩
  · obtain ⟨sm,c2,os,c3,el,pm,rfl⟩:=hh
    have hp:(0:Int) < 0 + (i:Int) + 1:=by omega
    have k0:=Int.emod_nonneg c2 (Int.ne_of_gt hp)
    have k1:=Int.emod_lt_of_pos c2 hp
    have hlen:=pm.len
    refine ⟨_,rfl,.inl ⟨rfl,_,SqL.of el⟩,_,rfl,_,rfl,_,_,rfl,rfl,_,_,rfl,rfl,hp,_,rfl,l,_,_,(c2 % (0 + (i:Int) + 1)).toNat,_,rfl,rfl,(Int.toNat_of_nonneg k0).symm,el,by rw [vN_len]; omega,small1000 (by rw [vN_len]; omega),?_⟩
    generalize (c2 % (0 + (i:Int) + 1)).toNat = k
    have ev:(vN os).take k ++ V.int (0 + (i:Int)) :: (vN os).drop k = vN (os.take k ++ i :: os.drop k):=by
      rw [vN_take,vN_drop,Int.zero_add,← vN_app]; rfl
    rw [ev]
    have mem:∀ x,x ∈ os.take k ++ i :: os.drop k↔x = i∨x ∈ os:=fun x=>by
      have e:x ∈ os↔x ∈ os.take k∨x ∈ os.drop k:=by
        rw [← List.mem_append,List.take_append_drop]
      rw [List.mem_append,List.mem_cons,e]
      constructor
      · rintro (h | h | h)
        · exact .inr (.inl h)
        · exact .inl h
        · exact .inr (.inr h)
      · rintro (h | h | h)
        · exact .inr (.inl h)
        · exact .inl h
        · exact .inr (.inr h)
    refine ⟨_,rfl,_,rfl,_,_,rfl,rfl,_,_,rfl,rfl,⟨by omega,by omega⟩,sm.upd hl,_,os.take k ++ i :: os.drop k,_,upd_same,⟨?_,fun x hx=>?_,?_,fun x hx=>?_⟩,rfl⟩
    · rw [List.length_append,List.length_cons,List.length_take,List.length_drop]; omega
    · rcases (mem x).mp hx with rfl | h
      · omega
      · have:=pm.lt x h; omega
    · have nd:=pm.nd
      have hp2:(os.take k ++ i :: os.drop k).Perm (i :: (os.take k ++ os.drop k)):=List.perm_middle
      rw [List.take_append_drop] at hp2
      refine hp2.nodup_iff.mpr (List.nodup_cons.mpr ⟨fun h=>?_,nd⟩)
      have:=pm.lt i h
      omega
    · refine (mem x).mpr ?_
      by_cases hxi:x = i
      · exact .inl hxi
      · exact .inr (pm.all x (by omega))
  · obtain ⟨sm,c2,os,c3,el,pm,rfl⟩:=hh
    rw [show ((n:Int)).toNat = n by omega] at pm
    exact ⟨_,rfl,q l os H' sm el pm⟩
theorem O_18 (F:Fun K "__init__" "Way.__init__" Y18 f fd) (bl:Bl K mg qA qB qC qD qE qF qG qH qI qJ qK qL qM)  : FnOk P w K mg base CX0 1 f fd ["self", "called"] (J18 K qA qB qC qD qE qF qG qH qI qJ qK qL qM):=by
  refine F.ok Z18 (fun vs H Q E h=>?_) (fun cdv A outer s H vs Q E hr h=>?_)
  · obtain ⟨x,dx,z,rfl,hx,q⟩:=h
    rfl
  obtain ⟨x,dx,z,rfl,hx,q⟩:=h
  refine ⟨_,(pss_one (ps_fld (pv 0) (pv 1) rfl)),?_⟩
  exact ⟨_,rfl,_,rfl,x,_,dx,_,rfl,hx,bl.k_First,bl.na_First_called,(by show 0 < 1000; decide),q⟩
theorem O_22 (F:Fun K "__init__" "Way.__init__" Y22 f fd) (bl:Bl K mg qA qB qC qD qE qF qG qH qI qJ qK qL qM)  : FnOk P w K mg base CX0 1 f fd ["self", "called"] (J22 K qA qB qC qD qE qF qG qH qI qJ qK qL qM):=by
  refine F.ok Z22 (fun vs H Q E h=>?_) (fun cdv A outer s H vs Q E hr h=>?_)
  · obtain ⟨x,dx,z,rfl,hx,q⟩:=h
    rfl
  obtain ⟨x,dx,z,rfl,hx,q⟩:=h
  refine ⟨_,(pss_one (ps_fld (pv 0) (pv 1) rfl)),?_⟩
  exact ⟨_,rfl,_,rfl,x,_,dx,_,rfl,hx,bl.k_Only,bl.na_Only_called,(by show 0 < 1000; decide),q⟩
theorem O_20 (F:Fun K "__init__" "Way.__init__" Y20 f fd) (bl:Bl K mg qA qB qC qD qE qF qG qH qI qJ qK qL qM)  : FnOk P w K mg base CX0 1 f fd ["self", "called"] (J20 K qA qB qC qD qE qF qG qH qI qJ qK qL qM):=by
  refine F.ok Z20 (fun vs H Q E h=>?_) (fun cdv A outer s H vs Q E hr h=>?_)
  · obtain ⟨x,dx,z,rfl,hx,q⟩:=h
    rfl
  obtain ⟨x,dx,z,rfl,hx,q⟩:=h
  refine ⟨_,(pss_one (ps_fld (pv 0) (pv 1) rfl)),?_⟩
  exact ⟨_,rfl,_,rfl,x,_,dx,_,rfl,hx,bl.k_Like,bl.na_Like_called,(by show 0 < 1000; decide),q⟩
theorem O_21 (F:Fun K "__init__" "Way.__init__" Y21 f fd) (bl:Bl K mg qA qB qC qD qE qF qG qH qI qJ qK qL qM)  : FnOk P w K mg base CX0 1 f fd ["self", "called"] (J21 K qA qB qC qD qE qF qG qH qI qJ qK qL qM):=by
  refine F.ok Z21 (fun vs H Q E h=>?_) (fun cdv A outer s H vs Q E hr h=>?_)
  · obtain ⟨x,dx,z,rfl,hx,q⟩:=h
    rfl
  obtain ⟨x,dx,z,rfl,hx,q⟩:=h
  refine ⟨_,(pss_one (ps_fld (pv 0) (pv 1) rfl)),?_⟩
  exact ⟨_,rfl,_,rfl,x,_,dx,_,rfl,hx,bl.k_Low,bl.na_Low_called,(by show 0 < 1000; decide),q⟩
theorem O_19 (F:Fun K "__init__" "Way.__init__" Y19 f fd) (bl:Bl K mg qA qB qC qD qE qF qG qH qI qJ qK qL qM)  : FnOk P w K mg base CX0 1 f fd ["self", "called"] (J19 K qA qB qC qD qE qF qG qH qI qJ qK qL qM):=by
  refine F.ok Z19 (fun vs H Q E h=>?_) (fun cdv A outer s H vs Q E hr h=>?_)
  · obtain ⟨x,dx,z,rfl,hx,q⟩:=h
    rfl
  obtain ⟨x,dx,z,rfl,hx,q⟩:=h
  refine ⟨_,(pss_one (ps_fld (pv 0) (pv 1) rfl)),?_⟩
  exact ⟨_,rfl,_,rfl,x,_,dx,_,rfl,hx,bl.k_High,bl.na_High_called,(by show 0 < 1000; decide),q⟩
theorem O_23 (F:Fun K "__init__" "Way.__init__" Y23 f fd) (bl:Bl K mg qA qB qC qD qE qF qG qH qI qJ qK qL qM)  : FnOk P w K mg base CX0 1 f fd ["self", "called"] (J23 K qA qB qC qD qE qF qG qH qI qJ qK qL qM):=by
  refine F.ok Z23 (fun vs H Q E h=>?_) (fun cdv A outer s H vs Q E hr h=>?_)
  · obtain ⟨x,dx,z,rfl,hx,q⟩:=h
    rfl
  obtain ⟨x,dx,z,rfl,hx,q⟩:=h
  refine ⟨_,(pss_one (ps_fld (pv 0) (pv 1) rfl)),?_⟩
  exact ⟨_,rfl,_,rfl,x,_,dx,_,rfl,hx,bl.k_Sum,bl.na_Sum_called,(by show 0 < 1000; decide),q⟩
theorem O_0 (F:Fun K "__init__" "Domain.__init__" Y0 f fd) (bl:Bl K mg qA qB qC qD qE qF qG qH qI qJ qK qL qM)  : FnOk P w K mg base CX0 1 f fd ["self", "low", "high"] (J0 K qA qB qC qD qE qF qG qH qI qJ qK qL qM):=by
  refine F.ok Z0 (fun vs H Q E h=>?_) (fun cdv A outer s H vs Q E hr h=>?_)
  · obtain ⟨x,dx,lo,hi,rfl,hx,q⟩:=h
    rfl
  obtain ⟨x,dx,lo,hi,rfl,hx,q⟩:=h
  refine ⟨_,(pss_cons (ps_fld (pv 0) (pv 1) rfl)
     (pss_one (ps_fld (pv 0) (pv 2) rfl))),?_⟩
  refine ⟨_,rfl,_,rfl,x,_,dx,_,rfl,hx,bl.k_Numbers,bl.na_Numbers_low,(by show 0 < 1000; decide),_,rfl,_,rfl,x,_,dx,_,rfl,upd_same,bl.k_Numbers,bl.na_Numbers_high,(by show 1 < 1000; decide),?_⟩
  show Q .non (upd (upd H x (.ins qI dx [("low",.int lo)])) x (.ins qI dx (putF "high" (.int hi) [("low",.int lo)])))
  rw [put2]
  exact q
theorem O_1 (F:Fun K "__init__" "Domain.__init__" Y1 f fd) (bl:Bl K mg qA qB qC qD qE qF qG qH qI qJ qK qL qM)  : FnOk P w K mg base CX0 1 f fd ["self", "low", "high"] (J1 K qA qB qC qD qE qF qG qH qI qJ qK qL qM):=by
  refine F.ok Z1 (fun vs H Q E h=>?_) (fun cdv A outer s H vs Q E hr h=>?_)
  · obtain ⟨x,dx,lo,hi,rfl,hx,q⟩:=h
    rfl
  obtain ⟨x,dx,lo,hi,rfl,hx,q⟩:=h
  refine ⟨_,(pss_cons (ps_fld (pv 0) (pv 1) rfl)
     (pss_one (ps_fld (pv 0) (pv 2) rfl))),?_⟩
  refine ⟨_,rfl,_,rfl,x,_,dx,_,rfl,hx,bl.k_Words,bl.na_Words_low,(by show 0 < 1000; decide),_,rfl,_,rfl,x,_,dx,_,rfl,upd_same,bl.k_Words,bl.na_Words_high,(by show 1 < 1000; decide),?_⟩
  show Q .non (upd (upd H x (.ins qJ dx [("low",.int lo)])) x (.ins qJ dx (putF "high" (.int hi) [("low",.int lo)])))
  rw [put2]
  exact q
theorem O_5 (F:Fun K "chosen" "First.chosen" Y5 f fd) (bl:Bl K mg qA qB qC qD qE qF qG qH qI qJ qK qL qM)  : FnOk P w K mg base CX0 1 f fd ["self", "codes", "outcome"] (J5 K qA qB qC qD qE qF qG qH qI qJ qK qL qM):=by
  refine F.ok Z5 (fun vs H Q E h=>?_) (fun cdv A outer s H vs Q E hr h=>?_)
  · obtain ⟨x,c,o,n,ns,b,rfl,⟨dx,z,hx⟩,ho,hle,hS,hn,q⟩:=h
    rfl
  obtain ⟨x,c,o,n,ns,b,rfl,⟨dx,z,hx⟩,ho,hle,hS,hn,q⟩:=h
  refine ⟨_,(pss_one (ps_ret (pe_tup (pa_cons pe_str (pa_cons (pe_ix ix_list (pv 1) pe_int (fun _ _=>rfl)) pa_nil))))),?_⟩
  exact ⟨_,rfl,c,_,_,_,rfl,rfl,hS,at0 n ns,small2,fun t ht=>q t _ (same_new ht _) (SqT.of upd_same)⟩
theorem O_14 (F:Fun K "chosen" "Only.chosen" Y14 f fd) (bl:Bl K mg qA qB qC qD qE qF qG qH qI qJ qK qL qM)  : FnOk P w K mg base CX0 1 f fd ["self", "codes", "outcome"] (J14 K qA qB qC qD qE qF qG qH qI qJ qK qL qM):=by
  refine F.ok Z14 (fun vs H Q E h=>?_) (fun cdv A outer s H vs Q E hr h=>?_)
  · obtain ⟨x,c,o,n,ns,b,rfl,⟨dx,z,hx⟩,ho,hle,hS,hn,q⟩:=h
    rfl
  obtain ⟨x,c,o,n,ns,b,rfl,⟨dx,z,hx⟩,ho,hle,hS,hn,q⟩:=h
  refine ⟨_,(pss_one (ps_ret (pe_ifExp (pt_cmpR op_eq (pe_callB call_len_seq rfl bl.len_ PySem.boot_len (pa_cons (pv 1) pa_nil)) pe_int (nomark _)) (pe_tup (pa_cons pe_str (pa_cons (pe_ix ix_list (pv 1) pe_int (fun _ _=>rfl)) pa_nil))) (pe_glob (v:=.ref qM) rfl bl.CLASH_ rfl)))),?_⟩
  refine ⟨_,rfl,c,_,rfl,.inl (hS),rfl,_,rfl,?_⟩
  refine ite2 (fun g=>?_) (fun g=>?_)
  · have e:wf 1 b.1 b.2 (n :: ns) = say n:=by
      have g':=dec_t g
      simp at g'
      show fOnly _ = _
      unfold fOnly
      rw [if_pos (by rw [List.length_cons]; omega)]
      rfl
    rw [e] at q
    exact ⟨_,rfl,c,_,_,_,rfl,rfl,hS,at0 n ns,small2,fun t ht=>q t _ (same_new ht _) (SqT.of upd_same)⟩
  · have e:wf 1 b.1 b.2 (n :: ns) = clash:=by
      have g':=dec_f g
      simp at g'
      show fOnly _ = _
      unfold fOnly
      rw [if_neg (by rw [List.length_cons]; omega)]
    rw [e] at q
    exact q _ _ (Same.refl _) (bl.q_CLASH.sq _)
theorem O_9 (F:Fun K "chosen" "Like.chosen" Y9 f fd) (bl:Bl K mg qA qB qC qD qE qF qG qH qI qJ qK qL qM)  : FnOk P w K mg base CX0 1 f fd ["self", "codes", "outcome"] (J9 K qA qB qC qD qE qF qG qH qI qJ qK qL qM):=by
  refine F.ok Z9 (fun vs H Q E h=>?_) (fun cdv A outer s H vs Q E hr h=>?_)
  · obtain ⟨x,c,o,n,ns,b,rfl,⟨dx,z,hx⟩,ho,hle,hS,hn,q⟩:=h
    rfl
  obtain ⟨x,c,o,n,ns,b,rfl,⟨dx,z,hx⟩,ho,hle,hS,hn,q⟩:=h
  refine ⟨_,(pss_one (ps_ret (pe_ifExp (pt_cmpR op_eq (pe_callB call_len_setI rfl bl.len_ PySem.boot_len (pa_cons (pe_callTy (call_set_ints rfl) rfl bl.set_ PyProof.Rows.boot_set (pa_cons (pv 1) pa_nil)) pa_nil)) pe_int (nomark _)) (pe_tup (pa_cons pe_str (pa_cons (pe_ix ix_list (pv 1) pe_int (fun _ _=>rfl)) pa_nil))) (pe_glob (v:=.ref qM) rfl bl.CLASH_ rfl)))),?_⟩
  refine ⟨_,rfl,c,_,rfl,hS,(by rw [List.length_cons]; omega),fun l hl=>?_⟩
  refine ⟨l,_,rfl,upd_same,(by rw [List.length_cons]; omega),rfl,_,rfl,?_⟩
  have sl:Same H (upd H l (SetI P w l (n :: ns))):=same_new hl _
  refine ite2 (fun g=>?_) (fun g=>?_)
  · have g' : V.int _ = V.int _:=dec_t g
    have g2:cntK (n :: ns) (n :: ns).length = 1:=by injection g' with g'; omega
    have g3:=cntK_same.mp g2
    have e:wf 2 b.1 b.2 (n :: ns) = say n:=by
      show fLike _ = _
      unfold fLike
      rw [if_pos (like_same.mp g3),like_head g3]
    rw [e] at q
    exact ⟨_,rfl,c,_,_,_,rfl,rfl,sl.seq hS,at0 n ns,small2,fun t ht=>q t _ (sl.trans (same_new ht _)) (SqT.of upd_same)⟩
  · have g2:¬ cntK (n :: ns) (n :: ns).length = 1:=fun z=>(dec_f g) (by rw [z]; rfl)
    have e:wf 2 b.1 b.2 (n :: ns) = clash:=by
      show fLike _ = _
      unfold fLike
      rw [if_neg fun z=>g2 (cntK_same.mpr (like_same.mpr z))]
    rw [e] at q
    exact q _ _ sl (bl.q_CLASH.sq _)
theorem O_11 (F:Fun K "chosen" "Low.chosen" Y11 f fd) (bl:Bl K mg qA qB qC qD qE qF qG qH qI qJ qK qL qM)  : FnOk P w K mg base CX0 1 f fd ["self", "codes", "outcome"] (J11 K qA qB qC qD qE qF qG qH qI qJ qK qL qM):=by
  refine F.ok Z11 (fun vs H Q E h=>?_) (fun cdv A outer s H vs Q E hr h=>?_)
  · obtain ⟨x,c,o,n,ns,b,rfl,⟨dx,z,hx⟩,ho,hle,hS,hn,q⟩:=h
    rfl
  obtain ⟨x,c,o,n,ns,b,rfl,⟨dx,z,hx⟩,ho,hle,hS,hn,q⟩:=h
  refine ⟨_,(pss_one (ps_ret (pe_tup (pa_cons pe_str (pa_cons (pe_callB (call_min_list rfl) rfl bl.min_ PyProof.Rows.boot_min (pa_cons (pv 1) pa_nil)) pa_nil))))),?_⟩
  refine ⟨_,rfl,c,_,rfl,hS,Nat.succ_pos _,fun m h1 h2=>⟨small2,fun t ht=>q t _ (same_new ht _) (SqT.of ?_)⟩⟩
  rw [upd_same,least_un h1 h2]
  rfl
theorem O_7 (F:Fun K "chosen" "High.chosen" Y7 f fd) (bl:Bl K mg qA qB qC qD qE qF qG qH qI qJ qK qL qM)  : FnOk P w K mg base CX0 1 f fd ["self", "codes", "outcome"] (J7 K qA qB qC qD qE qF qG qH qI qJ qK qL qM):=by
  refine F.ok Z7 (fun vs H Q E h=>?_) (fun cdv A outer s H vs Q E hr h=>?_)
  · obtain ⟨x,c,o,n,ns,b,rfl,⟨dx,z,hx⟩,ho,hle,hS,hn,q⟩:=h
    rfl
  obtain ⟨x,c,o,n,ns,b,rfl,⟨dx,z,hx⟩,ho,hle,hS,hn,q⟩:=h
  refine ⟨_,(pss_one (ps_ret (pe_tup (pa_cons pe_str (pa_cons (pe_callB (call_max_list rfl) rfl bl.max_ PyProof.Rows.boot_max (pa_cons (pv 1) pa_nil)) pa_nil))))),?_⟩
  refine ⟨_,rfl,c,_,rfl,hS,Nat.succ_pos _,fun m h1 h2=>⟨small2,fun t ht=>q t _ (same_new ht _) (SqT.of ?_)⟩⟩
  rw [upd_same,great_un h1 h2]
  rfl
theorem O_16 (F:Fun K "chosen" "Sum.chosen" Y16 f fd) (bl:Bl K mg qA qB qC qD qE qF qG qH qI qJ qK qL qM)  : FnOk P w K mg base CX0 1 f fd ["self", "codes", "outcome"] (J16 K qA qB qC qD qE qF qG qH qI qJ qK qL qM):=by
  refine F.ok Z16 (fun vs H Q E h=>?_) (fun cdv A outer s H vs Q E hr h=>?_)
  · obtain ⟨x,c,o,n,ns,b,rfl,⟨dx,z,hx⟩,⟨C,hC,dy,fs,ho,hlo,hhi,_⟩,hle,hS,hn,q⟩:=h
    rfl
  obtain ⟨x,c,o,n,ns,b,rfl,⟨dx,z,hx⟩,⟨C,hC,dy,fs,ho,hlo,hhi,_⟩,hle,hS,hn,q⟩:=h
  refine ⟨_,(pss_one (ps_ret (pe_tup (pa_cons pe_str (pa_cons (pe_callB (call_max2 rfl) rfl bl.max_ PyProof.Rows.boot_max (pa_cons (pe_fld (pv 2) rfl) (pa_cons (pe_callB (call_min2 rfl) rfl bl.min_ PyProof.Rows.boot_min (pa_cons (pe_fld (pv 2) rfl) (pa_cons (pe_callB (call_sum_ints rfl) rfl bl.sum_ PyProof.Rows.boot_sum (pa_cons (pv 1) pa_nil)) pa_nil))) pa_nil))) pa_nil))))),?_⟩
  have hk:Cls K C∧NoAttr K C (Str.ofString "low")∧NoAttr K C (Str.ofString "high"):=by
    rcases hC with rfl | rfl
    · exact ⟨bl.k_Numbers,bl.na_Numbers_low,bl.na_Numbers_high⟩
    · exact ⟨bl.k_Words,bl.na_Words_low,bl.na_Words_high⟩
  refine ⟨_,rfl,o,_,_,_,_,rfl,ho,hk.1,hk.2.1,hlo,_,rfl,o,_,_,_,_,rfl,ho,hk.1,hk.2.2,hhi,_,rfl,c,_,rfl,hS,_,_,rfl,_,_,rfl,?_⟩
  refine ⟨small2,fun t ht=>q t _ (same_new ht _) (SqT.of ?_)⟩
  rw [upd_same]
  have e:near b.1 b.2 (n :: ns).sum = if (if (n :: ns).sum < b.2 then (n :: ns).sum else b.2) > b.1 then (if (n :: ns).sum < b.2 then (n :: ns).sum else b.2) else b.1:=by
    unfold near
    generalize (n :: ns).sum = t
    split <;> split <;> split <;> first | rfl | omega | (split <;> omega)
  show _ = some (HO.tup (tp (say (near b.1 b.2 (n :: ns).sum))))
  rw [e]
  rfl
theorem O_36 (F:Fun K "is_word" "is_word" Y36 f fd) (bl:Bl K mg qA qB qC qD qE qF qG qH qI qJ qK qL qM) (c_all_among:Callee P w K mg base 1 "all_among" ["text", "signs"] (J32 K qA qB qC qD qE qF qG qH qI qJ qK qL qM)):FnOk P w K mg base CX0 2 f fd ["text"] (J36 K qA qB qC qD qE qF qG qH qI qJ qK qL qM):=by
  refine F.ok Z36 (fun vs H Q E h=>?_) (fun cdv A outer s H vs Q E hr h=>?_)
  · obtain ⟨z,rfl,hz,q⟩:=h
    rfl
  obtain ⟨z,rfl,hz,q⟩:=h
  refine ⟨_,(pss_one (ps_ret (pe_and (pe_chain op_le op_le pe_int (pe_callB call_len_str rfl bl.len_ PySem.boot_len (pa_cons (pv 0) pa_nil)) (pe_gl rfl bl.MOST_SIGNS_)) (pe_and (pe_cmpR op_ne (pv 0) pe_str (nomark _)) (pe_one (pe_fn c_all_among hr rfl (pa_cons (pv 0) (pa_cons (pe_gl rfl bl.SMALL_LETTERS_) pa_nil)))))))),?_⟩
  refine ⟨_,rfl,_,rfl,big hz,_,_,rfl,rfl,_,rfl,?_⟩
  refine ite2 (fun g1=>?_) (fun g1=>?_)
  · refine ⟨_,_,rfl,rfl,_,rfl,?_⟩
    refine ite2 (fun g2=>?_) (fun g2=>?_)
    · refine ⟨_,rfl,rfl,_,rfl,?_⟩
      refine ite2 (fun g3=>?_) (fun g3=>?_)
      · refine ⟨_,rfl,z,lets,rfl,?_⟩
        have e:isw z = allIn z lets:=by unfold isw; rw [g1,g2,g3]; rfl
        rw [e] at q; exact q
      · have e:isw z = false:=by unfold isw; rw [Bool.eq_false_iff.mpr g3,Bool.false_and,Bool.and_false,Bool.and_false]
        rw [e] at q; exact q
    · have e:isw z = false:=by unfold isw; rw [Bool.eq_false_iff.mpr g2,Bool.false_and,Bool.and_false]
      rw [e] at q; exact q
  · have e:isw z = false:=by unfold isw; rw [Bool.eq_false_iff.mpr g1,Bool.false_and]
    rw [e] at q; exact ⟨_,rfl,iteF q⟩
theorem O_33 (F:Fun K "fits" "fits" Y33 f fd) (bl:Bl K mg qA qB qC qD qE qF qG qH qI qJ qK qL qM) (c_holds:Callee P w K mg base 1 "holds" ["spans", "number"] (J34 K qA qB qC qD qE qF qG qH qI qJ qK qL qM)):FnOk P w K mg base CX0 2 f fd ["table", "k", "codes"] (J33 K qA qB qC qD qE qF qG qH qI qJ qK qL qM):=by
  refine F.ok Z33 (fun vs H Q E h=>?_) (fun cdv A outer s H vs Q E hr h=>?_)
  · obtain ⟨t,rl,c,dx,fs,xs,rws,k,w_,cs,rfl,ht,hf,hl,hR,ek,hS,hlen,q⟩:=h
    rfl
  obtain ⟨t,rl,c,dx,fs,xs,rws,k,w_,cs,rfl,ht,hf,hl,hR,ek,hS,hlen,q⟩:=h
  refine ⟨_,(pss_cons (ps_set (i:=3) Z33.nd rfl (Or.inl rfl) (pe_ix ix_tup (pe_ix ix_list (pe_fld (pv 0) rfl) (pv 1) (fun _ _=>rfl)) pe_int (fun _ _=>rfl)))
     (pss_cons (ps_for PassesOwn.never rfl (pi_zip rfl bl.zip_ (pa_cons (pv 3) (pa_cons (pv 2) pa_nil))) (pg_tup rfl (pgs_cons (pg_name (i:=4) Z33.nd rfl (Or.inl rfl)) (pgs_cons (pg_name (i:=5) Z33.nd rfl (Or.inl rfl)) pgs_nil)))
     (pss_one (ps_if (pt_not (pt_val (pe_fn c_holds hr rfl (pa_cons (pv 4) (pa_cons (pv 5) pa_nil)))))
     (pss_one (ps_ret pe_bl))
     pss_nil)))
     (pss_one (ps_ret pe_bl)))),?_⟩
  obtain ⟨r,er,ce,cv,e1,_,e2,hcl⟩:=hR.2 k w_ ek
  refine ⟨_,rfl,t,_,_,_,_,rfl,ht,bl.k_Table,bl.na_Table_rows,hf,_,rfl,rl,_,_,_,rfl,rfl,SqL.of hl,atI_nat er,r,_,_,_,rfl,rfl,SqT.of e1,rfl,?_⟩
  refine ⟨_,rfl,_,rfl,ce,c,rfl,⟨_,SqL.of e2⟩,⟨_,hS⟩,for_zip (xs:=cv) (ys:=cs.map V.int) (fun i σ H'=>Same H H'∧(∀ j,j < i→inP (w_.1.getD j []) (cs.getD j 0) = true)∧∃ c4 c5:Option V,σ = [some (.ref t),some (.int k),some (.ref c),some (.ref ce),c4,c5]) ⟨Same.refl _,(fun j h=>absurd h (Nat.not_lt_zero j)),_,_,rfl⟩ (fun i σ H' h=>⟨SqL.of (h.1 _ _ e2),h.1.seq hS⟩) (fun i x y σ H' T ex ey h hT=>?_) (fun σ H' h=>?_)⟩
  · obtain ⟨sm,hall,c4,c5,rfl⟩:=h
    have s2:=sm.trans (same_new hT (.tup [x,y]))
    have eT:upd H' T (.tup [x,y]) T = some (.tup [x,y]):=upd_same
    generalize upd H' T (.tup [x,y]) = H2 at s2 eT ⊢
    obtain ⟨l,ps,rfl,ep,hl'⟩:=RefL.get hcl ex
    obtain ⟨_,ys,el,hp⟩:=hl'.same s2
    obtain ⟨n,rfl,en⟩:=of_map ey
    refine ⟨T,_,rfl,SqT.of eT,rfl,_,_,rfl,_,_,rfl,rfl,?_⟩
    refine ⟨_,rfl,_,rfl,l,ys,ps,n,rfl,SqL.of el,hp,_,rfl,?_⟩
    have g1:w_.1.getD i [] = ps:=by rw [List.getD_eq_getElem?_getD,ep]; rfl
    have g2:cs.getD i 0 = n:=by rw [List.getD_eq_getElem?_getD,en]; rfl
    cases hin:inP ps n with
    | true =>
      refine iteF ⟨s2,fun j hj=>?_,_,_,rfl⟩
      by_cases hji:j < i
      · exact hall j hji
      · have:j = i:=by omega
        subst this
        rw [g1,g2]; exact hin
    | false =>
      refine iteT ?_
      have e:rfit w_.1 cs = false:=by
        unfold rfit
        rw [List.all_eq_false]
        refine ⟨i,List.mem_range.mpr (List.getElem?_eq_some_iff.mp en).1,?_⟩
        rw [g1,g2,hin]; decide
      have q2:=q H2 s2
      rw [e] at q2
      exact q2
  · obtain ⟨sm,hall,c4,c5,rfl⟩:=h
    have e:rfit w_.1 cs = true:=by
      unfold rfit
      rw [List.all_eq_true]
      intro j hj
      refine hall j ?_
      have h1:=hcl.1
      rw [List.length_map]
      have:=List.mem_range.mp hj
      omega
    have q2:=q H' sm
    rw [e] at q2
    exact q2
theorem O_53 (F:Fun K "_law_seeds" "_law_seeds" Y53 f fd) (bl:Bl K mg qA qB qC qD qE qF qG qH qI qJ qK qL qM) (c__law_mixed:Callee P w K mg base 1 "_law_mixed" ["cell", "k"] (J48 K qA qB qC qD qE qF qG qH qI qJ qK qL qM)):FnOk P w K mg base CX0 2 f fd ["cells", "most"] (J53 K qA qB qC qD qE qF qG qH qI qJ qK qL qM):=by
  refine F.ok Z53 (fun vs H Q E h=>?_) (fun cdv A outer s H vs Q E hr h=>?_)
  · obtain ⟨a,ns,m,rfl,hS,h900,hm1,hm2,q⟩:=h
    rfl
  obtain ⟨a,ns,m,rfl,hS,h900,hm1,hm2,q⟩:=h
  refine ⟨_,(pss_cons (ps_set (i:=2) Z53.nd rfl (Or.inl rfl) (pe_lst pa_nil))
     (pss_cons (ps_for PassesOwn.never rfl (pi_enum rfl bl.enumerate_ (pa_cons (pv 0) pa_nil)) (pg_tup rfl (pgs_cons (pg_name (i:=3) Z53.nd rfl (Or.inl rfl)) (pgs_cons (pg_name (i:=4) Z53.nd rfl (Or.inl rfl)) pgs_nil)))
     (pss_one (ps_if (pt_cmpR op_lt (pv 3) (pv 1) (nomark _))
     (pss_one (ps_expr (pe_bm PySem.F.plainAttrs_list PySem.F.slot_list_append PySem.F.type_list_append mt_append (pv 2) (pa_cons (pe_fn c__law_mixed hr rfl (pa_cons (pv 4) (pa_cons (pe_op op_mod (pv 3) pe_int) pa_nil))) pa_nil))))
     (pss_cons (ps_set (i:=5) Z53.nd rfl (Or.inl rfl) (pe_op op_mod (pv 3) (pv 1)))
     (pss_one (ps_asg (pe_fn c__law_mixed hr rfl (pa_cons (pe_op op_add (pe_ix ix_list (pv 2) (pv 5) (fun _ _=>rfl)) (pe_op op_mod (pv 4) (pe_op op_pow pe_int pe_int))) (pa_cons (pe_op op_mod (pv 3) pe_int) pa_nil))) (pg_sub (pv 2) (pv 5) set_list)))))))
     (pss_one (ps_ret (pv 2))))),?_⟩
  refine ⟨(by show 0 ≤ sizeLine; decide),fun l hl=>?_⟩
  have s0:Same H (upd H l (.lst ([].map V.int))):=same_new hl _
  have e0:upd H l (.lst ([].map V.int)) l = some (.lst ([].map V.int)):=upd_same
  have ee:upd H l (.lst []) = upd H l (.lst ([].map V.int)):=rfl
  rw [ee]
  clear ee
  generalize upd H l (.lst ([].map V.int)) = H0 at s0 e0 ⊢
  refine ⟨_,rfl,a,rfl,⟨_,s0.seq hS⟩,for_enum (xs:=ns.map V.int) (fun i σ H'=>Same H H'∧∃ (ms:List Int) (c3 c4 c5:Option V),H' l = some (.lst (ms.map V.int))∧ms.length ≤ i∧((ms.length:Nat):Int) ≤ m∧((i:Int) ≥ m→((ms.length:Nat):Int) = m)∧((i:Int) < m→ms.length = i)∧(∀ x ∈ ms,0 ≤ x)∧σ = [some (.ref a),some (.int m),some (.ref l),c3,c4,c5]) ⟨s0,[],_,_,_,e0,Nat.le_refl _,by show ((0:Nat):Int) ≤ m; omega,(fun h=>by omega),(fun h=>rfl),(fun x h=>by cases h),rfl⟩ (fun i σ H' hh=>hh.1.seq hS) (fun i y σ H' T ey hh hT=>?_) (fun σ H' hh=>?_)⟩
  · obtain ⟨sm,ms,c3,c4,c5,el,hl1,hl2,hl3,hl4,hnn,rfl⟩:=hh
    obtain ⟨c,rfl,_⟩:=of_map ey
    have hin:i < ns.length:=by have:=(List.getElem?_eq_some_iff.mp ey).1; rw [List.length_map] at this; exact this
    have s2:=sm.trans (same_new hT (.tup [.int (i:Int),.int c]))
    have eT:upd H' T (.tup [.int (i:Int),.int c]) T = some (.tup [.int (i:Int),.int c]):=upd_same
    have el2:upd H' T (.tup [.int (i:Int),.int c]) l = some (.lst (ms.map V.int)):=ret_r1 el hT
    generalize upd H' T (.tup [.int (i:Int),.int c]) = H2 at s2 eT el2 ⊢
    have k0:=Int.emod_nonneg (i:Int) (show (50:Int) ≠ 0 by decide)
    have k1:=Int.emod_lt_of_pos (i:Int) (show (0:Int) < 50 by decide)
    refine ⟨T,_,rfl,SqT.of eT,rfl,_,_,rfl,_,_,rfl,rfl,?_⟩
    refine ⟨_,rfl,_,rfl,_,_,rfl,rfl,_,rfl,?_⟩
    refine ite2 (fun g=>?_) (fun g=>?_)
    · have g:(i:Int) < m:=of_decide_eq_true g
      have hl5:=hl4 g
      refine ⟨_,rfl,.inl ⟨rfl,_,SqL.of el2⟩,_,rfl,_,rfl,_,_,rfl,rfl,(by show (0:Int) < 50; decide),c,_,rfl,k0,by omega,fun r hr0=>?_⟩
      refine ⟨l,_,_,rfl,rfl,el2,small1000 (by rw [List.length_map]; omega),s2.upd hl,ms ++ [r],_,_,_,by rw [upd_same,List.map_append]; rfl,by simp; omega,by simp; omega,(fun h=>by simp; omega),(fun h=>by simp; omega),(fun x hx=>(List.mem_append.mp hx).elim (hnn x) fun z=>by rw [show x = r by simpa using z]; exact hr0),rfl⟩
    · have g:m ≤ (i:Int):=by have:¬ ((i:Int) < m):=fun z=>g (decide_eq_true z); omega
      have hl5:=hl3 g
      have hmp:(0:Int) < m:=by omega
      have j0:=Int.emod_nonneg (i:Int) (Int.ne_of_gt hmp)
      have j1:=Int.emod_lt_of_pos (i:Int) hmp
      obtain ⟨x,ex⟩:∃ x,ms[((i:Int) % m).toNat]? = some x:=⟨_,List.getElem?_eq_getElem (by omega)⟩
      have ix:atI (ms.map V.int) ((i:Int) % m) = some (.int x):=by
        have:=atI_nat (get_map ex)
        rw [Int.toNat_of_nonneg j0] at this
        exact this
      refine ⟨_,rfl,_,rfl,_,_,rfl,rfl,hmp,?_⟩
      refine ⟨_,rfl,_,rfl,l,_,_,_,rfl,rfl,SqL.of el2,ix,_,rfl,_,_,rfl,rfl,⟨by decide,by decide,by decide⟩,_,_,rfl,rfl,p10 _,_,_,rfl,rfl,_,rfl,_,_,rfl,rfl,(by show (0:Int) < 50; decide),_,_,rfl,k0,by omega,fun r hr0=>?_⟩
      refine ⟨_,rfl,_,rfl,l,_,_,((i:Int) % m).toNat,rfl,rfl,el2,?_,?_⟩
      · unfold ixN
        rw [if_pos j0,if_pos (by rw [List.length_map]; omega)]
      · refine ⟨s2.upd hl,ms.set ((i:Int) % m).toNat r,_,_,_,by rw [upd_same,List.map_set],by simp; omega,by simp; omega,(fun h=>by simp; omega),(fun h=>by omega),(fun x hx=>(List.mem_or_eq_of_mem_set hx).elim (hnn x) fun z=>by rw [z]; exact hr0),rfl⟩
  · obtain ⟨sm,ms,c3,c4,c5,el,hl1,hl2,hl3,hl4,hnn,rfl⟩:=hh
    rw [List.length_map] at hl1
    exact ⟨_,rfl,q l ms H' sm el hl2 hl1 hnn⟩
theorem O_43 (F:Fun K "_law_column" "_law_column" Y43 f fd) (bl:Bl K mg qA qB qC qD qE qF qG qH qI qJ qK qL qM) (c__law_mixed:Callee P w K mg base 1 "_law_mixed" ["cell", "k"] (J48 K qA qB qC qD qE qF qG qH qI qJ qK qL qM)):FnOk P w K mg base CX0 2 f fd ["m", "most"] (J43 K qA qB qC qD qE qF qG qH qI qJ qK qL qM):=by
  refine F.ok Z43 (fun vs H Q E h=>?_) (fun cdv A outer s H vs Q E hr h=>?_)
  · obtain ⟨m,most,rfl,hm1,hm6,q⟩:=h
    rfl
  obtain ⟨m,most,rfl,hm1,hm6,q⟩:=h
  refine ⟨_,(pss_cut (ps_set (i:=2) Z43.nd rfl (Or.inl rfl) (pe_cmpR op_eq (pe_op op_mod (pv 0) pe_int) pe_int (nomark _)))
     (pss_cut (ps_set (i:=3) Z43.nd rfl (Or.inl rfl) (pe_op op_sub (pe_op op_mod (pe_op op_fdiv (pv 0) pe_int) (pe_op op_mul pe_int (pe_op op_pow pe_int pe_int))) (pe_op op_pow pe_int pe_int)))
     (pss_cut (ps_if (pt_cmpR op_eq (pe_op op_mod (pv 0) pe_int) pe_int (nomark _))
     (pss_one (ps_set (i:=3) Z43.nd rfl (Or.inl rfl) (pe_op op_sub pe_int (pe_op op_mod (pe_op op_fdiv (pv 0) pe_int) pe_int))))
     pss_nil)
     (pss_cut (ps_if (pt_val (pv 2))
     (pss_one (ps_set (i:=3) Z43.nd rfl (Or.inl rfl) pe_int))
     pss_nil)
     (pss_cut (ps_set (i:=4) Z43.nd rfl (Or.inl rfl) (pe_lst pa_nil))
     (pss_cons (ps_for PassesOwn.never rfl (pi_range1 rfl bl.range_ (pa_cons (pe_op op_add pe_int (pe_op op_mod (pe_op op_fdiv (pv 0) pe_int) (pv 1))) pa_nil)) (pg_name (i:=5) Z43.nd rfl (Or.inl rfl))
     (pss_cut (ps_set (i:=0) Z43.nd rfl (Or.inl rfl) (pe_fn c__law_mixed hr rfl (pa_cons (pv 0) (pa_cons (pe_op op_add pe_int (pv 5)) pa_nil))))
     (pss_cut (ps_set (i:=6) Z43.nd rfl (Or.inl rfl) (pe_ix ix_list (pe_lst (pa_cons pe_int (pa_cons pe_int (pa_cons (pe_op op_add pe_int (pe_op op_mod (pe_op op_fdiv (pv 0) pe_int) pe_int)) (pa_cons (pe_op op_add pe_int (pe_op op_mod (pe_op op_fdiv (pv 0) pe_int) (pe_op op_pow pe_int pe_int))) pa_nil))))) (pe_op op_mod (pv 0) pe_int) (fun _ _=>rfl)))
     (pss_cut (ps_if (pt_val (pv 2))
     (pss_one (ps_set (i:=6) Z43.nd rfl (Or.inl rfl) (pe_op op_add pe_int (pe_op op_mod (pv 0) pe_int))))
     pss_nil)
     (pss_cons (ps_expr (pe_bm PySem.F.plainAttrs_list PySem.F.slot_list_append PySem.F.type_list_append mt_append (pv 4) (pa_cons (pe_tup (pa_cons (pv 3) (pa_cons (pe_op op_sub (pe_op op_add (pv 3) (pv 6)) pe_int) pa_nil))) pa_nil)))
     (pss_one (ps_set (i:=3) Z43.nd rfl (Or.inl rfl) (pe_op op_add (pv 3) (pv 6)))))))))
     (pss_one (ps_ret (pe_lst (pa_cons (pv 4) (pa_cons (pv 2) (pa_cons (pe_op op_fdiv (pv 0) pe_int) pa_nil)))))))))))),?_⟩
  have hmp:(0:Int) < most:=by omega
  refine ⟨fun σ' H'=>H' = H∧∃ w:Bool,σ' = [some (.int m),some (.int most),some (.bl w),none,none,none,none],⟨_,rfl,_,_,rfl,rfl,(by show (0:Int) < 3; decide),rfl,rfl,_,rfl⟩,?_⟩
  rintro σ1 H1 ⟨rfl,w_,rfl⟩
  have p59b:(0:Int) < 2 * 10 ^ (59:Int).toNat:=by have:=p10 (59:Int).toNat; omega
  refine ⟨fun σ' H'=>H' = H1∧∃ a:Int,σ' = [some (.int m),some (.int most),some (.bl w_),some (.int a),none,none,none],⟨_,rfl,_,_,rfl,rfl,⟨by decide,by decide⟩,_,_,rfl,rfl,⟨by decide,by decide,by decide⟩,_,_,rfl,rfl,.inl ⟨by decide,by decide⟩,_,_,rfl,rfl,p59b,_,_,rfl,rfl,⟨by decide,by decide,by decide⟩,_,_,rfl,rfl,rfl,_,rfl⟩,?_⟩
  rintro σ2 H2 ⟨rfl,a1,rfl⟩
  refine ⟨fun σ' H'=>H' = H2∧∃ a:Int,σ' = [some (.int m),some (.int most),some (.bl w_),some (.int a),none,none,none],⟨_,rfl,_,_,rfl,rfl,(by show (0:Int) < 3; decide),rfl,_,rfl,ite2 (fun _=>⟨_,rfl,_,_,rfl,rfl,⟨by decide,by decide⟩,_,_,rfl,rfl,(by show (0:Int) < 5; decide),_,_,rfl,rfl,rfl,_,rfl⟩) (fun _=>⟨rfl,_,rfl⟩)⟩,?_⟩
  rintro σ3 H3 ⟨rfl,a2,rfl⟩
  refine ⟨fun σ' H'=>H' = H3∧∃ a:Int,(w_ = true→a = 0)∧σ' = [some (.int m),some (.int most),some (.bl w_),some (.int a),none,none,none],⟨_,rfl,_,rfl,?_⟩,?_⟩
  · cases w_ with
    | true=>exact iteT ⟨rfl,0,(fun _=>rfl),rfl⟩
    | false=>exact iteF ⟨rfl,a2,(fun h=>by cases h),rfl⟩
  rintro σ4 H4 ⟨rfl,a0,ha0,rfl⟩
  refine ⟨fun σ' H'=>Same H4 H'∧∃ pl:Addr,H4 pl = none∧H' pl = some (.lst [])∧σ' = [some (.int m),some (.int most),some (.bl w_),some (.int a0),some (.ref pl),none,none],⟨(by show 0 ≤ sizeLine; decide),fun l hl=>⟨same_new hl _,l,hl,upd_same,rfl⟩⟩,?_⟩
  rintro σ5 H5 ⟨s5,pl,npl,epl,rfl⟩
  have n0:=Int.emod_nonneg (m / 3) (Int.ne_of_gt hmp)
  have n1:=Int.emod_lt_of_pos (m / 3) hmp
  refine ⟨_,rfl,_,_,rfl,rfl,⟨by decide,by decide⟩,_,rfl,_,_,rfl,rfl,hmp,_,_,rfl,rfl,_,rfl,(by show -(2 ^ 62) ≤ 1 + m / 3 % most; omega),(by show 1 + m / 3 % most < 2 ^ 62; omega),for_range (fun i σ H'=>Same H4 H'∧∃ (m2 at_:Int) (c5 c6:Option V) (ys:List V) (ps:Prs),H' pl = some (.lst ys)∧PL H' ys ps∧ps.length = i∧Ch ps∧(∀ p,ps[ps.length - 1]? = some p→at_ = p.2 + 1)∧(w_ = true→(∀ p,ps[0]? = some p→p.1 = 0)∧(i = 0→at_ = 0)∧at_ ≤ 3 * (i:Int)∧∀ (j:Nat) (p:Int × Int),ps[j]? = some p→p.2 < 3 * (i:Int))∧σ = [some (.int m2),some (.int most),some (.bl w_),some (.int at_),some (.ref pl),c5,c6]) ⟨s5,m,a0,_,_,[],[],epl,.nil,rfl,Ch.nil,(fun p e=>by simp at e),(fun hw=>⟨(fun p e=>by simp at e),(fun _=>ha0 hw),(by rw [ha0 hw]; decide),(fun j p e=>by simp at e)⟩),rfl⟩ (fun i σ H' hi h=>?_) (fun σ H' h=>?_)⟩
  · obtain ⟨sm,m2,at_,c5,c6,ys,ps,es,hp,hlen,hch,hlast,hw,rfl⟩:=h
    have hi6:i < 6:=by omega
    refine ⟨fun σ' H6=>H6 = H'∧∃ m3:Int,σ' = [some (.int m3),some (.int most),some (.bl w_),some (.int at_),some (.ref pl),some (.int (0 + (i:Int))),c6],⟨_,rfl,_,rfl,_,_,rfl,rfl,_,_,rfl,(by show (0:Int) ≤ 10 + (0 + (i:Int)); omega),(by show (10:Int) + (0 + (i:Int)) ≤ 100; omega),fun r _=>⟨rfl,r,rfl⟩⟩,?_⟩
    rintro σ6 H6 ⟨rfl,m3,rfl⟩
    refine ⟨fun σ' H7=>Same H6 H7∧∃ wd_:Int,1 ≤ wd_∧σ' = [some (.int m3),some (.int most),some (.bl w_),some (.int at_),some (.ref pl),some (.int (0 + (i:Int))),some (.int wd_)],?_,?_⟩
    · refine ⟨_,rfl,_,_,rfl,rfl,⟨by decide,by decide⟩,_,_,rfl,rfl,(by show (0:Int) < 9; decide),_,_,rfl,rfl,_,rfl,_,_,rfl,rfl,⟨by decide,by decide⟩,_,_,rfl,rfl,⟨by decide,by decide,by decide⟩,_,_,rfl,rfl,p10 _,_,_,rfl,rfl,(by show 4 ≤ sizeLine; decide),fun p hp_=>?_⟩
      have h0:=Int.emod_nonneg m3 (show (4:Int) ≠ 0 by decide)
      have h1:=Int.emod_lt_of_pos m3 (show (0:Int) < 4 by decide)
      have b1:=Int.emod_nonneg (m3 / 4) (show (9:Int) ≠ 0 by decide)
      have b2:=Int.emod_nonneg (m3 / 4) (Int.ne_of_gt (p10 (58:Int).toNat))
      obtain ⟨v,hv,hv1⟩:∃ v:Int,atI [V.int 1,.int 2,.int (1 + m3 / 4 % 9),.int (1 + m3 / 4 % 10 ^ (58:Int).toNat)] (m3 % 4) = some (.int v)∧1 ≤ v:=by
        generalize m3 % 4 = k at h0 h1 ⊢
        generalize m3 / 4 % 9 = x1 at b1 ⊢
        generalize m3 / 4 % 10 ^ (58:Int).toNat = x2 at b2 ⊢
        have:k = 0∨k = 1∨k = 2∨k = 3:=by omega
        rcases this with rfl | rfl | rfl | rfl
        · exact ⟨_,rfl,by decide⟩
        · exact ⟨_,rfl,by decide⟩
        · exact ⟨_,rfl,by omega⟩
        · exact ⟨_,rfl,by omega⟩
      exact ⟨_,rfl,_,_,rfl,rfl,(by show (0:Int) < 4; decide),p,_,_,_,rfl,rfl,SqL.of upd_same,hv,same_new hp_ _,v,hv1,rfl⟩
    rintro σ7 H7 ⟨s7,v7,hv7,rfl⟩
    refine ⟨fun σ' H8=>H8 = H7∧∃ v:Int,1 ≤ v∧(w_ = true→v ≤ 3)∧σ' = [some (.int m3),some (.int most),some (.bl w_),some (.int at_),some (.ref pl),some (.int (0 + (i:Int))),some (.int v)],⟨_,rfl,_,rfl,?_⟩,?_⟩
    · have h0:=Int.emod_nonneg m3 (show (3:Int) ≠ 0 by decide)
      have h1:=Int.emod_lt_of_pos m3 (show (0:Int) < 3 by decide)
      cases w_ with
      | true=>exact iteT ⟨_,rfl,_,_,rfl,rfl,(by show (0:Int) < 3; decide),_,_,rfl,rfl,rfl,_,by omega,fun _=>by omega,rfl⟩
      | false=>exact iteF ⟨rfl,v7,hv7,(fun h=>by cases h),rfl⟩
    rintro σ8 H8 ⟨rfl,v,hv1,hv3,rfl⟩
    have es7:=s7 _ _ es
    refine ⟨_,rfl,.inl ⟨rfl,_,SqL.of es7⟩,_,rfl,_,rfl,_,rfl,_,_,rfl,rfl,_,_,rfl,rfl,small2,fun t ht=>?_⟩
    have x1:upd H8 t (.tup [.int at_,.int (at_ + v - 1)]) pl = some (.lst ys):=ret_r1 es7 ht
    have hyl:ys.length = i:=by rw [hp.length,hlen]
    refine ⟨pl,_,_,rfl,rfl,x1,small1000 (by omega),?_⟩
    have st:SameT H8 (upd (upd H8 t (.tup [.int at_,.int (at_ + v - 1)])) pl (.lst (ys ++ [.ref t]))):=(sameT_new ht).trans (sameT_lst x1)
    have atp:∀ (j:Nat) (p:Int × Int),(ps ++ [(at_,at_ + v - 1)])[j]? = some p→ps[j]? = some p∧j < ps.length∨p = (at_,at_ + v - 1)∧j = ps.length:=fun j p e=>by
      by_cases hj:j < ps.length
      · rw [List.getElem?_append_left hj] at e; exact .inl ⟨e,hj⟩
      · have:j = ps.length:=by have:=(List.getElem?_eq_some_iff.mp e).1; simp at this; omega
        subst this; simp at e; exact .inr ⟨e.symm,rfl⟩
    refine ⟨_,rfl,_,rfl,_,_,rfl,rfl,((sm.trans s7).trans (same_new ht _)).upd npl,m3,_,_,_,ys ++ [.ref t],ps ++ [(at_,at_ + v - 1)],upd_same,((hp.mono s7.tups).mono st).snoc (sameT_lst x1 _ _ upd_same),by simp [hlen],hch.snoc (by omega) hlast,?_,fun hw'=>?_,rfl⟩
    · intro p e
      rw [List.length_append,List.length_singleton,Nat.add_sub_cancel] at e
      simp at e
      subst e
      show at_ + v = at_ + v - 1 + 1
      omega
    · obtain ⟨w1,w2,w3,w4⟩:=hw hw'
      have v3:=hv3 hw'
      refine ⟨fun p e=>?_,fun h=>by omega,by omega,fun j p e=>?_⟩
      · rcases atp 0 p e with ⟨e,_⟩ | ⟨rfl,hz⟩
        · exact w1 p e
        · exact w2 (by omega)
      · rcases atp j p e with ⟨e,_⟩ | ⟨rfl,hz⟩
        · have:=w4 j p e; omega
        · show at_ + v - 1 < _
          omega
  · obtain ⟨sm,m2,at_,c5,c6,ys,ps,es,hp,hlen,hch,hlast,hw,rfl⟩:=h
    have hn1:1 ≤ (1 + m / 3 % most).toNat∧(1 + m / 3 % most).toNat ≤ 6:=by omega
    refine ⟨_,rfl,_,rfl,_,rfl,_,_,rfl,rfl,⟨by decide,by decide⟩,(by show 3 ≤ sizeLine; decide),fun l hl=>q l ⟨ps,w_,m2 / 8⟩ _ (sm.trans (same_new hl _)) ⟨pl,ys,sm.free hl,npl,upd_same,ret_r1 es hl,hp.mono (same_new hl _).tups⟩ ⟨by show 1 ≤ ps.length; omega,by show ps.length ≤ 6; omega,hch,fun h=>(hw h).1,fun h j p e=>?_⟩⟩
    have:=(hw h).2.2.2 j p e
    omega
theorem O_39 (F:Fun K "_law_bit_row" "_law_bit_row" Y39 f fd) (bl:Bl K mg qA qB qC qD qE qF qG qH qI qJ qK qL qM) (c__law_mixed:Callee P w K mg base 1 "_law_mixed" ["cell", "k"] (J48 K qA qB qC qD qE qF qG qH qI qJ qK qL qM)):FnOk P w K mg base CX0 2 f fd ["m", "columns", "out", "last"] (J39 K qA qB qC qD qE qF qG qH qI qJ qK qL qM):=by
  refine F.ok Z39 (fun vs H Q E h=>?_) (fun cdv A outer s H vs Q E hr h=>?_)
  · obtain ⟨m,cl,ol,la,xs,cs,oc,rfl,hcl,hcs,hok,h1,h4,⟨opl,ots,_,_,eol,eopl,hop⟩,ook,hm0,hla,q⟩:=h
    rfl
  obtain ⟨m,cl,ol,la,xs,cs,oc,rfl,hcl,hcs,hok,h1,h4,⟨opl,ots,_,_,eol,eopl,hop⟩,ook,hm0,hla,q⟩:=h
  refine ⟨_,(pss_cut (ps_set (i:=4) Z39.nd rfl (Or.inl rfl) (pe_lst pa_nil))
     (pss_cons (ps_set (i:=5) Z39.nd rfl (Or.inl rfl) (pv 0))
     (pss_cut (ps_for PassesOwn.never rfl (pi_enum rfl bl.enumerate_ (pa_cons (pv 1) pa_nil)) (pg_tup rfl (pgs_cons (pg_name (i:=6) Z39.nd rfl (Or.inl rfl)) (pgs_cons (pg_name (i:=7) Z39.nd rfl (Or.inl rfl)) pgs_nil)))
     (pss_cut (ps_set (i:=0) Z39.nd rfl (Or.inl rfl) (pe_fn c__law_mixed hr rfl (pa_cons (pv 0) (pa_cons (pe_op op_add pe_int (pv 6)) pa_nil))))
     (pss_cut (ps_set (i:=8) Z39.nd rfl (Or.inl rfl) (pe_op op_sub (pe_op op_shl pe_int (pe_callB call_len_seq rfl bl.len_ PySem.boot_len (pa_cons (pe_ix ix_list (pv 7) pe_int (fun _ _=>rfl)) pa_nil))) pe_int))
     (pss_one (ps_expr (pe_bm PySem.F.plainAttrs_list PySem.F.slot_list_append PySem.F.type_list_append mt_append (pv 4) (pa_cons (pe_ix ix_list (pe_lst (pa_cons (pe_op op_mod (pe_op op_fdiv (pv 0) pe_int) (pe_op op_add (pv 8) pe_int)) (pa_cons (pe_op op_mod (pe_op op_fdiv (pv 0) pe_int) (pe_op op_add (pv 8) pe_int)) (pa_cons (pv 8) (pa_cons (pe_op op_mod (pe_op op_fdiv (pv 0) pe_int) (pv 8)) pa_nil))))) (pe_op op_mod (pv 0) pe_int) (fun _ _=>rfl)) pa_nil)))))))
     (pss_cut (ps_set (i:=9) Z39.nd rfl (Or.inl rfl) (pe_ix ix_tup (pe_ix ix_list (pe_ix ix_list (pv 2) pe_int (fun _ _=>rfl)) (pe_op op_mod (pe_op op_fdiv (pv 0) pe_int) (pe_callB call_len_seq rfl bl.len_ PySem.boot_len (pa_cons (pe_ix ix_list (pv 2) pe_int (fun _ _=>rfl)) pa_nil))) (fun _ _=>rfl)) (pe_op op_mod (pe_op op_fdiv (pv 0) pe_int) pe_int) (fun _ _=>rfl)))
     (pss_cut (ps_if (PW.pt (pw_and (pt_cmpR op_gt (pe_callB call_len_seq rfl bl.len_ PySem.boot_len (pa_cons (pv 3) pa_nil)) pe_int (nomark _)) (pw_and1 (pt_cmpR op_eq (pe_op op_mod (pv 5) pe_int) pe_int (nomark _)))))
     (pss_cut (ps_set (i:=10) Z39.nd rfl (Or.inl rfl) (pe_op op_mod (pe_op op_fdiv (pv 5) pe_int) (pe_callB call_len_seq rfl bl.len_ PySem.boot_len (pa_cons (pv 1) pa_nil))))
     (pss_cons (ps_set (i:=4) Z39.nd rfl (Or.inl rfl) (pe_op op_cat (pe_op op_cat (pe_slice sl_list (pe_ix ix_tup (pv 3) pe_int (fun _ _=>rfl)) po_none (po_some (pv 10))) (pe_lst (pa_cons (pe_ix ix_list (pv 4) (pv 10) (fun _ _=>rfl)) pa_nil))) (pe_slice sl_list (pe_ix ix_tup (pv 3) pe_int (fun _ _=>rfl)) (po_some (pe_op op_add (pv 10) pe_int)) po_none)))
     (pss_one (ps_if (pt_cmpR op_gt (pe_op op_mod (pe_op op_fdiv (pv 5) pe_int) pe_int) pe_int (nomark _))
     (pss_one (ps_set (i:=9) Z39.nd rfl (Or.inl rfl) (pe_ix ix_tup (pv 3) pe_int (fun _ _=>rfl))))
     pss_nil))))
     pss_nil)
     (pss_one (ps_ret (pe_tup (pa_cons (pv 4) (pa_cons (pv 9) pa_nil)))))))))),?_⟩
  have hxl:xs.length = cs.length:=hcs.1
  refine ⟨fun σ' H'=>Same H H'∧∃ bl:Addr,H bl = none∧H' bl = some (.lst (vN []))∧σ' = [some (.int m),some (.ref cl),some (.ref ol),some (.ref la),some (.ref bl),none,none,none,none,none,none],⟨(by show 0 ≤ sizeLine; decide),fun l hl=>⟨same_new hl _,l,hl,upd_same,rfl⟩⟩,?_⟩
  rintro σ1 H1 ⟨s1,bl,nbl,ebl,rfl⟩
  refine ⟨_,rfl,fun σ' H'=>Same H H'∧∃ (m2:Int) (bs:List Nat) (c6 c7 c8:Option V),0 ≤ m2∧H' bl = some (.lst (vN bs))∧bs.length = cs.length∧(∀ (j b:Nat) (c:Col),bs[j]? = some b→cs[j]? = some c→b < 2 ^ c.prs.length)∧σ' = [some (.int m2),some (.ref cl),some (.ref ol),some (.ref la),some (.ref bl),some (.int m),c6,c7,c8,none,none],?_,?_⟩
  · refine ⟨_,rfl,cl,rfl,⟨_,SqL.of (s1 _ _ hcl)⟩,for_enum (xs:=xs) (fun i σ H'=>Same H H'∧∃ (m2:Int) (bs:List Nat) (c6 c7 c8:Option V),0 ≤ m2∧H' bl = some (.lst (vN bs))∧bs.length = i∧(∀ (j b:Nat) (c:Col),bs[j]? = some b→cs[j]? = some c→b < 2 ^ c.prs.length)∧σ = [some (.int m2),some (.ref cl),some (.ref ol),some (.ref la),some (.ref bl),some (.int m),c6,c7,c8,none,none]) ⟨s1,m,[],_,_,_,hm0,ebl,rfl,(fun j b c e=>by simp at e),rfl⟩ (fun i σ H' hh=>SqL.of (hh.1 _ _ hcl)) (fun i y σ H' T ey hh hT=>?_) (fun σ H' hh=>by rw [hxl] at hh; exact hh)⟩
    obtain ⟨sm,m2,bs,c6,c7,c8,hm2,eb,hlen,hlt,rfl⟩:=hh
    obtain ⟨l,c,rfl,ec,pl,ts,_,_,el,epl,hp⟩:=RefL.get hcs ey
    have hi:i < xs.length:=(List.getElem?_eq_some_iff.mp ey).1
    have ok:=hok c (List.mem_of_getElem? ec)
    have k1:=ok.some_
    have k6:=ok.few
    have s2:=sm.trans (same_new hT (.tup [.int (i:Int),.ref l]))
    have eT:upd H' T (.tup [.int (i:Int),.ref l]) T = some (.tup [.int (i:Int),.ref l]):=upd_same
    have eb2:upd H' T (.tup [.int (i:Int),.ref l]) bl = some (.lst (vN bs)):=ret_r1 eb hT
    generalize upd H' T (.tup [.int (i:Int),.ref l]) = H2 at s2 eT eb2 ⊢
    refine ⟨T,_,rfl,SqT.of eT,rfl,_,_,rfl,_,_,rfl,rfl,?_⟩
    refine ⟨fun σ' H3=>H3 = H2∧∃ m3:Int,0 ≤ m3∧σ' = [some (.int m3),some (.ref cl),some (.ref ol),some (.ref la),some (.ref bl),some (.int m),some (.int (i:Int)),some (.ref l),c8,none,none],⟨_,rfl,_,rfl,_,_,rfl,rfl,_,_,rfl,(by show (0:Int) ≤ 20 + (i:Int); omega),(by show (20:Int) + (i:Int) ≤ 100; omega),fun r hr0=>⟨rfl,r,hr0,rfl⟩⟩,?_⟩
    rintro σ3 H3 ⟨rfl,m3,hm3,rfl⟩
    have htl:=hp.length
    refine ⟨fun σ' H4=>H4 = H3∧σ' = [some (.int m3),some (.ref cl),some (.ref ol),some (.ref la),some (.ref bl),some (.int m),some (.int (i:Int)),some (.ref l),some (.int (((2 ^ c.prs.length:Nat):Int) - 1)),none,none],?_,?_⟩
    · refine ⟨_,rfl,l,_,_,_,rfl,rfl,SqL.of (s2 _ _ el),rfl,pl,_,rfl,.inl (SqL.of (s2 _ _ epl)),_,_,rfl,rfl,⟨by omega,by omega,by decide⟩,_,_,rfl,rfl,rfl,?_⟩
      rw [htl,Int.toNat_natCast]
      simp
    rintro σ4 H4 ⟨rfl,rfl⟩
    have he:(0:Int) < ((2 ^ c.prs.length:Nat):Int) - 1:=by
      have:=Nat.pow_le_pow_right (show 0 < 2 by decide) k1
      rw [Nat.pow_one] at this
      generalize 2 ^ c.prs.length = W at this ⊢
      omega
    have hv0:0 ≤ m3 / 8:=Int.ediv_nonneg hm3 (by decide)
    obtain ⟨b,hb,hbe⟩:=four he hv0 (m:=m3)
    refine ⟨_,rfl,.inl ⟨rfl,_,SqL.of eb2⟩,_,rfl,_,_,rfl,rfl,⟨by decide,by decide⟩,_,rfl,_,_,rfl,rfl,_,_,rfl,rfl,(by omega),_,rfl,_,_,rfl,rfl,⟨by decide,by decide⟩,_,rfl,_,_,rfl,rfl,_,_,rfl,rfl,(by omega),_,rfl,_,rfl,_,_,rfl,rfl,⟨by decide,by decide⟩,_,rfl,_,_,rfl,rfl,he,(by show 4 ≤ sizeLine; decide),fun p hp_=>?_⟩
    refine ⟨_,rfl,_,_,rfl,rfl,(by show (0:Int) < 4; decide),p,_,_,_,rfl,rfl,SqL.of upd_same,hb,bl,_,_,rfl,rfl,ret_r1 eb2 hp_,small1000 (by rw [vN_len]; omega),?_⟩
    refine ⟨(s2.trans (same_new hp_ _)).upd nbl,m3,bs ++ [b],_,_,_,hm3,by rw [upd_same,← vN_app]; rfl,by simp [hlen],fun j b' c' e1 e2=>?_,rfl⟩
    by_cases hj:j < bs.length
    · rw [List.getElem?_append_left hj] at e1
      exact hlt j b' c' e1 e2
    · have hj2:j = bs.length:=by have:=(List.getElem?_eq_some_iff.mp e1).1; simp at this; omega
      subst hj2
      simp at e1
      subst e1
      rw [hlen,ec] at e2
      cases e2
      generalize 2 ^ c.prs.length = W at hbe ⊢
      omega
  rintro σ5 H5 ⟨s5,m5,bs,c6,c7,c8,hm5,eb,hlen,hlt,rfl⟩
  have hotl:=hop.length
  have o1:=ook.some_
  have hop0:(0:Int) < ((ots.length:Nat):Int):=by omega
  refine ⟨fun σ' H'=>H' = H5∧∃ cd:Int,oc.lo ≤ cd∧cd ≤ oc.hi∧σ' = [some (.int m5),some (.ref cl),some (.ref ol),some (.ref la),some (.ref bl),some (.int m),c6,c7,c8,some (.int cd),none],?_,?_⟩
  · obtain ⟨rp,p,e1,e2,e3⟩:=pl_at hop (Int.emod_nonneg (m5 / 9) (Int.ne_of_gt hop0)) (Int.emod_lt_of_pos (m5 / 9) hop0)
    obtain ⟨x,ex,hx⟩:=end2 (p:=p) (m:=m5 / 7)
    have hin:=ook.inn e2
    have hle:=ook.ch.le _ _ e2
    refine ⟨_,rfl,ol,_,_,_,rfl,rfl,SqL.of (s5 _ _ eol),rfl,_,rfl,_,_,rfl,rfl,⟨by decide,by decide⟩,_,rfl,ol,_,_,_,rfl,rfl,SqL.of (s5 _ _ eol),rfl,opl,_,rfl,.inl (SqL.of (s5 _ _ eopl)),_,_,rfl,rfl,hop0,opl,_,_,_,rfl,rfl,SqL.of (s5 _ _ eopl),e1,_,rfl,_,_,rfl,rfl,⟨by decide,by decide⟩,_,_,rfl,rfl,(by show (0:Int) < 2; decide),rp,_,_,_,rfl,rfl,SqT.of (s5 _ _ e3),ex,rfl,x,?_,?_,rfl⟩
    · rcases hx with rfl | rfl <;> omega
    · rcases hx with rfl | rfl <;> omega
  rintro σ6 H6 ⟨rfl,cd,cd0,cd1,rfl⟩
  refine ⟨fun σ' H'=>Same H H'∧∃ (bl2:Addr) (w:BW) (c10:Option V),H bl2 = none∧H' bl2 = some (.lst (vN w.1))∧BitOk cs oc w∧σ' = [some (.int m5),some (.ref cl),some (.ref ol),some (.ref la),some (.ref bl2),some (.int m),c6,c7,c8,some (.int w.2),c10],?_,?_⟩
  · have plain:Same H H6∧∃ (bl2:Addr) (w:BW) (c10:Option V),H bl2 = none∧H6 bl2 = some (.lst (vN w.1))∧BitOk cs oc w∧([some (.int m5),some (.ref cl),some (.ref ol),some (.ref la),some (.ref bl),some (.int m),c6,c7,c8,some (.int cd),none]:St) = [some (.int m5),some (.ref cl),some (.ref ol),some (.ref la),some (.ref bl2),some (.int m),c6,c7,c8,some (.int w.2),c10]:=⟨s5,bl,(bs,cd),none,nbl,eb,⟨hlen,hlt,cd0,cd1⟩,rfl⟩
    rcases hla with hla | ⟨w0,⟨bl0,f1,_,f2⟩,ok0⟩
    · exact ⟨_,rfl,la,_,rfl,.inl (SqL.of (s5 _ _ hla)),_,_,rfl,rfl,_,rfl,iteFS (by simp) (iteF plain)⟩
    · have f1':=s5 _ _ f1
      have f2':=s5 _ _ f2
      refine ⟨_,rfl,la,_,rfl,.inr (SqT.of f1'),_,_,rfl,rfl,_,rfl,iteTS (by simp) ?_⟩
      refine ⟨_,rfl,_,_,rfl,rfl,(by show (0:Int) < 2; decide),rfl,_,rfl,ite2 (fun _=>?_) (fun _=>plain)⟩
      have hxp:(0:Int) < ((xs.length:Nat):Int):=by omega
      have a0:=Int.emod_nonneg (m / 2) (Int.ne_of_gt hxp)
      have a1:=Int.emod_lt_of_pos (m / 2) hxp
      refine ⟨fun σ' H'=>H' = H6∧∃ k:Nat,k < cs.length∧σ' = [some (.int m5),some (.ref cl),some (.ref ol),some (.ref la),some (.ref bl),some (.int m),c6,c7,c8,some (.int cd),some (.int (k:Int))],⟨_,rfl,_,_,rfl,rfl,⟨by decide,by decide⟩,_,rfl,cl,_,rfl,.inl (SqL.of (s5 _ _ hcl)),_,_,rfl,rfl,hxp,rfl,(m / 2 % ((xs.length:Nat):Int)).toNat,by omega,by rw [Int.toNat_of_nonneg a0]; rfl⟩,?_⟩
      rintro σ7 H7 ⟨rfl,k,hk,rfl⟩
      obtain ⟨b,ebk⟩:∃ b,bs[k]? = some b:=⟨_,List.getElem?_eq_getElem (by omega)⟩
      refine ⟨_,rfl,la,_,_,_,rfl,rfl,SqT.of f1',rfl,_,rfl,_,rfl,bl0,_,rfl,SqL.of f2',fun c1 hc1=>?_⟩
      rw [cutTake,vN_take]
      have t1:=same_new hc1 (.lst (vN (w0.1.take k)))
      have g1:upd H7 c1 (.lst (vN (w0.1.take k))) c1 = some (.lst (vN (w0.1.take k))):=upd_same
      generalize upd H7 c1 (.lst (vN (w0.1.take k))) = H8 at t1 g1 ⊢
      refine ⟨_,rfl,_,rfl,bl,_,_,_,rfl,rfl,SqL.of (t1 _ _ eb),atI_nat (vN_at ebk),(by show 1 ≤ sizeLine; decide),fun c2 hc2=>?_⟩
      have t2:=same_new hc2 (.lst (vN [b]))
      have g2:upd H8 c2 (.lst (vN [b])) c2 = some (.lst (vN [b])):=upd_same
      have ee:upd H8 c2 (.lst [V.int (b:Int)]) = upd H8 c2 (.lst (vN [b])):=rfl
      rw [ee]
      clear ee
      generalize upd H8 c2 (.lst (vN [b])) = H9 at t2 g2 ⊢
      have lw:=ok0.len
      refine ⟨c1,c2,_,_,rfl,rfl,t2 _ _ g1,g2,Nat.le_of_lt (small1000 (by rw [vN_len,vN_len,List.length_take]; simp; omega)),fun c3 hc3=>?_⟩
      rw [vN_app]
      have t3:=same_new hc3 (.lst (vN (w0.1.take k ++ [b])))
      have g3:upd H9 c3 (.lst (vN (w0.1.take k ++ [b]))) c3 = some (.lst (vN (w0.1.take k ++ [b]))):=upd_same
      generalize upd H9 c3 (.lst (vN (w0.1.take k ++ [b]))) = H10 at t3 g3 ⊢
      have t10:=(t1.trans t2).trans t3
      refine ⟨_,rfl,la,_,_,_,rfl,rfl,SqT.of (t10 _ _ f1'),rfl,_,rfl,_,_,rfl,rfl,_,rfl,bl0,_,rfl,SqL.of (t10 _ _ f2'),fun c4 hc4=>?_⟩
      rw [show ((k:Int) + 1) = ((k + 1:Nat):Int) by omega,cutDrop,vN_drop]
      have t4:=same_new hc4 (.lst (vN (w0.1.drop (k + 1))))
      have g4:upd H10 c4 (.lst (vN (w0.1.drop (k + 1)))) c4 = some (.lst (vN (w0.1.drop (k + 1)))):=upd_same
      generalize upd H10 c4 (.lst (vN (w0.1.drop (k + 1)))) = H11 at t4 g4 ⊢
      refine ⟨c3,c4,_,_,rfl,rfl,t4 _ _ g3,g4,Nat.le_of_lt (small1000 (by rw [vN_len,vN_len,List.length_append,List.length_take,List.length_drop]; simp; omega)),fun c5 hc5=>?_⟩
      rw [vN_app,set_is (by omega)]
      have t5:=same_new hc5 (.lst (vN (w0.1.set k b)))
      have g5:upd H11 c5 (.lst (vN (w0.1.set k b))) c5 = some (.lst (vN (w0.1.set k b))):=upd_same
      have n5:H c5 = none:=((s5.trans t10).trans t4).free hc5
      generalize upd H11 c5 (.lst (vN (w0.1.set k b))) = H12 at t5 g5 ⊢
      have sA:=((s5.trans t10).trans t4).trans t5
      have okb:∀ x:Int,oc.lo ≤ x→x ≤ oc.hi→BitOk cs oc (w0.1.set k b,x):=fun x x0 x1=>⟨by rw [List.length_set]; exact lw,fun j b' c' e1 e2=>by
        have e3:(w0.1.set k b)[j]? = some b':=e1
        rw [List.getElem?_set] at e3
        by_cases hkj:k = j
        · rw [if_pos hkj,if_pos (by omega)] at e3
          cases e3
          subst hkj
          exact hlt _ _ _ ebk e2
        · rw [if_neg hkj] at e3
          exact ok0.lt j b' c' e3 e2,x0,x1⟩
      refine ⟨_,rfl,_,_,rfl,rfl,⟨by decide,by decide⟩,_,_,rfl,rfl,(by show (0:Int) < 4; decide),_,_,rfl,rfl,_,rfl,ite2 (fun _=>?_) (fun _=>?_)⟩
      · exact ⟨_,rfl,la,_,_,_,rfl,rfl,SqT.of (sA _ _ f1),rfl,sA,c5,(w0.1.set k b,w0.2),_,n5,g5,okb _ ok0.lo ok0.hi,rfl⟩
      · exact ⟨sA,c5,(w0.1.set k b,cd),_,n5,g5,okb _ cd0 cd1,rfl⟩
  rintro σ7 H7 ⟨s7,bl2,w_,c10,n2,e2,okw,rfl⟩
  exact ⟨_,rfl,_,rfl,small2,fun r hr_=>q r w_ _ (s7.trans (same_new hr_ _)) ⟨bl2,upd_same,n2,ret_r1 e2 hr_⟩ okw⟩
theorem O_51 (F:Fun K "_law_rows" "_law_rows" Y51 f fd) (bl:Bl K mg qA qB qC qD qE qF qG qH qI qJ qK qL qM) (c__law_spans:Callee P w K mg base 1 "_law_spans" ["pairs", "bits"] (J54 K qA qB qC qD qE qF qG qH qI qJ qK qL qM)):FnOk P w K mg base CX0 2 f fd ["bit_rows", "columns"] (J51 K qA qB qC qD qE qF qG qH qI qJ qK qL qM):=by
  refine F.ok Z51 (fun vs H Q E h=>?_) (fun cdv A outer s H vs Q E hr h=>?_)
  · obtain ⟨l0,cl,zs0,xs,ws0,cs,rfl,hl0,hz0,h200,hcl,hcs,hok,h4,hlw,q⟩:=h
    rfl
  obtain ⟨l0,cl,zs0,xs,ws0,cs,rfl,hl0,hz0,h200,hcl,hcs,hok,h4,hlw,q⟩:=h
  refine ⟨_,(pss_cons (ps_set (i:=2) Z51.nd rfl (Or.inl rfl) (pe_lst pa_nil))
     (pss_cons (ps_for PassesOwn.never rfl (pi_list (pv 0)) (pg_tup rfl (pgs_cons (pg_name (i:=3) Z51.nd rfl (Or.inl rfl)) (pgs_cons (pg_name (i:=4) Z51.nd rfl (Or.inl rfl)) pgs_nil)))
     (pss_one (ps_expr (pe_bm PySem.F.plainAttrs_list PySem.F.slot_list_append PySem.F.type_list_append mt_append (pv 2) (pa_cons (pe_tup (pa_cons (pe_compG (pi_zip rfl bl.zip_ (pa_cons (pv 1) (pa_cons (pv 3) pa_nil))) (cmpOkG_plain (N:=["column", "bit"]) (k:=2) rfl rfl (by decide +kernel) (by decide +kernel) (by decide +kernel)) rfl (fun _ _ _ _=>(gTupK (K:=K) (n:=2) rfl rfl (pgs_cons (pg_name (i:=0) (show (["column", "bit"]:List Str).Nodup by decide +kernel) rfl (Or.inl rfl) (Or.inr rfl)) (pgs_cons (pg_name (i:=1) (show (["column", "bit"]:List Str).Nodup by decide +kernel) rfl (Or.inl rfl) (Or.inr rfl)) pgs_nil)))) (fun _ _ _ _=>pif_nil) (fun _ _ _ _=>(pe_fn c__law_spans hr rfl (pa_cons (pe_ix (ix_listK (K:=K) rfl) (pv 0) pe_int (fun _ _=>rfl)) (pa_cons (pv 1) pa_nil))))) (pa_cons (pv 4) pa_nil))) pa_nil)))))
     (pss_one (ps_ret (pv 2))))),?_⟩
  have hxl:xs.length = cs.length:=hcs.1
  refine ⟨(by show 0 ≤ sizeLine; decide),fun l hl=>?_⟩
  have s0:Same H (upd H l (.lst [])):=same_new hl _
  have e0:upd H l (.lst []) l = some (.lst []):=upd_same
  generalize upd H l (.lst []) = H0 at s0 e0 ⊢
  refine ⟨_,rfl,l0,rfl,⟨_,SqL.of (s0 _ _ hl0)⟩,for_list (xs:=zs0) (fun i σ H'=>Same H H'∧∃ (zs:List V) (rws:List Rw) (c3 c4:Option V),H' l = some (.lst zs)∧RL (Fr H l) H' zs rws∧RwsOf cs (ws0.take i) rws∧σ = [some (.ref l0),some (.ref cl),some (.ref l),c3,c4]) ⟨s0,[],[],_,_,e0,RefL.nil,RwsOf.nil,rfl⟩ (fun i σ H' _ h=>SqL.of (h.1 _ _ hl0)) (fun i y σ H' ey hh=>?_) (fun σ H' hh=>?_)⟩
  · obtain ⟨sm,zs,rws,c3,c4,el,hz,hof,rfl⟩:=hh
    obtain ⟨r,w0,rfl,ew,bl0,f1,_,f2⟩:=RefL.get (hz0.same sm) ey
    have hi:i < ws0.length:=(List.getElem?_eq_some_iff.mp ew).1
    have lw:=hlw w0 (List.mem_of_getElem? ew)
    have hmin:min xs.length (vN w0.1).length = cs.length:=by rw [vN_len]; omega
    refine ⟨r,_,rfl,SqT.of f1,rfl,_,_,rfl,_,_,rfl,rfl,?_⟩
    refine ⟨_,rfl,.inl ⟨rfl,_,SqL.of el⟩,_,rfl,_,rfl,cl,bl0,rfl,⟨_,SqL.of (sm _ _ hcl)⟩,⟨_,SqL.of f2⟩,compG_zip (xs:=xs) (ys:=vN w0.1) (fun D i ys H2=>Same H' H2∧H2 D = some (.lst ys)∧∃ pss:List Prs,CL (Fr H' D) H2 ys pss∧pss.length = i∧∀ (j:Nat) (ps:Prs) (c:Col) (b:Nat),pss[j]? = some ps→cs[j]? = some c→w0.1[j]? = some b→SpOk c.prs b c.prs.length ps∧ps = mrg c.prs b c.prs.length)
      (fun D hD=>⟨same_new hD _,upd_same,[],RefL.nil,rfl,(fun j ps c b e=>by simp at e)⟩) (fun D i ys H2 hD _ h=>⟨SqL.of (h.1 _ _ (sm _ _ hcl)),SqL.of (h.1 _ _ f2)⟩) (fun D j x y ys H2 T hD ex ey2 h hT ts hts=>?_) (fun D ys H2 hD h=>?_)⟩
    · obtain ⟨s2,eD,pss,hy,hlen,hsp⟩:=h
      obtain ⟨lc,c,rfl,ec,pl,tp_,_,_,g1,g2,g3⟩:=RefL.get ((hcs.same sm).same s2) ex
      obtain ⟨b,rfl,eb⟩:=vN_of ey2
      have ok:=hok c (List.mem_of_getElem? ec)
      obtain ⟨t0,t1,rfl⟩:∃ t0 t1,ts = [t0,t1]:=by
        match ts,hts with
        | [t0,t1],_=>exact ⟨t0,t1,rfl⟩
      have s3:=same_new hT (.tup [.ref lc,.int (b:Int)])
      have eT:upd H2 T (.tup [.ref lc,.int (b:Int)]) T = some (.tup [.ref lc,.int (b:Int)]):=upd_same
      generalize upd H2 T (.tup [.ref lc,.int (b:Int)]) = H3 at s3 eT ⊢
      refine ⟨T,_,rfl,SqT.of eT,rfl,_,_,rfl,_,_,rfl,rfl,⟨[some (.ref lc),some (.int (b:Int))],rfl,rfl⟩,?_⟩
      refine ⟨_,rfl,lc,_,_,_,rfl,rfl,SqL.of (s3 _ _ g1),rfl,_,rfl,pl,tp_,c.prs,b,rfl,s3 _ _ g2,g3.mono s3.tups,ok.ch,ok.few,fun l2 ps H4 s4 hspa hspok hspis=>?_⟩
      have hj:j < min xs.length (vN w0.1).length:=by
        have:=(List.getElem?_eq_some_iff.mp ex).1
        rw [hmin,← hxl]; exact this
      have eD4:=s4 _ _ (s3 _ _ eD)
      have n4:H3 l2 = none:=hspa.1
      have nD:l2 ≠ D:=fun z=>by rw [z,s3 _ _ eD] at n4; cases n4
      have n2:H' l2 = none:=s2.free (s3.free n4)
      have hcl2:CL (Fr H' D) H4 (ys ++ [.ref l2]) (pss ++ [ps]):=RefL.snoc (hy.same (s3.trans s4)) ⟨⟨n2,nD⟩,hspa.2⟩
      refine CYes.mk hj eD4 (small1000 (by rw [hy.1]; omega)) ⟨((s2.trans s3).trans s4).upd hD,upd_same,pss ++ [ps],hcl2.updN Fr.out eD4,by simp [hlen],fun j' ps' c' b' e1 e2 e3=>?_⟩
      by_cases hj' : j' < pss.length
      · rw [List.getElem?_append_left hj'] at e1
        exact hsp j' ps' c' b' e1 e2 e3
      · have hj2:j' = pss.length:=by have:=(List.getElem?_eq_some_iff.mp e1).1; simp at this; omega
        subst hj2
        simp at e1
        subst e1
        rw [hlen] at e2 e3
        rw [ec] at e2
        rw [eb] at e3
        cases e2; cases e3
        exact ⟨hspok,hspis⟩
    · obtain ⟨s2,eD,pss,hy,hlen,hsp⟩:=h
      rw [hmin] at hlen
      have nDl:D ≠ l:=fun z=>by rw [z,el] at hD; cases hD
      refine ⟨_,rfl,small2,fun t ht=>?_⟩
      have t4:=same_new ht (.tup [.ref D,.int w0.2])
      have el4:=t4 _ _ (s2 _ _ el)
      have hrow:RowA (Fr H l) (upd H2 t (.tup [.ref D,.int w0.2])) t (pss,w0.2):=⟨D,ys,upd_same,⟨sm.free hD,nDl⟩,t4 _ _ eD,(hy.same t4).wk fun a ha=>⟨sm.free ha.1,fun z=>by have hh:=ha.1; rw [z,el] at hh; cases hh⟩⟩
      refine ⟨l,_,_,rfl,rfl,el4,small1000 (by rw [hz.1,hof.1,List.length_take]; omega),?_⟩
      have hz2:RL (Fr H l) (upd H2 t (.tup [.ref D,.int w0.2])) (zs ++ [.ref t]) (rws ++ [(pss,w0.2)]):=RefL.snoc (hz.same (s2.trans t4)) hrow
      refine ⟨((sm.trans s2).trans t4).upd hl,zs ++ [.ref t],rws ++ [(pss,w0.2)],_,_,upd_same,hz2.updN Fr.out el4,?_,rfl⟩
      rw [take_snoc ew]
      exact hof.snoc ⟨rfl,hlen,fun j ps c b e1 e2 e3=>(hsp j ps c b e1 e2 e3).1,fun j ps c b e1 e2 e3=>(hsp j ps c b e1 e2 e3).2⟩
  · obtain ⟨sm,zs,rws,c3,c4,el,hz,hof,rfl⟩:=hh
    rw [hz0.1,List.take_length] at hof
    exact ⟨_,rfl,q l zs rws H' sm el (RefL.mono hz fun _ _ p=>p.wk fun a h=>h.1) hof⟩
theorem O_45 (F:Fun K "_law_due" "_law_due" Y45 f fd) (bl:Bl K mg qA qB qC qD qE qF qG qH qI qJ qK qL qM) (c__law_fit:Callee P w K mg base 1 "_law_fit" ["bit_row", "point"] (J46 K qA qB qC qD qE qF qG qH qI qJ qK qL qM)):FnOk P w K mg base CX0 2 f fd ["way", "bit_rows", "out", "point"] (J45 K qA qB qC qD qE qF qG qH qI qJ qK qL qM):=by
  refine F.ok Z45 (fun vs H Q E h=>?_) (fun cdv A outer s H vs Q E hr h=>?_)
  · obtain ⟨wy,i,bl_,ol,pl,zs,ws,oc,p,rfl,hi6,hbl,hz,h200,⟨opl,ots,_,_,eol,eopl,hop⟩,ook,hpl,hwl,h100,q⟩:=h
    rfl
  obtain ⟨wy,i,bl_,ol,pl,zs,ws,oc,p,rfl,hi6,hbl,hz,h200,⟨opl,ots,_,_,eol,eopl,hop⟩,ook,hpl,hwl,h100,q⟩:=h
  refine ⟨_,(pss_cut (ps_comp (i:=4) Z45.nd rfl (Or.inl rfl) (pi_list (pv 1)) (cmpOk_free (N:=["row", "point"]) (fr:=[3]) (cl:=[("point",s.heap.objs.size + 1)]) rfl rfl (by decide +kernel) (by decide +kernel) rfl (by decide +kernel) rfl rfl rfl (List.forall_mem_cons.mpr ⟨rfl,List.forall_mem_nil _⟩) rfl) rfl (fun _ _ _ _=>(pif_one (pt_val (pe_fn c__law_fit hr rfl (pa_cons (pv 0) (pa_cons (pv 1) pa_nil)))))) (fun _ _ _ _=>(pe_ix (ix_tupK (K:=K) rfl) (pv 0) pe_int (fun _ _=>rfl))))
     (pss_cons (ps_if (pt_cmpR op_eq (pe_callB call_len_seq rfl bl.len_ PySem.boot_len (pa_cons (pv 4) pa_nil)) pe_int (nomark _))
     (pss_one (ps_ret (pe_tup (pa_cons pe_str (pa_cons pe_int pa_nil)))))
     pss_nil)
     (pss_cons (ps_if (PW.pt (pw_or (PW.pt (pw_and (pt_cmpR op_eq (pv 0) pe_str (nomark _)) (pw_and1 (pt_cmpR op_gt (pe_callB call_len_seq rfl bl.len_ PySem.boot_len (pa_cons (pv 4) pa_nil)) pe_int (nomark _))))) (pw_or1 (PW.pt (pw_and (pt_cmpR op_eq (pv 0) pe_str (nomark _)) (pw_and1 (pt_cmpR op_ne (pe_callB (call_min_list rfl) rfl bl.min_ PyProof.Rows.boot_min (pa_cons (pv 4) pa_nil)) (pe_callB (call_max_list rfl) rfl bl.max_ PyProof.Rows.boot_max (pa_cons (pv 4) pa_nil)) (nomark _))))))))
     (pss_one (ps_ret (pe_tup (pa_cons pe_str (pa_cons pe_int pa_nil)))))
     pss_nil)
     (pss_cons (ps_if (pt_cmpR op_eq (pv 0) pe_str (nomark _))
     (pss_one (ps_ret (pe_tup (pa_cons pe_str (pa_cons (pe_callB (call_min_list rfl) rfl bl.min_ PyProof.Rows.boot_min (pa_cons (pv 4) pa_nil)) pa_nil)))))
     pss_nil)
     (pss_cons (ps_if (pt_cmpR op_eq (pv 0) pe_str (nomark _))
     (pss_one (ps_ret (pe_tup (pa_cons pe_str (pa_cons (pe_callB (call_max_list rfl) rfl bl.max_ PyProof.Rows.boot_max (pa_cons (pv 4) pa_nil)) pa_nil)))))
     pss_nil)
     (pss_cons (ps_if (pt_cmpR op_eq (pv 0) pe_str (nomark _))
     (pss_one (ps_ret (pe_tup (pa_cons pe_str (pa_cons (pe_callB (call_max2 rfl) rfl bl.max_ PyProof.Rows.boot_max (pa_cons (pe_ix ix_tup (pe_ix ix_list (pe_ix ix_list (pv 2) pe_int (fun _ _=>rfl)) pe_int (fun _ _=>rfl)) pe_int (fun _ _=>rfl)) (pa_cons (pe_callB (call_min2 rfl) rfl bl.min_ PyProof.Rows.boot_min (pa_cons (pe_ix ix_tup (pe_ix ix_list (pe_ix ix_list (pv 2) pe_int (fun _ _=>rfl)) (pe_un un_neg pe_int) (fun _ _=>rfl)) pe_int (fun _ _=>rfl)) (pa_cons (pe_callB (call_sum_ints rfl) rfl bl.sum_ PyProof.Rows.boot_sum (pa_cons (pv 4) pa_nil)) pa_nil))) pa_nil))) pa_nil)))))
     pss_nil)
     (pss_one (ps_ret (pe_tup (pa_cons pe_str (pa_cons (pe_ix ix_list (pv 4) pe_int (fun _ _=>rfl)) pa_nil))))))))))),?_⟩
  refine ⟨fun σ' H'=>Same H H'∧∃ cl:Addr,H' cl = some (.lst ((pc ws p).map V.int))∧σ' = [some (.str wy),some (.ref bl_),some (.ref ol),some (.ref pl),some (.ref cl)],?_,?_⟩
  · refine ⟨_,rfl,bl_,rfl,⟨_,SqL.of hbl⟩,comp_list (xs:=zs) (fun D i ys H'=>Same H H'∧H' D = some (.lst ys)∧ys = (pc (ws.take i) p).map V.int) (fun D hD=>⟨same_new hD _,upd_same,rfl⟩) (fun D i ys H' hD _ h=>SqL.of (h.1 _ _ hbl)) (fun D k y ys H' hD e h=>?_) (fun D ys H' hD h=>?_)⟩
    · obtain ⟨sm,eD,rfl⟩:=h
      obtain ⟨r,w_,rfl,ew,hrow⟩:=RefL.get hz e
      have hk:k < zs.length:=(List.getElem?_eq_some_iff.mp e).1
      have hkw:k < ws.length:=(List.getElem?_eq_some_iff.mp ew).1
      refine ⟨_,rfl,_,rfl,r,pl,w_,p,rfl,hrow.same sm,sm _ _ hpl,hwl w_ (List.mem_of_getElem? ew),h100,fun H3 s3=>⟨_,rfl,?_⟩⟩
      have eD3:=s3 _ _ eD
      have hl:((pc (ws.take k) p).map V.int).length ≤ 200:=by
        rw [List.length_map]
        exact Nat.le_trans (pc_len _ _) (by rw [List.length_take]; omega)
      obtain ⟨bl2,g1,_,g2⟩:=hrow.same (sm.trans s3)
      cases hb:bfit w_.1 p with
      | true =>
        refine iteT ⟨_,rfl,r,_,_,_,rfl,rfl,SqT.of g1,rfl,CYes.mk hk eD3 (small1000 (by omega)) ⟨(sm.trans s3).upd hD,upd_same,?_⟩⟩
        rw [take_snoc ew,pc_snoc,hb,List.map_append]
        rfl
      | false =>
        refine iteF (CNext.mk (zs:=(pc (ws.take k) p).map V.int) hk ⟨sm.trans s3,eD3,?_⟩)
        rw [take_snoc ew,pc_snoc,hb]
        simp
    · obtain ⟨sm,eD,rfl⟩:=h
      rw [hz.1,List.take_length] at eD
      exact ⟨sm,D,eD,rfl⟩
  rintro σ1 H1 ⟨s1,cl,ecl,rfl⟩
  have hpl200:(pc ws p).length ≤ 200:=Nat.le_trans (pc_len ws p) h200
  have eol1:=s1 _ _ eol
  have eopl1:=s1 _ _ eopl
  generalize pc ws p = ns at ecl q hpl200
  have hml:(ns.map V.int).length = ns.length:=List.length_map _
  cases ns with
  | nil =>
    refine ⟨_,rfl,cl,_,rfl,.inl (SqL.of ecl),rfl,_,rfl,iteTS rfl ⟨small2,fun r hr_=>q r _ (s1.trans (same_new hr_ _)) upd_same⟩⟩
  | cons n ns =>
  refine ⟨_,rfl,cl,_,rfl,.inl (SqL.of ecl),rfl,_,rfl,iteFS (by simp; omega) ?_⟩
  have fr:=fun (r:Addr) (u:List V) (hr_:H1 r = none)=>s1.trans (same_new hr_ (.tup u))
  match i,hi6 with
  | 0,hi6 =>
    cases hi6
    exact ⟨_,rfl,rfl,_,rfl,iteFS (sne (by decide)) (iteF ⟨_,rfl,rfl,_,rfl,iteFS (sne (by decide)) (iteF ⟨_,rfl,rfl,_,rfl,iteFS (sne (by decide)) ⟨_,rfl,rfl,_,rfl,iteFS (sne (by decide)) ⟨_,rfl,rfl,_,rfl,iteFS (sne (by decide)) ⟨_,rfl,cl,_,_,_,rfl,rfl,SqL.of ecl,at0 n ns,small2,fun r hr_=>q r _ (fr r _ hr_) upd_same⟩⟩⟩⟩)⟩)⟩
  | 1,hi6 =>
    cases hi6
    refine ⟨_,rfl,rfl,_,rfl,iteTS rfl ⟨_,rfl,cl,_,rfl,.inl (SqL.of ecl),_,_,rfl,rfl,_,rfl,ite2 (fun g=>?_) (fun g=>?_)⟩⟩
    · have g:(1:Int) < ((((n :: ns).map V.int).length:Nat):Int):=of_decide_eq_true g
      have e:wf 1 oc.lo oc.hi (n :: ns) = clash:=by
        show fOnly _ = _
        unfold fOnly
        rw [if_neg (by rw [List.length_map] at g; omega)]
      have q:∀ (r:Addr) (H' : Hp),Same H H'→H' r = some (.tup (tp clash))→Q (.ref r) H':=by rw [← e]; exact q
      exact iteT ⟨small2,fun r hr_=>q r _ (fr r _ hr_) upd_same⟩
    · have g:¬ (1:Int) < ((((n :: ns).map V.int).length:Nat):Int):=fun z=>g (decide_eq_true z)
      have e:wf 1 oc.lo oc.hi (n :: ns) = say n:=by
        show fOnly _ = _
        unfold fOnly
        rw [if_pos (by rw [List.length_map,List.length_cons] at g; rw [List.length_cons]; omega)]
        rfl
      have q:∀ (r:Addr) (H' : Hp),Same H H'→H' r = some (.tup (tp (say n)))→Q (.ref r) H':=by rw [← e]; exact q
      exact ⟨_,rfl,rfl,_,rfl,iteFS (sne (by decide)) (iteF ⟨_,rfl,rfl,_,rfl,iteFS (sne (by decide)) ⟨_,rfl,rfl,_,rfl,iteFS (sne (by decide)) ⟨_,rfl,rfl,_,rfl,iteFS (sne (by decide)) ⟨_,rfl,cl,_,_,_,rfl,rfl,SqL.of ecl,at0 n ns,small2,fun r hr_=>q r _ (fr r _ hr_) upd_same⟩⟩⟩⟩)⟩
  | 2,hi6 =>
    cases hi6
    refine ⟨_,rfl,rfl,_,rfl,iteFS (sne (by decide)) (iteF ⟨_,rfl,rfl,_,rfl,iteTS rfl ⟨_,rfl,cl,n :: ns,rfl,SqL.of ecl,Nat.succ_pos _,fun m1 h1 h2=>⟨_,rfl,cl,n :: ns,rfl,SqL.of ecl,Nat.succ_pos _,fun m2 h3 h4=>⟨rfl,_,rfl,?_⟩⟩⟩⟩)⟩
    have e1:=least_un h1 h2
    have e2:=great_un h3 h4
    by_cases g:m1 = m2
    · have e:wf 2 oc.lo oc.hi (n :: ns) = say n:=by
        show fLike _ = _
        unfold fLike
        have gg:least (n :: ns) = great (n :: ns):=by rw [← e1,← e2]; exact g
        rw [if_pos gg,like_head (like_same.mpr gg)]
      have q:∀ (r:Addr) (H' : Hp),Same H H'→H' r = some (.tup (tp (say n)))→Q (.ref r) H':=by rw [← e]; exact q
      exact iteNS (by rw [g]) ⟨_,rfl,rfl,_,rfl,iteFS (sne (by decide)) ⟨_,rfl,rfl,_,rfl,iteFS (sne (by decide)) ⟨_,rfl,rfl,_,rfl,iteFS (sne (by decide)) ⟨_,rfl,cl,_,_,_,rfl,rfl,SqL.of ecl,at0 n ns,small2,fun r hr_=>q r _ (fr r _ hr_) upd_same⟩⟩⟩⟩
    · have e:wf 2 oc.lo oc.hi (n :: ns) = clash:=by
        show fLike _ = _
        unfold fLike
        rw [if_neg fun z=>g (by rw [e1,e2]; exact z)]
      have q:∀ (r:Addr) (H' : Hp),Same H H'→H' r = some (.tup (tp clash))→Q (.ref r) H':=by rw [← e]; exact q
      rw [decide_eq_false (fun z=>g (V.int.inj z))]
      exact iteT ⟨small2,fun r hr_=>q r _ (fr r _ hr_) upd_same⟩
  | 3,hi6 =>
    cases hi6
    refine ⟨_,rfl,rfl,_,rfl,iteFS (sne (by decide)) (iteF ⟨_,rfl,rfl,_,rfl,iteFS (sne (by decide)) (iteF ⟨_,rfl,rfl,_,rfl,iteTS rfl ⟨_,rfl,cl,n :: ns,rfl,SqL.of ecl,Nat.succ_pos _,fun m h1 h2=>⟨small2,fun r hr_=>q r _ (fr r _ hr_) ?_⟩⟩⟩)⟩)⟩
    rw [upd_same,least_un h1 h2]
    rfl
  | 4,hi6 =>
    cases hi6
    refine ⟨_,rfl,rfl,_,rfl,iteFS (sne (by decide)) (iteF ⟨_,rfl,rfl,_,rfl,iteFS (sne (by decide)) (iteF ⟨_,rfl,rfl,_,rfl,iteFS (sne (by decide)) ⟨_,rfl,rfl,_,rfl,iteTS rfl ⟨_,rfl,cl,n :: ns,rfl,SqL.of ecl,Nat.succ_pos _,fun m h1 h2=>⟨small2,fun r hr_=>q r _ (fr r _ hr_) ?_⟩⟩⟩⟩)⟩)⟩
    rw [upd_same,great_un h1 h2]
    rfl
  | 5,hi6 =>
    cases hi6
    have h1:=ook.some_
    have hop1:=hop.mono s1.tups
    obtain ⟨ts',r1,ps',p1,ets,eps,_,er1⟩:=hop1.last (by intro z; rw [z] at hop1; have:=hop1.length; simp at this; omega)
    have il:atI ots (-1) = some (.ref r1):=by rw [ets]; exact atI_last _ _
    have hhi:oc.hi = p1.2:=by unfold Col.hi; rw [eps]; simp
    obtain ⟨p0,ep0,hlo⟩:=ook.first
    obtain ⟨r0,er0,hr0⟩:∃ r0,ots[0]? = some (.ref r0)∧H1 r0 = some (.tup [.int p0.1,.int p0.2]):=by
      obtain ⟨x,ex⟩:∃ x,ots[0]? = some x:=⟨_,List.getElem?_eq_getElem (by rw [hop1.length]; omega)⟩
      obtain ⟨p2,r2,f1,rfl,f2⟩:=hop1.get ex
      rw [ep0] at f1; cases f1
      exact ⟨r2,ex,f2⟩
    refine ⟨_,rfl,rfl,_,rfl,iteFS (sne (by decide)) (iteF ⟨_,rfl,rfl,_,rfl,iteFS (sne (by decide)) (iteF ⟨_,rfl,rfl,_,rfl,iteFS (sne (by decide)) ⟨_,rfl,rfl,_,rfl,iteFS (sne (by decide)) ⟨_,rfl,rfl,_,rfl,iteTS rfl ?_⟩⟩⟩)⟩)⟩
    refine ⟨_,rfl,ol,_,_,_,rfl,rfl,SqL.of eol1,rfl,opl,_,_,_,rfl,rfl,SqL.of eopl1,atI_nat (j:=0) er0,r0,_,_,_,rfl,rfl,SqT.of hr0,z0 _ _,_,rfl,ol,_,_,_,rfl,rfl,SqL.of eol1,rfl,_,rfl,opl,_,_,_,rfl,rfl,SqL.of eopl1,il,r1,_,_,_,rfl,rfl,SqT.of er1,z1 _ _,_,rfl,cl,n :: ns,rfl,SqL.of ecl,_,_,rfl,_,_,rfl,small2,fun r hr_=>q r _ (fr r _ hr_) ?_⟩
    rw [upd_same]
    have hle:=ook.le
    have e:near oc.lo oc.hi (n :: ns).sum = if (if (n :: ns).sum < oc.hi then (n :: ns).sum else oc.hi) > oc.lo then (if (n :: ns).sum < oc.hi then (n :: ns).sum else oc.hi) else oc.lo:=by
      unfold near
      generalize (n :: ns).sum = t
      split <;> split <;> split <;> first | rfl | omega | (split <;> omega)
    show _ = some (HO.tup (tp (say (near oc.lo oc.hi (n :: ns).sum))))
    rw [e,hhi,← hlo]
    rfl
  | k + 6,hi6=>simp [six] at hi6
theorem O_4 (F:Fun K "__init__" "First.__init__" Y4 f fd) (bl:Bl K mg qA qB qC qD qE qF qG qH qI qJ qK qL qM) (b_Way___init___First:BCallee CX0 P w K mg base 1 "Way" "__init__" ["self", "called"] (J18 K qA qB qC qD qE qF qG qH qI qJ qK qL qM)):FnOk P w K mg base CX0 2 f fd ["self"] (J4 K qA qB qC qD qE qF qG qH qI qJ qK qL qM):=by
  refine F.ok Z4 (fun vs H Q E h=>?_) (fun cdv A outer s H vs Q E hr h=>?_)
  · obtain ⟨x,dx,rfl,hx,q⟩:=h
    rfl
  obtain ⟨x,dx,rfl,hx,q⟩:=h
  refine ⟨_,(pss_one (ps_expr (pe_base b_Way___init___First pass0 hr rfl (pa_cons (pv 0) (pa_cons pe_str pa_nil))))),?_⟩
  exact ⟨_,rfl,x,dx,_,rfl,hx,q⟩
theorem O_13 (F:Fun K "__init__" "Only.__init__" Y13 f fd) (bl:Bl K mg qA qB qC qD qE qF qG qH qI qJ qK qL qM) (b_Way___init___Only:BCallee CX0 P w K mg base 1 "Way" "__init__" ["self", "called"] (J22 K qA qB qC qD qE qF qG qH qI qJ qK qL qM)):FnOk P w K mg base CX0 2 f fd ["self"] (J13 K qA qB qC qD qE qF qG qH qI qJ qK qL qM):=by
  refine F.ok Z13 (fun vs H Q E h=>?_) (fun cdv A outer s H vs Q E hr h=>?_)
  · obtain ⟨x,dx,rfl,hx,q⟩:=h
    rfl
  obtain ⟨x,dx,rfl,hx,q⟩:=h
  refine ⟨_,(pss_one (ps_expr (pe_base b_Way___init___Only pass0 hr rfl (pa_cons (pv 0) (pa_cons pe_str pa_nil))))),?_⟩
  exact ⟨_,rfl,x,dx,_,rfl,hx,q⟩
theorem O_8 (F:Fun K "__init__" "Like.__init__" Y8 f fd) (bl:Bl K mg qA qB qC qD qE qF qG qH qI qJ qK qL qM) (b_Way___init___Like:BCallee CX0 P w K mg base 1 "Way" "__init__" ["self", "called"] (J20 K qA qB qC qD qE qF qG qH qI qJ qK qL qM)):FnOk P w K mg base CX0 2 f fd ["self"] (J8 K qA qB qC qD qE qF qG qH qI qJ qK qL qM):=by
  refine F.ok Z8 (fun vs H Q E h=>?_) (fun cdv A outer s H vs Q E hr h=>?_)
  · obtain ⟨x,dx,rfl,hx,q⟩:=h
    rfl
  obtain ⟨x,dx,rfl,hx,q⟩:=h
  refine ⟨_,(pss_one (ps_expr (pe_base b_Way___init___Like pass0 hr rfl (pa_cons (pv 0) (pa_cons pe_str pa_nil))))),?_⟩
  exact ⟨_,rfl,x,dx,_,rfl,hx,q⟩
theorem O_10 (F:Fun K "__init__" "Low.__init__" Y10 f fd) (bl:Bl K mg qA qB qC qD qE qF qG qH qI qJ qK qL qM) (b_Way___init___Low:BCallee CX0 P w K mg base 1 "Way" "__init__" ["self", "called"] (J21 K qA qB qC qD qE qF qG qH qI qJ qK qL qM)):FnOk P w K mg base CX0 2 f fd ["self"] (J10 K qA qB qC qD qE qF qG qH qI qJ qK qL qM):=by
  refine F.ok Z10 (fun vs H Q E h=>?_) (fun cdv A outer s H vs Q E hr h=>?_)
  · obtain ⟨x,dx,rfl,hx,q⟩:=h
    rfl
  obtain ⟨x,dx,rfl,hx,q⟩:=h
  refine ⟨_,(pss_one (ps_expr (pe_base b_Way___init___Low pass0 hr rfl (pa_cons (pv 0) (pa_cons pe_str pa_nil))))),?_⟩
  exact ⟨_,rfl,x,dx,_,rfl,hx,q⟩
theorem O_6 (F:Fun K "__init__" "High.__init__" Y6 f fd) (bl:Bl K mg qA qB qC qD qE qF qG qH qI qJ qK qL qM) (b_Way___init___High:BCallee CX0 P w K mg base 1 "Way" "__init__" ["self", "called"] (J19 K qA qB qC qD qE qF qG qH qI qJ qK qL qM)):FnOk P w K mg base CX0 2 f fd ["self"] (J6 K qA qB qC qD qE qF qG qH qI qJ qK qL qM):=by
  refine F.ok Z6 (fun vs H Q E h=>?_) (fun cdv A outer s H vs Q E hr h=>?_)
  · obtain ⟨x,dx,rfl,hx,q⟩:=h
    rfl
  obtain ⟨x,dx,rfl,hx,q⟩:=h
  refine ⟨_,(pss_one (ps_expr (pe_base b_Way___init___High pass0 hr rfl (pa_cons (pv 0) (pa_cons pe_str pa_nil))))),?_⟩
  exact ⟨_,rfl,x,dx,_,rfl,hx,q⟩
theorem O_15 (F:Fun K "__init__" "Sum.__init__" Y15 f fd) (bl:Bl K mg qA qB qC qD qE qF qG qH qI qJ qK qL qM) (b_Way___init___Sum:BCallee CX0 P w K mg base 1 "Way" "__init__" ["self", "called"] (J23 K qA qB qC qD qE qF qG qH qI qJ qK qL qM)):FnOk P w K mg base CX0 2 f fd ["self"] (J15 K qA qB qC qD qE qF qG qH qI qJ qK qL qM):=by
  refine F.ok Z15 (fun vs H Q E h=>?_) (fun cdv A outer s H vs Q E hr h=>?_)
  · obtain ⟨x,dx,rfl,hx,q⟩:=h
    rfl
  obtain ⟨x,dx,rfl,hx,q⟩:=h
  refine ⟨_,(pss_one (ps_expr (pe_base b_Way___init___Sum pass0 hr rfl (pa_cons (pv 0) (pa_cons pe_str pa_nil))))),?_⟩
  exact ⟨_,rfl,x,dx,_,rfl,hx,q⟩
theorem O_2 (F:Fun K "has_code" "Domain.has_code" Y2 f fd) (bl:Bl K mg qA qB qC qD qE qF qG qH qI qJ qK qL qM) (c_is_whole:Callee P w K mg base 1 "is_whole" ["value"] (J35 K qA qB qC qD qE qF qG qH qI qJ qK qL qM)):FnOk P w K mg base CX0 2 f fd ["self", "value"] (J2 K qA qB qC qD qE qF qG qH qI qJ qK qL qM):=by
  refine F.ok Z2 (fun vs H Q E h=>?_) (fun cdv A outer s H vs Q E hr h=>?_)
  · obtain ⟨a,b,i,rfl,⟨dx,fs,ha,hl,hh,_⟩,h1,h2,q⟩:=h
    rfl
  obtain ⟨a,b,i,rfl,⟨dx,fs,ha,hl,hh,_⟩,h1,h2,q⟩:=h
  refine ⟨_,(pss_one (ps_ret (pe_and (pe_fn c_is_whole hr rfl (pa_cons (pv 1) pa_nil)) (pe_one (pe_chain op_le op_le (pe_fld (pv 0) rfl) (pv 1) (pe_fld (pv 0) rfl)))))),?_⟩
  refine ⟨_,rfl,i,rfl,_,rfl,iteT ?_⟩
  refine ⟨_,rfl,a,_,_,_,_,rfl,ha,bl.k_Numbers,bl.na_Numbers_low,hl,_,rfl,_,_,rfl,rfl,_,rfl,iteTS h1 ?_⟩
  refine ⟨_,rfl,a,_,_,_,_,rfl,ha,bl.k_Numbers,bl.na_Numbers_high,hh,_,_,rfl,rfl,?_⟩
  show Q (.bl (decide (i ≤ b.2))) H
  rw [decide_eq_true h2]
  exact q
theorem O_3 (F:Fun K "has_code" "Domain.has_code" Y3 f fd) (bl:Bl K mg qA qB qC qD qE qF qG qH qI qJ qK qL qM) (c_is_whole:Callee P w K mg base 1 "is_whole" ["value"] (J35 K qA qB qC qD qE qF qG qH qI qJ qK qL qM)):FnOk P w K mg base CX0 2 f fd ["self", "value"] (J3 K qA qB qC qD qE qF qG qH qI qJ qK qL qM):=by
  refine F.ok Z3 (fun vs H Q E h=>?_) (fun cdv A outer s H vs Q E hr h=>?_)
  · obtain ⟨a,b,i,rfl,⟨dx,fs,ha,hl,hh,_⟩,h1,h2,q⟩:=h
    rfl
  obtain ⟨a,b,i,rfl,⟨dx,fs,ha,hl,hh,_⟩,h1,h2,q⟩:=h
  refine ⟨_,(pss_one (ps_ret (pe_and (pe_fn c_is_whole hr rfl (pa_cons (pv 1) pa_nil)) (pe_one (pe_chain op_le op_le (pe_fld (pv 0) rfl) (pv 1) (pe_fld (pv 0) rfl)))))),?_⟩
  refine ⟨_,rfl,i,rfl,_,rfl,iteT ?_⟩
  refine ⟨_,rfl,a,_,_,_,_,rfl,ha,bl.k_Words,bl.na_Words_low,hl,_,rfl,_,_,rfl,rfl,_,rfl,iteTS h1 ?_⟩
  refine ⟨_,rfl,a,_,_,_,_,rfl,ha,bl.k_Words,bl.na_Words_high,hh,_,_,rfl,rfl,?_⟩
  show Q (.bl (decide (i ≤ b.2))) H
  rw [decide_eq_true h2]
  exact q
theorem O_12 (F:Fun K "__init__" "Numbers.__init__" Y12 f fd) (bl:Bl K mg qA qB qC qD qE qF qG qH qI qJ qK qL qM) (b_Domain___init___Numbers:BCallee CX0 P w K mg base 1 "Domain" "__init__" ["self", "low", "high"] (J0 K qA qB qC qD qE qF qG qH qI qJ qK qL qM)):FnOk P w K mg base CX0 2 f fd ["self", "low", "high"] (J12 K qA qB qC qD qE qF qG qH qI qJ qK qL qM):=by
  refine F.ok Z12 (fun vs H Q E h=>?_) (fun cdv A outer s H vs Q E hr h=>?_)
  · obtain ⟨x,dx,lo,hi,rfl,hx,hle,q⟩:=h
    rfl
  obtain ⟨x,dx,lo,hi,rfl,hx,hle,q⟩:=h
  refine ⟨_,(pss_cons (ps_if (pt_cmpR op_gt (pv 1) (pv 2) (nomark _))
     (pss_one ps_never)
     pss_nil)
     (pss_one (ps_expr (pe_base b_Domain___init___Numbers pass0 hr rfl (pa_cons (pv 0) (pa_cons (pv 1) (pa_cons (pv 2) pa_nil))))))),?_⟩
  exact ⟨_,rfl,_,rfl,_,_,rfl,rfl,_,rfl,iteFS (by omega) ⟨_,rfl,_,rfl,_,rfl,x,dx,lo,hi,rfl,hx,q⟩⟩
theorem O_24 (F:Fun K "verdict" "Way.verdict" Y24 f fd) (bl:Bl K mg qA qB qC qD qE qF qG qH qI qJ qK qL qM) (m_First_chosen_First:MCallee CX0 P w K mg base 1 qB "chosen" ["self", "codes", "outcome"] (J5 K qA qB qC qD qE qF qG qH qI qJ qK qL qM)):FnOk P w K mg base CX0 2 f fd ["self", "codes", "outcome"] (J24 K qA qB qC qD qE qF qG qH qI qJ qK qL qM):=by
  refine F.ok Z24 (fun vs H Q E h=>?_) (fun cdv A outer s H vs Q E hr h=>?_)
  · obtain ⟨x,c,o,ns,b,rfl,⟨dx,z,hx⟩,ho,hle,hS,hn,q⟩:=h
    rfl
  obtain ⟨x,c,o,ns,b,rfl,⟨dx,z,hx⟩,ho,hle,hS,hn,q⟩:=h
  refine ⟨_,(pss_cons (ps_if (pt_not (pt_truth (pv 1) (by intro _; rfl)))
     (pss_one (ps_ret (pe_glob (v:=.ref qL) rfl bl.NONE_ rfl)))
     pss_nil)
     (pss_one (ps_ret (pe_mt m_First_chosen_First pass0 bl.k_First hr (pv 0) (pa_cons (pv 1) (pa_cons (pv 2) pa_nil)))))),?_⟩
  refine ⟨_,rfl,!(ns.map V.int).isEmpty,.inl ⟨_,hS,rfl⟩,?_⟩
  cases ns with
  | nil=>exact iteT (q _ _ (Same.refl _) (bl.q_NONE.sq _))
  | cons n ns=>exact iteF ⟨_,rfl,x,_,_,rfl,hx,rfl,_,rfl,_,rfl,x,c,o,n,ns,b,rfl,⟨dx,z,hx⟩,ho,hle,hS,Nat.lt_of_succ_lt hn,q⟩
theorem O_28 (F:Fun K "verdict" "Way.verdict" Y28 f fd) (bl:Bl K mg qA qB qC qD qE qF qG qH qI qJ qK qL qM) (m_Only_chosen_Only:MCallee CX0 P w K mg base 1 qC "chosen" ["self", "codes", "outcome"] (J14 K qA qB qC qD qE qF qG qH qI qJ qK qL qM)):FnOk P w K mg base CX0 2 f fd ["self", "codes", "outcome"] (J28 K qA qB qC qD qE qF qG qH qI qJ qK qL qM):=by
  refine F.ok Z28 (fun vs H Q E h=>?_) (fun cdv A outer s H vs Q E hr h=>?_)
  · obtain ⟨x,c,o,ns,b,rfl,⟨dx,z,hx⟩,ho,hle,hS,hn,q⟩:=h
    rfl
  obtain ⟨x,c,o,ns,b,rfl,⟨dx,z,hx⟩,ho,hle,hS,hn,q⟩:=h
  refine ⟨_,(pss_cons (ps_if (pt_not (pt_truth (pv 1) (by intro _; rfl)))
     (pss_one (ps_ret (pe_glob (v:=.ref qL) rfl bl.NONE_ rfl)))
     pss_nil)
     (pss_one (ps_ret (pe_mt m_Only_chosen_Only pass0 bl.k_Only hr (pv 0) (pa_cons (pv 1) (pa_cons (pv 2) pa_nil)))))),?_⟩
  refine ⟨_,rfl,!(ns.map V.int).isEmpty,.inl ⟨_,hS,rfl⟩,?_⟩
  cases ns with
  | nil=>exact iteT (q _ _ (Same.refl _) (bl.q_NONE.sq _))
  | cons n ns=>exact iteF ⟨_,rfl,x,_,_,rfl,hx,rfl,_,rfl,_,rfl,x,c,o,n,ns,b,rfl,⟨dx,z,hx⟩,ho,hle,hS,Nat.lt_of_succ_lt hn,q⟩
theorem O_26 (F:Fun K "verdict" "Way.verdict" Y26 f fd) (bl:Bl K mg qA qB qC qD qE qF qG qH qI qJ qK qL qM) (m_Like_chosen_Like:MCallee CX0 P w K mg base 1 qD "chosen" ["self", "codes", "outcome"] (J9 K qA qB qC qD qE qF qG qH qI qJ qK qL qM)):FnOk P w K mg base CX0 2 f fd ["self", "codes", "outcome"] (J26 K qA qB qC qD qE qF qG qH qI qJ qK qL qM):=by
  refine F.ok Z26 (fun vs H Q E h=>?_) (fun cdv A outer s H vs Q E hr h=>?_)
  · obtain ⟨x,c,o,ns,b,rfl,⟨dx,z,hx⟩,ho,hle,hS,hn,q⟩:=h
    rfl
  obtain ⟨x,c,o,ns,b,rfl,⟨dx,z,hx⟩,ho,hle,hS,hn,q⟩:=h
  refine ⟨_,(pss_cons (ps_if (pt_not (pt_truth (pv 1) (by intro _; rfl)))
     (pss_one (ps_ret (pe_glob (v:=.ref qL) rfl bl.NONE_ rfl)))
     pss_nil)
     (pss_one (ps_ret (pe_mt m_Like_chosen_Like pass0 bl.k_Like hr (pv 0) (pa_cons (pv 1) (pa_cons (pv 2) pa_nil)))))),?_⟩
  refine ⟨_,rfl,!(ns.map V.int).isEmpty,.inl ⟨_,hS,rfl⟩,?_⟩
  cases ns with
  | nil=>exact iteT (q _ _ (Same.refl _) (bl.q_NONE.sq _))
  | cons n ns=>exact iteF ⟨_,rfl,x,_,_,rfl,hx,rfl,_,rfl,_,rfl,x,c,o,n,ns,b,rfl,⟨dx,z,hx⟩,ho,hle,hS,Nat.lt_of_succ_lt hn,q⟩
theorem O_27 (F:Fun K "verdict" "Way.verdict" Y27 f fd) (bl:Bl K mg qA qB qC qD qE qF qG qH qI qJ qK qL qM) (m_Low_chosen_Low:MCallee CX0 P w K mg base 1 qE "chosen" ["self", "codes", "outcome"] (J11 K qA qB qC qD qE qF qG qH qI qJ qK qL qM)):FnOk P w K mg base CX0 2 f fd ["self", "codes", "outcome"] (J27 K qA qB qC qD qE qF qG qH qI qJ qK qL qM):=by
  refine F.ok Z27 (fun vs H Q E h=>?_) (fun cdv A outer s H vs Q E hr h=>?_)
  · obtain ⟨x,c,o,ns,b,rfl,⟨dx,z,hx⟩,ho,hle,hS,hn,q⟩:=h
    rfl
  obtain ⟨x,c,o,ns,b,rfl,⟨dx,z,hx⟩,ho,hle,hS,hn,q⟩:=h
  refine ⟨_,(pss_cons (ps_if (pt_not (pt_truth (pv 1) (by intro _; rfl)))
     (pss_one (ps_ret (pe_glob (v:=.ref qL) rfl bl.NONE_ rfl)))
     pss_nil)
     (pss_one (ps_ret (pe_mt m_Low_chosen_Low pass0 bl.k_Low hr (pv 0) (pa_cons (pv 1) (pa_cons (pv 2) pa_nil)))))),?_⟩
  refine ⟨_,rfl,!(ns.map V.int).isEmpty,.inl ⟨_,hS,rfl⟩,?_⟩
  cases ns with
  | nil=>exact iteT (q _ _ (Same.refl _) (bl.q_NONE.sq _))
  | cons n ns=>exact iteF ⟨_,rfl,x,_,_,rfl,hx,rfl,_,rfl,_,rfl,x,c,o,n,ns,b,rfl,⟨dx,z,hx⟩,ho,hle,hS,Nat.lt_of_succ_lt hn,q⟩
theorem O_25 (F:Fun K "verdict" "Way.verdict" Y25 f fd) (bl:Bl K mg qA qB qC qD qE qF qG qH qI qJ qK qL qM) (m_High_chosen_High:MCallee CX0 P w K mg base 1 qF "chosen" ["self", "codes", "outcome"] (J7 K qA qB qC qD qE qF qG qH qI qJ qK qL qM)):FnOk P w K mg base CX0 2 f fd ["self", "codes", "outcome"] (J25 K qA qB qC qD qE qF qG qH qI qJ qK qL qM):=by
  refine F.ok Z25 (fun vs H Q E h=>?_) (fun cdv A outer s H vs Q E hr h=>?_)
  · obtain ⟨x,c,o,ns,b,rfl,⟨dx,z,hx⟩,ho,hle,hS,hn,q⟩:=h
    rfl
  obtain ⟨x,c,o,ns,b,rfl,⟨dx,z,hx⟩,ho,hle,hS,hn,q⟩:=h
  refine ⟨_,(pss_cons (ps_if (pt_not (pt_truth (pv 1) (by intro _; rfl)))
     (pss_one (ps_ret (pe_glob (v:=.ref qL) rfl bl.NONE_ rfl)))
     pss_nil)
     (pss_one (ps_ret (pe_mt m_High_chosen_High pass0 bl.k_High hr (pv 0) (pa_cons (pv 1) (pa_cons (pv 2) pa_nil)))))),?_⟩
  refine ⟨_,rfl,!(ns.map V.int).isEmpty,.inl ⟨_,hS,rfl⟩,?_⟩
  cases ns with
  | nil=>exact iteT (q _ _ (Same.refl _) (bl.q_NONE.sq _))
  | cons n ns=>exact iteF ⟨_,rfl,x,_,_,rfl,hx,rfl,_,rfl,_,rfl,x,c,o,n,ns,b,rfl,⟨dx,z,hx⟩,ho,hle,hS,Nat.lt_of_succ_lt hn,q⟩
theorem O_29 (F:Fun K "verdict" "Way.verdict" Y29 f fd) (bl:Bl K mg qA qB qC qD qE qF qG qH qI qJ qK qL qM) (m_Sum_chosen_Sum:MCallee CX0 P w K mg base 1 qG "chosen" ["self", "codes", "outcome"] (J16 K qA qB qC qD qE qF qG qH qI qJ qK qL qM)):FnOk P w K mg base CX0 2 f fd ["self", "codes", "outcome"] (J29 K qA qB qC qD qE qF qG qH qI qJ qK qL qM):=by
  refine F.ok Z29 (fun vs H Q E h=>?_) (fun cdv A outer s H vs Q E hr h=>?_)
  · obtain ⟨x,c,o,ns,b,rfl,⟨dx,z,hx⟩,ho,hle,hS,hn,q⟩:=h
    rfl
  obtain ⟨x,c,o,ns,b,rfl,⟨dx,z,hx⟩,ho,hle,hS,hn,q⟩:=h
  refine ⟨_,(pss_cons (ps_if (pt_not (pt_truth (pv 1) (by intro _; rfl)))
     (pss_one (ps_ret (pe_glob (v:=.ref qL) rfl bl.NONE_ rfl)))
     pss_nil)
     (pss_one (ps_ret (pe_mt m_Sum_chosen_Sum pass0 bl.k_Sum hr (pv 0) (pa_cons (pv 1) (pa_cons (pv 2) pa_nil)))))),?_⟩
  refine ⟨_,rfl,!(ns.map V.int).isEmpty,.inl ⟨_,hS,rfl⟩,?_⟩
  cases ns with
  | nil=>exact iteT (q _ _ (Same.refl _) (bl.q_NONE.sq _))
  | cons n ns=>exact iteF ⟨_,rfl,x,_,_,rfl,hx,rfl,_,rfl,_,rfl,x,c,o,n,ns,b,rfl,⟨dx,z,hx⟩,ho,hle,hS,Nat.lt_of_succ_lt hn,q⟩
theorem O_61 (F:Fun K "refuse_names" "refuse_names" Y61 f fd) (bl:Bl K mg qA qB qC qD qE qF qG qH qI qJ qK qL qM) (c_is_word:Callee P w K mg base 2 "is_word" ["text"] (J36 K qA qB qC qD qE qF qG qH qI qJ qK qL qM)):FnOk P w K mg base CX0 3 f fd ["names"] (J61 K qA qB qC qD qE qF qG qH qI qJ qK qL qM):=by
  refine F.ok Z61 (fun vs H Q E h=>?_) (fun cdv A outer s H vs Q E hr h=>?_)
  · obtain ⟨p,zs,rfl,hS,hw,hn,hl,q⟩:=h
    rfl
  obtain ⟨p,zs,rfl,hS,hw,hn,hl,q⟩:=h
  refine ⟨_,(pss_cut (ps_for PassesOwn.never rfl (pi_list (pv 0)) (pg_name (i:=1) Z61.nd rfl (Or.inl rfl))
     (pss_one (ps_if (pt_not (pt_val (pe_fn c_is_word hr rfl (pa_cons (pv 1) pa_nil))))
     (pss_one ps_never)
     pss_nil)))
     (pss_one (ps_if (pt_cmpR op_lt (pe_callB call_len_setO rfl bl.len_ PySem.boot_len (pa_cons (pe_callTy (call_set_strs rfl) rfl bl.set_ PyProof.Rows.boot_set (pa_cons (pv 0) pa_nil)) pa_nil)) (pe_callB call_len_seq rfl bl.len_ PySem.boot_len (pa_cons (pv 0) pa_nil)) (nomark _))
     (pss_one ps_never)
     pss_nil))),?_⟩
  have hlen:(zs.map V.str).length = zs.length:=List.length_map _
  refine ⟨fun σ' H'=>H' = H∧∃ c1:Option V,σ' = [some (.ref p),c1],?_,?_⟩
  · refine ⟨_,rfl,p,rfl,⟨_,hS⟩,for_list (xs:=zs.map V.str) (fun i σ H'=>H' = H∧∃ c1:Option V,σ = [some (.ref p),c1]) ⟨rfl,_,rfl⟩ (fun i σ H' _ h=>by rw [h.1]; exact hS) (fun i y σ H' e h=>?_) (fun σ H' h=>h)⟩
    obtain ⟨e0,c1,rfl⟩:=h
    rw [e0]
    obtain ⟨z,rfl,ez⟩:=get_strs e
    have hz1:=hw z (List.mem_of_getElem? ez)
    have hz:z.length ≤ 1000:=by
      have hw2:=hz1
      unfold isw at hw2
      simp only [Bool.and_eq_true,decide_eq_true_eq] at hw2
      omega
    refine ⟨_,rfl,z,rfl,hz,_,rfl,?_⟩
    rw [hz1]
    exact iteF ⟨rfl,_,rfl⟩
  rintro σ2 H2 ⟨e2,c1,rfl⟩
  rw [e2]
  refine ⟨_,rfl,p,zs,rfl,hS,by omega,fun l hl2=>⟨l,zs,rfl,upd_same,by omega,_,rfl,p,_,rfl,.inl ((same_new hl2 _).seq hS),_,_,rfl,rfl,_,rfl,?_⟩⟩
  have cf:=cntK_full zs zs.length (Nat.le_refl _)
  rw [List.take_length] at cf
  exact iteFS (by rw [hlen,cf.mpr hn]; omega) (q _ (same_new hl2 _))
theorem O_62 (F:Fun K "refuse_row" "refuse_row" Y62 f fd) (bl:Bl K mg qA qB qC qD qE qF qG qH qI qJ qK qL qM) (m_Domain_has_code_Numbers:MCallee CX0 P w K mg base 2 qI "has_code" ["self", "value"] (J2 K qA qB qC qD qE qF qG qH qI qJ qK qL qM)) (m_Domain_has_code_Words:MCallee CX0 P w K mg base 2 qJ "has_code" ["self", "value"] (J3 K qA qB qC qD qE qF qG qH qI qJ qK qL qM)):FnOk P w K mg base CX0 3 f fd ["domains", "outcome", "cells", "code"] (J62 K qA qB qC qD qE qF qG qH qI qJ qK qL qM):=by
  refine F.ok Z62 (fun vs H Q E h=>?_) (fun cdv A outer s H vs Q E hr h=>?_)
  · obtain ⟨dl,ou,cl,dv,xs,bs,o,w_,rfl,hD,hdv,hO,hC,hcl,ok,q⟩:=h
    rfl
  obtain ⟨dl,ou,cl,dv,xs,bs,o,w_,rfl,hD,hdv,hO,hC,hcl,ok,q⟩:=h
  refine ⟨_,(pss_cons (ps_if (pt_cmpR op_ne (pe_callB call_len_seq rfl bl.len_ PySem.boot_len (pa_cons (pv 2) pa_nil)) (pe_callB call_len_seq rfl bl.len_ PySem.boot_len (pa_cons (pv 0) pa_nil)) (nomark _))
     (pss_one ps_never)
     pss_nil)
     (pss_cut (ps_for PassesOwn.never rfl (pi_zip rfl bl.zip_ (pa_cons (pv 0) (pa_cons (pv 2) pa_nil))) (pg_tup rfl (pgs_cons (pg_name (i:=4) Z62.nd rfl (Or.inl rfl)) (pgs_cons (pg_name (i:=5) Z62.nd rfl (Or.inl rfl)) pgs_nil)))
     (pss_one (ps_for PassesOwn.never rfl (pi_list (pv 5)) (pg_tup rfl (pgs_cons (pg_name (i:=6) Z62.nd rfl (Or.inl rfl)) (pgs_cons (pg_name (i:=7) Z62.nd rfl (Or.inl rfl)) pgs_nil)))
     (pss_one (ps_if (PW.pt (pw_or (pt_cmpR op_lt (pv 6) (pe_fld (pv 4) rfl) (nomark _)) (pw_or1 (pt_cmpR op_gt (pv 7) (pe_fld (pv 4) rfl) (nomark _)))))
     (pss_one ps_never)
     pss_nil)))))
     (pss_one (ps_if (pt_not (pt_val (pe_mtP (polc m_Domain_has_code_Numbers bl.k_Numbers (polc m_Domain_has_code_Words bl.k_Words poln)) pass0 hr (pv 1) (pa_cons (pv 3) pa_nil))))
     (pss_one ps_never)
     pss_nil)))),?_⟩
  have hdf:∀ (C:Addr),(C = qI∨C = qJ)→Cls K C∧NoAttr K C (Str.ofString "low")∧NoAttr K C (Str.ofString "high"):=fun C h=>by
    rcases h with rfl | rfl
    · exact ⟨bl.k_Numbers,bl.na_Numbers_low,bl.na_Numbers_high⟩
    · exact ⟨bl.k_Words,bl.na_Words_low,bl.na_Words_high⟩
  have hlen:xs.length = dv.length:=by rw [hcl.1,ok.len,hdv.1]
  refine ⟨_,rfl,cl,_,rfl,.inl (SqL.of hC),_,rfl,dl,_,rfl,.inl (hD),rfl,_,rfl,iteNS (by rw [hlen]) ?_⟩
  refine ⟨fun σ' H'=>Same H H'∧∃ c4 c5 c6 c7:Option V,σ' = [some (.ref dl),some (.ref ou),some (.ref cl),some (.int w_.2),c4,c5,c6,c7],?_,?_⟩
  · refine ⟨_,rfl,_,rfl,dl,cl,rfl,⟨_,hD⟩,⟨_,SqL.of hC⟩,for_zip (xs:=dv) (ys:=xs) (fun i σ H'=>Same H H'∧∃ c4 c5 c6 c7:Option V,σ = [some (.ref dl),some (.ref ou),some (.ref cl),some (.int w_.2),c4,c5,c6,c7]) ⟨Same.refl _,_,_,_,_,rfl⟩ (fun i σ H' h=>⟨h.1.seq hD,SqL.of (h.1 _ _ hC)⟩) (fun i x y σ H' T ex ey h hT=>?_) (fun σ H' h=>h)⟩
    obtain ⟨sm,c4,c5,c6,c7,rfl⟩:=h
    have s2:=sm.trans (same_new hT (.tup [x,y]))
    have eT:upd H' T (.tup [x,y]) T = some (.tup [x,y]):=upd_same
    generalize upd H' T (.tup [x,y]) = H2 at s2 eT ⊢
    obtain ⟨a,b,rfl,eb,hb⟩:=hdv.get ex
    obtain ⟨l,ps,rfl,ep,hl⟩:=RefL.get hcl ey
    obtain ⟨C,hC',dx,fs,ha,f1,f2,_⟩:=hb.same s2
    obtain ⟨k1,k2,k3⟩:=hdf C hC'
    obtain ⟨_,ys,el,hp⟩:=hl.same s2
    refine ⟨T,_,rfl,SqT.of eT,rfl,_,_,rfl,_,_,rfl,rfl,?_⟩
    refine ⟨_,rfl,l,rfl,⟨_,SqL.of el⟩,for_list (xs:=ys) (fun j σ H'=>H' = H2∧∃ c6 c7:Option V,σ = [some (.ref dl),some (.ref ou),some (.ref cl),some (.int w_.2),some (.ref a),some (.ref l),c6,c7]) ⟨rfl,_,_,rfl⟩ (fun j σ H' _ h=>by rw [h.1]; exact SqL.of el) (fun j y σ H' e h=>?_) (fun σ H' h=>?_)⟩
    · obtain ⟨e0,c6,c7,rfl⟩:=h
      rw [e0]
      obtain ⟨p,r,e1,rfl,hr'⟩:=hp.get e
      obtain ⟨i1,i2⟩:=ok.inn i ps b ep eb p (List.mem_of_getElem? e1)
      refine ⟨r,_,rfl,SqT.of hr',rfl,_,_,rfl,_,_,rfl,rfl,?_⟩
      refine ⟨_,rfl,_,rfl,a,_,_,_,_,rfl,ha,k1,k2,f1,_,_,rfl,rfl,_,rfl,iteFS (by omega) ?_⟩
      exact ⟨_,rfl,_,rfl,a,_,_,_,_,rfl,ha,k1,k3,f2,_,_,rfl,rfl,_,rfl,iteFS (by omega) ⟨rfl,_,_,rfl⟩⟩
    · obtain ⟨e0,c6,c7,rfl⟩:=h
      rw [e0]
      exact ⟨s2,_,_,_,_,rfl⟩
  rintro σ3 H3 ⟨s3,c4,c5,c6,c7,rfl⟩
  obtain ⟨C,hC',hd⟩:=hO.same s3
  obtain ⟨dx,fs,ha,f1,f2,f3⟩:=id hd
  rcases hC' with rfl | rfl
  · exact ⟨_,rfl,ou,_,dx,fs,rfl,.head _,ha,f3,_,rfl,ou,o,w_.2,rfl,hd,ok.lo,ok.hi,_,rfl,iteF (q _ s3)⟩
  · exact ⟨_,rfl,ou,_,dx,fs,rfl,.tail _ (.head _),ha,f3,_,rfl,ou,o,w_.2,rfl,hd,ok.lo,ok.hi,_,rfl,iteF (q _ s3)⟩
theorem O_58 (F:Fun K "mask" "mask" Y58 f fd) (bl:Bl K mg qA qB qC qD qE qF qG qH qI qJ qK qL qM) (c_fits:Callee P w K mg base 2 "fits" ["table", "k", "codes"] (J33 K qA qB qC qD qE qF qG qH qI qJ qK qL qM)):FnOk P w K mg base CX0 3 f fd ["table", "codes"] (J58 K qA qB qC qD qE qF qG qH qI qJ qK qL qM):=by
  refine F.ok Z58 (fun vs H Q E h=>?_) (fun cdv A outer s H vs Q E hr h=>?_)
  · obtain ⟨t,c,rws,wi,o,cs,rfl,⟨rl,ou,dx,fs,xs,wy,ht,hf,hfw,hfo,erl,hR,hwi,hou,hole,h200⟩,hS,hlen,q⟩:=h
    rfl
  obtain ⟨t,c,rws,wi,o,cs,rfl,⟨rl,ou,dx,fs,xs,wy,ht,hf,hfw,hfo,erl,hR,hwi,hou,hole,h200⟩,hS,hlen,q⟩:=h
  refine ⟨_,(pss_one (ps_ret (pe_callB (call_sum_ints rfl) rfl bl.sum_ PyProof.Rows.boot_sum (pa_cons (pe_comp (pi_range1 rfl bl.range_ (pa_cons (pe_callB call_len_seq rfl bl.len_ PySem.boot_len (pa_cons (pe_fld (pv 0) rfl) pa_nil)) pa_nil)) (cmpOk_free (N:=["k", "table", "codes"]) (fr:=[0,1]) (cl:=[("table",s.heap.objs.size + 1),("codes",s.heap.objs.size + 1 + 1)]) rfl rfl (by decide +kernel) (by decide +kernel) rfl (by decide +kernel) rfl rfl rfl (List.forall_mem_cons.mpr ⟨rfl,List.forall_mem_cons.mpr ⟨rfl,List.forall_mem_nil _⟩⟩) rfl) rfl (fun _ _ _ _=>(pif_one (pt_val (pe_fn c_fits hr rfl (pa_cons (pv 1) (pa_cons (pv 0) (pa_cons (pv 2) pa_nil))))))) (fun _ _ _ _=>(pe_op op_shl pe_int (pv 0)))) pa_nil)))),?_⟩
  have hxl:xs.length = rws.length:=hR.1
  refine ⟨_,rfl,t,_,_,_,_,rfl,ht,bl.k_Table,bl.na_Table_rows,hf,rl,_,rfl,.inl (SqL.of erl),_,rfl,(by show -(2 ^ 62) ≤ ((xs.length:Nat):Int); omega),(by show ((xs.length:Nat):Int) < 2 ^ 62; omega),comp_range (fun D i zs H'=>Same H H'∧H' D = some (.lst zs)∧∃ ys:List Int,zs = ys.map V.int∧ys.sum = ((msk (fitF rws cs) i:Nat):Int)∧ys.length ≤ i)
    (fun D hD=>⟨same_new hD _,upd_same,[],rfl,rfl,Nat.zero_le _⟩) (fun D i zs H' hD hi h=>?_) (fun D zs H' hD h=>?_)⟩
  · obtain ⟨sm,eD,ys,rfl,hsum,hl⟩:=h
    have hi2:i < rws.length:=by first | omega | (rw [← hxl]; omega)
    obtain ⟨w_,ew⟩:∃ w_,rws[i]? = some w_:=⟨_,List.getElem?_eq_getElem hi2⟩
    have hg:rws.getD i ([],0) = w_:=getD_at ew
    refine ⟨_,rfl,_,rfl,_,rfl,t,rl,c,dx,fs,xs,rws,i,w_,cs,by rw [Int.zero_add],sm _ _ ht,hf,sm _ _ erl,hR.same sm,ew,sm.seq hS,hlen w_ (List.mem_of_getElem? ew),fun H3 s3=>⟨_,rfl,?_⟩⟩
    have sA:=sm.trans s3
    have eD3:=s3 _ _ eD
    cases hb:rfit w_.1 cs with
    | true =>
      refine iteT ⟨_,rfl,_,_,rfl,rfl,⟨by omega,by omega,by decide⟩,CYes.mk hi eD3 (small1000 (by rw [List.length_map]; omega)) ⟨sA.upd hD,upd_same,ys ++ [1 * 2 ^ (0 + (i:Int)).toNat],by simp,?_,by simp; omega⟩⟩
      have e2:(0 + (i:Int)).toNat = i:=by omega
      rw [e2,List.sum_append,hsum,msk_succ,show fitF rws cs i = true by unfold fitF; rw [hg]; exact hb]
      simp
      omega
    | false =>
      refine iteF (CNext.mk (zs:=ys.map V.int) hi ⟨sA,eD3,ys,rfl,?_,by omega⟩)
      rw [hsum,msk_succ,show fitF rws cs i = false by unfold fitF; rw [hg]; exact hb]
      simp
  · obtain ⟨sm,eD,ys,rfl,hsum,hl⟩:=h
    rw [Int.toNat_natCast] at hsum
    refine ⟨D,ys,rfl,SqL.of eD,?_⟩
    have q2:=q H' sm
    rw [← hxl,← hsum] at q2
    exact q2
theorem O_40 (F:Fun K "_law_bit_rows" "_law_bit_rows" Y40 f fd) (bl:Bl K mg qA qB qC qD qE qF qG qH qI qJ qK qL qM) (c__law_bit_row:Callee P w K mg base 2 "_law_bit_row" ["m", "columns", "out", "last"] (J39 K qA qB qC qD qE qF qG qH qI qJ qK qL qM)):FnOk P w K mg base CX0 3 f fd ["seeds", "columns", "out"] (J40 K qA qB qC qD qE qF qG qH qI qJ qK qL qM):=by
  refine F.ok Z40 (fun vs H Q E h=>?_) (fun cdv A outer s H vs Q E hr h=>?_)
  · obtain ⟨sl,cl,ol,ns,xs,cs,oc,rfl,hsl,h200,hn0,hcl,hcs,hok,h1,h4,hoc,ook,q⟩:=h
    rfl
  obtain ⟨sl,cl,ol,ns,xs,cs,oc,rfl,hsl,h200,hn0,hcl,hcs,hok,h1,h4,hoc,ook,q⟩:=h
  refine ⟨_,(pss_cons (ps_set (i:=3) Z40.nd rfl (Or.inl rfl) (pe_lst pa_nil))
     (pss_cons (ps_set (i:=4) Z40.nd rfl (Or.inl rfl) (pe_lst pa_nil))
     (pss_cons (ps_for PassesOwn.never rfl (pi_list (pv 0)) (pg_name (i:=5) Z40.nd rfl (Or.inl rfl))
     (pss_cons (ps_set (i:=4) Z40.nd rfl (Or.inl rfl) (pe_fn c__law_bit_row hr rfl (pa_cons (pv 5) (pa_cons (pv 1) (pa_cons (pv 2) (pa_cons (pv 4) pa_nil))))))
     (pss_one (ps_expr (pe_bm PySem.F.plainAttrs_list PySem.F.slot_list_append PySem.F.type_list_append mt_append (pv 3) (pa_cons (pv 4) pa_nil))))))
     (pss_one (ps_ret (pv 3)))))),?_⟩
  refine ⟨(by show 0 ≤ sizeLine; decide),fun l hl=>?_⟩
  have s0:Same H (upd H l (.lst [])):=same_new hl _
  have e0:upd H l (.lst []) l = some (.lst []):=upd_same
  generalize upd H l (.lst []) = H0 at s0 e0 ⊢
  refine ⟨(by show 0 ≤ sizeLine; decide),fun la0 hla0=>?_⟩
  have s1:=s0.trans (same_new hla0 (.lst []))
  have e1:=same_new hla0 (.lst []) _ _ e0
  have e2:upd H0 la0 (.lst []) la0 = some (.lst []):=upd_same
  have hne:la0 ≠ l:=fun z=>by rw [z,e0] at hla0; cases hla0
  have hlaH:H la0 = none:=s0.free hla0
  generalize upd H0 la0 (.lst []) = H1 at s1 e1 e2 ⊢
  refine ⟨_,rfl,sl,rfl,⟨_,SqL.of (s1 _ _ hsl)⟩,for_list (xs:=ns.map V.int) (fun i σ H'=>Same H H'∧∃ (la:Addr) (zs:List V) (ws:List BW) (c5:Option V),H' l = some (.lst zs)∧BRL (Fr H l) H' zs ws∧ws.length = i∧(∀ w ∈ ws,BitOk cs oc w)∧(la ≠ l∧H' la = some (.lst [])∨∃ w,BRowA (Fr H l) H' la w∧BitOk cs oc w)∧σ = [some (.ref sl),some (.ref cl),some (.ref ol),some (.ref l),some (.ref la),c5]) ⟨s1,la0,[],[],_,e1,RefL.nil,rfl,(fun w h=>by cases h),.inl ⟨hne,e2⟩,rfl⟩ (fun i σ H' _ h=>SqL.of (h.1 _ _ hsl)) (fun i y σ H' ey hh=>?_) (fun σ H' hh=>?_)⟩
  · obtain ⟨sm,la,zs,ws,c5,el,hz,hlen,hall,hla,rfl⟩:=hh
    obtain ⟨c,rfl,ec⟩:=of_map ey
    have hi:i < ns.length:=(List.getElem?_eq_some_iff.mp ec).1
    refine ⟨_,rfl,_,rfl,_,rfl,_,rfl,c,cl,ol,la,xs,cs,oc,rfl,sm _ _ hcl,hcs.same sm,hok,h1,h4,hoc.same sm,ook,hn0 c (List.mem_of_getElem? ec),?_,fun r w_ H2 s2 hrow okw=>?_⟩
    · rcases hla with ⟨_,z⟩ | ⟨w,z1,z2⟩
      · exact .inl z
      · exact .inr ⟨w,z1.wk fun _ _=>trivial,z2⟩
    have el2:=s2 _ _ el
    have hlz:zs.length = i:=by rw [hz.1,hlen]
    refine ⟨_,rfl,.inl ⟨rfl,_,SqL.of el2⟩,_,rfl,l,_,_,rfl,rfl,el2,small1000 (by omega),?_⟩
    have hrow' : BRowA (Fr H l) H2 r w_:=hrow.wk fun a ha=>⟨sm.free ha,fun z=>by rw [z,el] at ha; cases ha⟩
    have hrow2:BRowA (Fr H l) (upd H2 l (.lst (zs ++ [.ref r]))) r w_:=hrow'.updN Fr.out el2
    have hz2:BRL (Fr H l) H2 (zs ++ [.ref r]) (ws ++ [w_]):=RefL.snoc (hz.same s2) hrow'
    refine ⟨(sm.trans s2).upd hl,r,zs ++ [.ref r],ws ++ [w_],_,upd_same,hz2.updN Fr.out el2,by simp [hlen],fun w h=>?_,.inr ⟨w_,hrow2,okw⟩,rfl⟩
    rcases List.mem_append.mp h with h | h
    · exact hall w h
    · rw [show w = w_ by simpa using h]; exact okw
  · obtain ⟨sm,la,zs,ws,c5,el,hz,hlen,hall,hla,rfl⟩:=hh
    rw [List.length_map] at hlen
    exact ⟨_,rfl,q l zs ws H' sm el (hz.wk fun a h=>h.1) hlen hall⟩
theorem O_30 (F:Fun K "__init__" "Words.__init__" Y30 f fd) (bl:Bl K mg qA qB qC qD qE qF qG qH qI qJ qK qL qM) (b_Domain___init___Words:BCallee CX0 P w K mg base 2 "Domain" "__init__" ["self", "low", "high"] (J1 K qA qB qC qD qE qF qG qH qI qJ qK qL qM)) (c_is_word:Callee P w K mg base 2 "is_word" ["text"] (J36 K qA qB qC qD qE qF qG qH qI qJ qK qL qM)):FnOk P w K mg base CX0 3 f fd ["self", "words"] (J30 K qA qB qC qD qE qF qG qH qI qJ qK qL qM):=by
  refine F.ok Z30 (fun vs H Q E h=>?_) (fun cdv A outer s H vs Q E hr h=>?_)
  · obtain ⟨x,dx,p,zs,rfl,hx,hP,hg,q⟩:=h
    rfl
  obtain ⟨x,dx,p,zs,rfl,hx,hP,hg,q⟩:=h
  refine ⟨_,(pss_cons (ps_if (pt_not (pt_chain op_le op_le pe_int (pe_callB call_len_seq rfl bl.len_ PySem.boot_len (pa_cons (pv 1) pa_nil)) (pe_gl rfl bl.MOST_WORDS_)))
     (pss_one ps_never)
     pss_nil)
     (pss_cut (ps_for PassesOwn.never rfl (pi_list (pv 1)) (pg_name (i:=2) Z30.nd rfl (Or.inl rfl))
     (pss_one (ps_if (pt_not (pt_val (pe_fn c_is_word hr rfl (pa_cons (pv 2) pa_nil))))
     (pss_one ps_never)
     pss_nil)))
     (pss_cons (ps_if (pt_cmpR op_lt (pe_callB call_len_setO rfl bl.len_ PySem.boot_len (pa_cons (pe_callTy (call_set_strs rfl) rfl bl.set_ PyProof.Rows.boot_set (pa_cons (pv 1) pa_nil)) pa_nil)) (pe_callB call_len_seq rfl bl.len_ PySem.boot_len (pa_cons (pv 1) pa_nil)) (nomark _))
     (pss_one ps_never)
     pss_nil)
     (pss_cons (ps_expr (pe_base b_Domain___init___Words pass0 hr rfl (pa_cons (pv 0) (pa_cons pe_int (pa_cons (pe_op op_sub (pe_callB call_len_seq rfl bl.len_ PySem.boot_len (pa_cons (pv 1) pa_nil)) pe_int) pa_nil)))))
     (pss_one (ps_fld (pv 0) (pe_callTy call_list_of rfl bl.list_ PyProof.Rows.boot_list (pa_cons (pv 1) pa_nil)) rfl)))))),?_⟩
  have hS:SqL K H p (zs.map V.str):=SqL.of hP
  have hpx:p ≠ x:=ne_of hP hx (by intro z; cases z)
  have hlen:(zs.map V.str).length = zs.length:=List.length_map _
  have h1:=hg.some_
  have h40:=hg.few
  refine ⟨_,rfl,p,_,rfl,.inl hS,_,_,rfl,rfl,_,rfl,iteTS (by rw [hlen]; omega) ?_⟩
  refine ⟨_,_,rfl,rfl,_,rfl,?_⟩
  rw [decide_eq_true (show (((zs.map V.str).length:Nat):Int) ≤ 40 by rw [hlen]; omega)]
  refine iteF ?_
  refine ⟨fun σ' H'=>H' = H∧∃ c2:Option V,σ' = [some (.ref x),some (.ref p),c2],?_,?_⟩
  · refine ⟨_,rfl,p,rfl,⟨_,hS⟩,for_list (xs:=zs.map V.str) (fun i σ H'=>H' = H∧∃ c2:Option V,σ = [some (.ref x),some (.ref p),c2]) ⟨rfl,_,rfl⟩ (fun i σ H' _ h=>by rw [h.1]; exact hS) (fun i y σ H' e h=>?_) (fun σ H' h=>h)⟩
    obtain ⟨e0,c2,rfl⟩:=h
    rw [e0]
    obtain ⟨z,rfl,ez⟩:=get_strs e
    have hw:=hg.words z (List.mem_of_getElem? ez)
    have hz:z.length ≤ 1000:=by
      have hw2:=hw
      unfold isw at hw2
      simp only [Bool.and_eq_true,decide_eq_true_eq] at hw2
      omega
    refine ⟨_,rfl,z,rfl,hz,_,rfl,?_⟩
    rw [hw]
    exact iteF ⟨rfl,_,rfl⟩
  rintro σ2 H2 ⟨e2,c2,rfl⟩
  rw [e2]
  refine ⟨_,rfl,p,zs,rfl,hS,by omega,fun l hl=>⟨l,zs,rfl,upd_same,by omega,_,rfl,p,_,rfl,.inl ((same_new hl _).seq hS),_,_,rfl,rfl,_,rfl,?_⟩⟩
  have s1:=same_new hl (SetO P w l zs)
  have cf:=cntK_full zs zs.length (Nat.le_refl _)
  rw [List.take_length] at cf
  refine iteFS (by rw [hlen,cf.mpr hg.once]; omega) ?_
  have hx1:=s1 _ _ hx
  have hP1:=s1 _ _ hP
  refine ⟨_,rfl,_,rfl,p,_,rfl,.inl (SqL.of hP1),_,_,rfl,rfl,x,dx,0,_,rfl,hx1,?_⟩
  have e1:mkd qJ (upd H l (SetO P w l zs)) x dx 0 ((((zs.map V.str).length:Nat):Int) - 1) x = some (.ins qJ dx [("low",.int 0),("high",.int ((((zs.map V.str).length:Nat):Int) - 1))]):=upd_same
  have e2:mkd qJ (upd H l (SetO P w l zs)) x dx 0 ((((zs.map V.str).length:Nat):Int) - 1) p = some (.lst (zs.map V.str)):=by unfold mkd; rw [upd_ne hpx,upd_ne hpx]; exact hP1
  have e3:∀ b o,b ≠ x→H b = some o→mkd qJ (upd H l (SetO P w l zs)) x dx 0 ((((zs.map V.str).length:Nat):Int) - 1) b = some o:=fun b o hb h=>by unfold mkd; rw [upd_ne hb,upd_ne hb]; exact s1 b o h
  have eh:(((zs.map V.str).length:Nat):Int) - 1 = hiW zs:=by rw [hlen]; rfl
  refine ⟨_,rfl,p,_,rfl,.inl (SqL.of e2),fun l2 hl2=>⟨_,rfl,x,_,dx,_,rfl,ret_r1 e1 hl2,bl.k_Words,bl.na_Words_words,(by show 2 < 1000; decide),?_⟩⟩
  show Q .non (upd (upd (mkd qJ (upd H l (SetO P w l zs)) x dx 0 ((((zs.map V.str).length:Nat):Int) - 1)) l2 (.lst (zs.map V.str))) x (.ins qJ dx (putF (Str.ofString "words") (.ref l2) [(Str.ofString "low",.int 0),(Str.ofString "high",.int ((((zs.map V.str).length:Nat):Int) - 1))])))
  rw [put3]
  have hl3:mkd qJ (upd H l (SetO P w l zs)) x dx 0 ((((zs.map V.str).length:Nat):Int) - 1) l2 = none:=hl2
  clear hl2
  generalize mkd qJ (upd H l (SetO P w l zs)) x dx 0 ((((zs.map V.str).length:Nat):Int) - 1) = H2 at e1 e2 e3 hl3 ⊢
  rw [eh]
  have nl:l2 ≠ x:=(ne_of_none e1 hl3).symm
  exact q _ l2 (fun b o hb h=>(upd_ne hb).trans (ret_r1 (e3 b o hb h) hl3)) upd_same ((upd_ne nl).trans upd_same)
theorem O_66 (F:Fun K "way_by" "way_by" Y66 f fd) (bl:Bl K mg qA qB qC qD qE qF qG qH qI qJ qK qL qM) (k_First:MkCallee CX0 P w K mg base 2 "First" qB ["self"] (J4 K qA qB qC qD qE qF qG qH qI qJ qK qL qM)) (k_Only:MkCallee CX0 P w K mg base 2 "Only" qC ["self"] (J13 K qA qB qC qD qE qF qG qH qI qJ qK qL qM)) (k_Like:MkCallee CX0 P w K mg base 2 "Like" qD ["self"] (J8 K qA qB qC qD qE qF qG qH qI qJ qK qL qM)) (k_Low:MkCallee CX0 P w K mg base 2 "Low" qE ["self"] (J10 K qA qB qC qD qE qF qG qH qI qJ qK qL qM)) (k_High:MkCallee CX0 P w K mg base 2 "High" qF ["self"] (J6 K qA qB qC qD qE qF qG qH qI qJ qK qL qM)) (k_Sum:MkCallee CX0 P w K mg base 2 "Sum" qG ["self"] (J15 K qA qB qC qD qE qF qG qH qI qJ qK qL qM)):FnOk P w K mg base CX0 4 f fd ["name"] (J66 K qA qB qC qD qE qF qG qH qI qJ qK qL qM):=by
  refine F.ok Z66 (fun vs H Q E h=>?_) (fun cdv A outer s H vs Q E hr h=>?_)
  · obtain ⟨z,rfl,hz,q⟩:=h
    rfl
  obtain ⟨z,rfl,hz,q⟩:=h
  refine ⟨_,(pss_cons (ps_for PassesOwn.never rfl (pi_list (pe_lst (pa_cons (pe_mk0 k_First pass0 hr rfl) (pa_cons (pe_mk0 k_Only pass0 hr rfl) (pa_cons (pe_mk0 k_Like pass0 hr rfl) (pa_cons (pe_mk0 k_Low pass0 hr rfl) (pa_cons (pe_mk0 k_High pass0 hr rfl) (pa_cons (pe_mk0 k_Sum pass0 hr rfl) pa_nil)))))))) (pg_name (i:=1) Z66.nd rfl (Or.inl rfl))
     (pss_one (ps_if (pt_cmpR op_eq (pe_fld (pv 1) rfl) (pv 0) (nomark _))
     (pss_one (ps_ret (pv 1)))
     pss_nil)))
     (pss_one ps_never)),?_⟩
  refine fun w0 d0 hw hdw hnw=>⟨w0,d0,rfl,upd_same,rfl,?_⟩
  have t0:Same H (upd (upd (upd H d0 (.own w0)) w0 (.ins qB d0 [])) w0 (.ins qB d0 [("called",.str (Str.ofString "first"))])):=((same_new hdw _).upd hw).upd hw
  have y0:WyN qB (upd (upd (upd H d0 (.own w0)) w0 (.ins qB d0 [])) w0 (.ins qB d0 [("called",.str (Str.ofString "first"))])) w0 (Str.ofString "first"):=⟨d0,upd_same⟩
  generalize upd (upd (upd H d0 (.own w0)) w0 (.ins qB d0 [])) w0 (.ins qB d0 [("called",.str (Str.ofString "first"))]) = H0 at t0 y0 ⊢
  clear hw hdw hnw
  refine fun w1 d1 hw hdw hnw=>⟨w1,d1,rfl,upd_same,rfl,?_⟩
  have t1:Same H0 (upd (upd (upd H0 d1 (.own w1)) w1 (.ins qC d1 [])) w1 (.ins qC d1 [("called",.str (Str.ofString "only"))])):=((same_new hdw _).upd hw).upd hw
  have y1:WyN qC (upd (upd (upd H0 d1 (.own w1)) w1 (.ins qC d1 [])) w1 (.ins qC d1 [("called",.str (Str.ofString "only"))])) w1 (Str.ofString "only"):=⟨d1,upd_same⟩
  generalize upd (upd (upd H0 d1 (.own w1)) w1 (.ins qC d1 [])) w1 (.ins qC d1 [("called",.str (Str.ofString "only"))]) = H1 at t1 y1 ⊢
  clear hw hdw hnw
  have y0:=y0.same t1
  refine fun w2 d2 hw hdw hnw=>⟨w2,d2,rfl,upd_same,rfl,?_⟩
  have t2:Same H1 (upd (upd (upd H1 d2 (.own w2)) w2 (.ins qD d2 [])) w2 (.ins qD d2 [("called",.str (Str.ofString "like"))])):=((same_new hdw _).upd hw).upd hw
  have y2:WyN qD (upd (upd (upd H1 d2 (.own w2)) w2 (.ins qD d2 [])) w2 (.ins qD d2 [("called",.str (Str.ofString "like"))])) w2 (Str.ofString "like"):=⟨d2,upd_same⟩
  generalize upd (upd (upd H1 d2 (.own w2)) w2 (.ins qD d2 [])) w2 (.ins qD d2 [("called",.str (Str.ofString "like"))]) = H2 at t2 y2 ⊢
  clear hw hdw hnw
  have y0:=y0.same t2
  have y1:=y1.same t2
  refine fun w3 d3 hw hdw hnw=>⟨w3,d3,rfl,upd_same,rfl,?_⟩
  have t3:Same H2 (upd (upd (upd H2 d3 (.own w3)) w3 (.ins qE d3 [])) w3 (.ins qE d3 [("called",.str (Str.ofString "low"))])):=((same_new hdw _).upd hw).upd hw
  have y3:WyN qE (upd (upd (upd H2 d3 (.own w3)) w3 (.ins qE d3 [])) w3 (.ins qE d3 [("called",.str (Str.ofString "low"))])) w3 (Str.ofString "low"):=⟨d3,upd_same⟩
  generalize upd (upd (upd H2 d3 (.own w3)) w3 (.ins qE d3 [])) w3 (.ins qE d3 [("called",.str (Str.ofString "low"))]) = H3 at t3 y3 ⊢
  clear hw hdw hnw
  have y0:=y0.same t3
  have y1:=y1.same t3
  have y2:=y2.same t3
  refine fun w4 d4 hw hdw hnw=>⟨w4,d4,rfl,upd_same,rfl,?_⟩
  have t4:Same H3 (upd (upd (upd H3 d4 (.own w4)) w4 (.ins qF d4 [])) w4 (.ins qF d4 [("called",.str (Str.ofString "high"))])):=((same_new hdw _).upd hw).upd hw
  have y4:WyN qF (upd (upd (upd H3 d4 (.own w4)) w4 (.ins qF d4 [])) w4 (.ins qF d4 [("called",.str (Str.ofString "high"))])) w4 (Str.ofString "high"):=⟨d4,upd_same⟩
  generalize upd (upd (upd H3 d4 (.own w4)) w4 (.ins qF d4 [])) w4 (.ins qF d4 [("called",.str (Str.ofString "high"))]) = H4 at t4 y4 ⊢
  clear hw hdw hnw
  have y0:=y0.same t4
  have y1:=y1.same t4
  have y2:=y2.same t4
  have y3:=y3.same t4
  refine fun w5 d5 hw hdw hnw=>⟨w5,d5,rfl,upd_same,rfl,?_⟩
  have t5:Same H4 (upd (upd (upd H4 d5 (.own w5)) w5 (.ins qG d5 [])) w5 (.ins qG d5 [("called",.str (Str.ofString "sum"))])):=((same_new hdw _).upd hw).upd hw
  have y5:WyN qG (upd (upd (upd H4 d5 (.own w5)) w5 (.ins qG d5 [])) w5 (.ins qG d5 [("called",.str (Str.ofString "sum"))])) w5 (Str.ofString "sum"):=⟨d5,upd_same⟩
  generalize upd (upd (upd H4 d5 (.own w5)) w5 (.ins qG d5 [])) w5 (.ins qG d5 [("called",.str (Str.ofString "sum"))]) = H5 at t5 y5 ⊢
  clear hw hdw hnw
  have y0:=y0.same t5
  have y1:=y1.same t5
  have y2:=y2.same t5
  have y3:=y3.same t5
  have y4:=y4.same t5
  have s5:Same H H5:=((((t0.trans t1).trans t2).trans t3).trans t4).trans t5
  refine ⟨(by show 6 ≤ sizeLine; decide),fun l hl=>?_⟩
  have sl:Same H5 (upd H5 l (.lst [V.ref w0,.ref w1,.ref w2,.ref w3,.ref w4,.ref w5])):=same_new hl _
  have el:upd H5 l (.lst [V.ref w0,.ref w1,.ref w2,.ref w3,.ref w4,.ref w5]) l = some (.lst [V.ref w0,.ref w1,.ref w2,.ref w3,.ref w4,.ref w5]):=upd_same
  generalize upd H5 l (.lst [V.ref w0,.ref w1,.ref w2,.ref w3,.ref w4,.ref w5]) = H6 at sl el ⊢
  have y0:=y0.same sl
  have y1:=y1.same sl
  have y2:=y2.same sl
  have y3:=y3.same sl
  have y4:=y4.same sl
  have y5:=y5.same sl
  have sA:=s5.trans sl
  have key:∀ (i:Nat) (x:V),[V.ref w0,.ref w1,.ref w2,.ref w3,.ref w4,.ref w5][i]? = some x→∃ (a C:Addr) (y:Str),x = .ref a∧(cl6 qB qC qD qE qF qG)[i]? = some C∧six[i]? = some y∧WyN C H6 a y∧Cls K C∧NoAttr K C (Str.ofString "called"):=fun i x e=>by
    match i,e with
    | 0,e=>cases e; exact ⟨w0,qB,_,rfl,rfl,rfl,y0,bl.k_First,bl.na_First_called⟩
    | 1,e=>cases e; exact ⟨w1,qC,_,rfl,rfl,rfl,y1,bl.k_Only,bl.na_Only_called⟩
    | 2,e=>cases e; exact ⟨w2,qD,_,rfl,rfl,rfl,y2,bl.k_Like,bl.na_Like_called⟩
    | 3,e=>cases e; exact ⟨w3,qE,_,rfl,rfl,rfl,y3,bl.k_Low,bl.na_Low_called⟩
    | 4,e=>cases e; exact ⟨w4,qF,_,rfl,rfl,rfl,y4,bl.k_High,bl.na_High_called⟩
    | 5,e=>cases e; exact ⟨w5,qG,_,rfl,rfl,rfl,y5,bl.k_Sum,bl.na_Sum_called⟩
    | n + 6,e=>simp at e
  refine ⟨l,rfl,⟨_,SqL.of el⟩,for_list (xs:=[V.ref w0,.ref w1,.ref w2,.ref w3,.ref w4,.ref w5]) (fun i σ H'=>(∃ c1:Option V,σ = [some (.str z),c1])∧H' = H6∧∀ j:Nat,j < i→six[j]? ≠ some z) ⟨⟨_,rfl⟩,rfl,(fun j h=>absurd h (Nat.not_lt_zero j))⟩ (fun i σ H' _ h=>by rw [h.2.1]; exact SqL.of el) (fun i x σ H' e h=>?_) (fun σ H' h=>?_)⟩
  · obtain ⟨⟨c1,rfl⟩,e0,hno⟩:=h
    rw [e0]
    obtain ⟨a,C,y,rfl,eC,ey,⟨dx,ha⟩,hc,hn⟩:=key i x e
    refine ⟨_,rfl,a,_,_,_,_,rfl,ha,hc,hn,rfl,_,rfl,rfl,_,rfl,?_⟩
    refine ite2 (fun g=>?_) (fun g=>?_)
    · have g' : V.str y = V.str z:=dec_t g
      injection g' with g'
      subst g'
      exact ⟨_,rfl,q i ey a C H6 sA eC ⟨dx,ha⟩⟩
    · refine ⟨⟨_,rfl⟩,rfl,fun j hj=>?_⟩
      by_cases hji:j < i
      · exact hno j hji
      · have:j = i:=by omega
        subst this
        rw [ey]
        intro q2
        exact (dec_f g) (by injection q2 with q2; rw [q2])
  · obtain ⟨⟨c1,rfl⟩,e0,hno⟩:=h
    rw [e0]
    obtain ⟨j,hj,ej⟩:=List.getElem_of_mem hz
    exact absurd (by rw [List.getElem?_eq_getElem hj,ej]) (hno j hj)
theorem O_63 (F:Fun K "refuse_way" "refuse_way" Y63 f fd) (bl:Bl K mg qA qB qC qD qE qF qG qH qI qJ qK qL qM) (c_way_by:Callee P w K mg base 4 "way_by" ["name"] (J66 K qA qB qC qD qE qF qG qH qI qJ qK qL qM)):FnOk P w K mg base CX0 5 f fd ["way", "outcome"] (J63 K qA qB qC qD qE qF qG qH qI qJ qK qL qM):=by
  refine F.ok Z63 (fun vs H Q E h=>?_) (fun cdv A outer s H vs Q E hr h=>?_)
  · obtain ⟨z,ou,rfl,hz,hne,q⟩:=h
    rfl
  obtain ⟨z,ou,rfl,hz,hne,q⟩:=h
  refine ⟨_,(pss_one (ps_if (PW.pt (pw_and (pt_cmpR op_eq (pe_fld (pe_fn c_way_by hr rfl (pa_cons (pv 0) pa_nil)) rfl) pe_str (nomark _)) (pw_and1 (pt_val (pe_callB call_isiG rfl bl.isinstance_ PyProof.Rows.boot_isinstance (pa_cons (pv 1) (pa_cons (pe_glob (v:=.ref qJ) rfl bl.Words_ rfl) pa_nil)))))))
     (pss_one ps_never)
     pss_nil)),?_⟩
  refine ⟨_,rfl,z,rfl,hz,fun i ei x C H' s' eC hw=>?_⟩
  have hF:Cls K C∧NoAttr K C (Str.ofString "called"):=by
    match i,eC with
    | 0,eC=>cases eC; exact ⟨bl.k_First,bl.na_First_called⟩
    | 1,eC=>cases eC; exact ⟨bl.k_Only,bl.na_Only_called⟩
    | 2,eC=>cases eC; exact ⟨bl.k_Like,bl.na_Like_called⟩
    | 3,eC=>cases eC; exact ⟨bl.k_Low,bl.na_Low_called⟩
    | 4,eC=>cases eC; exact ⟨bl.k_High,bl.na_High_called⟩
    | 5,eC=>cases eC; exact ⟨bl.k_Sum,bl.na_Sum_called⟩
    | n + 6,eC=>simp [cl6] at eC
  obtain ⟨dx,hx⟩:=hw
  refine ⟨x,_,_,_,_,rfl,hx,hF.1,hF.2,rfl,rfl,_,rfl,?_⟩
  by_cases hs:z = Str.ofString "sum"
  · obtain ⟨dy,fs,ho⟩:=hne hs
    exact iteTS (by rw [hs]) ⟨_,rfl,_,_,_,_,false,rfl,.ref _,bl.t_Numbers.ty (s' _ _ ho),bl.f_nw,_,rfl,iteF (q _ s')⟩
  · exact iteFS (fun e=>by injection e with e; exact hs e) (iteF (q _ s'))
theorem O_37 (F:Fun K "judged" "judged" Y37 f fd) (bl:Bl K mg qA qB qC qD qE qF qG qH qI qJ qK qL qM) (m_Way_verdict_First:MCallee CX0 P w K mg base 4 qB "verdict" ["self", "codes", "outcome"] (J24 K qA qB qC qD qE qF qG qH qI qJ qK qL qM)) (m_Way_verdict_Only:MCallee CX0 P w K mg base 4 qC "verdict" ["self", "codes", "outcome"] (J28 K qA qB qC qD qE qF qG qH qI qJ qK qL qM)) (m_Way_verdict_Like:MCallee CX0 P w K mg base 4 qD "verdict" ["self", "codes", "outcome"] (J26 K qA qB qC qD qE qF qG qH qI qJ qK qL qM)) (m_Way_verdict_Low:MCallee CX0 P w K mg base 4 qE "verdict" ["self", "codes", "outcome"] (J27 K qA qB qC qD qE qF qG qH qI qJ qK qL qM)) (m_Way_verdict_High:MCallee CX0 P w K mg base 4 qF "verdict" ["self", "codes", "outcome"] (J25 K qA qB qC qD qE qF qG qH qI qJ qK qL qM)) (m_Way_verdict_Sum:MCallee CX0 P w K mg base 4 qG "verdict" ["self", "codes", "outcome"] (J29 K qA qB qC qD qE qF qG qH qI qJ qK qL qM)) (c_way_by:Callee P w K mg base 4 "way_by" ["name"] (J66 K qA qB qC qD qE qF qG qH qI qJ qK qL qM)):FnOk P w K mg base CX0 5 f fd ["table", "rows"] (J37 K qA qB qC qD qE qF qG qH qI qJ qK qL qM):=by
  refine F.ok Z37 (fun vs H Q E h=>?_) (fun cdv A outer s H vs Q E hr h=>?_)
  · obtain ⟨t,rws,wi,o,m,rfl,⟨rl,ou,dx,fs,xs,wy,ht,hf,hfw,hfo,erl,hR,hwi,hou,hole,h200⟩,q⟩:=h
    rfl
  obtain ⟨t,rws,wi,o,m,rfl,⟨rl,ou,dx,fs,xs,wy,ht,hf,hfw,hfo,erl,hR,hwi,hou,hole,h200⟩,q⟩:=h
  refine ⟨_,(pss_cons (ps_compG (i:=2) Z37.nd rfl (Or.inl rfl) (pi_enum rfl bl.enumerate_ (pa_cons (pe_fld (pv 0) rfl) pa_nil)) (cmpOkG_free (N:=["k", "row", "rows"]) (k:=2) (fr:=[1]) (cl:=[("rows",s.heap.objs.size + 1)]) rfl rfl (by decide +kernel) (by decide +kernel) rfl rfl (List.forall_mem_cons.mpr ⟨rfl,List.forall_mem_nil _⟩) rfl) rfl (fun _ _ _ _=>(gTupK (K:=K) (n:=2) rfl rfl (pgs_cons (pg_name (i:=0) (show (["k", "row", "rows"]:List Str).Nodup by decide +kernel) rfl (Or.inl rfl) (Or.inr rfl)) (pgs_cons (pg_name (i:=1) (show (["k", "row", "rows"]:List Str).Nodup by decide +kernel) rfl (Or.inl rfl) (Or.inr rfl)) pgs_nil)))) (fun _ _ _ _=>(pif_one (pt_truthK (K:=K) rfl (pe_op op_and (pe_op op_shr (pv 2) (pv 0)) pe_int)))) (fun _ _ _ _=>(pe_ix (ix_tupK (K:=K) rfl) (pv 1) pe_int (fun _ _=>rfl))))
     (pss_one (ps_ret (pe_mtP (polc m_Way_verdict_First bl.k_First (polc m_Way_verdict_Only bl.k_Only (polc m_Way_verdict_Like bl.k_Like (polc m_Way_verdict_Low bl.k_Low (polc m_Way_verdict_High bl.k_High (polc m_Way_verdict_Sum bl.k_Sum poln)))))) pass0 hr (pe_fn c_way_by hr rfl (pa_cons (pe_fld (pv 0) rfl) pa_nil)) (pa_cons (pv 2) (pa_cons (pe_fld (pv 0) rfl) pa_nil)))))),?_⟩
  have hxl:xs.length = rws.length:=hR.1
  refine ⟨_,rfl,t,_,_,_,_,rfl,ht,bl.k_Table,bl.na_Table_rows,hf,rl,rfl,⟨_,SqL.of erl⟩,compG_enum (xs:=xs) (fun D i zs H'=>Same H H'∧H' D = some (.lst zs)∧zs = (pkF rws (bitOn m) i).map V.int)
    (fun D hD=>⟨same_new hD _,upd_same,rfl⟩) (fun D i zs H' hD _ h=>SqL.of (h.1 _ _ erl)) (fun D i x zs H' T hD ex h hT ts hts=>?_) (fun D zs H' hD h=>?_)⟩
  · obtain ⟨sm,eD,rfl⟩:=h
    have s2:=sm.trans (same_new hT (.tup [.int i,x]))
    have eT:upd H' T (.tup [.int i,x]) T = some (.tup [.int i,x]):=upd_same
    have eD2:=same_new hT (.tup [.int i,x]) _ _ eD
    generalize upd H' T (.tup [.int i,x]) = H2 at s2 eT eD2 ⊢
    obtain ⟨r,w_,rfl,ew,ce,cv,g1,_,g2,g3⟩:=RefL.get (hR.same s2) ex
    have hi:i < xs.length:=(List.getElem?_eq_some_iff.mp ex).1
    have hg:rws.getD i ([],0) = w_:=getD_at ew
    have hpl:=pkF_len rws (bitOn m) i
    obtain ⟨t0,t1,rfl⟩:∃ t0 t1,ts = [t0,t1]:=by
      match ts,hts with
      | [t0,t1],_=>exact ⟨t0,t1,rfl⟩
    refine ⟨T,_,rfl,SqT.of eT,rfl,_,_,rfl,_,_,rfl,rfl,⟨[some (.int i),some (.ref r)],rfl,rfl⟩,?_⟩
    refine ⟨_,rfl,_,rfl,_,_,rfl,rfl,Int.natCast_nonneg _,_,_,rfl,rfl,bitOn m i,rfl,?_⟩
    have hs:=pkF_succ rws (bitOn m) i
    rw [hg] at hs
    cases hb:bitOn m i with
    | true =>
      rw [hb] at hs
      refine iteT ⟨_,rfl,r,_,_,_,rfl,rfl,SqT.of g1,rfl,CYes.mk hi eD2 (small1000 (by rw [List.length_map]; omega)) ⟨s2.upd hD,upd_same,?_⟩⟩
      rw [hs,List.map_append]; rfl
    | false =>
      rw [hb] at hs
      refine iteF (CNext.mk (zs:=(pkF rws (bitOn m) i).map V.int) hi ⟨s2,eD2,?_⟩)
      rw [hs]; simp
  · obtain ⟨sm,eD,rfl⟩:=h
    rw [hxl] at eD
    have hwy:wy ∈ six:=List.mem_of_getElem? hwi
    refine ⟨_,rfl,t,_,_,_,_,rfl,sm _ _ ht,bl.k_Table,bl.na_Table_way,hfw,wy,rfl,hwy,fun i2 ei2 x C H2 s2 eC hw=>?_⟩
    have ii:i2 = wi:=six_inj ei2 hwi
    subst ii
    have sA:=sm.trans s2
    obtain ⟨dw,hx⟩:=hw
    have hpl:=pkF_len rws (bitOn m) rws.length
    have key:(C,spVe K C qI qJ i2) ∈ [(qB,spVe K qB qI qJ 0),(qC,spVe K qC qI qJ 1),(qD,spVe K qD qI qJ 2),(qE,spVe K qE qI qJ 3),(qF,spVe K qF qI qJ 4),(qG,spVe K qG qI qJ 5)]:=by
      match i2,eC with
      | 0,eC=>cases eC; exact .head _
      | 1,eC=>cases eC; exact .tail _ (.head _)
      | 2,eC=>cases eC; exact .tail _ (.tail _ (.head _))
      | 3,eC=>cases eC; exact .tail _ (.tail _ (.tail _ (.head _)))
      | 4,eC=>cases eC; exact .tail _ (.tail _ (.tail _ (.tail _ (.head _))))
      | 5,eC=>cases eC; exact .tail _ (.tail _ (.tail _ (.tail _ (.tail _ (.head _)))))
      | n + 6,eC=>simp [cl6] at eC
    refine ⟨x,(C,spVe K C qI qJ i2),dw,_,rfl,key,hx,rfl,_,rfl,_,rfl,t,_,_,_,_,rfl,sA _ _ ht,bl.k_Table,bl.na_Table_outcome,hfo,x,D,ou,_,o,rfl,⟨dw,_,hx⟩,hou.same sA,hole,SqL.of (s2 _ _ eD),by omega,fun r H3 s3 h3=>q r H3 (sA.trans s3) h3⟩
theorem O_44 (F:Fun K "_law_domain" "_law_domain" Y44 f fd) (bl:Bl K mg qA qB qC qD qE qF qG qH qI qJ qK qL qM) (k_Numbers:MkCallee CX0 P w K mg base 3 "Numbers" qI ["self", "low", "high"] (J12 K qA qB qC qD qE qF qG qH qI qJ qK qL qM)) (k_Words:MkCallee CX0 P w K mg base 3 "Words" qJ ["self", "words"] (J30 K qA qB qC qD qE qF qG qH qI qJ qK qL qM)) (c__law_word:Callee P w K mg base 4 "_law_word" ["cell", "k"] (J57 K qA qB qC qD qE qF qG qH qI qJ qK qL qM)):FnOk P w K mg base CX0 5 f fd ["column"] (J44 K qA qB qC qD qE qF qG qH qI qJ qK qL qM):=by
  refine F.ok Z44 (fun vs H Q E h=>?_) (fun cdv A outer s H vs Q E hr h=>?_)
  · obtain ⟨l,c,rfl,⟨pl,ts,_,_,hl,hpl,hp⟩,ok,q⟩:=h
    rfl
  obtain ⟨l,c,rfl,⟨pl,ts,_,_,hl,hpl,hp⟩,ok,q⟩:=h
  refine ⟨_,(pss_cons (ps_if (pt_val (pe_ix ix_list (pv 0) pe_int (fun _ _=>rfl)))
     (pss_one (ps_ret (pe_mk k_Words pass0 hr rfl (pa_cons (pe_comp (pi_range1 rfl bl.range_ (pa_cons (pe_op op_add (pe_ix ix_tup (pe_ix ix_list (pe_ix ix_list (pv 0) pe_int (fun _ _=>rfl)) (pe_un un_neg pe_int) (fun _ _=>rfl)) pe_int (fun _ _=>rfl)) pe_int) pa_nil)) (cmpOk_free (N:=["k", "column"]) (fr:=[0]) (cl:=[("column",s.heap.objs.size + 1)]) rfl rfl (by decide +kernel) (by decide +kernel) rfl (by decide +kernel) rfl rfl rfl (List.forall_mem_cons.mpr ⟨rfl,List.forall_mem_nil _⟩) rfl) rfl (fun _ _ _ _=>pif_nil) (fun _ _ _ _=>(pe_fn c__law_word hr rfl (pa_cons (pe_ix (ix_listK (K:=K) rfl) (pv 1) pe_int (fun _ _=>rfl)) (pa_cons (pv 0) pa_nil))))) pa_nil))))
     pss_nil)
     (pss_one (ps_ret (pe_mk k_Numbers pass0 hr rfl (pa_cons (pe_ix ix_tup (pe_ix ix_list (pe_ix ix_list (pv 0) pe_int (fun _ _=>rfl)) pe_int (fun _ _=>rfl)) pe_int (fun _ _=>rfl)) (pa_cons (pe_ix ix_tup (pe_ix ix_list (pe_ix ix_list (pv 0) pe_int (fun _ _=>rfl)) (pe_un un_neg pe_int) (fun _ _=>rfl)) pe_int (fun _ _=>rfl)) pa_nil)))))),?_⟩
  have h1:=ok.some_
  obtain ⟨ts',r,ps',p,ets,eps,hp',er⟩:=hp.last (by intro z; rw [z] at hp; have:=hp.length; simp at this; omega)
  have il:atI ts (-1) = some (.ref r):=by rw [ets]; exact atI_last _ _
  have hhi:c.hi = p.2:=by unfold Col.hi; rw [eps]; simp
  obtain ⟨p0,ep0,hlo⟩:=ok.first
  obtain ⟨r0,er0,hr0⟩:∃ r0,ts[0]? = some (.ref r0)∧H r0 = some (.tup [.int p0.1,.int p0.2]):=by
    obtain ⟨x,ex⟩:∃ x,ts[0]? = some x:=⟨_,List.getElem?_eq_getElem (by rw [hp.length]; omega)⟩
    obtain ⟨p2,r2,f1,rfl,f2⟩:=hp.get ex
    rw [ep0] at f1; cases f1
    exact ⟨r2,ex,f2⟩
  have hle:=ok.le
  refine ⟨_,rfl,l,_,_,_,rfl,rfl,SqL.of hl,rfl,_,rfl,?_⟩
  cases hw:c.w with
  | false =>
    refine iteF ?_
    refine ⟨_,rfl,l,_,_,_,rfl,rfl,SqL.of hl,rfl,pl,_,_,_,rfl,rfl,SqL.of hpl,atI_nat (j:=0) er0,r0,_,_,_,rfl,rfl,SqT.of hr0,z0 _ _,_,rfl,l,_,_,_,rfl,rfl,SqL.of hl,rfl,_,rfl,pl,_,_,_,rfl,rfl,SqL.of hpl,il,r,_,_,_,rfl,rfl,SqT.of er,z1 _ _,fun x dx hx hdx hne=>⟨x,dx,p0.1,p.2,rfl,upd_same,by rw [hlo,← hhi]; exact hle,rfl,?_⟩⟩
    refine q x _ ?_ (.inl ⟨hw,dx,_,upd_same,?_,?_,rfl⟩)
    · unfold mkd
      exact (((same_new hdx _).upd hx).upd hx).upd hx
    · show some (V.int p0.1) = some (V.int c.lo)
      rw [hlo]
    · show some (V.int p.2) = some (V.int c.hi)
      rw [hhi]
  | true =>
    refine iteT ?_
    have z0':=ok.w0 hw p0 ep0
    have z40:p.2 < 40:=by
      obtain ⟨pl_,e1,e2⟩:=ok.last
      have:=ok.wl hw _ _ e1
      omega
    have hlo0:c.lo = 0:=by omega
    have hb:0 ≤ p.2:=by omega
    refine ⟨_,rfl,l,_,_,_,rfl,rfl,SqL.of hl,rfl,_,rfl,pl,_,_,_,rfl,rfl,SqL.of hpl,il,r,_,_,_,rfl,rfl,SqT.of er,z1 _ _,_,_,rfl,rfl,_,rfl,(by show -(2 ^ 62) ≤ p.2 + 1; omega),(by show p.2 + 1 < 2 ^ 62; omega),comp_range (fun D i zs H'=>Same H H'∧H' D = some (.lst zs)∧zs = (wds c.sd i).map V.str) (fun D hD=>⟨same_new hD _,upd_same,rfl⟩) (fun D i zs H' hD hi h=>?_) (fun D zs H' hD h=>?_)⟩
    · obtain ⟨sm,eD,rfl⟩:=h
      have hlz:((wds c.sd i).map V.str).length = i:=by unfold wds; simp
      refine ⟨_,rfl,l,_,_,_,rfl,rfl,SqL.of (sm _ _ hl),rfl,_,rfl,_,_,rfl,CYes.mk hi eD (small1000 (by rw [hlz]; omega)) ⟨sm.upd hD,upd_same,?_⟩⟩
      rw [wds_succ,List.map_append,Int.zero_add]
      rfl
    · obtain ⟨sm,eD,rfl⟩:=h
      intro x dx hx hdx hne
      have s3:Same H' (upd (upd H' dx (.own x)) x (.ins qJ dx [])):=(same_new hdx _).upd hx
      have wl:(wds c.sd (p.2 + 1).toNat).length = (p.2 + 1).toNat:=by unfold wds; simp
      refine ⟨x,dx,D,wds c.sd (p.2 + 1).toNat,rfl,upd_same,s3 _ _ eD,wds_good (by omega) (by omega),fun H4 l4 k1 k2 k3=>⟨rfl,q x H4 (fun b o e=>k1 b o (ne_of_none (sm _ _ e) hx) (s3 _ _ (sm _ _ e))) ?_⟩⟩
      refine .inr ⟨hw,dx,_,l4,k2,?_,?_,rfl,rfl,by rw [k3,hhi]⟩
      · show some (V.int 0) = some (V.int c.lo)
        rw [hlo0]
      · show some (V.int (hiW (wds c.sd (p.2 + 1).toNat))) = some (V.int c.hi)
        rw [hhi]
        unfold hiW
        rw [wl,Int.toNat_of_nonneg (by omega)]
        congr 2
        omega
theorem O_65 (F:Fun K "verdict" "verdict" Y65 f fd) (bl:Bl K mg qA qB qC qD qE qF qG qH qI qJ qK qL qM) (c_judged:Callee P w K mg base 5 "judged" ["table", "rows"] (J37 K qA qB qC qD qE qF qG qH qI qJ qK qL qM)) (c_mask:Callee P w K mg base 5 "mask" ["table", "codes"] (J58 K qA qB qC qD qE qF qG qH qI qJ qK qL qM)):FnOk P w K mg base CX0 6 f fd ["table", "codes"] (J65 K qA qB qC qD qE qF qG qH qI qJ qK qL qM):=by
  refine F.ok Z65 (fun vs H Q E h=>?_) (fun cdv A outer s H vs Q E hr h=>?_)
  · obtain ⟨t,c,rws,wi,o,cs,rfl,hT,hS,hlen,q⟩:=h
    rfl
  obtain ⟨t,c,rws,wi,o,cs,rfl,hT,hS,hlen,q⟩:=h
  refine ⟨_,(pss_one (ps_ret (pe_fn c_judged hr rfl (pa_cons (pv 0) (pa_cons (pe_fn c_mask hr rfl (pa_cons (pv 0) (pa_cons (pv 1) pa_nil))) pa_nil))))),?_⟩
  refine ⟨_,rfl,_,rfl,_,rfl,t,c,rws,wi,o,cs,rfl,hT,hS,hlen,fun H2 s2=>?_⟩
  refine ⟨t,rws,wi,o,_,rfl,hT.same s2,fun r H3 s3 h3=>q r H3 (s2.trans s3) ?_⟩
  rw [pkF_msk] at h3
  exact h3
theorem O_47 (F:Fun K "_law_has" "_law_has" Y47 f fd) (bl:Bl K mg qA qB qC qD qE qF qG qH qI qJ qK qL qM) (c_alike:Callee P w K mg base 5 "alike" ["one", "other"] (J31 K qA qB qC qD qE qF qG qH qI qJ qK qL qM)) (c__law_domain:Callee P w K mg base 5 "_law_domain" ["column"] (J44 K qA qB qC qD qE qF qG qH qI qJ qK qL qM)):FnOk P w K mg base CX0 6 f fd ["table", "names", "rows", "columns"] (J47 K qA qB qC qD qE qF qG qH qI qJ qK qL qM):=by
  refine F.ok Z47 (fun vs H Q E h=>?_) (fun cdv A outer s H vs Q E hr h=>?_)
  · obtain ⟨t,na,rl,cl,ou,nm,wy,zs,dv,xs,rx,rws,cs,rfl,⟨trl,dx,tna,tdl,fs,txs,ht,f1,f2,f3,f4,f5,f6,ena,edl,erl,hR,h200⟩,hna,hrl,hR2,hcl,hcs,hok,hdv,q⟩:=h
    rfl
  obtain ⟨t,na,rl,cl,ou,nm,wy,zs,dv,xs,rx,rws,cs,rfl,⟨trl,dx,tna,tdl,fs,txs,ht,f1,f2,f3,f4,f5,f6,ena,edl,erl,hR,h200⟩,hna,hrl,hR2,hcl,hcs,hok,hdv,q⟩:=h
  refine ⟨_,(pss_cons (ps_if (PW.pt (pw_or (pt_not (pt_val (pe_callB call_isiG rfl bl.isinstance_ PyProof.Rows.boot_isinstance (pa_cons (pv 0) (pa_cons (pe_glob (v:=.ref qK) rfl bl.Table_ rfl) pa_nil))))) (pw_or (pt_cmpR (op_neL hr) (pe_fld (pv 0) rfl) (pv 1) (nomark _)) (pw_or1 (pt_cmpR (op_neDL hr) (pe_fld (pv 0) rfl) (pv 2) (nomark _))))))
     (pss_one (ps_ret pe_bl))
     pss_nil)
     (pss_cons (ps_for PassesOwn.never rfl (pi_zip rfl bl.zip_ (pa_cons (pe_fld (pv 0) rfl) (pa_cons (pv 3) pa_nil))) (pg_tup rfl (pgs_cons (pg_name (i:=4) Z47.nd rfl (Or.inl rfl)) (pgs_cons (pg_name (i:=5) Z47.nd rfl (Or.inl rfl)) pgs_nil)))
     (pss_one (ps_if (pt_not (pt_val (pe_fn c_alike hr rfl (pa_cons (pv 4) (pa_cons (pe_fn c__law_domain hr rfl (pa_cons (pv 5) pa_nil)) pa_nil)))))
     (pss_one (ps_ret pe_bl))
     pss_nil)))
     (pss_one (ps_ret (pe_cmpR op_eq (pe_callB call_len_seq rfl bl.len_ PySem.boot_len (pa_cons (pe_fld (pv 0) rfl) pa_nil)) (pe_callB call_len_seq rfl bl.len_ PySem.boot_len (pa_cons (pv 3) pa_nil)) (nomark _)))))),?_⟩
  refine ⟨_,rfl,_,_,_,_,true,rfl,.ref _,bl.t_Table.ty ht,bl.f_tt,_,rfl,iteF ?_⟩
  refine ⟨_,rfl,t,_,_,_,_,rfl,ht,bl.k_Table,bl.na_Table_names,f5,_,rfl,rNeL_same (SqL.of ena) (SqL.of hna) (fun x hx=>.inl (List.all_eq_true.mp (flat_strs zs) x hx)) ⟨_,rfl,iteF ?_⟩⟩
  refine ⟨_,rfl,t,_,_,_,_,rfl,ht,bl.k_Table,bl.na_Table_rows,f1,_,rfl,neDL_same (SqL.of erl) (SqL.of hrl) (by rw [hR.1,hR2.1]) (deq_rows hR hR2) ⟨_,rfl,iteF ?_⟩⟩
  refine ⟨_,rfl,t,_,_,_,_,rfl,ht,bl.k_Table,bl.na_Table_domains,f6,_,rfl,tdl,cl,rfl,⟨_,SqL.of edl⟩,⟨_,SqL.of hcl⟩,for_zip (xs:=dv) (ys:=xs) (fun i σ H'=>Same H H'∧∃ c4 c5:Option V,σ = [some (.ref t),some (.ref na),some (.ref rl),some (.ref cl),c4,c5]) ⟨Same.refl _,_,_,rfl⟩ (fun i σ H' h=>⟨SqL.of (h.1 _ _ edl),SqL.of (h.1 _ _ hcl)⟩) (fun i x y σ H' T ex ey h hT=>?_) (fun σ H' h=>?_)⟩
  · obtain ⟨sm,c4,c5,rfl⟩:=h
    have s2:=sm.trans (same_new hT (.tup [x,y]))
    have eT:upd H' T (.tup [x,y]) T = some (.tup [x,y]):=upd_same
    generalize upd H' T (.tup [x,y]) = H2 at s2 eT ⊢
    obtain ⟨a,c,rfl,ec,ha⟩:=RefL.get hdv ex
    obtain ⟨l,c',rfl,ec',hl⟩:=RefL.get hcs ey
    rw [ec] at ec'
    cases ec'
    refine ⟨T,_,rfl,SqT.of eT,rfl,_,_,rfl,_,_,rfl,rfl,?_⟩
    refine ⟨_,rfl,_,rfl,l,c,rfl,hl.same s2,hok c (List.mem_of_getElem? ec),fun b H3 s3 hb=>⟨a,b,c,rfl,(ha.same s2).same s3,hb,_,rfl,iteF ⟨s2.trans s3,_,_,rfl⟩⟩⟩
  · obtain ⟨sm,c4,c5,rfl⟩:=h
    refine ⟨_,rfl,t,_,_,_,_,rfl,sm _ _ ht,bl.k_Table,bl.na_Table_domains,f6,tdl,_,rfl,.inl (SqL.of (sm _ _ edl)),_,rfl,cl,_,rfl,.inl (SqL.of (sm _ _ hcl)),rfl,?_⟩
    rw [show dv.length = xs.length by rw [hdv.1,hcs.1],decide_eq_true rfl]
    exact q H' sm
theorem O_17 (F:Fun K "__init__" "Table.__init__" Y17 f fd) (bl:Bl K mg qA qB qC qD qE qF qG qH qI qJ qK qL qM) (c_refuse_names:Callee P w K mg base 5 "refuse_names" ["names"] (J61 K qA qB qC qD qE qF qG qH qI qJ qK qL qM)) (c_refuse_counts:Callee P w K mg base 5 "refuse_counts" ["names", "rows"] (J60 K qA qB qC qD qE qF qG qH qI qJ qK qL qM)) (c_refuse_way:Callee P w K mg base 5 "refuse_way" ["way", "outcome"] (J63 K qA qB qC qD qE qF qG qH qI qJ qK qL qM)) (c_refuse_row:Callee P w K mg base 5 "refuse_row" ["domains", "outcome", "cells", "code"] (J62 K qA qB qC qD qE qF qG qH qI qJ qK qL qM)) (c_own_row:Callee P w K mg base 5 "own_row" ["cells", "code"] (J59 K qA qB qC qD qE qF qG qH qI qJ qK qL qM)):FnOk P w K mg base CX0 6 f fd ["self", "name", "names", "domains", "outcome", "way", "rows"] (J17 K qA qB qC qD qE qF qG qH qI qJ qK qL qM):=by
  refine F.ok Z17 (fun vs H Q E h=>?_) (fun cdv A outer s H vs Q E hr h=>?_)
  · obtain ⟨x,dx,na,dl,ou,rl,nm,wy,zs,dv,rx,bs,o,rws,rfl,hx,hna,hw,hnd,h1,h4,hwy,hws,hdl,hdv,hou,hrl,hR,h200,hb4,hok,q⟩:=h
    rfl
  obtain ⟨x,dx,na,dl,ou,rl,nm,wy,zs,dv,rx,bs,o,rws,rfl,hx,hna,hw,hnd,h1,h4,hwy,hws,hdl,hdv,hou,hrl,hR,h200,hb4,hok,q⟩:=h
  refine ⟨_,(pss_cons (ps_expr (pe_fn c_refuse_names hr rfl (pa_cons (pe_op op_cat (pe_lst (pa_cons (pv 1) pa_nil)) (pv 2)) pa_nil)))
     (pss_cons (ps_expr (pe_fn c_refuse_counts hr rfl (pa_cons (pv 2) (pa_cons (pv 6) pa_nil))))
     (pss_cons (ps_expr (pe_fn c_refuse_way hr rfl (pa_cons (pv 5) (pa_cons (pv 4) pa_nil))))
     (pss_cut (ps_for PassesOwn.never rfl (pi_list (pv 6)) (pg_tup rfl (pgs_cons (pg_name (i:=7) Z17.nd rfl (Or.inl rfl)) (pgs_cons (pg_name (i:=8) Z17.nd rfl (Or.inl rfl)) pgs_nil)))
     (pss_one (ps_expr (pe_fn c_refuse_row hr rfl (pa_cons (pv 3) (pa_cons (pv 4) (pa_cons (pv 7) (pa_cons (pv 8) pa_nil))))))))
     (pss_cons (ps_fld (pv 0) (pv 1) rfl)
     (pss_cons (ps_fld (pv 0) (pe_callTy call_list_of rfl bl.list_ PyProof.Rows.boot_list (pa_cons (pv 2) pa_nil)) rfl)
     (pss_cons (ps_fld (pv 0) (pe_callTy call_list_of rfl bl.list_ PyProof.Rows.boot_list (pa_cons (pv 3) pa_nil)) rfl)
     (pss_cons (ps_fld (pv 0) (pv 4) rfl)
     (pss_cons (ps_fld (pv 0) (pv 5) rfl)
     (pss_one (ps_fld (pv 0) (pe_compG (pi_list (pv 6)) (cmpOkG_plain (N:=["cells", "code"]) (k:=2) rfl rfl (by decide +kernel) (by decide +kernel) (by decide +kernel)) rfl (fun _ _ _ _=>(gTupK (K:=K) (n:=2) rfl rfl (pgs_cons (pg_name (i:=0) (show (["cells", "code"]:List Str).Nodup by decide +kernel) rfl (Or.inl rfl) (Or.inr rfl)) (pgs_cons (pg_name (i:=1) (show (["cells", "code"]:List Str).Nodup by decide +kernel) rfl (Or.inl rfl) (Or.inr rfl)) pgs_nil)))) (fun _ _ _ _=>pif_nil) (fun _ _ _ _=>(pe_fn c_own_row hr rfl (pa_cons (pv 0) (pa_cons (pv 1) pa_nil))))) rfl))))))))))),?_⟩
  have hzl:(zs.map V.str).length = zs.length:=List.length_map _
  refine ⟨_,rfl,(by show 1 ≤ sizeLine; decide),fun l1 hl1=>?_⟩
  have s1:=same_new hl1 (.lst [.str nm])
  have e1:upd H l1 (.lst [.str nm]) l1 = some (.lst [.str nm]):=upd_same
  generalize upd H l1 (.lst [.str nm]) = H1 at s1 e1 ⊢
  refine ⟨_,rfl,l1,na,_,_,rfl,rfl,e1,s1 _ _ hna,(by rw [hzl]; show 1 + zs.length ≤ sizeLine; exact big (by omega)),fun l2 hl2=>?_⟩
  have s2:=s1.trans (same_new hl2 (.lst ([V.str nm] ++ zs.map V.str)))
  have e2:upd H1 l2 (.lst ([V.str nm] ++ zs.map V.str)) l2 = some (.lst ((nm :: zs).map V.str)):=upd_same
  generalize upd H1 l2 (.lst ([V.str nm] ++ zs.map V.str)) = H2 at s2 e2 ⊢
  refine ⟨l2,nm :: zs,rfl,SqL.of e2,hw,hnd,by rw [List.length_cons]; omega,fun H3 t3=>?_⟩
  have s3:=s2.trans t3
  refine ⟨_,rfl,_,rfl,na,rl,_,_,rfl,SqL.of (s3 _ _ hna),SqL.of (s3 _ _ hrl),by rw [hzl]; exact h1,by rw [hzl]; exact h4,h200,?_⟩
  refine ⟨_,rfl,_,rfl,wy,ou,rfl,hwy,(fun z=>let ⟨dx',fs',e'⟩:=hws z; ⟨dx',fs',s3 _ _ e'⟩),fun H4 t4=>?_⟩
  have s4:=s3.trans t4
  refine ⟨fun σ' H'=>Same H H'∧∃ c7 c8:Option V,σ' = [some (.ref x),some (.str nm),some (.ref na),some (.ref dl),some (.ref ou),some (.str wy),some (.ref rl),c7,c8],?_,?_⟩
  · refine ⟨_,rfl,rl,rfl,⟨_,SqL.of (s4 _ _ hrl)⟩,for_list (xs:=rx) (fun i σ H'=>Same H H'∧∃ c7 c8:Option V,σ = [some (.ref x),some (.str nm),some (.ref na),some (.ref dl),some (.ref ou),some (.str wy),some (.ref rl),c7,c8]) ⟨s4,_,_,rfl⟩ (fun i σ H' _ h=>SqL.of (h.1 _ _ hrl)) (fun i y σ H' e h=>?_) (fun σ H' h=>h)⟩
    obtain ⟨sm,c7,c8,rfl⟩:=h
    obtain ⟨r,w_,rfl,ew,ce,cv,g1,_,g2,g3⟩:=RefL.get (hR.same sm) e
    refine ⟨r,_,rfl,SqT.of g1,rfl,_,_,rfl,_,_,rfl,rfl,?_⟩
    exact ⟨_,rfl,_,rfl,_,rfl,_,rfl,dl,ou,ce,dv,cv,bs,o,w_,rfl,SqL.of (sm _ _ hdl),RefL.mono hdv fun _ _ p=>p.same sm,hou.same sm,g2,g3,hok w_ (List.mem_of_getElem? ew),fun H2 t2=>⟨sm.trans t2,_,_,rfl⟩⟩
  rintro σ5 H5 ⟨s5,c7,c8,rfl⟩
  have x5:=s5 _ _ hx
  have nax:na ≠ x:=ne_of hna hx (by intro z; cases z)
  have dlx:dl ≠ x:=ne_of hdl hx (by intro z; cases z)
  have rlx:rl ≠ x:=ne_of hrl hx (by intro z; cases z)
  have k5:∀ b o,b ≠ x→H b = some o→H5 b = some o:=fun b o _ e=>s5 b o e
  have R5:=RL.hide x5 (hR.same s5)
  refine ⟨_,rfl,_,rfl,x,_,dx,_,rfl,x5,bl.k_Table,bl.na_Table_name,(by show 0 < 1000; decide),?_⟩
  have k6:∀ b o,b ≠ x→H5 b = some o→upd H5 x (.ins qK dx [(Str.ofString "name",.str nm)]) b = some o:=fun b o hb e=>(upd_ne hb).trans e
  have x6:upd H5 x (.ins qK dx [(Str.ofString "name",.str nm)]) x = some (.ins qK dx [(Str.ofString "name",.str nm)]):=upd_same
  have g6:upd H5 x (.ins qK dx (putF (Str.ofString "name") (.str nm) [])) = upd H5 x (.ins qK dx [(Str.ofString "name",.str nm)]):=rfl
  rw [g6]
  clear g6
  generalize upd H5 x (.ins qK dx [(Str.ofString "name",.str nm)]) = H6 at k6 x6 ⊢
  refine ⟨_,rfl,na,_,rfl,.inl (SqL.of (k6 _ _ nax (s5 _ _ hna))),fun m1 hm1=>⟨_,rfl,x,_,dx,_,rfl,ret_r1 x6 hm1,bl.k_Table,bl.na_Table_names,(by show 1 < 1000; decide),?_⟩⟩
  have g7:upd (upd H6 m1 (.lst (zs.map V.str))) x (.ins qK dx (putF (Str.ofString "names") (V.ref m1) [(Str.ofString "name",V.str nm)])) = upd (upd H6 m1 (.lst (zs.map V.str))) x (.ins qK dx [(Str.ofString "name",V.str nm),(Str.ofString "names",V.ref m1)]):=by rw [pf1]
  rw [g7]
  clear g7
  have k7:∀ b o,b ≠ x→H5 b = some o→upd (upd H6 m1 (.lst (zs.map V.str))) x (.ins qK dx [(Str.ofString "name",V.str nm),(Str.ofString "names",V.ref m1)]) b = some o:=fun b o hb e=>(upd_ne hb).trans (ret_r1 (k6 b o hb e) hm1)
  have x7:upd (upd H6 m1 (.lst (zs.map V.str))) x (.ins qK dx [(Str.ofString "name",V.str nm),(Str.ofString "names",V.ref m1)]) x = some (.ins qK dx [(Str.ofString "name",V.str nm),(Str.ofString "names",V.ref m1)]):=upd_same
  have m1x:m1 ≠ x:=fun z=>by rw [z,x6] at hm1; cases hm1
  have j7:upd (upd H6 m1 (.lst (zs.map V.str))) x (.ins qK dx [(Str.ofString "name",V.str nm),(Str.ofString "names",V.ref m1)]) m1 = some (.lst (zs.map V.str)):=(upd_ne m1x).trans upd_same
  generalize upd (upd H6 m1 (.lst (zs.map V.str))) x (.ins qK dx [(Str.ofString "name",V.str nm),(Str.ofString "names",V.ref m1)]) = H7 at k7 x7 j7 ⊢
  refine ⟨_,rfl,dl,_,rfl,.inl (SqL.of (k7 _ _ dlx (s5 _ _ hdl))),fun m2 hm2=>⟨_,rfl,x,_,dx,_,rfl,ret_r1 x7 hm2,bl.k_Table,bl.na_Table_domains,(by show 2 < 1000; decide),?_⟩⟩
  have g8:upd (upd H7 m2 (.lst dv)) x (.ins qK dx (putF (Str.ofString "domains") (V.ref m2) [(Str.ofString "name",V.str nm),(Str.ofString "names",V.ref m1)])) = upd (upd H7 m2 (.lst dv)) x (.ins qK dx [(Str.ofString "name",V.str nm),(Str.ofString "names",V.ref m1),(Str.ofString "domains",V.ref m2)]):=by rw [pf2]
  rw [g8]
  clear g8
  have k8:∀ b o,b ≠ x→H5 b = some o→upd (upd H7 m2 (.lst dv)) x (.ins qK dx [(Str.ofString "name",V.str nm),(Str.ofString "names",V.ref m1),(Str.ofString "domains",V.ref m2)]) b = some o:=fun b o hb e=>(upd_ne hb).trans (ret_r1 (k7 b o hb e) hm2)
  have x8:upd (upd H7 m2 (.lst dv)) x (.ins qK dx [(Str.ofString "name",V.str nm),(Str.ofString "names",V.ref m1),(Str.ofString "domains",V.ref m2)]) x = some (.ins qK dx [(Str.ofString "name",V.str nm),(Str.ofString "names",V.ref m1),(Str.ofString "domains",V.ref m2)]):=upd_same
  have m2x:m2 ≠ x:=fun z=>by rw [z,x7] at hm2; cases hm2
  have j8:upd (upd H7 m2 (.lst dv)) x (.ins qK dx [(Str.ofString "name",V.str nm),(Str.ofString "names",V.ref m1),(Str.ofString "domains",V.ref m2)]) m1 = some (.lst (zs.map V.str)):=(upd_ne m1x).trans (ret_r1 j7 hm2)
  have i8:upd (upd H7 m2 (.lst dv)) x (.ins qK dx [(Str.ofString "name",V.str nm),(Str.ofString "names",V.ref m1),(Str.ofString "domains",V.ref m2)]) m2 = some (.lst dv):=(upd_ne m2x).trans upd_same
  generalize upd (upd H7 m2 (.lst dv)) x (.ins qK dx [(Str.ofString "name",V.str nm),(Str.ofString "names",V.ref m1),(Str.ofString "domains",V.ref m2)]) = H8 at k8 x8 j8 i8 ⊢
  refine ⟨_,rfl,_,rfl,x,_,dx,_,rfl,x8,bl.k_Table,bl.na_Table_outcome,(by show 3 < 1000; decide),?_⟩
  have g9:upd H8 x (.ins qK dx (putF (Str.ofString "outcome") (V.ref ou) [(Str.ofString "name",V.str nm),(Str.ofString "names",V.ref m1),(Str.ofString "domains",V.ref m2)])) = upd H8 x (.ins qK dx [(Str.ofString "name",V.str nm),(Str.ofString "names",V.ref m1),(Str.ofString "domains",V.ref m2),(Str.ofString "outcome",V.ref ou)]):=by rw [pf3]
  rw [g9]
  clear g9
  have k9:∀ b o,b ≠ x→H5 b = some o→upd H8 x (.ins qK dx [(Str.ofString "name",V.str nm),(Str.ofString "names",V.ref m1),(Str.ofString "domains",V.ref m2),(Str.ofString "outcome",V.ref ou)]) b = some o:=fun b o hb e=>(upd_ne hb).trans (k8 b o hb e)
  have x9:upd H8 x (.ins qK dx [(Str.ofString "name",V.str nm),(Str.ofString "names",V.ref m1),(Str.ofString "domains",V.ref m2),(Str.ofString "outcome",V.ref ou)]) x = some (.ins qK dx [(Str.ofString "name",V.str nm),(Str.ofString "names",V.ref m1),(Str.ofString "domains",V.ref m2),(Str.ofString "outcome",V.ref ou)]):=upd_same
  have j9:upd H8 x (.ins qK dx [(Str.ofString "name",V.str nm),(Str.ofString "names",V.ref m1),(Str.ofString "domains",V.ref m2),(Str.ofString "outcome",V.ref ou)]) m1 = some (.lst (zs.map V.str)):=(upd_ne m1x).trans j8
  have i9:upd H8 x (.ins qK dx [(Str.ofString "name",V.str nm),(Str.ofString "names",V.ref m1),(Str.ofString "domains",V.ref m2),(Str.ofString "outcome",V.ref ou)]) m2 = some (.lst dv):=(upd_ne m2x).trans i8
  generalize upd H8 x (.ins qK dx [(Str.ofString "name",V.str nm),(Str.ofString "names",V.ref m1),(Str.ofString "domains",V.ref m2),(Str.ofString "outcome",V.ref ou)]) = H9 at k9 x9 j9 i9 ⊢
  refine ⟨_,rfl,_,rfl,x,_,dx,_,rfl,x9,bl.k_Table,bl.na_Table_way,(by show 4 < 1000; decide),?_⟩
  have g10:upd H9 x (.ins qK dx (putF (Str.ofString "way") (V.str wy) [(Str.ofString "name",V.str nm),(Str.ofString "names",V.ref m1),(Str.ofString "domains",V.ref m2),(Str.ofString "outcome",V.ref ou)])) = upd H9 x (.ins qK dx [(Str.ofString "name",V.str nm),(Str.ofString "names",V.ref m1),(Str.ofString "domains",V.ref m2),(Str.ofString "outcome",V.ref ou),(Str.ofString "way",V.str wy)]):=by rw [pf4]
  rw [g10]
  clear g10
  have k10:∀ b o,b ≠ x→H5 b = some o→upd H9 x (.ins qK dx [(Str.ofString "name",V.str nm),(Str.ofString "names",V.ref m1),(Str.ofString "domains",V.ref m2),(Str.ofString "outcome",V.ref ou),(Str.ofString "way",V.str wy)]) b = some o:=fun b o hb e=>(upd_ne hb).trans (k9 b o hb e)
  have x10:upd H9 x (.ins qK dx [(Str.ofString "name",V.str nm),(Str.ofString "names",V.ref m1),(Str.ofString "domains",V.ref m2),(Str.ofString "outcome",V.ref ou),(Str.ofString "way",V.str wy)]) x = some (.ins qK dx [(Str.ofString "name",V.str nm),(Str.ofString "names",V.ref m1),(Str.ofString "domains",V.ref m2),(Str.ofString "outcome",V.ref ou),(Str.ofString "way",V.str wy)]):=upd_same
  have j10:upd H9 x (.ins qK dx [(Str.ofString "name",V.str nm),(Str.ofString "names",V.ref m1),(Str.ofString "domains",V.ref m2),(Str.ofString "outcome",V.ref ou),(Str.ofString "way",V.str wy)]) m1 = some (.lst (zs.map V.str)):=(upd_ne m1x).trans j9
  have i10:upd H9 x (.ins qK dx [(Str.ofString "name",V.str nm),(Str.ofString "names",V.ref m1),(Str.ofString "domains",V.ref m2),(Str.ofString "outcome",V.ref ou),(Str.ofString "way",V.str wy)]) m2 = some (.lst dv):=(upd_ne m2x).trans i9
  generalize upd H9 x (.ins qK dx [(Str.ofString "name",V.str nm),(Str.ofString "names",V.ref m1),(Str.ofString "domains",V.ref m2),(Str.ofString "outcome",V.ref ou),(Str.ofString "way",V.str wy)]) = H10 at k10 x10 j10 i10 ⊢
  have R10:RL NT H10 rx rws:=RL.same R5 (hide_same k10)
  have hrl10:=k10 _ _ rlx (s5 _ _ hrl)
  refine ⟨_,rfl,rl,rfl,⟨_,SqL.of hrl10⟩,compG_list (xs:=rx) (fun D i zs H'=>Same H10 H'∧H' D = some (.lst zs)∧RL (Fr H10 D) H' zs (rws.take i))
    (fun D hD=>⟨same_new hD _,upd_same,RefL.nil⟩) (fun D i zs H' hD _ h=>SqL.of (h.1 _ _ hrl10)) (fun D i y zs H' hD e h ts hts=>?_) (fun D zs H' hD h=>?_)⟩
  · obtain ⟨sm,eD,hz⟩:=h
    obtain ⟨r,w_,rfl,ew,ce,cv,g1,_,g2,g3⟩:=RefL.get (R10.same sm) e
    have hi:i < rx.length:=(List.getElem?_eq_some_iff.mp e).1
    obtain ⟨t0,t1,rfl⟩:∃ t0 t1,ts = [t0,t1]:=by
      match ts,hts with
      | [t0,t1],_=>exact ⟨t0,t1,rfl⟩
    refine ⟨r,_,rfl,SqT.of g1,rfl,_,_,rfl,_,_,rfl,rfl,⟨[some (.ref ce),some (.int w_.2)],rfl,rfl⟩,?_⟩
    refine ⟨_,rfl,_,rfl,ce,cv,w_,rfl,g2,g3,by rw [(hok w_ (List.mem_of_getElem? ew)).len]; omega,fun r2 H2 t2 hr2 hrow=>?_⟩
    have eD2:=t2 _ _ eD
    have hlz:zs.length ≤ 200:=by
      have:=hz.1
      rw [List.length_take] at this
      omega
    refine CYes.mk hi eD2 (small1000 (by omega)) ⟨(sm.trans t2).upd hD,upd_same,?_⟩
    rw [take_snoc ew]
    exact RL.updN (RefL.snoc (hz.same t2) (hrow.wk fun a h=>⟨sm.free h,fun z=>by rw [z,eD] at h; cases h⟩)) Fr.out eD2
  · obtain ⟨sm,eD,hz⟩:=h
    rw [hR.1,List.take_length] at hz
    refine ⟨_,rfl,x,_,dx,_,rfl,sm _ _ x10,bl.k_Table,bl.na_Table_rows,(by show 5 < 1000; decide),?_⟩
    have g11:upd H' x (.ins qK dx (putF (Str.ofString "rows") (V.ref D) [(Str.ofString "name",V.str nm),(Str.ofString "names",V.ref m1),(Str.ofString "domains",V.ref m2),(Str.ofString "outcome",V.ref ou),(Str.ofString "way",V.str wy)])) = upd H' x (.ins qK dx [(Str.ofString "name",V.str nm),(Str.ofString "names",V.ref m1),(Str.ofString "domains",V.ref m2),(Str.ofString "outcome",V.ref ou),(Str.ofString "way",V.str wy),(Str.ofString "rows",V.ref D)]):=by rw [pf5]
    rw [g11]
    have nDx:D ≠ x:=fun z=>by rw [z,x10] at hD; cases hD
    refine q _ _ D zs (fun b o hb e=>(upd_ne hb).trans (sm _ _ (k10 b o hb (s5 _ _ e)))) upd_same rfl rfl rfl rfl ⟨m1,m2,rfl,rfl,(upd_ne m1x).trans (sm _ _ j10),(upd_ne m2x).trans (sm _ _ i10)⟩ ((upd_ne nDx).trans eD) ?_
    exact RL.same (RL.hide (sm _ _ x10) hz.any) (hide_same fun b o hb e=>(upd_ne hb).trans e)
theorem O_64 (F:Fun K "turned" "turned" Y64 f fd) (bl:Bl K mg qA qB qC qD qE qF qG qH qI qJ qK qL qM) (k_Table:MkCallee CX0 P w K mg base 6 "Table" qK ["self", "name", "names", "domains", "outcome", "way", "rows"] (J17 K qA qB qC qD qE qF qG qH qI qJ qK qL qM)):FnOk P w K mg base CX0 8 f fd ["table", "order"] (J64 K qA qB qC qD qE qF qG qH qI qJ qK qL qM):=by
  refine F.ok Z64 (fun vs H Q E h=>?_) (fun cdv A outer s H vs Q E hr h=>?_)
  · obtain ⟨t,ol,ou,os,nm,wy,zs,dv,rws,bs,o,rfl,hol,⟨rl,dx,na,dl,fs,xs,ht,f1,f2,f3,f4,f5,f6,ena,edl,erl,hR,h200⟩,ok,pm,q⟩:=h
    rfl
  obtain ⟨t,ol,ou,os,nm,wy,zs,dv,rws,bs,o,rfl,hol,⟨rl,dx,na,dl,fs,xs,ht,f1,f2,f3,f4,f5,f6,ena,edl,erl,hR,h200⟩,ok,pm,q⟩:=h
  refine ⟨_,(pss_cut (ps_comp (i:=2) Z64.nd rfl (Or.inl rfl) (pi_list (pv 1)) (cmpOk_free (N:=["column", "table"]) (fr:=[0]) (cl:=[("table",s.heap.objs.size + 1)]) rfl rfl (by decide +kernel) (by decide +kernel) rfl (by decide +kernel) rfl rfl rfl (List.forall_mem_cons.mpr ⟨rfl,List.forall_mem_nil _⟩) rfl) rfl (fun _ _ _ _=>pif_nil) (fun _ _ _ _=>(pe_ix (ix_listK (K:=K) rfl) (pe_fldK (K:=K) rfl (pv 1) rfl) (pv 0) (fun _ _=>rfl))))
     (pss_cut (ps_comp (i:=3) Z64.nd rfl (Or.inl rfl) (pi_list (pv 1)) (cmpOk_free (N:=["column", "table"]) (fr:=[0]) (cl:=[("table",s.heap.objs.size + 1)]) rfl rfl (by decide +kernel) (by decide +kernel) rfl (by decide +kernel) rfl rfl rfl (List.forall_mem_cons.mpr ⟨rfl,List.forall_mem_nil _⟩) rfl) rfl (fun _ _ _ _=>pif_nil) (fun _ _ _ _=>(pe_ix (ix_listK (K:=K) rfl) (pe_fldK (K:=K) rfl (pv 1) rfl) (pv 0) (fun _ _=>rfl))))
     (pss_cut (ps_compN (i:=4) Z64.nd rfl (Or.inl rfl) (pi_list (pe_fld (pv 0) rfl)) (cmpOkN_mk (N:=["cells", "code", "order"]) (k:=2) (fr:=[1]) (cl:=[("order",s.heap.objs.size + 1 + 1)]) rfl rfl (by decide +kernel) rfl ⟨⟨_,_,rfl,rfl,rfl,rfl,rfl,fun _=>rfl⟩,trivial⟩ (List.forall_mem_cons.mpr ⟨rfl,List.forall_mem_nil _⟩) (fun _=>rfl)) rfl (fun _ C1 _ _=>(gTupK (K:=K) (n:=2) rfl rfl (pgs_cons (pg_name (i:=0) (show (["cells", "code", "order"]:List Str).Nodup by decide +kernel) rfl (Or.inr rfl) (Or.inl rfl)) (pgs_cons (pg_name (i:=1) (show (["cells", "code", "order"]:List Str).Nodup by decide +kernel) rfl (Or.inl rfl) (Or.inr rfl)) pgs_nil)))) (fun _ C1 _ _=>pif_nil) (fun _ C1 _ _=>(pe_tup (pa_cons (pe_compG (pi_listK (K:=K) rfl (pv 2)) (cmpOkG_free (N:=["column", "cells"]) (k:=1) (fr:=[0]) (cl:=[("cells",C1 + 1)]) rfl rfl (by decide +kernel) (by decide +kernel) rfl rfl (List.forall_mem_cons.mpr ⟨rfl,List.forall_mem_nil _⟩) rfl) rfl (fun _ C2 _ _=>(pg_name (i:=0) (show (["column", "cells"]:List Str).Nodup by decide +kernel) rfl (Or.inl rfl) (Or.inr rfl))) (fun _ C2 _ _=>pif_nil) (fun _ C2 _ _=>(pe_ix (ix_listK (K:=K) rfl) (pv 1) (pv 0) (fun _ _=>rfl)))) (pa_cons (pv 1) pa_nil)))))
     (pss_one (ps_ret (pe_mk k_Table pass0 hr rfl (pa_cons (pe_fld (pv 0) rfl) (pa_cons (pv 2) (pa_cons (pv 3) (pa_cons (pe_fld (pv 0) rfl) (pa_cons (pe_fld (pv 0) rfl) (pa_cons (pv 4) pa_nil)))))))))))),?_⟩
  have hn4:=ok.four
  have hol_:os.length = zs.length:=pm.len
  have hdl:dv.length = zs.length:=by rw [ok.doms.1,ok.len]
  have hvl:(vN os).length = os.length:=vN_len os
  refine ⟨fun σ' H'=>Same H H'∧∃ n2:Addr,H' n2 = some (.lst ((prm os zs).map V.str))∧σ' = [some (.ref t),some (.ref ol),some (.ref n2),none,none],?_,?_⟩
  · refine ⟨_,rfl,ol,rfl,⟨_,SqL.of hol⟩,comp_list (xs:=vN os) (fun D i ys H'=>Same H H'∧H' D = some (.lst ys)∧ys = (prm (os.take i) zs).map V.str) (fun D hD=>⟨same_new hD _,upd_same,rfl⟩) (fun D i ys H' hD _ h=>SqL.of (h.1 _ _ hol)) (fun D i y ys H' hD e h=>?_) (fun D ys H' hD h=>?_)⟩
    · obtain ⟨sm,eD,rfl⟩:=h
      obtain ⟨k,rfl,ek⟩:=vN_of e
      have hk:=pm.lt k (List.mem_of_getElem? ek)
      have ez:=List.getElem?_eq_getElem hk
      have hi:i < (vN os).length:=(List.getElem?_eq_some_iff.mp e).1
      refine ⟨_,rfl,t,_,_,_,_,rfl,sm _ _ ht,bl.k_Table,bl.na_Table_names,f5,_,rfl,na,_,_,_,rfl,rfl,SqL.of (sm _ _ ena),atI_nat (put_strs ez),CYes.mk hi eD (small1000 ?_) ⟨sm.upd hD,upd_same,?_⟩⟩
      · rw [List.length_map,(prm_get (os:=os.take i) (xs:=zs) fun k hk=>pm.lt k (List.mem_of_mem_take hk)).1,List.length_take]; omega
      · rw [take_snoc ek,prm_snoc ez,List.map_append]; rfl
    · obtain ⟨sm,eD,rfl⟩:=h
      rw [hvl,List.take_length] at eD
      exact ⟨sm,D,eD,rfl⟩
  rintro σ1 H1 ⟨s1,n2,en2,rfl⟩
  refine ⟨fun σ' H'=>Same H1 H'∧∃ d2:Addr,H' d2 = some (.lst (prm os dv))∧σ' = [some (.ref t),some (.ref ol),some (.ref n2),some (.ref d2),none],?_,?_⟩
  · refine ⟨_,rfl,ol,rfl,⟨_,SqL.of (s1 _ _ hol)⟩,comp_list (xs:=vN os) (fun D i ys H'=>Same H1 H'∧H' D = some (.lst ys)∧ys = prm (os.take i) dv) (fun D hD=>⟨same_new hD _,upd_same,rfl⟩) (fun D i ys H' hD _ h=>SqL.of (h.1 _ _ (s1 _ _ hol))) (fun D i y ys H' hD e h=>?_) (fun D ys H' hD h=>?_)⟩
    · obtain ⟨sm,eD,rfl⟩:=h
      obtain ⟨k,rfl,ek⟩:=vN_of e
      have hk:=pm.lt k (List.mem_of_getElem? ek)
      have ez:=List.getElem?_eq_getElem (l:=dv) (i:=k) (by rw [hdl]; exact hk)
      have hi:i < (vN os).length:=(List.getElem?_eq_some_iff.mp e).1
      have sA:=s1.trans sm
      refine ⟨_,rfl,t,_,_,_,_,rfl,sA _ _ ht,bl.k_Table,bl.na_Table_domains,f6,_,rfl,dl,_,_,_,rfl,rfl,SqL.of (sA _ _ edl),atI_nat ez,CYes.mk hi eD (small1000 ?_) ⟨sm.upd hD,upd_same,?_⟩⟩
      · rw [(prm_get (os:=os.take i) (xs:=dv) fun k hk=>by rw [hdl]; exact pm.lt k (List.mem_of_mem_take hk)).1,List.length_take]; omega
      · rw [take_snoc ek,prm_snoc ez]
    · obtain ⟨sm,eD,rfl⟩:=h
      rw [hvl,List.take_length] at eD
      exact ⟨sm,D,eD,rfl⟩
  rintro σ2 H2 ⟨t2,d2,ed2,rfl⟩
  have s2:=s1.trans t2
  have R2:=hR.same s2
  have erl2:=s2 _ _ erl
  refine ⟨fun σ' H'=>Same H2 H'∧∃ (r2:Addr) (zx:List V),H' r2 = some (.lst zx)∧RL NT H' zx (rws.map (trn os))∧σ' = [some (.ref t),some (.ref ol),some (.ref n2),some (.ref d2),some (.ref r2)],?_,?_⟩
  · refine ⟨_,rfl,t,_,_,_,_,rfl,s2 _ _ ht,bl.k_Table,bl.na_Table_rows,f1,rl,rfl,⟨_,SqL.of erl2⟩,compG_list (xs:=xs) (fun D i ys H'=>Same H2 H'∧H' D = some (.lst ys)∧RL NT (hide H' D) ys ((rws.take i).map (trn os))) (fun D hD=>⟨same_new hD _,upd_same,RefL.nil⟩) (fun D i ys H' hD _ h=>SqL.of (h.1 _ _ erl2)) (fun D i y ys H' hD e h ts hts=>?_) (fun D ys H' hD h=>?_)⟩
    · obtain ⟨sm,eD,hz⟩:=h
      obtain ⟨r,x,rfl,ex,ce,cs,g1,_,g2,g3⟩:=RefL.get R2 e
      have hi:i < xs.length:=(List.getElem?_eq_some_iff.mp e).1
      obtain ⟨t0,t1,rfl⟩:∃ t0 t1,ts = [t0,t1]:=by
        match ts,hts with
        | [t0,t1],_=>exact ⟨t0,t1,rfl⟩
      have hcl:cs.length = zs.length:=by rw [g3.1,(ok.rows x (List.mem_of_getElem? ex)).len,ok.len]
      refine ⟨r,_,rfl,SqT.of (sm _ _ g1),rfl,_,_,rfl,_,_,rfl,rfl,⟨[some (.ref ce),some (.int x.2)],rfl,rfl⟩,?_⟩
      have sA:=s2.trans sm
      refine ⟨_,rfl,ol,rfl,⟨_,SqL.of (sA _ _ hol)⟩,compG_list (xs:=vN os) (fun D2 j ws H3=>Same H' H3∧H3 D2 = some (.lst ws)∧ws = prm (os.take j) cs) (fun D2 hD2=>⟨same_new hD2 _,upd_same,rfl⟩) (fun D2 j ws H3 hD2 _ h=>SqL.of (h.1 _ _ (sA _ _ hol))) (fun D2 j y2 ws H3 hD2 e2 h ts2 hts2=>?_) (fun D2 ws H3 hD2 h=>?_)⟩
      · obtain ⟨s3,eD2,rfl⟩:=h
        obtain ⟨k,rfl,ek⟩:=vN_of e2
        have hk:=pm.lt k (List.mem_of_getElem? ek)
        have ez:=List.getElem?_eq_getElem (l:=cs) (i:=k) (by rw [hcl]; exact hk)
        have hj:j < (vN os).length:=(List.getElem?_eq_some_iff.mp e2).1
        obtain ⟨u0,rfl⟩:∃ u0,ts2 = [u0]:=by
          match ts2,hts2 with
          | [u0],_=>exact ⟨u0,rfl⟩
        refine ⟨⟨[some (.int (k:Int))],rfl,rfl⟩,?_⟩
        refine ⟨_,rfl,_,rfl,ce,_,_,_,rfl,rfl,SqL.of (s3 _ _ (sm _ _ g2)),atI_nat ez,CYes.mk hj eD2 (small1000 ?_) ⟨s3.upd hD2,upd_same,?_⟩⟩
        · rw [(prm_get (os:=os.take j) (xs:=cs) fun k hk=>by rw [hcl]; exact pm.lt k (List.mem_of_mem_take hk)).1,List.length_take]; omega
        · rw [take_snoc ek,prm_snoc ez]
      · obtain ⟨s3,eD2,rfl⟩:=h
        rw [hvl,List.take_length] at eD2
        have nD2:D2 ≠ D:=fun z=>by rw [z,eD] at hD2; cases hD2
        refine ⟨_,rfl,small2,fun tt_ htt=>?_⟩
        have s4:=same_new htt (.tup [.ref D2,.int x.2])
        have eT:upd H3 tt_ (.tup [.ref D2,.int x.2]) tt_ = some (.tup [.ref D2,.int x.2]):=upd_same
        have eD4:=s4 _ _ (s3 _ _ eD)
        have nT:tt_ ≠ D:=fun z=>by rw [z,s3 _ _ eD] at htt; cases htt
        generalize upd H3 tt_ (.tup [.ref D2,.int x.2]) = H4 at s4 eT eD4 ⊢
        have sB:=(sm.trans s3).trans s4
        have hrow:RowA NT (hide H4 D) tt_ (trn os x):=⟨D2,prm os cs,hide_of eT nT,trivial,hide_of (s4 _ _ eD2) nD2,CL.same (RefL.prm g3 fun k hk=>by rw [← g3.1,hcl]; exact pm.lt k hk) (hide_keep sB hD)⟩
        refine CYes.mk hi eD4 (small1000 (by have:=hz.1; rw [List.length_map,List.length_take] at this; omega)) ⟨sB.upd hD,upd_same,?_⟩
        rw [hide_upd,take_snoc ex,List.map_append]
        exact RefL.snoc (RefL.mono hz fun _ _ p=>p.same (hide_mono (s3.trans s4))) hrow
    · obtain ⟨sm,eD,hz⟩:=h
      rw [hR.1,List.take_length] at hz
      exact ⟨sm,D,ys,eD,RefL.mono hz fun _ _ p=>p.same (hide_le H' D),rfl⟩
  rintro σ3 H3 ⟨t3,r2,zx,er2,hz2,rfl⟩
  have s3:=s2.trans t3
  have ht3:=s3 _ _ ht
  have okT:=(ok.trn pm).same s3
  refine ⟨_,rfl,t,_,_,_,_,rfl,ht3,bl.k_Table,bl.na_Table_name,f2,_,rfl,_,rfl,_,rfl,t,_,_,_,_,rfl,ht3,bl.k_Table,bl.na_Table_outcome,f4,_,rfl,t,_,_,_,_,rfl,ht3,bl.k_Table,bl.na_Table_way,f3,_,rfl,fun x dx' hx hdx hne=>?_⟩
  have s9:Same H3 (upd (upd H3 dx' (.own x)) x (.ins qK dx' [])):=(same_new hdx _).upd hx
  have hl200:(rws.map (trn os)).length ≤ 200:=okT.few
  have ok9:=okT.same s9
  refine ⟨x,dx',n2,d2,ou,r2,nm,wy,prm os zs,prm os dv,zx,prm os bs,o,rws.map (trn os),rfl,upd_same,s9 _ _ (t3 _ _ (t2 _ _ en2)),ok9.words,ok9.once,ok9.one,ok9.four,ok9.way,ok9.sum,s9 _ _ (t3 _ _ ed2),ok9.doms,ok9.out,s9 _ _ er2,hz2.same s9,by rw [hz2.1]; exact hl200,by rw [ok9.len]; exact ok9.four,ok9.rows,fun H' fs' rl' xs' k1 k2 k3 k3a k3b k3c ⟨na',dl',k3d,k3e,k3f,k3g⟩ k4 k5=>⟨rfl,q x H' (s3.trans fun b u e=>k1 b u (ne_of_none e hx) (s9 _ _ e)) ⟨rl',dx',na',dl',fs',xs',k2,k3,k3c,k3a,k3b,k3d,k3e,k3f,k3g,k4,k5,by rw [k5.1]; exact hl200⟩⟩⟩
theorem O_55 (F:Fun K "_law_table" "_law_table" Y55 f fd) (bl:Bl K mg qA qB qC qD qE qF qG qH qI qJ qK qL qM) (k_Table:MkCallee CX0 P w K mg base 6 "Table" qK ["self", "name", "names", "domains", "outcome", "way", "rows"] (J17 K qA qB qC qD qE qF qG qH qI qJ qK qL qM)) (c__law_word:Callee P w K mg base 7 "_law_word" ["cell", "k"] (J57 K qA qB qC qD qE qF qG qH qI qJ qK qL qM)) (c__law_domain:Callee P w K mg base 7 "_law_domain" ["column"] (J44 K qA qB qC qD qE qF qG qH qI qJ qK qL qM)) (c__law_rows:Callee P w K mg base 7 "_law_rows" ["bit_rows", "columns"] (J51 K qA qB qC qD qE qF qG qH qI qJ qK qL qM)):FnOk P w K mg base CX0 8 f fd ["head", "columns", "out", "way", "bit_rows"] (J55 K qA qB qC qD qE qF qG qH qI qJ qK qL qM):=by
  refine F.ok Z55 (fun vs H Q E h=>?_) (fun cdv A outer s H vs Q E hr h=>?_)
  · obtain ⟨h,cl,ol,bl_,wy,xs,zs,cs,oc,ws,wi,rfl,hcl,hcs,hok,hb1,hb4,hol,ook,hwy,hsum,hbl_,hz,h200,hbo,q⟩:=h
    rfl
  obtain ⟨h,cl,ol,bl_,wy,xs,zs,cs,oc,ws,wi,rfl,hcl,hcs,hok,hb1,hb4,hol,ook,hwy,hsum,hbl_,hz,h200,hbo,q⟩:=h
  refine ⟨_,(pss_cut (ps_comp (i:=5) Z55.nd rfl (Or.inl rfl) (pi_range1 rfl bl.range_ (pa_cons (pe_callB call_len_seq rfl bl.len_ PySem.boot_len (pa_cons (pv 1) pa_nil)) pa_nil)) (cmpOk_free (N:=["j", "head"]) (fr:=[0]) (cl:=[("head",s.heap.objs.size + 1)]) rfl rfl (by decide +kernel) (by decide +kernel) rfl (by decide +kernel) rfl rfl rfl (List.forall_mem_cons.mpr ⟨rfl,List.forall_mem_nil _⟩) rfl) rfl (fun _ _ _ _=>pif_nil) (fun _ _ _ _=>(pe_fn c__law_word hr rfl (pa_cons (pe_op op_fdiv (pv 1) pe_int) (pa_cons (pe_op op_add pe_int (pv 0)) pa_nil)))))
     (pss_cut (ps_comp (i:=6) Z55.nd rfl (Or.inl rfl) (pi_list (pv 1)) (cmpOk_plain rfl (by decide +kernel) (by decide +kernel) (by decide +kernel) rfl) rfl (fun _ _ _ _=>pif_nil) (fun _ _ _ _=>(pe_fn c__law_domain hr rfl (pa_cons (pv 0) pa_nil))))
     (pss_one (ps_ret (pe_mk k_Table pass0 hr rfl (pa_cons (pe_fn c__law_word hr rfl (pa_cons (pe_op op_fdiv (pv 0) pe_int) (pa_cons pe_int pa_nil))) (pa_cons (pv 5) (pa_cons (pv 6) (pa_cons (pe_fn c__law_domain hr rfl (pa_cons (pv 2) pa_nil)) (pa_cons (pv 3) (pa_cons (pe_fn c__law_rows hr rfl (pa_cons (pv 4) (pa_cons (pv 1) pa_nil))) pa_nil))))))))))),?_⟩
  have hxl:xs.length = cs.length:=hcs.1
  refine ⟨fun σ' H'=>Same H H'∧∃ na:Addr,H' na = some (.lst (((List.range cs.length).map fun j:Nat=>wd (h / 16) (1 + (0 + (j:Int)))).map V.str))∧σ' = [some (.int h),some (.ref cl),some (.ref ol),some (.str wy),some (.ref bl_),some (.ref na),none],?_,?_⟩
  · refine ⟨_,rfl,cl,_,rfl,.inl (SqL.of hcl),_,rfl,(by show -(2 ^ 62) ≤ ((xs.length:Nat):Int); omega),(by show ((xs.length:Nat):Int) < 2 ^ 62; omega),comp_range (fun D i zs H'=>Same H H'∧H' D = some (.lst zs)∧zs = ((List.range i).map fun j:Nat=>wd (h / 16) (1 + (0 + (j:Int)))).map V.str) (fun D hD=>⟨same_new hD _,upd_same,rfl⟩) (fun D i zs H' hD hi hh=>?_) (fun D zs H' hD hh=>?_)⟩
    · obtain ⟨sm,eD,rfl⟩:=hh
      refine ⟨_,rfl,_,_,rfl,rfl,⟨by decide,by decide⟩,_,rfl,_,_,rfl,rfl,_,_,rfl,CYes.mk hi eD (small1000 (by rw [List.length_map,List.length_map,List.length_range]; omega)) ⟨sm.upd hD,upd_same,?_⟩⟩
      rw [List.range_succ,List.map_append,List.map_append]
      rfl
    · obtain ⟨sm,eD,rfl⟩:=hh
      refine ⟨sm,D,?_,rfl⟩
      rw [eD,← hxl]
      rfl
  rintro σ5 H5 ⟨t5,na,ena,rfl⟩
  have eco5:=t5 _ _ hcl
  have hco5:=hcs.same t5
  refine ⟨fun σ' H'=>Same H5 H'∧∃ (dl:Addr) (dv:List V),H' dl = some (.lst dv)∧RefL dv cs (DomX qI qJ H')∧σ' = [some (.int h),some (.ref cl),some (.ref ol),some (.str wy),some (.ref bl_),some (.ref na),some (.ref dl)],?_,?_⟩
  · refine ⟨_,rfl,cl,rfl,⟨_,SqL.of eco5⟩,comp_list (xs:=xs) (fun D i zs H'=>Same H5 H'∧H' D = some (.lst zs)∧RefL zs (cs.take i) (DomX qI qJ (hide H' D))) (fun D hD=>⟨same_new hD _,upd_same,RefL.nil⟩) (fun D i zs H' hD _ hh=>SqL.of (hh.1 _ _ eco5)) (fun D i y zs H' hD e hh=>?_) (fun D zs H' hD hh=>?_)⟩
    · obtain ⟨sm,eD,hz⟩:=hh
      obtain ⟨l,c,rfl,ec,hc⟩:=RefL.get (hco5.same sm) e
      have hi:i < xs.length:=(List.getElem?_eq_some_iff.mp e).1
      have ok:=hok c (List.mem_of_getElem? ec)
      refine ⟨_,rfl,l,c,rfl,hc,hok c (List.mem_of_getElem? ec),fun d H2 s' hd=>?_⟩
      have eD2:=s' _ _ eD
      have hlz:zs.length ≤ 4:=by have:=hz.1; rw [List.length_take] at this; omega
      have hd2:DomX qI qJ (hide H2 D) d c:=hd.hide eD2 (fun x hx=>by
        obtain ⟨j,ej⟩:=List.getElem?_of_mem hx
        obtain ⟨r,_,er,_⟩:=RefL.get hz ej
        exact ⟨r,er⟩) (fun hw=>by
        obtain ⟨p0,e0,l0⟩:=ok.first
        have:=ok.w0 hw p0 e0
        have:=ok.le
        omega)
      refine CYes.mk hi eD2 (small1000 (by omega)) ⟨(sm.trans s').upd hD,upd_same,?_⟩
      rw [take_snoc ec,hide_upd]
      exact RefL.snoc (RefL.mono hz fun _ _ p=>p.same (hide_mono s')) hd2
    · obtain ⟨sm,eD,hz⟩:=hh
      rw [hxl,List.take_length] at hz
      exact ⟨sm,D,zs,eD,RefL.mono hz fun _ _ p=>p.same (hide_le H' D),rfl⟩
  rintro σ6 H6 ⟨t6,dl,dv,edl,hdl,rfl⟩
  have s6:=t5.trans t6
  have ena6:=t6 _ _ ena
  have hnames:(∀ z ∈ wd (h / 16) 0 :: (List.range cs.length).map (fun j:Nat=>wd (h / 16) (1 + (0 + (j:Int)))),isw z = true)∧(wd (h / 16) 0 :: (List.range cs.length).map (fun j:Nat=>wd (h / 16) (1 + (0 + (j:Int))))).Nodup:=by
    constructor
    · intro z hz
      rcases List.mem_cons.mp hz with rfl | hz
      · exact wd_isw _ _
      · obtain ⟨j,_,rfl⟩:=List.mem_map.mp hz
        exact wd_isw _ _
    · have nd:=wds_nodup (c:=h / 16) (n:=cs.length + 1) (by omega) (fun j:Nat=>(j:Int)) (fun j hj=>⟨by omega,by omega⟩) fun i j e=>by omega
      have e:((List.range (cs.length + 1)).map fun j:Nat=>wd (h / 16) (j:Int)) = wd (h / 16) 0 :: (List.range cs.length).map fun j:Nat=>wd (h / 16) (1 + (0 + (j:Int))):=by
        rw [List.range_succ_eq_map,List.map_cons,List.map_map]
        congr 1
        apply List.map_congr_left
        intro j _
        show wd (h / 16) ((j + 1:Nat):Int) = _
        congr 1
        omega
      rw [e] at nd
      exact nd
  have hzl:((List.range cs.length).map fun j:Nat=>wd (h / 16) (1 + (0 + (j:Int)))).length = cs.length:=by simp
  have hbl:(cs.map Col.b).length = cs.length:=List.length_map _
  refine ⟨_,rfl,_,_,rfl,rfl,⟨by decide,by decide⟩,_,_,rfl,_,rfl,_,rfl,_,rfl,ol,oc,rfl,hol.same s6,ook,fun ou H7 s7 houx=>?_⟩
  have hou:=houx.dom
  have sA:=s6.trans s7
  refine ⟨_,rfl,_,rfl,_,rfl,bl_,cl,zs,xs,ws,cs,rfl,sA _ _ hbl_,hz.same sA,h200,sA _ _ hcl,hcs.same sA,hok,hb4,fun w hw=>(hbo w hw).len,fun rl rx rws H8 s8 erl hrl hof=>?_⟩
  intro x dx hx hdx hne
  have s9:Same H8 (upd (upd H8 dx (.own x)) x (.ins qK dx [])):=(same_new hdx _).upd hx
  have u9:=s7.trans (s8.trans s9)
  have hrk:=hof.rowOk hbo hok
  have hrxl:rx.length = rws.length:=hrl.1
  have hl200:rws.length ≤ 200:=by rw [hof.1]; exact h200
  have hdom:RefL dv (cs.map Col.b) (Dom qI qJ H6):=⟨by rw [List.length_map]; exact hdl.1,fun j b e=>by
    rw [List.getElem?_map] at e
    cases ec:cs[j]? with
    | none=>rw [ec] at e; cases e
    | some c =>
      rw [ec] at e
      cases e
      obtain ⟨r,e1,p⟩:=hdl.2 j c ec
      exact ⟨r,e1,p.dom⟩⟩
  have hsum' : wy = Str.ofString "sum" → ∃ dx fs,H7 ou = some (.ins qI dx fs):=fun z=>by
    rcases houx with ⟨_,dx,fs,e,_⟩ | ⟨hw,_⟩
    · exact ⟨dx,fs,e⟩
    · rw [hsum z] at hw; cases hw
  refine ⟨x,dx,na,dl,ou,rl,_,_,(List.range cs.length).map fun j:Nat=>wd (h / 16) (1 + (0 + (j:Int))),dv,rx,cs.map Col.b,oc.b,rws,rfl,upd_same,u9 _ _ ena6,hnames.1,hnames.2,by rw [hzl]; exact hb1,by rw [hzl]; exact hb4,List.mem_of_getElem? hwy,fun z=>?_,u9 _ _ edl,RefL.mono hdom fun _ _ p=>p.same u9,hou.same (s8.trans s9),s9 _ _ erl,(RL.any hrl).same s9,by omega,by rw [hbl]; exact hb4,hrk,fun H' fs rl' xs' k1 k2 k3 k3a k3b k3c ⟨na',dl',k3d,k3e,k3f,k3g⟩ k4 k5=>?_⟩
  · obtain ⟨dx2,fs2,e2⟩:=hsum' z
    exact ⟨dx2,fs2,s9 _ _ (s8 _ _ e2)⟩
  · have s10:Same H8 H':=fun b u e=>k1 b u (ne_of_none e hx) (s9 _ _ e)
    have s6' : Same H6 H':=(s7.trans s8).trans s10
    refine ⟨rfl,q x ou dv rws H' ((s6.trans s7).trans (s8.trans s10)) ⟨rl',dx,na',dl',fs,xs',k2,k3,k3c,k3a,k3b,k3d,k3e,k3f,k3g,k4,k5,by rw [k5.1]; exact hl200⟩ ⟨hnames.1,hnames.2,by rw [hzl]; exact hb1,by rw [hzl]; exact hb4,List.mem_of_getElem? hwy,fun z=>?_,RefL.mono hdom fun _ _ p=>p.same s6',hou.same (s8.trans s10),by rw [hbl,hzl],hrk,hl200⟩ (RefL.mono hdl fun _ _ p=>p.same s6') (houx.same (s8.trans s10)) hof⟩
    obtain ⟨dx2,fs2,e2⟩:=hsum' z
    exact ⟨dx2,fs2,s10 _ _ (s8 _ _ e2)⟩
theorem O_38 (F:Fun K "law" "law" Y38 f fd) (bl:Bl K mg qA qB qC qD qE qF qG qH qI qJ qK qL qM) (c__law_cell_at:Callee P w K mg base 8 "_law_cell_at" ["script", "k"] (J41 K qA qB qC qD qE qF qG qH qI qJ qK qL qM)) (c__law_column:Callee P w K mg base 8 "_law_column" ["m", "most"] (J43 K qA qB qC qD qE qF qG qH qI qJ qK qL qM)) (c__law_way:Callee P w K mg base 8 "_law_way" ["turn", "out"] (J56 K qA qB qC qD qE qF qG qH qI qJ qK qL qM)) (c__law_bit_rows:Callee P w K mg base 8 "_law_bit_rows" ["seeds", "columns", "out"] (J40 K qA qB qC qD qE qF qG qH qI qJ qK qL qM)) (c__law_table:Callee P w K mg base 8 "_law_table" ["head", "columns", "out", "way", "bit_rows"] (J55 K qA qB qC qD qE qF qG qH qI qJ qK qL qM)) (c__law_rows:Callee P w K mg base 8 "_law_rows" ["bit_rows", "columns"] (J51 K qA qB qC qD qE qF qG qH qI qJ qK qL qM)) (c__law_order:Callee P w K mg base 8 "_law_order" ["cell", "count"] (J49 K qA qB qC qD qE qF qG qH qI qJ qK qL qM)) (c_turned:Callee P w K mg base 8 "turned" ["table", "order"] (J64 K qA qB qC qD qE qF qG qH qI qJ qK qL qM)) (c__law_points:Callee P w K mg base 8 "_law_points" ["columns"] (J50 K qA qB qC qD qE qF qG qH qI qJ qK qL qM)) (c__law_has:Callee P w K mg base 8 "_law_has" ["table", "names", "rows", "columns"] (J47 K qA qB qC qD qE qF qG qH qI qJ qK qL qM)) (c__law_mixed:Callee P w K mg base 8 "_law_mixed" ["cell", "k"] (J48 K qA qB qC qD qE qF qG qH qI qJ qK qL qM)) (c__law_seeds:Callee P w K mg base 8 "_law_seeds" ["cells", "most"] (J53 K qA qB qC qD qE qF qG qH qI qJ qK qL qM)) (c__law_word:Callee P w K mg base 8 "_law_word" ["cell", "k"] (J57 K qA qB qC qD qE qF qG qH qI qJ qK qL qM)) (c__law_codes:Callee P w K mg base 8 "_law_codes" ["columns", "point", "turn"] (J42 K qA qB qC qD qE qF qG qH qI qJ qK qL qM)) (c_alike:Callee P w K mg base 8 "alike" ["one", "other"] (J31 K qA qB qC qD qE qF qG qH qI qJ qK qL qM)) (c__law_same:Callee P w K mg base 8 "_law_same" ["found", "due"] (J52 K qA qB qC qD qE qF qG qH qI qJ qK qL qM)) (c__law_domain:Callee P w K mg base 8 "_law_domain" ["column"] (J44 K qA qB qC qD qE qF qG qH qI qJ qK qL qM)) (c_verdict:Callee P w K mg base 8 "verdict" ["table", "codes"] (J65 K qA qB qC qD qE qF qG qH qI qJ qK qL qM)) (c__law_due:Callee P w K mg base 8 "_law_due" ["way", "bit_rows", "out", "point"] (J45 K qA qB qC qD qE qF qG qH qI qJ qK qL qM)):FnOk P w K mg base CX0 9 f fd ["script"] (J38 K):=by
  refine F.ok Z38 (fun vs H Q E h=>?_) (fun cdv A outer s H vs Q E hr h=>?_)
  · obtain ⟨a,ns,rfl,hS,h63,q⟩:=h
    rfl
  obtain ⟨a,ns,rfl,hS,h63,q⟩:=h
  refine ⟨_,(pss_cut (ps_set (i:=1) Z38.nd rfl (Or.inr rfl) (pe_fn c__law_cell_at hr rfl (pa_cons (pv 0) (pa_cons pe_int pa_nil))))
     (pss_cut (ps_set (i:=2) Z38.nd rfl (Or.inl rfl) (pe_fn c__law_cell_at hr rfl (pa_cons (pv 0) (pa_cons pe_int pa_nil))))
     (pss_cut (ps_set (i:=3) Z38.nd rfl (Or.inr rfl) (pe_op op_add pe_int (pe_op op_mod (pv 1) pe_int)))
     (pss_cut (ps_set (i:=4) Z38.nd rfl (Or.inr rfl) (pe_comp (pi_range1 rfl bl.range_ (pa_cons (pv 3) pa_nil)) (cmpOk_free (N:=["j", "head", "count"]) (fr:=[1,3]) (cl:=[("head",s.heap.objs.size + 1),("count",s.heap.objs.size + 1 + 1)]) rfl rfl (by decide +kernel) (by decide +kernel) rfl (by decide +kernel) rfl rfl rfl (List.forall_mem_cons.mpr ⟨rfl,List.forall_mem_cons.mpr ⟨rfl,List.forall_mem_nil _⟩⟩) rfl) rfl (fun _ _ _ _=>pif_nil) (fun _ _ _ _=>(pe_fn c__law_column hr rfl (pa_cons (pe_fn c__law_mixed hr rfl (pa_cons (pv 1) (pa_cons (pe_op op_add pe_int (pv 0)) pa_nil))) (pa_cons (pe_ix (ix_listK (K:=K) rfl) (pe_lst (pa_cons pe_int (pa_cons pe_int (pa_cons pe_int (pa_cons pe_int pa_nil))))) (pe_op op_sub (pv 2) pe_int) (fun _ _=>rfl)) pa_nil))))))
     (pss_cut (ps_set (i:=5) Z38.nd rfl (Or.inl rfl) (pe_fn c__law_column hr rfl (pa_cons (pe_fn c__law_mixed hr rfl (pa_cons (pe_fn c__law_cell_at hr rfl (pa_cons (pv 0) (pa_cons pe_int pa_nil))) (pa_cons pe_int pa_nil))) (pa_cons pe_int pa_nil))))
     (pss_cut (ps_set (i:=6) Z38.nd rfl (Or.inl rfl) (pe_fn c__law_way hr rfl (pa_cons (pv 2) (pa_cons (pv 5) pa_nil))))
     (pss_cut (ps_set (i:=7) Z38.nd rfl (Or.inl rfl) (pe_fn c__law_bit_rows hr rfl (pa_cons (pe_fn c__law_seeds hr rfl (pa_cons (pe_slice sl_list (pv 0) (po_some pe_int) po_none) (pa_cons pe_int pa_nil))) (pa_cons (pv 4) (pa_cons (pv 5) pa_nil)))))
     (pss_cut (ps_set (i:=8) Z38.nd rfl (Or.inl rfl) (pe_fn c__law_table hr rfl (pa_cons (pv 1) (pa_cons (pv 4) (pa_cons (pv 5) (pa_cons (pv 6) (pa_cons (pv 7) pa_nil)))))))
     (pss_cut (ps_set (i:=9) Z38.nd rfl (Or.inr rfl) (pe_comp (pi_range1 rfl bl.range_ (pa_cons (pv 3) pa_nil)) (cmpOk_free (N:=["j", "head"]) (fr:=[1]) (cl:=[("head",s.heap.objs.size + 1)]) rfl rfl (by decide +kernel) (by decide +kernel) rfl (by decide +kernel) rfl rfl rfl (List.forall_mem_cons.mpr ⟨rfl,List.forall_mem_nil _⟩) rfl) rfl (fun _ _ _ _=>pif_nil) (fun _ _ _ _=>(pe_fn c__law_word hr rfl (pa_cons (pe_op op_fdiv (pv 1) pe_int) (pa_cons (pe_op op_add pe_int (pv 0)) pa_nil))))))
     (pss_cut (ps_set (i:=10) Z38.nd rfl (Or.inl rfl) (pe_fn c__law_rows hr rfl (pa_cons (pv 7) (pa_cons (pv 4) pa_nil))))
     (pss_cut (ps_set (i:=11) Z38.nd rfl (Or.inr rfl) (pe_fn c__law_order hr rfl (pa_cons (pe_op op_fdiv (pv 2) pe_int) (pa_cons (pv 3) pa_nil))))
     (pss_cut (ps_set (i:=12) Z38.nd rfl (Or.inl rfl) (pe_fn c_turned hr rfl (pa_cons (pv 8) (pa_cons (pe_callTy call_list_of rfl bl.list_ PyProof.Rows.boot_list (pa_cons (pv 11) pa_nil)) pa_nil))))
     (pss_cut (ps_comp (i:=13) Z38.nd rfl (Or.inl rfl) (pi_list (pv 11)) (cmpOk_free (N:=["k", "columns"]) (fr:=[4]) (cl:=[("columns",s.heap.objs.size + 1 + 1 + 1)]) rfl rfl (by decide +kernel) (by decide +kernel) rfl (by decide +kernel) rfl rfl rfl (List.forall_mem_cons.mpr ⟨rfl,List.forall_mem_nil _⟩) rfl) rfl (fun _ _ _ _=>pif_nil) (fun _ _ _ _=>(pe_ix (ix_listK (K:=K) rfl) (pv 1) (pv 0) (fun _ _=>rfl))))
     (pss_cut (ps_compN (i:=14) Z38.nd rfl (Or.inl rfl) (pi_list (pv 10)) (cmpOkN_mk (N:=["cells", "code", "order"]) (k:=2) (fr:=[11]) (cl:=[("order",s.heap.objs.size + 1 + 1 + 1 + 1 + 1)]) rfl rfl (by decide +kernel) rfl ⟨⟨_,_,rfl,rfl,rfl,rfl,rfl,fun _=>rfl⟩,trivial⟩ (List.forall_mem_cons.mpr ⟨rfl,List.forall_mem_nil _⟩) (fun _=>rfl)) rfl (fun _ C1 _ _=>(gTupK (K:=K) (n:=2) rfl rfl (pgs_cons (pg_name (i:=0) (show (["cells", "code", "order"]:List Str).Nodup by decide +kernel) rfl (Or.inr rfl) (Or.inl rfl)) (pgs_cons (pg_name (i:=1) (show (["cells", "code", "order"]:List Str).Nodup by decide +kernel) rfl (Or.inl rfl) (Or.inr rfl)) pgs_nil)))) (fun _ C1 _ _=>pif_nil) (fun _ C1 _ _=>(pe_tup (pa_cons (pe_compG (pi_listK (K:=K) rfl (pv 2)) (cmpOkG_free (N:=["k", "cells"]) (k:=1) (fr:=[0]) (cl:=[("cells",C1 + 1)]) rfl rfl (by decide +kernel) (by decide +kernel) rfl rfl (List.forall_mem_cons.mpr ⟨rfl,List.forall_mem_nil _⟩) rfl) rfl (fun _ C2 _ _=>(pg_name (i:=0) (show (["k", "cells"]:List Str).Nodup by decide +kernel) rfl (Or.inl rfl) (Or.inr rfl))) (fun _ C2 _ _=>pif_nil) (fun _ C2 _ _=>(pe_ix (ix_listK (K:=K) rfl) (pv 1) (pv 0) (fun _ _=>rfl)))) (pa_cons (pv 1) pa_nil)))))
     (pss_cut (ps_if (PW.pt (pw_or (pt_not (pt_val (pe_fn c__law_has hr rfl (pa_cons (pv 12) (pa_cons (pe_comp (pi_list (pv 11)) (cmpOk_free (N:=["k", "names"]) (fr:=[9]) (cl:=[("names",s.heap.objs.size + 1 + 1 + 1 + 1)]) rfl rfl (by decide +kernel) (by decide +kernel) rfl (by decide +kernel) rfl rfl rfl (List.forall_mem_cons.mpr ⟨rfl,List.forall_mem_nil _⟩) rfl) rfl (fun _ _ _ _=>pif_nil) (fun _ _ _ _=>(pe_ix (ix_listK (K:=K) rfl) (pv 1) (pv 0) (fun _ _=>rfl)))) (pa_cons (pv 14) (pa_cons (pv 13) pa_nil))))))) (pw_or1 (pt_not (pt_val (pe_fn c__law_has hr rfl (pa_cons (pv 8) (pa_cons (pv 9) (pa_cons (pv 10) (pa_cons (pv 4) pa_nil))))))))))
     (pss_one (ps_ret pe_bl))
     pss_nil)
     (pss_cut (ps_if (PW.pt (pw_or (pt_cmpR op_ne (pe_fld (pv 12) rfl) (pe_fn c__law_word hr rfl (pa_cons (pe_op op_fdiv (pv 1) pe_int) (pa_cons pe_int pa_nil))) (nomark _)) (pw_or (pt_cmpR op_ne (pe_fld (pv 12) rfl) (pv 6) (nomark _)) (pw_or1 (pt_not (pt_val (pe_fn c_alike hr rfl (pa_cons (pe_fld (pv 12) rfl) (pa_cons (pe_fn c__law_domain hr rfl (pa_cons (pv 5) pa_nil)) pa_nil)))))))))
     (pss_one (ps_ret pe_bl))
     pss_nil)
     (pss_cut (ps_for PassesOwn.never rfl (pi_list (pe_fn c__law_points hr rfl (pa_cons (pv 4) pa_nil))) (pg_name (i:=15) Z38.nd rfl (Or.inl rfl))
     (pss_cut (ps_set (i:=16) Z38.nd rfl (Or.inr rfl) (pe_fn c__law_codes hr rfl (pa_cons (pv 4) (pa_cons (pv 15) (pa_cons (pe_op op_fdiv (pv 2) pe_int) pa_nil)))))
     (pss_one (ps_if (pt_not (pt_val (pe_fn c__law_same hr rfl (pa_cons (pe_fn c_verdict hr rfl (pa_cons (pv 12) (pa_cons (pe_comp (pi_list (pv 11)) (cmpOk_free (N:=["k", "codes"]) (fr:=[16]) (cl:=[("codes",s.heap.objs.size + 1 + 1 + 1 + 1 + 1 + 1)]) rfl rfl (by decide +kernel) (by decide +kernel) rfl (by decide +kernel) rfl rfl rfl (List.forall_mem_cons.mpr ⟨rfl,List.forall_mem_nil _⟩) rfl) rfl (fun _ _ _ _=>pif_nil) (fun _ _ _ _=>(pe_ix (ix_listK (K:=K) rfl) (pv 1) (pv 0) (fun _ _=>rfl)))) pa_nil))) (pa_cons (pe_fn c__law_due hr rfl (pa_cons (pv 6) (pa_cons (pv 7) (pa_cons (pv 5) (pa_cons (pv 15) pa_nil))))) pa_nil)))))
     (pss_one (ps_ret pe_bl))
     pss_nil))))
     (pss_cut (ps_comp (i:=17) Z38.nd rfl (Or.inl rfl) (pi_range1 rfl bl.range_ (pa_cons (pv 3) pa_nil)) (cmpOk_free (N:=["k", "order"]) (fr:=[11]) (cl:=[("order",s.heap.objs.size + 1 + 1 + 1 + 1 + 1)]) rfl rfl (by decide +kernel) (by decide +kernel) rfl (by decide +kernel) rfl rfl rfl (List.forall_mem_cons.mpr ⟨rfl,List.forall_mem_nil _⟩) rfl) rfl (fun _ _ _ _=>pif_nil) (fun _ _ _ _=>(pe_bmK (K:=K) rfl PySem.F.plainAttrs_list PySem.F.slot_list_index PySem.F.type_list_index (mt_indexK (K:=K) rfl) (pv 1) (pa_cons (pv 0) pa_nil))))
     (pss_one (ps_ret (pe_fn c__law_has hr rfl (pa_cons (pe_fn c_turned hr rfl (pa_cons (pv 12) (pa_cons (pv 17) pa_nil))) (pa_cons (pv 9) (pa_cons (pv 10) (pa_cons (pv 4) pa_nil))))))))))))))))))))))))),?_⟩
  refine ⟨fun σ' H'=>H' = H∧∃ h:Int,σ' = [some (.ref a),some (.int h),none,none,none,none,none,none,none,none,none,none,none,none,none,none,none,none],⟨_,rfl,a,ns,0,rfl,hS,Int.le_refl _,fun r=>⟨rfl,r,rfl⟩⟩,?_⟩
  rintro σ1 H1 ⟨rfl,h,rfl⟩
  refine ⟨fun σ' H'=>H' = H1∧∃ tn:Int,σ' = [some (.ref a),some (.int h),some (.int tn),none,none,none,none,none,none,none,none,none,none,none,none,none,none,none],⟨_,rfl,a,ns,2,rfl,hS,by decide,fun r=>⟨rfl,r,rfl⟩⟩,?_⟩
  rintro σ2 H2 ⟨rfl,tn,rfl⟩
  refine ⟨fun σ' H'=>H' = H2∧σ' = [some (.ref a),some (.int h),some (.int tn),some (.int (1 + h % 4)),none,none,none,none,none,none,none,none,none,none,none,none,none,none],⟨_,rfl,_,_,rfl,rfl,(by show (0:Int) < 4; decide),_,_,rfl,rfl,rfl,rfl⟩,?_⟩
  rintro σ3 H3 ⟨rfl,rfl⟩
  have h0:=Int.emod_nonneg h (show (4:Int) ≠ 0 by decide)
  have h1:=Int.emod_lt_of_pos h (show (0:Int) < 4 by decide)
  obtain ⟨v4,hv4,hv1,hv6⟩:=most4 (h:=h)
  refine ⟨fun σ' H'=>Same H3 H'∧∃ (co:Addr) (xs:List V) (cs:List Col),H' co = some (.lst xs)∧ColsN NT H' xs cs∧(∀ c ∈ cs,ColOk c)∧cs.length = (1 + h % 4).toNat∧σ' = [some (.ref a),some (.int h),some (.int tn),some (.int (1 + h % 4)),some (.ref co),none,none,none,none,none,none,none,none,none,none,none,none,none],?_,?_⟩
  · refine ⟨_,rfl,_,rfl,(by show -(2 ^ 62) ≤ 1 + h % 4; omega),(by show 1 + h % 4 < 2 ^ 62; omega),comp_range (fun D i zs H'=>Same H3 H'∧H' D = some (.lst zs)∧∃ cs:List Col,ColsN (· ≠ D) H' zs cs∧cs.length = i∧∀ c ∈ cs,ColOk c) (fun D hD=>⟨same_new hD _,upd_same,[],RefL.nil,rfl,(fun c hc=>by cases hc)⟩) (fun D i zs H' hD hi hh=>?_) (fun D zs H' hD hh=>?_)⟩
    · obtain ⟨sm,eD,cs,hz,hl,hok⟩:=hh
      refine ⟨_,rfl,_,rfl,_,_,rfl,rfl,_,_,rfl,(by show 0 ≤ 1 + (0 + (i:Int)); omega),(by show 1 + (0 + (i:Int)) ≤ 100; omega),fun r _=>?_⟩
      refine ⟨(by show 4 ≤ sizeLine; decide),fun p hp=>?_⟩
      have u1:=same_new hp (.lst [V.int 6,.int 4,.int 3,.int 2])
      have e1:upd H' p (.lst [V.int 6,.int 4,.int 3,.int 2]) p = some (.lst [V.int 6,.int 4,.int 3,.int 2]):=upd_same
      generalize upd H' p (.lst [V.int 6,.int 4,.int 3,.int 2]) = H5 at u1 e1 ⊢
      refine ⟨_,rfl,_,_,rfl,rfl,p,_,_,_,rfl,rfl,SqL.of e1,hv4,r,v4,rfl,hv1,hv6,fun l c H6 s6 hc ok=>?_⟩
      have eD5:=u1 _ _ eD
      have eD6:=s6 _ _ eD5
      have hlz:zs.length = i:=by rw [hz.1,hl]
      have hc2:ColN (· ≠ D) H6 l c:=hc.wk fun x hx z=>by rw [z,eD5] at hx; cases hx
      have hz2:ColsN (· ≠ D) H6 (zs ++ [.ref l]) (cs ++ [c]):=RefL.snoc (hz.same (u1.trans s6)) hc2
      refine CYes.mk hi eD6 (small1000 (by omega)) ⟨((sm.trans u1).trans s6).upd hD,upd_same,cs ++ [c],hz2.updN (fun z=>z rfl) eD6,by rw [List.length_append,List.length_singleton,hl],fun c' hc'=>?_⟩
      rcases List.mem_append.mp hc' with hc' | hc'
      · exact hok c' hc'
      · rw [show c' = c by simpa using hc']; exact ok
    · obtain ⟨sm,eD,cs,hz,hl,hok⟩:=hh
      exact ⟨sm,D,zs,cs,eD,hz.any,hok,hl,rfl⟩
  rintro σ4 H4 ⟨s4,co,xs,cs,eco,hco,hok,hcn,rfl⟩
  have hc1:1 ≤ cs.length:=by omega
  have hc4:cs.length ≤ 4:=by omega
  have hcI:(1 + h % 4) = (cs.length:Int):=by omega
  refine ⟨fun σ' H'=>Same H4 H'∧∃ (ol:Addr) (oc:Col),ColN NT H' ol oc∧ColOk oc∧σ' = [some (.ref a),some (.int h),some (.int tn),some (.int (1 + h % 4)),some (.ref co),some (.ref ol),none,none,none,none,none,none,none,none,none,none,none,none],⟨_,rfl,a,ns,1,rfl,s4.seq hS,by decide,fun r=>⟨r,0,rfl,by decide,by decide,fun r2 _=>⟨r2,3,rfl,by decide,by decide,fun l c H5 s5 hc ok=>⟨s5,l,c,hc.any,ok,rfl⟩⟩⟩⟩,?_⟩
  rintro σ5 H5 ⟨t5,ol,oc,hol,ook,rfl⟩
  have s5:=s4.trans t5
  have eco5:=t5 _ _ eco
  have hco5:=hco.same t5
  refine ⟨fun σ' H'=>Same H5 H'∧∃ (wy:Str) (wi:Nat),six[wi]? = some wy∧(wy = Str.ofString "sum" → oc.w = false)∧σ' = [some (.ref a),some (.int h),some (.int tn),some (.int (1 + h % 4)),some (.ref co),some (.ref ol),some (.str wy),none,none,none,none,none,none,none,none,none,none,none],⟨_,rfl,_,rfl,tn,ol,oc,rfl,hol,fun wy i H6 s6 hi hs=>⟨s6,wy,i,hi,hs,rfl⟩⟩,?_⟩
  rintro σ6 H6 ⟨t6,wy,wi,hwi,hsum,rfl⟩
  have s6:=s5.trans t6
  have eco6:=t6 _ _ eco5
  have hco6:=hco5.same t6
  have hol6:=hol.same t6
  refine ⟨fun σ' H'=>Same H6 H'∧∃ (bl_:Addr) (zs:List V) (ws:List BW),H' bl_ = some (.lst zs)∧BRL NT H' zs ws∧ws.length ≤ 24∧(∀ w ∈ ws,BitOk cs oc w)∧σ' = [some (.ref a),some (.int h),some (.int tn),some (.int (1 + h % 4)),some (.ref co),some (.ref ol),some (.str wy),some (.ref bl_),none,none,none,none,none,none,none,none,none,none],?_,?_⟩
  · obtain ⟨ms,em,lm⟩:=cut_from ns 3 none
    refine ⟨_,rfl,_,rfl,a,_,rfl,s6.seq hS,fun c1 hc1_=>?_⟩
    rw [show (some (3:Int)) = some ((3:Nat):Int) from rfl,em]
    have u1:=same_new hc1_ (.lst (ms.map V.int))
    have e1:upd H6 c1 (.lst (ms.map V.int)) c1 = some (.lst (ms.map V.int)):=upd_same
    generalize upd H6 c1 (.lst (ms.map V.int)) = H7 at u1 e1 ⊢
    refine ⟨c1,ms,24,rfl,SqL.of e1,by omega,by decide,by decide,fun l ss H8 s8 e8 hss _ hnn=>?_⟩
    have u8:=u1.trans s8
    exact ⟨_,rfl,_,rfl,l,co,ol,ss,xs,cs,oc,rfl,e8,by omega,hnn,u8 _ _ eco6,hco6.same u8,hok,hc1,hc4,hol6.same u8,ook,fun bl_ zs ws H9 s9 e9 hz hwl hbo=>⟨u8.trans s9,bl_,zs,ws,e9,hz.wk fun _ _=>trivial,by omega,hbo,rfl⟩⟩
  rintro σ7 H7 ⟨t7,bl_,zs,ws,ebl,hz,hwl,hbo,rfl⟩
  have eco7:=t7 _ _ eco6
  have hco7:=hco6.same t7
  have hol7:=hol6.same t7
  have hwlen:∀ w ∈ ws,w.1.length = cs.length:=fun w hw=>(hbo w hw).len
  refine ⟨fun σ' H'=>Same H7 H'∧∃ (t ou:Addr) (dv:List V) (rws:List Rw),TF qK H' t (wd (h / 16) 0) wy ou ((List.range cs.length).map fun j:Nat=>wd (h / 16) (1 + (0 + (j:Int)))) dv rws∧TOk qI qJ H' (wd (h / 16) 0) wy ou ((List.range cs.length).map fun j:Nat=>wd (h / 16) (1 + (0 + (j:Int)))) dv rws (cs.map Col.b) oc.b∧RefL dv cs (DomX qI qJ H')∧DomX qI qJ H' ou oc∧RwsOf cs ws rws∧σ' = [some (.ref a),some (.int h),some (.int tn),some (.int (1 + h % 4)),some (.ref co),some (.ref ol),some (.str wy),some (.ref bl_),some (.ref t),none,none,none,none,none,none,none,none,none],⟨_,rfl,_,rfl,_,rfl,_,rfl,_,rfl,h,co,ol,bl_,wy,xs,zs,cs,oc,ws,wi,rfl,eco7,hco7,hok,hc1,hc4,hol7,ook,hwi,hsum,ebl,hz,by omega,hbo,fun t ou dv rws H8 s8 hT hOk hdv hou hof=>⟨s8,t,ou,dv,rws,hT,hOk,hdv,hou,hof,rfl⟩⟩,?_⟩
  rintro σ8 H8 ⟨t8,t,ou,dv,rws,hT,hOk,hdv,hou,hof,rfl⟩
  have hzN:((List.range cs.length).map fun j:Nat=>wd (h / 16) (1 + (0 + (j:Int)))).length = cs.length:=by simp
  generalize hNZ:((List.range cs.length).map fun j:Nat=>wd (h / 16) (1 + (0 + (j:Int)))) = NZ at hT hOk hzN
  refine ⟨fun σ' H'=>Same H8 H'∧∃ na:Addr,H' na = some (.lst (NZ.map V.str))∧σ' = [some (.ref a),some (.int h),some (.int tn),some (.int (1 + h % 4)),some (.ref co),some (.ref ol),some (.str wy),some (.ref bl_),some (.ref t),some (.ref na),none,none,none,none,none,none,none,none],?_,?_⟩
  · refine ⟨_,rfl,_,rfl,(by omega),(by omega),comp_range (fun D i zs H'=>Same H8 H'∧H' D = some (.lst zs)∧zs = ((List.range i).map fun j:Nat=>wd (h / 16) (1 + (0 + (j:Int)))).map V.str) (fun D hD=>⟨same_new hD _,upd_same,rfl⟩) (fun D i zs H' hD hi hh=>?_) (fun D zs H' hD hh=>?_)⟩
    · obtain ⟨sm,eD,rfl⟩:=hh
      refine ⟨_,rfl,_,_,rfl,rfl,⟨by decide,by decide⟩,_,rfl,_,_,rfl,rfl,_,_,rfl,CYes.mk hi eD (small1000 (by rw [List.length_map,List.length_map,List.length_range]; omega)) ⟨sm.upd hD,upd_same,?_⟩⟩
      rw [List.range_succ,List.map_append,List.map_append]
      rfl
    · obtain ⟨sm,eD,rfl⟩:=hh
      refine ⟨sm,D,?_,rfl⟩
      rw [eD,← hNZ,hcn]
  rintro σ9 H9 ⟨t9,na,ena,rfl⟩
  have t79:=t8.trans t9
  refine ⟨fun σ' H'=>Same H9 H'∧∃ (rl:Addr) (rx:List V),H' rl = some (.lst rx)∧RL NT H' rx rws∧σ' = [some (.ref a),some (.int h),some (.int tn),some (.int (1 + h % 4)),some (.ref co),some (.ref ol),some (.str wy),some (.ref bl_),some (.ref t),some (.ref na),some (.ref rl),none,none,none,none,none,none,none],⟨_,rfl,_,rfl,bl_,co,zs,xs,ws,cs,rfl,t79 _ _ ebl,hz.same t79,by omega,t79 _ _ eco7,hco7.same t79,hok,hc4,hwlen,fun rl rx rws' H10 s10 e10 hR hof'=>⟨s10,rl,rx,e10,?_,rfl⟩⟩,?_⟩
  · rw [hof.eq hof' hwlen]
    exact RL.any hR
  rintro σ10 H10 ⟨t10,rl,rx,erl,hrl,rfl⟩
  refine ⟨fun σ' H'=>Same H10 H'∧∃ (od:Addr) (os:List Nat),H' od = some (.lst (vN os))∧Pm os cs.length∧σ' = [some (.ref a),some (.int h),some (.int tn),some (.int (1 + h % 4)),some (.ref co),some (.ref ol),some (.str wy),some (.ref bl_),some (.ref t),some (.ref na),some (.ref rl),some (.ref od),none,none,none,none,none,none],⟨_,rfl,_,_,rfl,rfl,⟨by decide,by decide⟩,_,rfl,_,cs.length,by rw [← hcI],hc4,fun l os H11 s11 e11 pm=>⟨s11,l,os,e11,pm,rfl⟩⟩,?_⟩
  rintro σ11 H11 ⟨t11,od,os,eod,pm,rfl⟩
  have u11:=(t9.trans t10).trans t11
  have eco11:=u11 _ _ (t8 _ _ eco7)
  have hco11:=(hco7.same t8).same u11
  have hxl:xs.length = cs.length:=hco.1
  have hvl:(vN os).length = os.length:=vN_len os
  have pmN:Pm os NZ.length:=by rw [hzN]; exact pm
  have hos4:os.length ≤ 4:=by rw [pm.len]; exact hc4
  have tk:∀ (i:Nat) (k:Nat),k ∈ os.take i→k < cs.length:=fun i k hk=>pm.lt k (List.mem_of_mem_take hk)
  refine ⟨fun σ' H'=>Same H11 H'∧∃ fo:Addr,TF qK H' fo (wd (h / 16) 0) wy ou (prm os NZ) (prm os dv) (rws.map (trn os))∧σ' = [some (.ref a),some (.int h),some (.int tn),some (.int (1 + h % 4)),some (.ref co),some (.ref ol),some (.str wy),some (.ref bl_),some (.ref t),some (.ref na),some (.ref rl),some (.ref od),some (.ref fo),none,none,none,none,none],⟨_,rfl,_,rfl,od,_,rfl,.inl (SqL.of eod),fun o2 ho2=>⟨t,o2,ou,os,(wd (h / 16) 0),wy,NZ,dv,rws,cs.map Col.b,oc.b,rfl,upd_same,(hT.same u11).same (same_new ho2 _),(hOk.same u11).same (same_new ho2 _),pmN,fun fo H12 s12 hF=>⟨(same_new ho2 _).trans s12,fo,hF,rfl⟩⟩⟩,?_⟩
  rintro σ12 H12 ⟨t12,fo,hF,rfl⟩
  refine ⟨fun σ' H'=>Same H12 H'∧∃ ot:Addr,H' ot = some (.lst (prm os xs))∧σ' = [some (.ref a),some (.int h),some (.int tn),some (.int (1 + h % 4)),some (.ref co),some (.ref ol),some (.str wy),some (.ref bl_),some (.ref t),some (.ref na),some (.ref rl),some (.ref od),some (.ref fo),some (.ref ot),none,none,none,none],?_,?_⟩
  · refine ⟨_,rfl,od,rfl,⟨_,SqL.of (t12 _ _ eod)⟩,comp_list (xs:=vN os) (fun D i ys H'=>Same H12 H'∧H' D = some (.lst ys)∧ys = prm (os.take i) xs) (fun D hD=>⟨same_new hD _,upd_same,rfl⟩) (fun D i ys H' hD _ h=>SqL.of (h.1 _ _ (t12 _ _ eod))) (fun D i y ys H' hD e hh=>?_) (fun D ys H' hD hh=>?_)⟩
    · obtain ⟨sm,eD,rfl⟩:=hh
      obtain ⟨k,rfl,ek⟩:=vN_of e
      have hk:=pm.lt k (List.mem_of_getElem? ek)
      have ez:=List.getElem?_eq_getElem (l:=xs) (i:=k) (by rw [hxl]; exact hk)
      have hi:i < (vN os).length:=(List.getElem?_eq_some_iff.mp e).1
      refine ⟨_,rfl,_,rfl,co,_,_,_,rfl,rfl,SqL.of (sm _ _ (t12 _ _ eco11)),atI_nat ez,CYes.mk hi eD (small1000 ?_) ⟨sm.upd hD,upd_same,?_⟩⟩
      · rw [(prm_get (os:=os.take i) (xs:=xs) fun k hk=>by rw [hxl]; exact tk i k hk).1,List.length_take]; omega
      · rw [take_snoc ek,prm_snoc ez]
    · obtain ⟨sm,eD,rfl⟩:=hh
      rw [hvl,List.take_length] at eD
      exact ⟨sm,D,eD,rfl⟩
  rintro σ13 H13 ⟨t13,ot,eot,rfl⟩
  have u13:=t12.trans t13
  have erl13:=u13 _ _ (t11 _ _ erl)
  have hrl13:=(hrl.same t11).same u13
  have eod13:=u13 _ _ eod
  have rlen:∀ x ∈ rws,x.1.length = cs.length:=fun x hx=>by rw [(hOk.rows x hx).len,List.length_map]
  have hrw200:rws.length ≤ 200:=hOk.few
  refine ⟨fun σ' H'=>Same H13 H'∧∃ (du:Addr) (zx:List V),H' du = some (.lst zx)∧RL NT H' zx (rws.map (trn os))∧σ' = [some (.ref a),some (.int h),some (.int tn),some (.int (1 + h % 4)),some (.ref co),some (.ref ol),some (.str wy),some (.ref bl_),some (.ref t),some (.ref na),some (.ref rl),some (.ref od),some (.ref fo),some (.ref ot),some (.ref du),none,none,none],?_,?_⟩
  · refine ⟨_,rfl,rl,rfl,⟨_,SqL.of erl13⟩,compG_list (xs:=rx) (fun D i ys H'=>Same H13 H'∧H' D = some (.lst ys)∧RL NT (hide H' D) ys ((rws.take i).map (trn os))) (fun D hD=>⟨same_new hD _,upd_same,RefL.nil⟩) (fun D i ys H' hD _ h=>SqL.of (h.1 _ _ erl13)) (fun D i y ys H' hD e hh ts hts=>?_) (fun D ys H' hD hh=>?_)⟩
    · obtain ⟨sm,eD,hz_⟩:=hh
      obtain ⟨r,x,rfl,ex,ce,cv,g1,_,g2,g3⟩:=RefL.get hrl13 e
      have hi:i < rx.length:=(List.getElem?_eq_some_iff.mp e).1
      obtain ⟨t0,t1,rfl⟩:∃ t0 t1,ts = [t0,t1]:=by
        match ts,hts with
        | [t0,t1],_=>exact ⟨t0,t1,rfl⟩
      have hcl:cv.length = cs.length:=by rw [g3.1,rlen x (List.mem_of_getElem? ex)]
      refine ⟨r,_,rfl,SqT.of (sm _ _ g1),rfl,_,_,rfl,_,_,rfl,rfl,⟨[some (.ref ce),some (.int x.2)],rfl,rfl⟩,?_⟩
      refine ⟨_,rfl,od,rfl,⟨_,SqL.of (sm _ _ eod13)⟩,compG_list (xs:=vN os) (fun D2 j ws H3=>Same H' H3∧H3 D2 = some (.lst ws)∧ws = prm (os.take j) cv) (fun D2 hD2=>⟨same_new hD2 _,upd_same,rfl⟩) (fun D2 j ws H3 hD2 _ h=>SqL.of (h.1 _ _ (sm _ _ eod13))) (fun D2 j y2 ws H3 hD2 e2 hh ts2 hts2=>?_) (fun D2 ws H3 hD2 hh=>?_)⟩
      · obtain ⟨s3,eD2,rfl⟩:=hh
        obtain ⟨k,rfl,ek⟩:=vN_of e2
        have hk:=pm.lt k (List.mem_of_getElem? ek)
        have ez:=List.getElem?_eq_getElem (l:=cv) (i:=k) (by rw [hcl]; exact hk)
        have hj:j < (vN os).length:=(List.getElem?_eq_some_iff.mp e2).1
        obtain ⟨u0,rfl⟩:∃ u0,ts2 = [u0]:=by
          match ts2,hts2 with
          | [u0],_=>exact ⟨u0,rfl⟩
        refine ⟨⟨[some (.int (k:Int))],rfl,rfl⟩,?_⟩
        refine ⟨_,rfl,_,rfl,ce,_,_,_,rfl,rfl,SqL.of (s3 _ _ (sm _ _ g2)),atI_nat ez,CYes.mk hj eD2 (small1000 ?_) ⟨s3.upd hD2,upd_same,?_⟩⟩
        · rw [(prm_get (os:=os.take j) (xs:=cv) fun k hk=>by rw [hcl]; exact tk j k hk).1,List.length_take]; omega
        · rw [take_snoc ek,prm_snoc ez]
      · obtain ⟨s3,eD2,rfl⟩:=hh
        rw [hvl,List.take_length] at eD2
        have nD2:D2 ≠ D:=fun z=>by rw [z,eD] at hD2; cases hD2
        refine ⟨_,rfl,small2,fun tt_ htt=>?_⟩
        have s4':=same_new htt (.tup [.ref D2,.int x.2])
        have eT:upd H3 tt_ (.tup [.ref D2,.int x.2]) tt_ = some (.tup [.ref D2,.int x.2]):=upd_same
        have eD4:=s4' _ _ (s3 _ _ eD)
        have nT:tt_ ≠ D:=fun z=>by rw [z,s3 _ _ eD] at htt; cases htt
        generalize upd H3 tt_ (.tup [.ref D2,.int x.2]) = H4 at s4' eT eD4 ⊢
        have sB:=(sm.trans s3).trans s4'
        have hrow:RowA NT (hide H4 D) tt_ (trn os x):=⟨D2,prm os cv,hide_of eT nT,trivial,hide_of (s4' _ _ eD2) nD2,CL.same (RefL.prm g3 fun k hk=>by rw [← g3.1,hcl]; exact pm.lt k hk) (hide_keep sB hD)⟩
        refine CYes.mk hi eD4 (small1000 (by have:=hz_.1; rw [List.length_map,List.length_take] at this; omega)) ⟨sB.upd hD,upd_same,?_⟩
        rw [hide_upd,take_snoc ex,List.map_append]
        exact RefL.snoc (RefL.mono hz_ fun _ _ p=>p.same (hide_mono (s3.trans s4'))) hrow
    · obtain ⟨sm,eD,hz_⟩:=hh
      rw [hrl13.1,List.take_length] at hz_
      exact ⟨sm,D,ys,eD,RefL.mono hz_ fun _ _ p=>p.same (hide_le H' D),rfl⟩
  rintro σ14 H14 ⟨t14,du,zx,edu,hdu,rfl⟩
  have u14:=u13.trans t14
  have eco14:=u14 _ _ eco11
  have hco14:=hco11.same u14
  have u8:=u11.trans u14
  have hT14:=hT.same u8
  have hF14:=(hF.same t13).same t14
  have hdv14:RefL dv cs (DomX qI qJ H14):=RefL.mono hdv fun _ _ p=>p.same u8
  have ena14:=u14 _ _ (t11 _ _ (t10 _ _ ena))
  have erl14:=t14 _ _ erl13
  have hrl14:=hrl13.same t14
  have eod14:=t14 _ _ eod13
  refine ⟨fun σ' H'=>Same H14 H'∧σ' = [some (.ref a),some (.int h),some (.int tn),some (.int (1 + h % 4)),some (.ref co),some (.ref ol),some (.str wy),some (.ref bl_),some (.ref t),some (.ref na),some (.ref rl),some (.ref od),some (.ref fo),some (.ref ot),some (.ref du),none,none,none],?_,?_⟩
  · refine ⟨_,rfl,_,rfl,od,rfl,⟨_,SqL.of eod14⟩,comp_list (xs:=vN os) (fun D i ys H'=>Same H14 H'∧H' D = some (.lst ys)∧ys = (prm (os.take i) NZ).map V.str) (fun D hD=>⟨same_new hD _,upd_same,rfl⟩) (fun D i ys H' hD _ h=>SqL.of (h.1 _ _ eod14)) (fun D i y ys H' hD e hh=>?_) (fun D ys H' hD hh=>?_)⟩
    · obtain ⟨sm,eD,rfl⟩:=hh
      obtain ⟨k,rfl,ek⟩:=vN_of e
      have hk:=pm.lt k (List.mem_of_getElem? ek)
      have ez:=List.getElem?_eq_getElem (l:=NZ) (i:=k) (by rw [hzN]; exact hk)
      have hi:i < (vN os).length:=(List.getElem?_eq_some_iff.mp e).1
      refine ⟨_,rfl,_,rfl,na,_,_,_,rfl,rfl,SqL.of (sm _ _ ena14),atI_nat (put_strs ez),CYes.mk hi eD (small1000 ?_) ⟨sm.upd hD,upd_same,?_⟩⟩
      · rw [List.length_map,(prm_get (os:=os.take i) (xs:=NZ) fun k hk=>by rw [hzN]; exact tk i k hk).1,List.length_take]; omega
      · rw [take_snoc ek,prm_snoc ez,List.map_append]; rfl
    · obtain ⟨sm,eD,rfl⟩:=hh
      rw [hvl,List.take_length] at eD
      refine ⟨_,rfl,_,rfl,fo,D,du,ot,ou,(wd (h / 16) 0),wy,prm os NZ,prm os dv,prm os xs,zx,rws.map (trn os),prm os cs,rfl,hF14.same sm,eD,sm _ _ edu,hdu.same sm,sm _ _ (t14 _ _ eot),RefL.prm (hco14.same sm) pm.lt,(fun c hc=>hok c (mem_prm hc)),RefL.prm (RefL.mono hdv14 fun _ _ p=>p.same sm) pm.lt,fun H15 s15=>⟨_,rfl,iteF ?_⟩⟩
      have v:=sm.trans s15
      exact ⟨_,rfl,_,rfl,_,rfl,_,rfl,t,na,rl,co,ou,(wd (h / 16) 0),wy,NZ,dv,xs,rx,rws,cs,rfl,hT14.same v,v _ _ ena14,v _ _ erl14,hrl14.same v,v _ _ eco14,hco14.same v,hok,RefL.mono hdv14 fun _ _ p=>p.same v,fun H16 s16=>⟨_,rfl,iteF ⟨v.trans s16,rfl⟩⟩⟩
  rintro σ15 H15 ⟨t15,rfl⟩
  have hF15:=hF14.same t15
  obtain ⟨frl,fdx,fna,fdl,ffs,fxs,g1,g2,g3,g4,g5,g6,g7,g8,g9,g10,g11,g12⟩:=id hF15
  have u15:=u8.trans t15
  have hou15:=hou.same u15
  have hol15:=((hol7.same t8).same u8).same t15
  refine ⟨fun σ' H'=>Same H15 H'∧σ' = [some (.ref a),some (.int h),some (.int tn),some (.int (1 + h % 4)),some (.ref co),some (.ref ol),some (.str wy),some (.ref bl_),some (.ref t),some (.ref na),some (.ref rl),some (.ref od),some (.ref fo),some (.ref ot),some (.ref du),none,none,none],?_,?_⟩
  · refine ⟨_,rfl,fo,_,_,_,_,rfl,g1,bl.k_Table,bl.na_Table_name,g3,_,rfl,_,_,rfl,rfl,⟨by decide,by decide⟩,_,_,rfl,rfl,_,rfl,iteNS rfl ?_⟩
    refine ⟨_,rfl,fo,_,_,_,_,rfl,g1,bl.k_Table,bl.na_Table_way,g4,_,rfl,rfl,_,rfl,iteNS rfl ?_⟩
    exact ⟨_,rfl,fo,_,_,_,_,rfl,g1,bl.k_Table,bl.na_Table_outcome,g5,_,rfl,ol,oc,rfl,hol15,ook,fun b H16 s16 hb=>⟨ou,b,oc,rfl,hou15.same s16,hb,_,rfl,iteF ⟨s16,rfl⟩⟩⟩
  rintro σ16 H16 ⟨t16,rfl⟩
  have u16:=t15.trans t16
  have eco16:=u16 _ _ eco14
  have hco16:=hco14.same u16
  have hF16:=hF15.same t16
  have ebl16:=u16 _ _ (u8 _ _ (t8 _ _ ebl))
  have hz16:=((hz.same t8).same u8).same u16
  have hol16:=hol15.same t16
  have eod16:=u16 _ _ eod14
  have hou16:=hou15.same t16
  refine ⟨fun σ' H'=>Same H16 H'∧∃ c15 c16:Option V,σ' = [some (.ref a),some (.int h),some (.int tn),some (.int (1 + h % 4)),some (.ref co),some (.ref ol),some (.str wy),some (.ref bl_),some (.ref t),some (.ref na),some (.ref rl),some (.ref od),some (.ref fo),some (.ref ot),some (.ref du),c15,c16,none],?_,?_⟩
  · refine ⟨_,rfl,co,xs,cs,rfl,eco16,hco16,hok,hc4,fun pl pz H17 s17 e17 hpt=>?_⟩
    refine ⟨pl,rfl,⟨_,SqL.of e17⟩,for_list (xs:=pz) (fun i σ H'=>Same H17 H'∧∃ c15 c16:Option V,σ = [some (.ref a),some (.int h),some (.int tn),some (.int (1 + h % 4)),some (.ref co),some (.ref ol),some (.str wy),some (.ref bl_),some (.ref t),some (.ref na),some (.ref rl),some (.ref od),some (.ref fo),some (.ref ot),some (.ref du),c15,c16,none]) ⟨Same.refl _,_,_,rfl⟩ (fun i σ H' _ hh=>SqL.of (hh.1 _ _ e17)) (fun i y σ H' ey hh=>?_) (fun σ H' hh=>⟨s17.trans hh.1,hh.2⟩)⟩
    obtain ⟨sm,c15,c16,rfl⟩:=hh
    obtain ⟨r,p,rfl,ep,_,hr_⟩:=RefL.get (hpt.same sm) ey
    have hpo:=PtOk.iff.mp (List.mem_of_getElem? ep)
    have lp:p.length = cs.length:=by rw [hpo.1,lens_len]
    have v:=s17.trans sm
    refine ⟨fun σ' H''=>Same H' H''∧∃ (cl:Addr) (cd:List Int),H'' cl = some (.lst (cd.map V.int))∧AtP cs p cd∧σ' = [some (.ref a),some (.int h),some (.int tn),some (.int (1 + h % 4)),some (.ref co),some (.ref ol),some (.str wy),some (.ref bl_),some (.ref t),some (.ref na),some (.ref rl),some (.ref od),some (.ref fo),some (.ref ot),some (.ref du),some (.ref r),some (.ref cl),none],⟨_,rfl,_,rfl,_,rfl,_,_,rfl,rfl,⟨by decide,by decide⟩,co,r,xs,cs,p,_,rfl,v _ _ eco16,hco16.same v,hok,hc4,hr_,hpo,fun l cd H18 s18 e18 hat=>⟨s18,l,cd,e18,hat,rfl⟩⟩,?_⟩
    rintro σ18 H18 ⟨t18,cl,cd,ecl,hat,rfl⟩
    have v18:=v.trans t18
    have eod18:=v18 _ _ eod16
    have cdl:cd.length = cs.length:=hat.1
    refine ⟨_,rfl,_,rfl,od,rfl,⟨_,SqL.of eod18⟩,comp_list (xs:=vN os) (fun D i ys H'=>Same H18 H'∧H' D = some (.lst ys)∧ys = (prm (os.take i) cd).map V.int) (fun D hD=>⟨same_new hD _,upd_same,rfl⟩) (fun D i ys H' hD _ h=>SqL.of (h.1 _ _ eod18)) (fun D i y ys H' hD e hh=>?_) (fun D ys H' hD hh=>?_)⟩
    · obtain ⟨sm2,eD,rfl⟩:=hh
      obtain ⟨k,rfl,ek⟩:=vN_of e
      have hk:=pm.lt k (List.mem_of_getElem? ek)
      have ez:=List.getElem?_eq_getElem (l:=cd) (i:=k) (by rw [cdl]; exact hk)
      have hi:i < (vN os).length:=(List.getElem?_eq_some_iff.mp e).1
      refine ⟨_,rfl,_,rfl,cl,_,_,_,rfl,rfl,SqL.of (sm2 _ _ ecl),atI_nat (get_map ez),CYes.mk hi eD (small1000 ?_) ⟨sm2.upd hD,upd_same,?_⟩⟩
      · rw [List.length_map,(prm_get (os:=os.take i) (xs:=cd) fun k hk=>by rw [cdl]; exact tk i k hk).1,List.length_take]; omega
      · rw [take_snoc ek,prm_snoc ez,List.map_append]; rfl
    · obtain ⟨sm2,eD,rfl⟩:=hh
      rw [hvl,List.take_length] at eD
      have w1:=v18.trans sm2
      have hle:=ook.le
      refine ⟨fo,D,rws.map (trn os),wi,oc.b,prm os cd,rfl,(hF16.same w1).tbl hwi (hou16.same w1).dom hle,SqL.of eD,fun x hx=>?_,fun r1 H20 s20 hr1=>?_⟩
      · obtain ⟨x0,hx0,rfl⟩:=List.mem_map.mp hx
        show (prm os x0.1).length = _
        rw [(prm_get (os:=os) (xs:=x0.1) fun k hk=>by rw [rlen x0 hx0]; exact pm.lt k hk).1,(prm_get (os:=os) (xs:=cd) fun k hk=>by rw [cdl]; exact pm.lt k hk).1]
      · rw [pkF_fl,fl_trn hof hbo hok hpo hat pm] at hr1
        have w2:=w1.trans s20
        refine ⟨_,rfl,_,rfl,_,rfl,_,rfl,wy,wi,bl_,ol,r,zs,ws,oc,p,rfl,hwi,w2 _ _ ebl16,hz16.same w2,by omega,hol16.same w2,ook,s20 _ _ (sm2 _ _ (t18 _ _ hr_)),(fun w hw=>by rw [hwlen w hw,lp]),by omega,fun r2 H21 s21 e21=>?_⟩
        exact ⟨r1,r2,_,rfl,s21.seqT hr1,SqT.of e21,_,rfl,iteF ⟨(((sm.trans t18).trans sm2).trans s20).trans s21,_,_,rfl⟩⟩
  rintro σ17 H17 ⟨t17,c15,c16,rfl⟩
  have eod17:=t17 _ _ eod16
  refine ⟨fun σ' H'=>Same H17 H'∧∃ (bk:Addr) (bs:List Nat),H' bk = some (.lst (vN bs))∧bs.length = cs.length∧(∀ (k j:Nat),bs[k]? = some j→os[j]? = some k)∧σ' = [some (.ref a),some (.int h),some (.int tn),some (.int (1 + h % 4)),some (.ref co),some (.ref ol),some (.str wy),some (.ref bl_),some (.ref t),some (.ref na),some (.ref rl),some (.ref od),some (.ref fo),some (.ref ot),some (.ref du),c15,c16,some (.ref bk)],?_,?_⟩
  · refine ⟨_,rfl,_,rfl,(by omega),(by omega),comp_range (fun D i zs H'=>Same H17 H'∧H' D = some (.lst zs)∧∃ bs:List Nat,zs = vN bs∧bs.length = i∧∀ (k j:Nat),bs[k]? = some j→os[j]? = some k) (fun D hD=>⟨same_new hD _,upd_same,[],rfl,rfl,(fun k j e=>by simp at e)⟩) (fun D i zs H' hD hi hh=>?_) (fun D zs H' hD hh=>?_)⟩
    · obtain ⟨sm,eD,bs,rfl,hl,hb⟩:=hh
      obtain ⟨j,ej⟩:=List.getElem?_of_mem (pm.all i (by omega))
      have eo:=sm _ _ eod17
      have hfl:(vN os).all flatV = true:=by unfold vN; rw [List.all_map]; exact List.all_eq_true.mpr fun _ _=>rfl
      refine ⟨_,rfl,.inl ⟨rfl,_,SqL.of eo⟩,_,rfl,od,vN os,_,.int (i:Int),j,rfl,rfl,SqL.of eo,rfl,hfl,vN_at ej,by simp [eqV],fun m u hm hu=>?_,CYes.mk hi eD (small1000 (by rw [vN_len]; omega)) ⟨sm.upd hD,upd_same,bs ++ [j],by rw [← vN_app]; rfl,by simp [hl],fun k j' e=>?_⟩⟩
      · obtain ⟨k',rfl,ek'⟩:=vN_of hu
        have:k' ≠ i:=fun z=>by
          subst z
          have:=nd_ix pm.nd ek' ej
          omega
        simp [eqV]
        omega
      · by_cases hk:k < bs.length
        · rw [List.getElem?_append_left hk] at e; exact hb k j' e
        · have:k = bs.length:=by have:=(List.getElem?_eq_some_iff.mp e).1; simp at this; omega
          subst this
          simp at e
          subst e
          rw [hl]; exact ej
    · obtain ⟨sm,eD,bs,rfl,hl,hb⟩:=hh
      exact ⟨sm,D,bs,eD,by rw [hl,hcn],hb,rfl⟩
  rintro σ18 H18 ⟨t18,bk,bs,ebk,hbl,hbb,rfl⟩
  have w:=t17.trans t18
  have pb:=back_pm pm hbl hbb
  have hNl:(prm os NZ).length = cs.length:=by rw [(prm_get (os:=os) (xs:=NZ) pmN.lt).1,pm.len]
  have eN:prm bs (prm os NZ) = NZ:=prm_back pm hbl hbb hzN
  have eD:prm bs (prm os dv) = dv:=prm_back pm hbl hbb hdv.1
  have eR:(rws.map (trn os)).map (trn bs) = rws:=by
    rw [List.map_map]
    refine (List.map_congr_left fun x hx=>?_).trans (List.map_id rws)
    show (prm bs (prm os x.1),x.2) = x
    rw [prm_back pm hbl hbb (rlen x hx)]
  refine ⟨_,rfl,_,rfl,fo,bk,ou,bs,(wd (h / 16) 0),wy,prm os NZ,prm os dv,rws.map (trn os),prm os (cs.map Col.b),oc.b,rfl,ebk,hF16.same w,(hOk.same (((u8.trans t15).trans t16).trans w)).trn pmN,by rw [hNl]; exact pb,fun t3 H19 s19 hT3=>?_⟩
  rw [eN,eD,eR] at hT3
  have x19:=(u16.trans w).trans s19
  exact ⟨_,rfl,_,rfl,_,rfl,t3,na,rl,co,ou,(wd (h / 16) 0),wy,NZ,dv,xs,rx,rws,cs,rfl,hT3,x19 _ _ ena14,x19 _ _ erl14,hrl14.same x19,x19 _ _ eco14,hco14.same x19,hok,RefL.mono hdv14 fun _ _ p=>p.same x19,fun H20 _=>q H20⟩
end
theorem all_mk {l:PySem.W.OpenLaw} {w:World} {K:PySem.W.Frag} {h:Heap} {mg:Str→Option Value} {fa f0 f1 f2 f3 f4 f5 f6 f7 f8 f9 f10 f11 f12 f13 f14 f15 f16 f17 f18 f19 f20 f21 f22 f23 f24 f25 f26 f27 f28 f29 f30 f31 f32 f33 f34 f35 f36 f37 f38 f39 f40 f41 f42 f43 f44 f45 f46 f47 f48 f49 f50 f51 f52 f53 f54 f55 f56 f57 f58 f59 f60 f61 f62 f63 f64 f65 f66:Addr} (X:K.In h) (G:h.Ns mainGlobals mg) (hfa:mg "law" = some (.ref fa))
    {od0 an0 od1 an1 od2 an2 od3 an3 od4 an4 od5 an5 od6 an6 od7 an7 od8 an8 od9 an9 od10 an10 od11 an11 od12 an12 od13 an13 od14 an14 od15 an15 od16 an16 od17 an17 od18 an18 od19 an19 od20 an20 od21 an21 od22 an22 od23 an23 od24 an24 od25 an25 od26 an26 od27 an27 od28 an28 od29 an29 od30 an30 od31 an31 od32 an32 od33 an33 od34 an34 od35 an35 od36 an36 od37 an37 od38 an38 od39 an39 od40 an40 od41 an41 od42 an42 od43 an43 od44 an44 od45 an45 od46 an46 od47 an47 od48 an48 od49 an49 od50 an50 od51 an51 od52 an52 od53 an53 od54 an54 od55 an55 od56 an56 od57 an57 od58 an58 od59 an59 od60 an60 od61 an61 od62 an62 od63 an63 od64 an64 od65 an65 od66 an66:Option Addr} {sl0 sl1 sl2 sl3 sl4 sl5 sl6 sl7 sl8 sl9 sl10 sl11 sl12 sl13 sl14 sl15 sl16 sl17 sl18 sl19 sl20 sl21 sl22 sl23 sl24 sl25 sl26 sl27 sl28 sl29 sl30 sl31 sl32 sl33 sl34 sl35 sl36 sl37 sl38 sl39 sl40 sl41 sl42 sl43 sl44 sl45 sl46 sl47 sl48 sl49 sl50 sl51 sl52 sl53 sl54 sl55 sl56 sl57 sl58 sl59 sl60 sl61 sl62 sl63 sl64 sl65 sl66:Array (Option Value)} {oc0 kV0 dc0 pm0 cd0 ct0 oc1 kV1 dc1 pm1 cd1 ct1 oc2 kV2 dc2 pm2 cd2 ct2 oc3 kV3 dc3 pm3 cd3 ct3 oc4 kV4 dc4 pm4 cd4 ct4 oc5 kV5 dc5 pm5 cd5 ct5 oc6 kV6 dc6 pm6 cd6 ct6 oc7 kV7 dc7 pm7 cd7 ct7 oc8 kV8 dc8 pm8 cd8 ct8 oc9 kV9 dc9 pm9 cd9 ct9 oc10 kV10 dc10 pm10 cd10 ct10 oc11 kV11 dc11 pm11 cd11 ct11 oc12 kV12 dc12 pm12 cd12 ct12 oc13 kV13 dc13 pm13 cd13 ct13 oc14 kV14 dc14 pm14 cd14 ct14 oc15 kV15 dc15 pm15 cd15 ct15 oc16 kV16 dc16 pm16 cd16 ct16 oc17 kV17 dc17 pm17 cd17 ct17 oc18 kV18 dc18 pm18 cd18 ct18 oc19 kV19 dc19 pm19 cd19 ct19 oc20 kV20 dc20 pm20 cd20 ct20 oc21 kV21 dc21 pm21 cd21 ct21 oc22 kV22 dc22 pm22 cd22 ct22 oc23 kV23 dc23 pm23 cd23 ct23 oc24 kV24 dc24 pm24 cd24 ct24 oc25 kV25 dc25 pm25 cd25 ct25 oc26 kV26 dc26 pm26 cd26 ct26 oc27 kV27 dc27 pm27 cd27 ct27 oc28 kV28 dc28 pm28 cd28 ct28 oc29 kV29 dc29 pm29 cd29 ct29 oc30 kV30 dc30 pm30 cd30 ct30 oc31 kV31 dc31 pm31 cd31 ct31 oc32 kV32 dc32 pm32 cd32 ct32 oc33 kV33 dc33 pm33 cd33 ct33 oc34 kV34 dc34 pm34 cd34 ct34 oc35 kV35 dc35 pm35 cd35 ct35 oc36 kV36 dc36 pm36 cd36 ct36 oc37 kV37 dc37 pm37 cd37 ct37 oc38 kV38 dc38 pm38 cd38 ct38 oc39 kV39 dc39 pm39 cd39 ct39 oc40 kV40 dc40 pm40 cd40 ct40 oc41 kV41 dc41 pm41 cd41 ct41 oc42 kV42 dc42 pm42 cd42 ct42 oc43 kV43 dc43 pm43 cd43 ct43 oc44 kV44 dc44 pm44 cd44 ct44 oc45 kV45 dc45 pm45 cd45 ct45 oc46 kV46 dc46 pm46 cd46 ct46 oc47 kV47 dc47 pm47 cd47 ct47 oc48 kV48 dc48 pm48 cd48 ct48 oc49 kV49 dc49 pm49 cd49 ct49 oc50 kV50 dc50 pm50 cd50 ct50 oc51 kV51 dc51 pm51 cd51 ct51 oc52 kV52 dc52 pm52 cd52 ct52 oc53 kV53 dc53 pm53 cd53 ct53 oc54 kV54 dc54 pm54 cd54 ct54 oc55 kV55 dc55 pm55 cd55 ct55 oc56 kV56 dc56 pm56 cd56 ct56 oc57 kV57 dc57 pm57 cd57 ct57 oc58 kV58 dc58 pm58 cd58 ct58 oc59 kV59 dc59 pm59 cd59 ct59 oc60 kV60 dc60 pm60 cd60 ct60 oc61 kV61 dc61 pm61 cd61 ct61 oc62 kV62 dc62 pm62 cd62 ct62 oc63 kV63 dc63 pm63 cd63 ct63 oc64 kV64 dc64 pm64 cd64 ct64 oc65 kV65 dc65 pm65 cd65 ct65 oc66 kV66 dc66 pm66 cd66 ct66:Value}
    {qA qB qC qD qE qF qG qH qI qJ qK qL qM:Addr}
    (n_Way:PySem.W.nsIn K mainGlobals "Way" = some (some (.ref qA)))
    (n_First:PySem.W.nsIn K mainGlobals "First" = some (some (.ref qB)))
    (n_Only:PySem.W.nsIn K mainGlobals "Only" = some (some (.ref qC)))
    (n_Like:PySem.W.nsIn K mainGlobals "Like" = some (some (.ref qD)))
    (n_Low:PySem.W.nsIn K mainGlobals "Low" = some (some (.ref qE)))
    (n_High:PySem.W.nsIn K mainGlobals "High" = some (some (.ref qF)))
    (n_Sum:PySem.W.nsIn K mainGlobals "Sum" = some (some (.ref qG)))
    (n_Domain:PySem.W.nsIn K mainGlobals "Domain" = some (some (.ref qH)))
    (n_Numbers:PySem.W.nsIn K mainGlobals "Numbers" = some (some (.ref qI)))
    (n_Words:PySem.W.nsIn K mainGlobals "Words" = some (some (.ref qJ)))
    (n_Table:PySem.W.nsIn K mainGlobals "Table" = some (some (.ref qK)))
    {od_NONE:Option Addr} {it_NONE:Array Value} {nn_NONE:Nat} {sl_NONE:Array (Option Value)} (n_NONE:PySem.W.nsIn K mainGlobals "NONE" = some (some (.ref qL))) (lk_NONE:K.lookup qL = some ⟨.type "tuple",od_NONE,.seq it_NONE nn_NONE,sl_NONE⟩) (sz_NONE:it_NONE.size ≤ sizeLine) (vs_NONE:Vals [.str "none",.int (0)] it_NONE.toList)
    {od_CLASH:Option Addr} {it_CLASH:Array Value} {nn_CLASH:Nat} {sl_CLASH:Array (Option Value)} (n_CLASH:PySem.W.nsIn K mainGlobals "CLASH" = some (some (.ref qM))) (lk_CLASH:K.lookup qM = some ⟨.type "tuple",od_CLASH,.seq it_CLASH nn_CLASH,sl_CLASH⟩) (sz_CLASH:it_CLASH.size ≤ sizeLine) (vs_CLASH:Vals [.str "clash",.int (0)] it_CLASH.toList)
    (a0:PySem.W.nsIn K mainGlobals "all_among" = some (some (.ref f0))) (l0:K.lookup f0 = some ⟨oc0,od0,.func (PySem.W.fnOf "all_among" "all_among" (defArgs Y32) (defBody Y32) (defScope Y32) .none kV0 dc0 pm0 an0 cd0 ct0),sl0⟩) (c0:PySem.W.codeIn K cd0 "all_among" = true) (k0:PySem.W.keepIn K (.ref f0) = true)
    (a1:PySem.W.nsIn K mainGlobals "is_word" = some (some (.ref f1))) (l1:K.lookup f1 = some ⟨oc1,od1,.func (PySem.W.fnOf "is_word" "is_word" (defArgs Y36) (defBody Y36) (defScope Y36) .none kV1 dc1 pm1 an1 cd1 ct1),sl1⟩) (c1:PySem.W.codeIn K cd1 "is_word" = true) (k1:PySem.W.keepIn K (.ref f1) = true)
    (a2:PySem.W.nsIn K mainGlobals "is_whole" = some (some (.ref f2))) (l2:K.lookup f2 = some ⟨oc2,od2,.func (PySem.W.fnOf "is_whole" "is_whole" (defArgs Y35) (defBody Y35) (defScope Y35) .none kV2 dc2 pm2 an2 cd2 ct2),sl2⟩) (c2:PySem.W.codeIn K cd2 "is_whole" = true) (k2:PySem.W.keepIn K (.ref f2) = true)
    (a3:PySem.W.nsIn K mainGlobals "alike" = some (some (.ref f3))) (l3:K.lookup f3 = some ⟨oc3,od3,.func (PySem.W.fnOf "alike" "alike" (defArgs Y31) (defBody Y31) (defScope Y31) .none kV3 dc3 pm3 an3 cd3 ct3),sl3⟩) (c3:PySem.W.codeIn K cd3 "alike" = true) (k3:PySem.W.keepIn K (.ref f3) = true)
    (a4:PySem.W.nsIn K mainGlobals "holds" = some (some (.ref f4))) (l4:K.lookup f4 = some ⟨oc4,od4,.func (PySem.W.fnOf "holds" "holds" (defArgs Y34) (defBody Y34) (defScope Y34) .none kV4 dc4 pm4 an4 cd4 ct4),sl4⟩) (c4:PySem.W.codeIn K cd4 "holds" = true) (k4:PySem.W.keepIn K (.ref f4) = true)
    (a5:PySem.W.nsIn K mainGlobals "way_by" = some (some (.ref f5))) (l5:K.lookup f5 = some ⟨oc5,od5,.func (PySem.W.fnOf "way_by" "way_by" (defArgs Y66) (defBody Y66) (defScope Y66) .none kV5 dc5 pm5 an5 cd5 ct5),sl5⟩) (c5:PySem.W.codeIn K cd5 "way_by" = true) (k5:PySem.W.keepIn K (.ref f5) = true)
    (a6:PySem.W.nsIn K mainGlobals "refuse_names" = some (some (.ref f6))) (l6:K.lookup f6 = some ⟨oc6,od6,.func (PySem.W.fnOf "refuse_names" "refuse_names" (defArgs Y61) (defBody Y61) (defScope Y61) .none kV6 dc6 pm6 an6 cd6 ct6),sl6⟩) (c6:PySem.W.codeIn K cd6 "refuse_names" = true) (k6:PySem.W.keepIn K (.ref f6) = true)
    (a7:PySem.W.nsIn K mainGlobals "refuse_counts" = some (some (.ref f7))) (l7:K.lookup f7 = some ⟨oc7,od7,.func (PySem.W.fnOf "refuse_counts" "refuse_counts" (defArgs Y60) (defBody Y60) (defScope Y60) .none kV7 dc7 pm7 an7 cd7 ct7),sl7⟩) (c7:PySem.W.codeIn K cd7 "refuse_counts" = true) (k7:PySem.W.keepIn K (.ref f7) = true)
    (a8:PySem.W.nsIn K mainGlobals "refuse_way" = some (some (.ref f8))) (l8:K.lookup f8 = some ⟨oc8,od8,.func (PySem.W.fnOf "refuse_way" "refuse_way" (defArgs Y63) (defBody Y63) (defScope Y63) .none kV8 dc8 pm8 an8 cd8 ct8),sl8⟩) (c8:PySem.W.codeIn K cd8 "refuse_way" = true) (k8:PySem.W.keepIn K (.ref f8) = true)
    (a9:PySem.W.nsIn K mainGlobals "refuse_row" = some (some (.ref f9))) (l9:K.lookup f9 = some ⟨oc9,od9,.func (PySem.W.fnOf "refuse_row" "refuse_row" (defArgs Y62) (defBody Y62) (defScope Y62) .none kV9 dc9 pm9 an9 cd9 ct9),sl9⟩) (c9:PySem.W.codeIn K cd9 "refuse_row" = true) (k9:PySem.W.keepIn K (.ref f9) = true)
    (a10:PySem.W.nsIn K mainGlobals "own_row" = some (some (.ref f10))) (l10:K.lookup f10 = some ⟨oc10,od10,.func (PySem.W.fnOf "own_row" "own_row" (defArgs Y59) (defBody Y59) (defScope Y59) .none kV10 dc10 pm10 an10 cd10 ct10),sl10⟩) (c10:PySem.W.codeIn K cd10 "own_row" = true) (k10:PySem.W.keepIn K (.ref f10) = true)
    (a11:PySem.W.nsIn K mainGlobals "fits" = some (some (.ref f11))) (l11:K.lookup f11 = some ⟨oc11,od11,.func (PySem.W.fnOf "fits" "fits" (defArgs Y33) (defBody Y33) (defScope Y33) .none kV11 dc11 pm11 an11 cd11 ct11),sl11⟩) (c11:PySem.W.codeIn K cd11 "fits" = true) (k11:PySem.W.keepIn K (.ref f11) = true)
    (a12:PySem.W.nsIn K mainGlobals "mask" = some (some (.ref f12))) (l12:K.lookup f12 = some ⟨oc12,od12,.func (PySem.W.fnOf "mask" "mask" (defArgs Y58) (defBody Y58) (defScope Y58) .none kV12 dc12 pm12 an12 cd12 ct12),sl12⟩) (c12:PySem.W.codeIn K cd12 "mask" = true) (k12:PySem.W.keepIn K (.ref f12) = true)
    (a13:PySem.W.nsIn K mainGlobals "judged" = some (some (.ref f13))) (l13:K.lookup f13 = some ⟨oc13,od13,.func (PySem.W.fnOf "judged" "judged" (defArgs Y37) (defBody Y37) (defScope Y37) .none kV13 dc13 pm13 an13 cd13 ct13),sl13⟩) (c13:PySem.W.codeIn K cd13 "judged" = true) (k13:PySem.W.keepIn K (.ref f13) = true)
    (a14:PySem.W.nsIn K mainGlobals "verdict" = some (some (.ref f14))) (l14:K.lookup f14 = some ⟨oc14,od14,.func (PySem.W.fnOf "verdict" "verdict" (defArgs Y65) (defBody Y65) (defScope Y65) .none kV14 dc14 pm14 an14 cd14 ct14),sl14⟩) (c14:PySem.W.codeIn K cd14 "verdict" = true) (k14:PySem.W.keepIn K (.ref f14) = true)
    (a15:PySem.W.nsIn K mainGlobals "turned" = some (some (.ref f15))) (l15:K.lookup f15 = some ⟨oc15,od15,.func (PySem.W.fnOf "turned" "turned" (defArgs Y64) (defBody Y64) (defScope Y64) .none kV15 dc15 pm15 an15 cd15 ct15),sl15⟩) (c15:PySem.W.codeIn K cd15 "turned" = true) (k15:PySem.W.keepIn K (.ref f15) = true)
    (a16:PySem.W.nsIn K mainGlobals "_law_cell_at" = some (some (.ref f16))) (l16:K.lookup f16 = some ⟨oc16,od16,.func (PySem.W.fnOf "_law_cell_at" "_law_cell_at" (defArgs Y41) (defBody Y41) (defScope Y41) .none kV16 dc16 pm16 an16 cd16 ct16),sl16⟩) (c16:PySem.W.codeIn K cd16 "_law_cell_at" = true) (k16:PySem.W.keepIn K (.ref f16) = true)
    (a17:PySem.W.nsIn K mainGlobals "_law_mixed" = some (some (.ref f17))) (l17:K.lookup f17 = some ⟨oc17,od17,.func (PySem.W.fnOf "_law_mixed" "_law_mixed" (defArgs Y48) (defBody Y48) (defScope Y48) .none kV17 dc17 pm17 an17 cd17 ct17),sl17⟩) (c17:PySem.W.codeIn K cd17 "_law_mixed" = true) (k17:PySem.W.keepIn K (.ref f17) = true)
    (a18:PySem.W.nsIn K mainGlobals "_law_seeds" = some (some (.ref f18))) (l18:K.lookup f18 = some ⟨oc18,od18,.func (PySem.W.fnOf "_law_seeds" "_law_seeds" (defArgs Y53) (defBody Y53) (defScope Y53) .none kV18 dc18 pm18 an18 cd18 ct18),sl18⟩) (c18:PySem.W.codeIn K cd18 "_law_seeds" = true) (k18:PySem.W.keepIn K (.ref f18) = true)
    (a19:PySem.W.nsIn K mainGlobals "_law_word" = some (some (.ref f19))) (l19:K.lookup f19 = some ⟨oc19,od19,.func (PySem.W.fnOf "_law_word" "_law_word" (defArgs Y57) (defBody Y57) (defScope Y57) .none kV19 dc19 pm19 an19 cd19 ct19),sl19⟩) (c19:PySem.W.codeIn K cd19 "_law_word" = true) (k19:PySem.W.keepIn K (.ref f19) = true)
    (a20:PySem.W.nsIn K mainGlobals "_law_column" = some (some (.ref f20))) (l20:K.lookup f20 = some ⟨oc20,od20,.func (PySem.W.fnOf "_law_column" "_law_column" (defArgs Y43) (defBody Y43) (defScope Y43) .none kV20 dc20 pm20 an20 cd20 ct20),sl20⟩) (c20:PySem.W.codeIn K cd20 "_law_column" = true) (k20:PySem.W.keepIn K (.ref f20) = true)
    (a21:PySem.W.nsIn K mainGlobals "_law_domain" = some (some (.ref f21))) (l21:K.lookup f21 = some ⟨oc21,od21,.func (PySem.W.fnOf "_law_domain" "_law_domain" (defArgs Y44) (defBody Y44) (defScope Y44) .none kV21 dc21 pm21 an21 cd21 ct21),sl21⟩) (c21:PySem.W.codeIn K cd21 "_law_domain" = true) (k21:PySem.W.keepIn K (.ref f21) = true)
    (a22:PySem.W.nsIn K mainGlobals "_law_spans" = some (some (.ref f22))) (l22:K.lookup f22 = some ⟨oc22,od22,.func (PySem.W.fnOf "_law_spans" "_law_spans" (defArgs Y54) (defBody Y54) (defScope Y54) .none kV22 dc22 pm22 an22 cd22 ct22),sl22⟩) (c22:PySem.W.codeIn K cd22 "_law_spans" = true) (k22:PySem.W.keepIn K (.ref f22) = true)
    (a23:PySem.W.nsIn K mainGlobals "_law_bit_row" = some (some (.ref f23))) (l23:K.lookup f23 = some ⟨oc23,od23,.func (PySem.W.fnOf "_law_bit_row" "_law_bit_row" (defArgs Y39) (defBody Y39) (defScope Y39) .none kV23 dc23 pm23 an23 cd23 ct23),sl23⟩) (c23:PySem.W.codeIn K cd23 "_law_bit_row" = true) (k23:PySem.W.keepIn K (.ref f23) = true)
    (a24:PySem.W.nsIn K mainGlobals "_law_bit_rows" = some (some (.ref f24))) (l24:K.lookup f24 = some ⟨oc24,od24,.func (PySem.W.fnOf "_law_bit_rows" "_law_bit_rows" (defArgs Y40) (defBody Y40) (defScope Y40) .none kV24 dc24 pm24 an24 cd24 ct24),sl24⟩) (c24:PySem.W.codeIn K cd24 "_law_bit_rows" = true) (k24:PySem.W.keepIn K (.ref f24) = true)
    (a25:PySem.W.nsIn K mainGlobals "_law_rows" = some (some (.ref f25))) (l25:K.lookup f25 = some ⟨oc25,od25,.func (PySem.W.fnOf "_law_rows" "_law_rows" (defArgs Y51) (defBody Y51) (defScope Y51) .none kV25 dc25 pm25 an25 cd25 ct25),sl25⟩) (c25:PySem.W.codeIn K cd25 "_law_rows" = true) (k25:PySem.W.keepIn K (.ref f25) = true)
    (a26:PySem.W.nsIn K mainGlobals "_law_table" = some (some (.ref f26))) (l26:K.lookup f26 = some ⟨oc26,od26,.func (PySem.W.fnOf "_law_table" "_law_table" (defArgs Y55) (defBody Y55) (defScope Y55) .none kV26 dc26 pm26 an26 cd26 ct26),sl26⟩) (c26:PySem.W.codeIn K cd26 "_law_table" = true) (k26:PySem.W.keepIn K (.ref f26) = true)
    (a27:PySem.W.nsIn K mainGlobals "_law_points" = some (some (.ref f27))) (l27:K.lookup f27 = some ⟨oc27,od27,.func (PySem.W.fnOf "_law_points" "_law_points" (defArgs Y50) (defBody Y50) (defScope Y50) .none kV27 dc27 pm27 an27 cd27 ct27),sl27⟩) (c27:PySem.W.codeIn K cd27 "_law_points" = true) (k27:PySem.W.keepIn K (.ref f27) = true)
    (a28:PySem.W.nsIn K mainGlobals "_law_codes" = some (some (.ref f28))) (l28:K.lookup f28 = some ⟨oc28,od28,.func (PySem.W.fnOf "_law_codes" "_law_codes" (defArgs Y42) (defBody Y42) (defScope Y42) .none kV28 dc28 pm28 an28 cd28 ct28),sl28⟩) (c28:PySem.W.codeIn K cd28 "_law_codes" = true) (k28:PySem.W.keepIn K (.ref f28) = true)
    (a29:PySem.W.nsIn K mainGlobals "_law_fit" = some (some (.ref f29))) (l29:K.lookup f29 = some ⟨oc29,od29,.func (PySem.W.fnOf "_law_fit" "_law_fit" (defArgs Y46) (defBody Y46) (defScope Y46) .none kV29 dc29 pm29 an29 cd29 ct29),sl29⟩) (c29:PySem.W.codeIn K cd29 "_law_fit" = true) (k29:PySem.W.keepIn K (.ref f29) = true)
    (a30:PySem.W.nsIn K mainGlobals "_law_way" = some (some (.ref f30))) (l30:K.lookup f30 = some ⟨oc30,od30,.func (PySem.W.fnOf "_law_way" "_law_way" (defArgs Y56) (defBody Y56) (defScope Y56) .none kV30 dc30 pm30 an30 cd30 ct30),sl30⟩) (c30:PySem.W.codeIn K cd30 "_law_way" = true) (k30:PySem.W.keepIn K (.ref f30) = true)
    (a31:PySem.W.nsIn K mainGlobals "_law_due" = some (some (.ref f31))) (l31:K.lookup f31 = some ⟨oc31,od31,.func (PySem.W.fnOf "_law_due" "_law_due" (defArgs Y45) (defBody Y45) (defScope Y45) .none kV31 dc31 pm31 an31 cd31 ct31),sl31⟩) (c31:PySem.W.codeIn K cd31 "_law_due" = true) (k31:PySem.W.keepIn K (.ref f31) = true)
    (a32:PySem.W.nsIn K mainGlobals "_law_same" = some (some (.ref f32))) (l32:K.lookup f32 = some ⟨oc32,od32,.func (PySem.W.fnOf "_law_same" "_law_same" (defArgs Y52) (defBody Y52) (defScope Y52) .none kV32 dc32 pm32 an32 cd32 ct32),sl32⟩) (c32:PySem.W.codeIn K cd32 "_law_same" = true) (k32:PySem.W.keepIn K (.ref f32) = true)
    (a33:PySem.W.nsIn K mainGlobals "_law_order" = some (some (.ref f33))) (l33:K.lookup f33 = some ⟨oc33,od33,.func (PySem.W.fnOf "_law_order" "_law_order" (defArgs Y49) (defBody Y49) (defScope Y49) .none kV33 dc33 pm33 an33 cd33 ct33),sl33⟩) (c33:PySem.W.codeIn K cd33 "_law_order" = true) (k33:PySem.W.keepIn K (.ref f33) = true)
    (a34:PySem.W.nsIn K mainGlobals "_law_has" = some (some (.ref f34))) (l34:K.lookup f34 = some ⟨oc34,od34,.func (PySem.W.fnOf "_law_has" "_law_has" (defArgs Y47) (defBody Y47) (defScope Y47) .none kV34 dc34 pm34 an34 cd34 ct34),sl34⟩) (c34:PySem.W.codeIn K cd34 "_law_has" = true) (k34:PySem.W.keepIn K (.ref f34) = true)
    (i35:PySem.W.findIn K (.ref qK) "__init__" = some (some (.ref f35))) (if35:PySem.W.isFn K (.ref f35) = true) (im35:PySem.W.makesIn K qK = true) (ik35:PySem.W.keepIn K (.ref qK) = true) (l35:K.lookup f35 = some ⟨oc35,od35,.func (PySem.W.fnOf "__init__" "Table.__init__" (defArgs Y17) (defBody Y17) (defScope Y17) .none kV35 dc35 pm35 an35 cd35 ct35),sl35⟩) (c35:PySem.W.codeIn K cd35 "Table.__init__" = true) (k35:PySem.W.keepIn K (.ref f35) = true)
    (i36:PySem.W.findIn K (.ref qB) "__init__" = some (some (.ref f36))) (if36:PySem.W.isFn K (.ref f36) = true) (im36:PySem.W.makesIn K qB = true) (ik36:PySem.W.keepIn K (.ref qB) = true) (l36:K.lookup f36 = some ⟨oc36,od36,.func (PySem.W.fnOf "__init__" "First.__init__" (defArgs Y4) (defBody Y4) (defScope Y4) .none kV36 dc36 pm36 an36 cd36 ct36),sl36⟩) (c36:PySem.W.codeIn K cd36 "First.__init__" = true) (k36:PySem.W.keepIn K (.ref f36) = true)
    (b_s37:PySem.W.specialIn K (.ref qA) "__getattribute__" = some (some (.builtin "type.__getattribute__"))) (b_r37:PySem.W.readsIn K qA (.type "type") = true) (b_a37:PySem.W.findCls K (.ref qA) (.type "type") "__init__" = some (.val (.ref f37))) (l37:K.lookup f37 = some ⟨oc37,od37,.func (PySem.W.fnOf "__init__" "Way.__init__" (defArgs Y18) (defBody Y18) (defScope Y18) .none kV37 dc37 pm37 an37 cd37 ct37),sl37⟩) (c37:PySem.W.codeIn K cd37 "Way.__init__" = true) (k37:PySem.W.keepIn K (.ref f37) = true)
    (i38:PySem.W.findIn K (.ref qC) "__init__" = some (some (.ref f38))) (if38:PySem.W.isFn K (.ref f38) = true) (im38:PySem.W.makesIn K qC = true) (ik38:PySem.W.keepIn K (.ref qC) = true) (l38:K.lookup f38 = some ⟨oc38,od38,.func (PySem.W.fnOf "__init__" "Only.__init__" (defArgs Y13) (defBody Y13) (defScope Y13) .none kV38 dc38 pm38 an38 cd38 ct38),sl38⟩) (c38:PySem.W.codeIn K cd38 "Only.__init__" = true) (k38:PySem.W.keepIn K (.ref f38) = true)
    (b_s39:PySem.W.specialIn K (.ref qA) "__getattribute__" = some (some (.builtin "type.__getattribute__"))) (b_r39:PySem.W.readsIn K qA (.type "type") = true) (b_a39:PySem.W.findCls K (.ref qA) (.type "type") "__init__" = some (.val (.ref f39))) (l39:K.lookup f39 = some ⟨oc39,od39,.func (PySem.W.fnOf "__init__" "Way.__init__" (defArgs Y22) (defBody Y22) (defScope Y22) .none kV39 dc39 pm39 an39 cd39 ct39),sl39⟩) (c39:PySem.W.codeIn K cd39 "Way.__init__" = true) (k39:PySem.W.keepIn K (.ref f39) = true)
    (i40:PySem.W.findIn K (.ref qD) "__init__" = some (some (.ref f40))) (if40:PySem.W.isFn K (.ref f40) = true) (im40:PySem.W.makesIn K qD = true) (ik40:PySem.W.keepIn K (.ref qD) = true) (l40:K.lookup f40 = some ⟨oc40,od40,.func (PySem.W.fnOf "__init__" "Like.__init__" (defArgs Y8) (defBody Y8) (defScope Y8) .none kV40 dc40 pm40 an40 cd40 ct40),sl40⟩) (c40:PySem.W.codeIn K cd40 "Like.__init__" = true) (k40:PySem.W.keepIn K (.ref f40) = true)
    (b_s41:PySem.W.specialIn K (.ref qA) "__getattribute__" = some (some (.builtin "type.__getattribute__"))) (b_r41:PySem.W.readsIn K qA (.type "type") = true) (b_a41:PySem.W.findCls K (.ref qA) (.type "type") "__init__" = some (.val (.ref f41))) (l41:K.lookup f41 = some ⟨oc41,od41,.func (PySem.W.fnOf "__init__" "Way.__init__" (defArgs Y20) (defBody Y20) (defScope Y20) .none kV41 dc41 pm41 an41 cd41 ct41),sl41⟩) (c41:PySem.W.codeIn K cd41 "Way.__init__" = true) (k41:PySem.W.keepIn K (.ref f41) = true)
    (i42:PySem.W.findIn K (.ref qE) "__init__" = some (some (.ref f42))) (if42:PySem.W.isFn K (.ref f42) = true) (im42:PySem.W.makesIn K qE = true) (ik42:PySem.W.keepIn K (.ref qE) = true) (l42:K.lookup f42 = some ⟨oc42,od42,.func (PySem.W.fnOf "__init__" "Low.__init__" (defArgs Y10) (defBody Y10) (defScope Y10) .none kV42 dc42 pm42 an42 cd42 ct42),sl42⟩) (c42:PySem.W.codeIn K cd42 "Low.__init__" = true) (k42:PySem.W.keepIn K (.ref f42) = true)
    (b_s43:PySem.W.specialIn K (.ref qA) "__getattribute__" = some (some (.builtin "type.__getattribute__"))) (b_r43:PySem.W.readsIn K qA (.type "type") = true) (b_a43:PySem.W.findCls K (.ref qA) (.type "type") "__init__" = some (.val (.ref f43))) (l43:K.lookup f43 = some ⟨oc43,od43,.func (PySem.W.fnOf "__init__" "Way.__init__" (defArgs Y21) (defBody Y21) (defScope Y21) .none kV43 dc43 pm43 an43 cd43 ct43),sl43⟩) (c43:PySem.W.codeIn K cd43 "Way.__init__" = true) (k43:PySem.W.keepIn K (.ref f43) = true)
    (i44:PySem.W.findIn K (.ref qF) "__init__" = some (some (.ref f44))) (if44:PySem.W.isFn K (.ref f44) = true) (im44:PySem.W.makesIn K qF = true) (ik44:PySem.W.keepIn K (.ref qF) = true) (l44:K.lookup f44 = some ⟨oc44,od44,.func (PySem.W.fnOf "__init__" "High.__init__" (defArgs Y6) (defBody Y6) (defScope Y6) .none kV44 dc44 pm44 an44 cd44 ct44),sl44⟩) (c44:PySem.W.codeIn K cd44 "High.__init__" = true) (k44:PySem.W.keepIn K (.ref f44) = true)
    (b_s45:PySem.W.specialIn K (.ref qA) "__getattribute__" = some (some (.builtin "type.__getattribute__"))) (b_r45:PySem.W.readsIn K qA (.type "type") = true) (b_a45:PySem.W.findCls K (.ref qA) (.type "type") "__init__" = some (.val (.ref f45))) (l45:K.lookup f45 = some ⟨oc45,od45,.func (PySem.W.fnOf "__init__" "Way.__init__" (defArgs Y19) (defBody Y19) (defScope Y19) .none kV45 dc45 pm45 an45 cd45 ct45),sl45⟩) (c45:PySem.W.codeIn K cd45 "Way.__init__" = true) (k45:PySem.W.keepIn K (.ref f45) = true)
    (i46:PySem.W.findIn K (.ref qG) "__init__" = some (some (.ref f46))) (if46:PySem.W.isFn K (.ref f46) = true) (im46:PySem.W.makesIn K qG = true) (ik46:PySem.W.keepIn K (.ref qG) = true) (l46:K.lookup f46 = some ⟨oc46,od46,.func (PySem.W.fnOf "__init__" "Sum.__init__" (defArgs Y15) (defBody Y15) (defScope Y15) .none kV46 dc46 pm46 an46 cd46 ct46),sl46⟩) (c46:PySem.W.codeIn K cd46 "Sum.__init__" = true) (k46:PySem.W.keepIn K (.ref f46) = true)
    (b_s47:PySem.W.specialIn K (.ref qA) "__getattribute__" = some (some (.builtin "type.__getattribute__"))) (b_r47:PySem.W.readsIn K qA (.type "type") = true) (b_a47:PySem.W.findCls K (.ref qA) (.type "type") "__init__" = some (.val (.ref f47))) (l47:K.lookup f47 = some ⟨oc47,od47,.func (PySem.W.fnOf "__init__" "Way.__init__" (defArgs Y23) (defBody Y23) (defScope Y23) .none kV47 dc47 pm47 an47 cd47 ct47),sl47⟩) (c47:PySem.W.codeIn K cd47 "Way.__init__" = true) (k47:PySem.W.keepIn K (.ref f47) = true)
    (m48:PySem.W.findIn K (.ref qI) "has_code" = some (some (.ref f48))) (mf48:PySem.W.isFn K (.ref f48) = true) (l48:K.lookup f48 = some ⟨oc48,od48,.func (PySem.W.fnOf "has_code" "Domain.has_code" (defArgs Y2) (defBody Y2) (defScope Y2) .none kV48 dc48 pm48 an48 cd48 ct48),sl48⟩) (c48:PySem.W.codeIn K cd48 "Domain.has_code" = true) (k48:PySem.W.keepIn K (.ref f48) = true)
    (m49:PySem.W.findIn K (.ref qJ) "has_code" = some (some (.ref f49))) (mf49:PySem.W.isFn K (.ref f49) = true) (l49:K.lookup f49 = some ⟨oc49,od49,.func (PySem.W.fnOf "has_code" "Domain.has_code" (defArgs Y3) (defBody Y3) (defScope Y3) .none kV49 dc49 pm49 an49 cd49 ct49),sl49⟩) (c49:PySem.W.codeIn K cd49 "Domain.has_code" = true) (k49:PySem.W.keepIn K (.ref f49) = true)
    (i50:PySem.W.findIn K (.ref qI) "__init__" = some (some (.ref f50))) (if50:PySem.W.isFn K (.ref f50) = true) (im50:PySem.W.makesIn K qI = true) (ik50:PySem.W.keepIn K (.ref qI) = true) (l50:K.lookup f50 = some ⟨oc50,od50,.func (PySem.W.fnOf "__init__" "Numbers.__init__" (defArgs Y12) (defBody Y12) (defScope Y12) .none kV50 dc50 pm50 an50 cd50 ct50),sl50⟩) (c50:PySem.W.codeIn K cd50 "Numbers.__init__" = true) (k50:PySem.W.keepIn K (.ref f50) = true)
    (b_s51:PySem.W.specialIn K (.ref qH) "__getattribute__" = some (some (.builtin "type.__getattribute__"))) (b_r51:PySem.W.readsIn K qH (.type "type") = true) (b_a51:PySem.W.findCls K (.ref qH) (.type "type") "__init__" = some (.val (.ref f51))) (l51:K.lookup f51 = some ⟨oc51,od51,.func (PySem.W.fnOf "__init__" "Domain.__init__" (defArgs Y0) (defBody Y0) (defScope Y0) .none kV51 dc51 pm51 an51 cd51 ct51),sl51⟩) (c51:PySem.W.codeIn K cd51 "Domain.__init__" = true) (k51:PySem.W.keepIn K (.ref f51) = true)
    (i52:PySem.W.findIn K (.ref qJ) "__init__" = some (some (.ref f52))) (if52:PySem.W.isFn K (.ref f52) = true) (im52:PySem.W.makesIn K qJ = true) (ik52:PySem.W.keepIn K (.ref qJ) = true) (l52:K.lookup f52 = some ⟨oc52,od52,.func (PySem.W.fnOf "__init__" "Words.__init__" (defArgs Y30) (defBody Y30) (defScope Y30) .none kV52 dc52 pm52 an52 cd52 ct52),sl52⟩) (c52:PySem.W.codeIn K cd52 "Words.__init__" = true) (k52:PySem.W.keepIn K (.ref f52) = true)
    (b_s53:PySem.W.specialIn K (.ref qH) "__getattribute__" = some (some (.builtin "type.__getattribute__"))) (b_r53:PySem.W.readsIn K qH (.type "type") = true) (b_a53:PySem.W.findCls K (.ref qH) (.type "type") "__init__" = some (.val (.ref f53))) (l53:K.lookup f53 = some ⟨oc53,od53,.func (PySem.W.fnOf "__init__" "Domain.__init__" (defArgs Y1) (defBody Y1) (defScope Y1) .none kV53 dc53 pm53 an53 cd53 ct53),sl53⟩) (c53:PySem.W.codeIn K cd53 "Domain.__init__" = true) (k53:PySem.W.keepIn K (.ref f53) = true)
    (m54:PySem.W.findIn K (.ref qB) "verdict" = some (some (.ref f54))) (mf54:PySem.W.isFn K (.ref f54) = true) (l54:K.lookup f54 = some ⟨oc54,od54,.func (PySem.W.fnOf "verdict" "Way.verdict" (defArgs Y24) (defBody Y24) (defScope Y24) .none kV54 dc54 pm54 an54 cd54 ct54),sl54⟩) (c54:PySem.W.codeIn K cd54 "Way.verdict" = true) (k54:PySem.W.keepIn K (.ref f54) = true)
    (m55:PySem.W.findIn K (.ref qB) "chosen" = some (some (.ref f55))) (mf55:PySem.W.isFn K (.ref f55) = true) (l55:K.lookup f55 = some ⟨oc55,od55,.func (PySem.W.fnOf "chosen" "First.chosen" (defArgs Y5) (defBody Y5) (defScope Y5) .none kV55 dc55 pm55 an55 cd55 ct55),sl55⟩) (c55:PySem.W.codeIn K cd55 "First.chosen" = true) (k55:PySem.W.keepIn K (.ref f55) = true)
    (m56:PySem.W.findIn K (.ref qC) "verdict" = some (some (.ref f56))) (mf56:PySem.W.isFn K (.ref f56) = true) (l56:K.lookup f56 = some ⟨oc56,od56,.func (PySem.W.fnOf "verdict" "Way.verdict" (defArgs Y28) (defBody Y28) (defScope Y28) .none kV56 dc56 pm56 an56 cd56 ct56),sl56⟩) (c56:PySem.W.codeIn K cd56 "Way.verdict" = true) (k56:PySem.W.keepIn K (.ref f56) = true)
    (m57:PySem.W.findIn K (.ref qC) "chosen" = some (some (.ref f57))) (mf57:PySem.W.isFn K (.ref f57) = true) (l57:K.lookup f57 = some ⟨oc57,od57,.func (PySem.W.fnOf "chosen" "Only.chosen" (defArgs Y14) (defBody Y14) (defScope Y14) .none kV57 dc57 pm57 an57 cd57 ct57),sl57⟩) (c57:PySem.W.codeIn K cd57 "Only.chosen" = true) (k57:PySem.W.keepIn K (.ref f57) = true)
    (m58:PySem.W.findIn K (.ref qD) "verdict" = some (some (.ref f58))) (mf58:PySem.W.isFn K (.ref f58) = true) (l58:K.lookup f58 = some ⟨oc58,od58,.func (PySem.W.fnOf "verdict" "Way.verdict" (defArgs Y26) (defBody Y26) (defScope Y26) .none kV58 dc58 pm58 an58 cd58 ct58),sl58⟩) (c58:PySem.W.codeIn K cd58 "Way.verdict" = true) (k58:PySem.W.keepIn K (.ref f58) = true)
    (m59:PySem.W.findIn K (.ref qD) "chosen" = some (some (.ref f59))) (mf59:PySem.W.isFn K (.ref f59) = true) (l59:K.lookup f59 = some ⟨oc59,od59,.func (PySem.W.fnOf "chosen" "Like.chosen" (defArgs Y9) (defBody Y9) (defScope Y9) .none kV59 dc59 pm59 an59 cd59 ct59),sl59⟩) (c59:PySem.W.codeIn K cd59 "Like.chosen" = true) (k59:PySem.W.keepIn K (.ref f59) = true)
    (m60:PySem.W.findIn K (.ref qE) "verdict" = some (some (.ref f60))) (mf60:PySem.W.isFn K (.ref f60) = true) (l60:K.lookup f60 = some ⟨oc60,od60,.func (PySem.W.fnOf "verdict" "Way.verdict" (defArgs Y27) (defBody Y27) (defScope Y27) .none kV60 dc60 pm60 an60 cd60 ct60),sl60⟩) (c60:PySem.W.codeIn K cd60 "Way.verdict" = true) (k60:PySem.W.keepIn K (.ref f60) = true)
    (m61:PySem.W.findIn K (.ref qE) "chosen" = some (some (.ref f61))) (mf61:PySem.W.isFn K (.ref f61) = true) (l61:K.lookup f61 = some ⟨oc61,od61,.func (PySem.W.fnOf "chosen" "Low.chosen" (defArgs Y11) (defBody Y11) (defScope Y11) .none kV61 dc61 pm61 an61 cd61 ct61),sl61⟩) (c61:PySem.W.codeIn K cd61 "Low.chosen" = true) (k61:PySem.W.keepIn K (.ref f61) = true)
    (m62:PySem.W.findIn K (.ref qF) "verdict" = some (some (.ref f62))) (mf62:PySem.W.isFn K (.ref f62) = true) (l62:K.lookup f62 = some ⟨oc62,od62,.func (PySem.W.fnOf "verdict" "Way.verdict" (defArgs Y25) (defBody Y25) (defScope Y25) .none kV62 dc62 pm62 an62 cd62 ct62),sl62⟩) (c62:PySem.W.codeIn K cd62 "Way.verdict" = true) (k62:PySem.W.keepIn K (.ref f62) = true)
    (m63:PySem.W.findIn K (.ref qF) "chosen" = some (some (.ref f63))) (mf63:PySem.W.isFn K (.ref f63) = true) (l63:K.lookup f63 = some ⟨oc63,od63,.func (PySem.W.fnOf "chosen" "High.chosen" (defArgs Y7) (defBody Y7) (defScope Y7) .none kV63 dc63 pm63 an63 cd63 ct63),sl63⟩) (c63:PySem.W.codeIn K cd63 "High.chosen" = true) (k63:PySem.W.keepIn K (.ref f63) = true)
    (m64:PySem.W.findIn K (.ref qG) "verdict" = some (some (.ref f64))) (mf64:PySem.W.isFn K (.ref f64) = true) (l64:K.lookup f64 = some ⟨oc64,od64,.func (PySem.W.fnOf "verdict" "Way.verdict" (defArgs Y29) (defBody Y29) (defScope Y29) .none kV64 dc64 pm64 an64 cd64 ct64),sl64⟩) (c64:PySem.W.codeIn K cd64 "Way.verdict" = true) (k64:PySem.W.keepIn K (.ref f64) = true)
    (m65:PySem.W.findIn K (.ref qG) "chosen" = some (some (.ref f65))) (mf65:PySem.W.isFn K (.ref f65) = true) (l65:K.lookup f65 = some ⟨oc65,od65,.func (PySem.W.fnOf "chosen" "Sum.chosen" (defArgs Y16) (defBody Y16) (defScope Y16) .none kV65 dc65 pm65 an65 cd65 ct65),sl65⟩) (c65:PySem.W.codeIn K cd65 "Sum.chosen" = true) (k65:PySem.W.keepIn K (.ref f65) = true)
    (a66:PySem.W.nsIn K mainGlobals "law" = some (some (.ref f66))) (l66:K.lookup f66 = some ⟨oc66,od66,.func (PySem.W.fnOf "law" "law" (defArgs Y38) (defBody Y38) (defScope Y38) .none kV66 dc66 pm66 an66 cd66 ct66),sl66⟩) (c66:PySem.W.codeIn K cd66 "law" = true) (k66:PySem.W.keepIn K (.ref f66) = true)
    (z0:PySem.W.nsIn K mainGlobals "len" = some none)
    (z1:PySem.W.nsIn K mainGlobals "isinstance" = some none)
    (z2:PySem.W.nsIn K mainGlobals "int" = some none)
    (z3:PySem.W.nsIn K mainGlobals "bool" = some none)
    (z4:PySem.W.nsIn K mainGlobals "set" = some none)
    (z5:PySem.W.nsIn K mainGlobals "zip" = some none)
    (z6:PySem.W.nsIn K mainGlobals "list" = some none)
    (z7:PySem.W.nsIn K mainGlobals "sum" = some none)
    (z8:PySem.W.nsIn K mainGlobals "range" = some none)
    (z9:PySem.W.nsIn K mainGlobals "enumerate" = some none)
    (z10:PySem.W.nsIn K mainGlobals "all" = some none)
    (z11:PySem.W.nsIn K mainGlobals "min" = some none)
    (z12:PySem.W.nsIn K mainGlobals "max" = some none)
    (z13:PySem.W.nsIn K mainGlobals "tuple" = some none)
    (z14:PySem.W.nsIn K mainGlobals "str" = some none)
    {w0:Value} (y0:PySem.W.nsIn K mainGlobals "MOST_SIGNS" = some (some w0)) (x0:RelV (V.int 12) w0)
    {w1:Value} (y1:PySem.W.nsIn K mainGlobals "SMALL_LETTERS" = some (some w1)) (x1:RelV (V.str "abcdefghijklmnopqrstuvwxyz") w1)
    {w2:Value} (y2:PySem.W.nsIn K mainGlobals "MOST_ROWS" = some (some w2)) (x2:RelV (V.int 200) w2)
    {w3:Value} (y3:PySem.W.nsIn K mainGlobals "MOST_COLUMNS" = some (some w3)) (x3:RelV (V.int 4) w3)
    {w4:Value} (y4:PySem.W.nsIn K mainGlobals "MOST_WORDS" = some (some w4)) (x4:RelV (V.int 40) w4)
    (pg_First:PySem.W.plainGet K qB Str.empty = true) (hd_First:PySem.W.hasDictIn K qB = true) (po_First:PySem.W.plainOver K qB = true) (sa_First:PySem.W.findIn K (.ref qB) "__setattr__" = some (some (.builtin "object.__setattr__")))
    (pg_Only:PySem.W.plainGet K qC Str.empty = true) (hd_Only:PySem.W.hasDictIn K qC = true) (po_Only:PySem.W.plainOver K qC = true) (sa_Only:PySem.W.findIn K (.ref qC) "__setattr__" = some (some (.builtin "object.__setattr__")))
    (pg_Like:PySem.W.plainGet K qD Str.empty = true) (hd_Like:PySem.W.hasDictIn K qD = true) (po_Like:PySem.W.plainOver K qD = true) (sa_Like:PySem.W.findIn K (.ref qD) "__setattr__" = some (some (.builtin "object.__setattr__")))
    (pg_Low:PySem.W.plainGet K qE Str.empty = true) (hd_Low:PySem.W.hasDictIn K qE = true) (po_Low:PySem.W.plainOver K qE = true) (sa_Low:PySem.W.findIn K (.ref qE) "__setattr__" = some (some (.builtin "object.__setattr__")))
    (pg_High:PySem.W.plainGet K qF Str.empty = true) (hd_High:PySem.W.hasDictIn K qF = true) (po_High:PySem.W.plainOver K qF = true) (sa_High:PySem.W.findIn K (.ref qF) "__setattr__" = some (some (.builtin "object.__setattr__")))
    (pg_Sum:PySem.W.plainGet K qG Str.empty = true) (hd_Sum:PySem.W.hasDictIn K qG = true) (po_Sum:PySem.W.plainOver K qG = true) (sa_Sum:PySem.W.findIn K (.ref qG) "__setattr__" = some (some (.builtin "object.__setattr__")))
    (pg_Numbers:PySem.W.plainGet K qI Str.empty = true) (hd_Numbers:PySem.W.hasDictIn K qI = true) (po_Numbers:PySem.W.plainOver K qI = true) (sa_Numbers:PySem.W.findIn K (.ref qI) "__setattr__" = some (some (.builtin "object.__setattr__")))
    (pg_Words:PySem.W.plainGet K qJ Str.empty = true) (hd_Words:PySem.W.hasDictIn K qJ = true) (po_Words:PySem.W.plainOver K qJ = true) (sa_Words:PySem.W.findIn K (.ref qJ) "__setattr__" = some (some (.builtin "object.__setattr__")))
    (pg_Table:PySem.W.plainGet K qK Str.empty = true) (hd_Table:PySem.W.hasDictIn K qK = true) (po_Table:PySem.W.plainOver K qK = true) (sa_Table:PySem.W.findIn K (.ref qK) "__setattr__" = some (some (.builtin "object.__setattr__")))
    (ta_First:PySem.W.findIn K (.ref qB) "__class__" = some (some (.builtin "object.__class__"))) (tn_First:PySem.W.specialIn K (.builtin "object.__class__") "__get__" = some (some (.builtin "getset_descriptor.__get__"))) (tt_First:PySem.W.takesIn K (.builtin "object.__class__") = some true) (tm_First:PySem.W.mroIn K qB (.type "object") = some true)
    (ta_Only:PySem.W.findIn K (.ref qC) "__class__" = some (some (.builtin "object.__class__"))) (tn_Only:PySem.W.specialIn K (.builtin "object.__class__") "__get__" = some (some (.builtin "getset_descriptor.__get__"))) (tt_Only:PySem.W.takesIn K (.builtin "object.__class__") = some true) (tm_Only:PySem.W.mroIn K qC (.type "object") = some true)
    (ta_Like:PySem.W.findIn K (.ref qD) "__class__" = some (some (.builtin "object.__class__"))) (tn_Like:PySem.W.specialIn K (.builtin "object.__class__") "__get__" = some (some (.builtin "getset_descriptor.__get__"))) (tt_Like:PySem.W.takesIn K (.builtin "object.__class__") = some true) (tm_Like:PySem.W.mroIn K qD (.type "object") = some true)
    (ta_Low:PySem.W.findIn K (.ref qE) "__class__" = some (some (.builtin "object.__class__"))) (tn_Low:PySem.W.specialIn K (.builtin "object.__class__") "__get__" = some (some (.builtin "getset_descriptor.__get__"))) (tt_Low:PySem.W.takesIn K (.builtin "object.__class__") = some true) (tm_Low:PySem.W.mroIn K qE (.type "object") = some true)
    (ta_High:PySem.W.findIn K (.ref qF) "__class__" = some (some (.builtin "object.__class__"))) (tn_High:PySem.W.specialIn K (.builtin "object.__class__") "__get__" = some (some (.builtin "getset_descriptor.__get__"))) (tt_High:PySem.W.takesIn K (.builtin "object.__class__") = some true) (tm_High:PySem.W.mroIn K qF (.type "object") = some true)
    (ta_Sum:PySem.W.findIn K (.ref qG) "__class__" = some (some (.builtin "object.__class__"))) (tn_Sum:PySem.W.specialIn K (.builtin "object.__class__") "__get__" = some (some (.builtin "getset_descriptor.__get__"))) (tt_Sum:PySem.W.takesIn K (.builtin "object.__class__") = some true) (tm_Sum:PySem.W.mroIn K qG (.type "object") = some true)
    (ta_Numbers:PySem.W.findIn K (.ref qI) "__class__" = some (some (.builtin "object.__class__"))) (tn_Numbers:PySem.W.specialIn K (.builtin "object.__class__") "__get__" = some (some (.builtin "getset_descriptor.__get__"))) (tt_Numbers:PySem.W.takesIn K (.builtin "object.__class__") = some true) (tm_Numbers:PySem.W.mroIn K qI (.type "object") = some true)
    (ta_Words:PySem.W.findIn K (.ref qJ) "__class__" = some (some (.builtin "object.__class__"))) (tn_Words:PySem.W.specialIn K (.builtin "object.__class__") "__get__" = some (some (.builtin "getset_descriptor.__get__"))) (tt_Words:PySem.W.takesIn K (.builtin "object.__class__") = some true) (tm_Words:PySem.W.mroIn K qJ (.type "object") = some true)
    (ta_Table:PySem.W.findIn K (.ref qK) "__class__" = some (some (.builtin "object.__class__"))) (tn_Table:PySem.W.specialIn K (.builtin "object.__class__") "__get__" = some (some (.builtin "getset_descriptor.__get__"))) (tt_Table:PySem.W.takesIn K (.builtin "object.__class__") = some true) (tm_Table:PySem.W.mroIn K qK (.type "object") = some true)
    (na_First_called:PySem.W.findIn K (.ref qB) "called" = some none)
    (na_Only_called:PySem.W.findIn K (.ref qC) "called" = some none)
    (na_Like_called:PySem.W.findIn K (.ref qD) "called" = some none)
    (na_Low_called:PySem.W.findIn K (.ref qE) "called" = some none)
    (na_High_called:PySem.W.findIn K (.ref qF) "called" = some none)
    (na_Sum_called:PySem.W.findIn K (.ref qG) "called" = some none)
    (na_Numbers_low:PySem.W.findIn K (.ref qI) "low" = some none)
    (na_Numbers_high:PySem.W.findIn K (.ref qI) "high" = some none)
    (na_Numbers_words:PySem.W.findIn K (.ref qI) "words" = some none)
    (na_Words_low:PySem.W.findIn K (.ref qJ) "low" = some none)
    (na_Words_high:PySem.W.findIn K (.ref qJ) "high" = some none)
    (na_Words_words:PySem.W.findIn K (.ref qJ) "words" = some none)
    (na_Table_name:PySem.W.findIn K (.ref qK) "name" = some none)
    (na_Table_names:PySem.W.findIn K (.ref qK) "names" = some none)
    (na_Table_domains:PySem.W.findIn K (.ref qK) "domains" = some none)
    (na_Table_outcome:PySem.W.findIn K (.ref qK) "outcome" = some none)
    (na_Table_way:PySem.W.findIn K (.ref qK) "way" = some none)
    (na_Table_rows:PySem.W.findIn K (.ref qK) "rows" = some none)
    (f_nn:PySem.W.kitOne K (.ref qI) (.ref qI) = some true)
    (f_wn:PySem.W.kitOne K (.ref qJ) (.ref qI) = some false)
    (f_ww:PySem.W.kitOne K (.ref qJ) (.ref qJ) = some true)
    (f_tt:PySem.W.kitOne K (.ref qK) (.ref qK) = some true)
    (f_nw:PySem.W.kitOne K (.ref qI) (.ref qJ) = some false)
    : ∃ fd:FuncData,(∀ (s:Shared) (v:Value),BindsTo s fd ⟨[v],[]⟩ [("script",v)])∧∀ base:Heap,K.In base→base.Ns mainGlobals mg→FnOk l.prog w K mg base CX0 9 fa fd ["script"] (J38 K):=by
  have e:=hfa.symm.trans (PySem.W.mg_of X G a66)
  cases e
  have F0:=fun_mk (st:=Y32) l0 c0 k0
  have b0:=F0.binds (ps:=["text", "signs"]) fun _ _ _ _ _ _ us hl=>match us,hl with | [_,_],_=>rfl
  have F1:=fun_mk (st:=Y36) l1 c1 k1
  have b1:=F1.binds (ps:=["text"]) fun _ _ _ _ _ _ us hl=>match us,hl with | [_],_=>rfl
  have F2:=fun_mk (st:=Y35) l2 c2 k2
  have b2:=F2.binds (ps:=["value"]) fun _ _ _ _ _ _ us hl=>match us,hl with | [_],_=>rfl
  have F3:=fun_mk (st:=Y31) l3 c3 k3
  have b3:=F3.binds (ps:=["one", "other"]) fun _ _ _ _ _ _ us hl=>match us,hl with | [_,_],_=>rfl
  have F4:=fun_mk (st:=Y34) l4 c4 k4
  have b4:=F4.binds (ps:=["spans", "number"]) fun _ _ _ _ _ _ us hl=>match us,hl with | [_,_],_=>rfl
  have F5:=fun_mk (st:=Y66) l5 c5 k5
  have b5:=F5.binds (ps:=["name"]) fun _ _ _ _ _ _ us hl=>match us,hl with | [_],_=>rfl
  have F6:=fun_mk (st:=Y61) l6 c6 k6
  have b6:=F6.binds (ps:=["names"]) fun _ _ _ _ _ _ us hl=>match us,hl with | [_],_=>rfl
  have F7:=fun_mk (st:=Y60) l7 c7 k7
  have b7:=F7.binds (ps:=["names", "rows"]) fun _ _ _ _ _ _ us hl=>match us,hl with | [_,_],_=>rfl
  have F8:=fun_mk (st:=Y63) l8 c8 k8
  have b8:=F8.binds (ps:=["way", "outcome"]) fun _ _ _ _ _ _ us hl=>match us,hl with | [_,_],_=>rfl
  have F9:=fun_mk (st:=Y62) l9 c9 k9
  have b9:=F9.binds (ps:=["domains", "outcome", "cells", "code"]) fun _ _ _ _ _ _ us hl=>match us,hl with | [_,_,_,_],_=>rfl
  have F10:=fun_mk (st:=Y59) l10 c10 k10
  have b10:=F10.binds (ps:=["cells", "code"]) fun _ _ _ _ _ _ us hl=>match us,hl with | [_,_],_=>rfl
  have F11:=fun_mk (st:=Y33) l11 c11 k11
  have b11:=F11.binds (ps:=["table", "k", "codes"]) fun _ _ _ _ _ _ us hl=>match us,hl with | [_,_,_],_=>rfl
  have F12:=fun_mk (st:=Y58) l12 c12 k12
  have b12:=F12.binds (ps:=["table", "codes"]) fun _ _ _ _ _ _ us hl=>match us,hl with | [_,_],_=>rfl
  have F13:=fun_mk (st:=Y37) l13 c13 k13
  have b13:=F13.binds (ps:=["table", "rows"]) fun _ _ _ _ _ _ us hl=>match us,hl with | [_,_],_=>rfl
  have F14:=fun_mk (st:=Y65) l14 c14 k14
  have b14:=F14.binds (ps:=["table", "codes"]) fun _ _ _ _ _ _ us hl=>match us,hl with | [_,_],_=>rfl
  have F15:=fun_mk (st:=Y64) l15 c15 k15
  have b15:=F15.binds (ps:=["table", "order"]) fun _ _ _ _ _ _ us hl=>match us,hl with | [_,_],_=>rfl
  have F16:=fun_mk (st:=Y41) l16 c16 k16
  have b16:=F16.binds (ps:=["script", "k"]) fun _ _ _ _ _ _ us hl=>match us,hl with | [_,_],_=>rfl
  have F17:=fun_mk (st:=Y48) l17 c17 k17
  have b17:=F17.binds (ps:=["cell", "k"]) fun _ _ _ _ _ _ us hl=>match us,hl with | [_,_],_=>rfl
  have F18:=fun_mk (st:=Y53) l18 c18 k18
  have b18:=F18.binds (ps:=["cells", "most"]) fun _ _ _ _ _ _ us hl=>match us,hl with | [_,_],_=>rfl
  have F19:=fun_mk (st:=Y57) l19 c19 k19
  have b19:=F19.binds (ps:=["cell", "k"]) fun _ _ _ _ _ _ us hl=>match us,hl with | [_,_],_=>rfl
  have F20:=fun_mk (st:=Y43) l20 c20 k20
  have b20:=F20.binds (ps:=["m", "most"]) fun _ _ _ _ _ _ us hl=>match us,hl with | [_,_],_=>rfl
  have F21:=fun_mk (st:=Y44) l21 c21 k21
  have b21:=F21.binds (ps:=["column"]) fun _ _ _ _ _ _ us hl=>match us,hl with | [_],_=>rfl
  have F22:=fun_mk (st:=Y54) l22 c22 k22
  have b22:=F22.binds (ps:=["pairs", "bits"]) fun _ _ _ _ _ _ us hl=>match us,hl with | [_,_],_=>rfl
  have F23:=fun_mk (st:=Y39) l23 c23 k23
  have b23:=F23.binds (ps:=["m", "columns", "out", "last"]) fun _ _ _ _ _ _ us hl=>match us,hl with | [_,_,_,_],_=>rfl
  have F24:=fun_mk (st:=Y40) l24 c24 k24
  have b24:=F24.binds (ps:=["seeds", "columns", "out"]) fun _ _ _ _ _ _ us hl=>match us,hl with | [_,_,_],_=>rfl
  have F25:=fun_mk (st:=Y51) l25 c25 k25
  have b25:=F25.binds (ps:=["bit_rows", "columns"]) fun _ _ _ _ _ _ us hl=>match us,hl with | [_,_],_=>rfl
  have F26:=fun_mk (st:=Y55) l26 c26 k26
  have b26:=F26.binds (ps:=["head", "columns", "out", "way", "bit_rows"]) fun _ _ _ _ _ _ us hl=>match us,hl with | [_,_,_,_,_],_=>rfl
  have F27:=fun_mk (st:=Y50) l27 c27 k27
  have b27:=F27.binds (ps:=["columns"]) fun _ _ _ _ _ _ us hl=>match us,hl with | [_],_=>rfl
  have F28:=fun_mk (st:=Y42) l28 c28 k28
  have b28:=F28.binds (ps:=["columns", "point", "turn"]) fun _ _ _ _ _ _ us hl=>match us,hl with | [_,_,_],_=>rfl
  have F29:=fun_mk (st:=Y46) l29 c29 k29
  have b29:=F29.binds (ps:=["bit_row", "point"]) fun _ _ _ _ _ _ us hl=>match us,hl with | [_,_],_=>rfl
  have F30:=fun_mk (st:=Y56) l30 c30 k30
  have b30:=F30.binds (ps:=["turn", "out"]) fun _ _ _ _ _ _ us hl=>match us,hl with | [_,_],_=>rfl
  have F31:=fun_mk (st:=Y45) l31 c31 k31
  have b31:=F31.binds (ps:=["way", "bit_rows", "out", "point"]) fun _ _ _ _ _ _ us hl=>match us,hl with | [_,_,_,_],_=>rfl
  have F32:=fun_mk (st:=Y52) l32 c32 k32
  have b32:=F32.binds (ps:=["found", "due"]) fun _ _ _ _ _ _ us hl=>match us,hl with | [_,_],_=>rfl
  have F33:=fun_mk (st:=Y49) l33 c33 k33
  have b33:=F33.binds (ps:=["cell", "count"]) fun _ _ _ _ _ _ us hl=>match us,hl with | [_,_],_=>rfl
  have F34:=fun_mk (st:=Y47) l34 c34 k34
  have b34:=F34.binds (ps:=["table", "names", "rows", "columns"]) fun _ _ _ _ _ _ us hl=>match us,hl with | [_,_,_,_],_=>rfl
  have F35:=fun_mk (st:=Y17) l35 c35 k35
  have b35:=F35.binds (ps:=["self", "name", "names", "domains", "outcome", "way", "rows"]) fun _ _ _ _ _ _ us hl=>match us,hl with | [_,_,_,_,_,_,_],_=>rfl
  have F36:=fun_mk (st:=Y4) l36 c36 k36
  have b36:=F36.binds (ps:=["self"]) fun _ _ _ _ _ _ us hl=>match us,hl with | [_],_=>rfl
  have F37:=fun_mk (st:=Y18) l37 c37 k37
  have b37:=F37.binds (ps:=["self", "called"]) fun _ _ _ _ _ _ us hl=>match us,hl with | [_,_],_=>rfl
  have F38:=fun_mk (st:=Y13) l38 c38 k38
  have b38:=F38.binds (ps:=["self"]) fun _ _ _ _ _ _ us hl=>match us,hl with | [_],_=>rfl
  have F39:=fun_mk (st:=Y22) l39 c39 k39
  have b39:=F39.binds (ps:=["self", "called"]) fun _ _ _ _ _ _ us hl=>match us,hl with | [_,_],_=>rfl
  have F40:=fun_mk (st:=Y8) l40 c40 k40
  have b40:=F40.binds (ps:=["self"]) fun _ _ _ _ _ _ us hl=>match us,hl with | [_],_=>rfl
  have F41:=fun_mk (st:=Y20) l41 c41 k41
  have b41:=F41.binds (ps:=["self", "called"]) fun _ _ _ _ _ _ us hl=>match us,hl with | [_,_],_=>rfl
  have F42:=fun_mk (st:=Y10) l42 c42 k42
  have b42:=F42.binds (ps:=["self"]) fun _ _ _ _ _ _ us hl=>match us,hl with | [_],_=>rfl
  have F43:=fun_mk (st:=Y21) l43 c43 k43
  have b43:=F43.binds (ps:=["self", "called"]) fun _ _ _ _ _ _ us hl=>match us,hl with | [_,_],_=>rfl
  have F44:=fun_mk (st:=Y6) l44 c44 k44
  have b44:=F44.binds (ps:=["self"]) fun _ _ _ _ _ _ us hl=>match us,hl with | [_],_=>rfl
  have F45:=fun_mk (st:=Y19) l45 c45 k45
  have b45:=F45.binds (ps:=["self", "called"]) fun _ _ _ _ _ _ us hl=>match us,hl with | [_,_],_=>rfl
  have F46:=fun_mk (st:=Y15) l46 c46 k46
  have b46:=F46.binds (ps:=["self"]) fun _ _ _ _ _ _ us hl=>match us,hl with | [_],_=>rfl
  have F47:=fun_mk (st:=Y23) l47 c47 k47
  have b47:=F47.binds (ps:=["self", "called"]) fun _ _ _ _ _ _ us hl=>match us,hl with | [_,_],_=>rfl
  have F48:=fun_mk (st:=Y2) l48 c48 k48
  have b48:=F48.binds (ps:=["self", "value"]) fun _ _ _ _ _ _ us hl=>match us,hl with | [_,_],_=>rfl
  have F49:=fun_mk (st:=Y3) l49 c49 k49
  have b49:=F49.binds (ps:=["self", "value"]) fun _ _ _ _ _ _ us hl=>match us,hl with | [_,_],_=>rfl
  have F50:=fun_mk (st:=Y12) l50 c50 k50
  have b50:=F50.binds (ps:=["self", "low", "high"]) fun _ _ _ _ _ _ us hl=>match us,hl with | [_,_,_],_=>rfl
  have F51:=fun_mk (st:=Y0) l51 c51 k51
  have b51:=F51.binds (ps:=["self", "low", "high"]) fun _ _ _ _ _ _ us hl=>match us,hl with | [_,_,_],_=>rfl
  have F52:=fun_mk (st:=Y30) l52 c52 k52
  have b52:=F52.binds (ps:=["self", "words"]) fun _ _ _ _ _ _ us hl=>match us,hl with | [_,_],_=>rfl
  have F53:=fun_mk (st:=Y1) l53 c53 k53
  have b53:=F53.binds (ps:=["self", "low", "high"]) fun _ _ _ _ _ _ us hl=>match us,hl with | [_,_,_],_=>rfl
  have F54:=fun_mk (st:=Y24) l54 c54 k54
  have b54:=F54.binds (ps:=["self", "codes", "outcome"]) fun _ _ _ _ _ _ us hl=>match us,hl with | [_,_,_],_=>rfl
  have F55:=fun_mk (st:=Y5) l55 c55 k55
  have b55:=F55.binds (ps:=["self", "codes", "outcome"]) fun _ _ _ _ _ _ us hl=>match us,hl with | [_,_,_],_=>rfl
  have F56:=fun_mk (st:=Y28) l56 c56 k56
  have b56:=F56.binds (ps:=["self", "codes", "outcome"]) fun _ _ _ _ _ _ us hl=>match us,hl with | [_,_,_],_=>rfl
  have F57:=fun_mk (st:=Y14) l57 c57 k57
  have b57:=F57.binds (ps:=["self", "codes", "outcome"]) fun _ _ _ _ _ _ us hl=>match us,hl with | [_,_,_],_=>rfl
  have F58:=fun_mk (st:=Y26) l58 c58 k58
  have b58:=F58.binds (ps:=["self", "codes", "outcome"]) fun _ _ _ _ _ _ us hl=>match us,hl with | [_,_,_],_=>rfl
  have F59:=fun_mk (st:=Y9) l59 c59 k59
  have b59:=F59.binds (ps:=["self", "codes", "outcome"]) fun _ _ _ _ _ _ us hl=>match us,hl with | [_,_,_],_=>rfl
  have F60:=fun_mk (st:=Y27) l60 c60 k60
  have b60:=F60.binds (ps:=["self", "codes", "outcome"]) fun _ _ _ _ _ _ us hl=>match us,hl with | [_,_,_],_=>rfl
  have F61:=fun_mk (st:=Y11) l61 c61 k61
  have b61:=F61.binds (ps:=["self", "codes", "outcome"]) fun _ _ _ _ _ _ us hl=>match us,hl with | [_,_,_],_=>rfl
  have F62:=fun_mk (st:=Y25) l62 c62 k62
  have b62:=F62.binds (ps:=["self", "codes", "outcome"]) fun _ _ _ _ _ _ us hl=>match us,hl with | [_,_,_],_=>rfl
  have F63:=fun_mk (st:=Y7) l63 c63 k63
  have b63:=F63.binds (ps:=["self", "codes", "outcome"]) fun _ _ _ _ _ _ us hl=>match us,hl with | [_,_,_],_=>rfl
  have F64:=fun_mk (st:=Y29) l64 c64 k64
  have b64:=F64.binds (ps:=["self", "codes", "outcome"]) fun _ _ _ _ _ _ us hl=>match us,hl with | [_,_,_],_=>rfl
  have F65:=fun_mk (st:=Y16) l65 c65 k65
  have b65:=F65.binds (ps:=["self", "codes", "outcome"]) fun _ _ _ _ _ _ us hl=>match us,hl with | [_,_,_],_=>rfl
  have F66:=fun_mk (st:=Y38) l66 c66 k66
  have b66:=F66.binds (ps:=["script"]) fun _ _ _ _ _ _ us hl=>match us,hl with | [_],_=>rfl
  have bl:Bl K mg qA qB qC qD qE qF qG qH qI qJ qK qL qM:=⟨PySem.W.mg_of X G n_Way,n_Way,PySem.W.mg_of X G n_First,n_First,PySem.W.mg_of X G n_Only,n_Only,PySem.W.mg_of X G n_Like,n_Like,PySem.W.mg_of X G n_Low,n_Low,PySem.W.mg_of X G n_High,n_High,PySem.W.mg_of X G n_Sum,n_Sum,PySem.W.mg_of X G n_Domain,n_Domain,PySem.W.mg_of X G n_Numbers,n_Numbers,PySem.W.mg_of X G n_Words,n_Words,PySem.W.mg_of X G n_Table,n_Table,⟨pg_First,hd_First,po_First,sa_First⟩,⟨pg_Only,hd_Only,po_Only,sa_Only⟩,⟨pg_Like,hd_Like,po_Like,sa_Like⟩,⟨pg_Low,hd_Low,po_Low,sa_Low⟩,⟨pg_High,hd_High,po_High,sa_High⟩,⟨pg_Sum,hd_Sum,po_Sum,sa_Sum⟩,⟨pg_Numbers,hd_Numbers,po_Numbers,sa_Numbers⟩,⟨pg_Words,hd_Words,po_Words,sa_Words⟩,⟨pg_Table,hd_Table,po_Table,sa_Table⟩,⟨⟨pg_First,hd_First,po_First,sa_First⟩,ta_First,tn_First,tt_First,tm_First⟩,⟨⟨pg_Only,hd_Only,po_Only,sa_Only⟩,ta_Only,tn_Only,tt_Only,tm_Only⟩,⟨⟨pg_Like,hd_Like,po_Like,sa_Like⟩,ta_Like,tn_Like,tt_Like,tm_Like⟩,⟨⟨pg_Low,hd_Low,po_Low,sa_Low⟩,ta_Low,tn_Low,tt_Low,tm_Low⟩,⟨⟨pg_High,hd_High,po_High,sa_High⟩,ta_High,tn_High,tt_High,tm_High⟩,⟨⟨pg_Sum,hd_Sum,po_Sum,sa_Sum⟩,ta_Sum,tn_Sum,tt_Sum,tm_Sum⟩,⟨⟨pg_Numbers,hd_Numbers,po_Numbers,sa_Numbers⟩,ta_Numbers,tn_Numbers,tt_Numbers,tm_Numbers⟩,⟨⟨pg_Words,hd_Words,po_Words,sa_Words⟩,ta_Words,tn_Words,tt_Words,tm_Words⟩,⟨⟨pg_Table,hd_Table,po_Table,sa_Table⟩,ta_Table,tn_Table,tt_Table,tm_Table⟩,PySem.W.mg_of X G n_NONE,ModT.mk lk_NONE sz_NONE vs_NONE,PySem.W.mg_of X G n_CLASH,ModT.mk lk_CLASH sz_CLASH vs_CLASH,na_First_called,na_Only_called,na_Like_called,na_Low_called,na_High_called,na_Sum_called,na_Numbers_low,na_Numbers_high,na_Numbers_words,na_Words_low,na_Words_high,na_Words_words,na_Table_name,na_Table_names,na_Table_domains,na_Table_outcome,na_Table_way,na_Table_rows,f_nn,f_wn,f_ww,f_tt,f_nw,PySem.W.mg_none_of X G z0,PySem.W.mg_none_of X G z1,PySem.W.mg_none_of X G z2,PySem.W.mg_none_of X G z3,PySem.W.mg_none_of X G z4,PySem.W.mg_none_of X G z5,PySem.W.mg_none_of X G z6,PySem.W.mg_none_of X G z7,PySem.W.mg_none_of X G z8,PySem.W.mg_none_of X G z9,PySem.W.mg_none_of X G z10,PySem.W.mg_none_of X G z11,PySem.W.mg_none_of X G z12,PySem.W.mg_none_of X G z13,PySem.W.mg_none_of X G z14,⟨_,PySem.W.mg_of X G y0,x0⟩,⟨_,PySem.W.mg_of X G y1,x1⟩,⟨_,PySem.W.mg_of X G y2,x2⟩,⟨_,PySem.W.mg_of X G y3,x3⟩,⟨_,PySem.W.mg_of X G y4,x4⟩⟩
  refine ⟨PySem.W.fnOf "law" "law" (defArgs Y38) (defBody Y38) (defScope Y38) .none kV66 dc66 pm66 an66 cd66 ct66,fun s v=>.of_eq rfl,fun base _ _=>?_⟩
  have O0:=O_32 (P:=l.prog) (w:=w) (base:=base) F0 bl
  have C_all_among:Callee l.prog w K mg base 1 "all_among" ["text", "signs"] (J32 K qA qB qC qD qE qF qG qH qI qJ qK qL qM):=⟨_,_,O0,b0,k0,PySem.W.mg_of X G a0⟩
  have O2:=O_35 (P:=l.prog) (w:=w) (base:=base) F2 bl
  have C_is_whole:Callee l.prog w K mg base 1 "is_whole" ["value"] (J35 K qA qB qC qD qE qF qG qH qI qJ qK qL qM):=⟨_,_,O2,b2,k2,PySem.W.mg_of X G a2⟩
  have O3:=O_31 (P:=l.prog) (w:=w) (base:=base) F3 bl
  have C_alike:Callee l.prog w K mg base 1 "alike" ["one", "other"] (J31 K qA qB qC qD qE qF qG qH qI qJ qK qL qM):=⟨_,_,O3,b3,k3,PySem.W.mg_of X G a3⟩
  have O4:=O_34 (P:=l.prog) (w:=w) (base:=base) F4 bl
  have C_holds:Callee l.prog w K mg base 1 "holds" ["spans", "number"] (J34 K qA qB qC qD qE qF qG qH qI qJ qK qL qM):=⟨_,_,O4,b4,k4,PySem.W.mg_of X G a4⟩
  have O7:=O_60 (P:=l.prog) (w:=w) (base:=base) F7 bl
  have C_refuse_counts:Callee l.prog w K mg base 1 "refuse_counts" ["names", "rows"] (J60 K qA qB qC qD qE qF qG qH qI qJ qK qL qM):=⟨_,_,O7,b7,k7,PySem.W.mg_of X G a7⟩
  have O10:=O_59 (P:=l.prog) (w:=w) (base:=base) F10 bl
  have C_own_row:Callee l.prog w K mg base 1 "own_row" ["cells", "code"] (J59 K qA qB qC qD qE qF qG qH qI qJ qK qL qM):=⟨_,_,O10,b10,k10,PySem.W.mg_of X G a10⟩
  have O16:=O_41 (P:=l.prog) (w:=w) (base:=base) F16 bl
  have C_law_cell_at:Callee l.prog w K mg base 1 "_law_cell_at" ["script", "k"] (J41 K qA qB qC qD qE qF qG qH qI qJ qK qL qM):=⟨_,_,O16,b16,k16,PySem.W.mg_of X G a16⟩
  have O17:=O_48 (P:=l.prog) (w:=w) (base:=base) F17 bl
  have C_law_mixed:Callee l.prog w K mg base 1 "_law_mixed" ["cell", "k"] (J48 K qA qB qC qD qE qF qG qH qI qJ qK qL qM):=⟨_,_,O17,b17,k17,PySem.W.mg_of X G a17⟩
  have O19:=O_57 (P:=l.prog) (w:=w) (base:=base) F19 bl
  have C_law_word:Callee l.prog w K mg base 1 "_law_word" ["cell", "k"] (J57 K qA qB qC qD qE qF qG qH qI qJ qK qL qM):=⟨_,_,O19,b19,k19,PySem.W.mg_of X G a19⟩
  have O22:=O_54 (P:=l.prog) (w:=w) (base:=base) F22 bl
  have C_law_spans:Callee l.prog w K mg base 1 "_law_spans" ["pairs", "bits"] (J54 K qA qB qC qD qE qF qG qH qI qJ qK qL qM):=⟨_,_,O22,b22,k22,PySem.W.mg_of X G a22⟩
  have O27:=O_50 (P:=l.prog) (w:=w) (base:=base) F27 bl
  have C_law_points:Callee l.prog w K mg base 1 "_law_points" ["columns"] (J50 K qA qB qC qD qE qF qG qH qI qJ qK qL qM):=⟨_,_,O27,b27,k27,PySem.W.mg_of X G a27⟩
  have O28:=O_42 (P:=l.prog) (w:=w) (base:=base) F28 bl
  have C_law_codes:Callee l.prog w K mg base 1 "_law_codes" ["columns", "point", "turn"] (J42 K qA qB qC qD qE qF qG qH qI qJ qK qL qM):=⟨_,_,O28,b28,k28,PySem.W.mg_of X G a28⟩
  have O29:=O_46 (P:=l.prog) (w:=w) (base:=base) F29 bl
  have C_law_fit:Callee l.prog w K mg base 1 "_law_fit" ["bit_row", "point"] (J46 K qA qB qC qD qE qF qG qH qI qJ qK qL qM):=⟨_,_,O29,b29,k29,PySem.W.mg_of X G a29⟩
  have O30:=O_56 (P:=l.prog) (w:=w) (base:=base) F30 bl
  have C_law_way:Callee l.prog w K mg base 1 "_law_way" ["turn", "out"] (J56 K qA qB qC qD qE qF qG qH qI qJ qK qL qM):=⟨_,_,O30,b30,k30,PySem.W.mg_of X G a30⟩
  have O32:=O_52 (P:=l.prog) (w:=w) (base:=base) F32 bl
  have C_law_same:Callee l.prog w K mg base 1 "_law_same" ["found", "due"] (J52 K qA qB qC qD qE qF qG qH qI qJ qK qL qM):=⟨_,_,O32,b32,k32,PySem.W.mg_of X G a32⟩
  have O33:=O_49 (P:=l.prog) (w:=w) (base:=base) F33 bl
  have C_law_order:Callee l.prog w K mg base 1 "_law_order" ["cell", "count"] (J49 K qA qB qC qD qE qF qG qH qI qJ qK qL qM):=⟨_,_,O33,b33,k33,PySem.W.mg_of X G a33⟩
  have O37:=O_18 (P:=l.prog) (w:=w) (base:=base) F37 bl
  have B_Way___init___First:BCallee CX0 l.prog w K mg base 1 "Way" "__init__" ["self", "called"] (J18 K qA qB qC qD qE qF qG qH qI qJ qK qL qM):=⟨_,_,_,⟨b_s37,b_r37,b_a37,k37⟩,O37,b37,PySem.W.mg_of X G n_Way⟩
  have O39:=O_22 (P:=l.prog) (w:=w) (base:=base) F39 bl
  have B_Way___init___Only:BCallee CX0 l.prog w K mg base 1 "Way" "__init__" ["self", "called"] (J22 K qA qB qC qD qE qF qG qH qI qJ qK qL qM):=⟨_,_,_,⟨b_s39,b_r39,b_a39,k39⟩,O39,b39,PySem.W.mg_of X G n_Way⟩
  have O41:=O_20 (P:=l.prog) (w:=w) (base:=base) F41 bl
  have B_Way___init___Like:BCallee CX0 l.prog w K mg base 1 "Way" "__init__" ["self", "called"] (J20 K qA qB qC qD qE qF qG qH qI qJ qK qL qM):=⟨_,_,_,⟨b_s41,b_r41,b_a41,k41⟩,O41,b41,PySem.W.mg_of X G n_Way⟩
  have O43:=O_21 (P:=l.prog) (w:=w) (base:=base) F43 bl
  have B_Way___init___Low:BCallee CX0 l.prog w K mg base 1 "Way" "__init__" ["self", "called"] (J21 K qA qB qC qD qE qF qG qH qI qJ qK qL qM):=⟨_,_,_,⟨b_s43,b_r43,b_a43,k43⟩,O43,b43,PySem.W.mg_of X G n_Way⟩
  have O45:=O_19 (P:=l.prog) (w:=w) (base:=base) F45 bl
  have B_Way___init___High:BCallee CX0 l.prog w K mg base 1 "Way" "__init__" ["self", "called"] (J19 K qA qB qC qD qE qF qG qH qI qJ qK qL qM):=⟨_,_,_,⟨b_s45,b_r45,b_a45,k45⟩,O45,b45,PySem.W.mg_of X G n_Way⟩
  have O47:=O_23 (P:=l.prog) (w:=w) (base:=base) F47 bl
  have B_Way___init___Sum:BCallee CX0 l.prog w K mg base 1 "Way" "__init__" ["self", "called"] (J23 K qA qB qC qD qE qF qG qH qI qJ qK qL qM):=⟨_,_,_,⟨b_s47,b_r47,b_a47,k47⟩,O47,b47,PySem.W.mg_of X G n_Way⟩
  have O51:=O_0 (P:=l.prog) (w:=w) (base:=base) F51 bl
  have B_Domain___init___Numbers:BCallee CX0 l.prog w K mg base 1 "Domain" "__init__" ["self", "low", "high"] (J0 K qA qB qC qD qE qF qG qH qI qJ qK qL qM):=⟨_,_,_,⟨b_s51,b_r51,b_a51,k51⟩,O51,b51,PySem.W.mg_of X G n_Domain⟩
  have O53:=O_1 (P:=l.prog) (w:=w) (base:=base) F53 bl
  have B_Domain___init___Words:BCallee CX0 l.prog w K mg base 1 "Domain" "__init__" ["self", "low", "high"] (J1 K qA qB qC qD qE qF qG qH qI qJ qK qL qM):=⟨_,_,_,⟨b_s53,b_r53,b_a53,k53⟩,O53,b53,PySem.W.mg_of X G n_Domain⟩
  have O55:=O_5 (P:=l.prog) (w:=w) (base:=base) F55 bl
  have M_First_chosen_First:MCallee CX0 l.prog w K mg base 1 qB "chosen" ["self", "codes", "outcome"] (J5 K qA qB qC qD qE qF qG qH qI qJ qK qL qM):=⟨_,_,⟨m55,mf55,k55⟩,O55,b55⟩
  have O57:=O_14 (P:=l.prog) (w:=w) (base:=base) F57 bl
  have M_Only_chosen_Only:MCallee CX0 l.prog w K mg base 1 qC "chosen" ["self", "codes", "outcome"] (J14 K qA qB qC qD qE qF qG qH qI qJ qK qL qM):=⟨_,_,⟨m57,mf57,k57⟩,O57,b57⟩
  have O59:=O_9 (P:=l.prog) (w:=w) (base:=base) F59 bl
  have M_Like_chosen_Like:MCallee CX0 l.prog w K mg base 1 qD "chosen" ["self", "codes", "outcome"] (J9 K qA qB qC qD qE qF qG qH qI qJ qK qL qM):=⟨_,_,⟨m59,mf59,k59⟩,O59,b59⟩
  have O61:=O_11 (P:=l.prog) (w:=w) (base:=base) F61 bl
  have M_Low_chosen_Low:MCallee CX0 l.prog w K mg base 1 qE "chosen" ["self", "codes", "outcome"] (J11 K qA qB qC qD qE qF qG qH qI qJ qK qL qM):=⟨_,_,⟨m61,mf61,k61⟩,O61,b61⟩
  have O63:=O_7 (P:=l.prog) (w:=w) (base:=base) F63 bl
  have M_High_chosen_High:MCallee CX0 l.prog w K mg base 1 qF "chosen" ["self", "codes", "outcome"] (J7 K qA qB qC qD qE qF qG qH qI qJ qK qL qM):=⟨_,_,⟨m63,mf63,k63⟩,O63,b63⟩
  have O65:=O_16 (P:=l.prog) (w:=w) (base:=base) F65 bl
  have M_Sum_chosen_Sum:MCallee CX0 l.prog w K mg base 1 qG "chosen" ["self", "codes", "outcome"] (J16 K qA qB qC qD qE qF qG qH qI qJ qK qL qM):=⟨_,_,⟨m65,mf65,k65⟩,O65,b65⟩
  have O1:=O_36 (P:=l.prog) (w:=w) (base:=base) F1 bl (C_all_among.mono (by decide))
  have C_is_word:Callee l.prog w K mg base 2 "is_word" ["text"] (J36 K qA qB qC qD qE qF qG qH qI qJ qK qL qM):=⟨_,_,O1,b1,k1,PySem.W.mg_of X G a1⟩
  have O11:=O_33 (P:=l.prog) (w:=w) (base:=base) F11 bl (C_holds.mono (by decide))
  have C_fits:Callee l.prog w K mg base 2 "fits" ["table", "k", "codes"] (J33 K qA qB qC qD qE qF qG qH qI qJ qK qL qM):=⟨_,_,O11,b11,k11,PySem.W.mg_of X G a11⟩
  have O18:=O_53 (P:=l.prog) (w:=w) (base:=base) F18 bl (C_law_mixed.mono (by decide))
  have C_law_seeds:Callee l.prog w K mg base 2 "_law_seeds" ["cells", "most"] (J53 K qA qB qC qD qE qF qG qH qI qJ qK qL qM):=⟨_,_,O18,b18,k18,PySem.W.mg_of X G a18⟩
  have O20:=O_43 (P:=l.prog) (w:=w) (base:=base) F20 bl (C_law_mixed.mono (by decide))
  have C_law_column:Callee l.prog w K mg base 2 "_law_column" ["m", "most"] (J43 K qA qB qC qD qE qF qG qH qI qJ qK qL qM):=⟨_,_,O20,b20,k20,PySem.W.mg_of X G a20⟩
  have O23:=O_39 (P:=l.prog) (w:=w) (base:=base) F23 bl (C_law_mixed.mono (by decide))
  have C_law_bit_row:Callee l.prog w K mg base 2 "_law_bit_row" ["m", "columns", "out", "last"] (J39 K qA qB qC qD qE qF qG qH qI qJ qK qL qM):=⟨_,_,O23,b23,k23,PySem.W.mg_of X G a23⟩
  have O25:=O_51 (P:=l.prog) (w:=w) (base:=base) F25 bl (C_law_spans.mono (by decide))
  have C_law_rows:Callee l.prog w K mg base 2 "_law_rows" ["bit_rows", "columns"] (J51 K qA qB qC qD qE qF qG qH qI qJ qK qL qM):=⟨_,_,O25,b25,k25,PySem.W.mg_of X G a25⟩
  have O31:=O_45 (P:=l.prog) (w:=w) (base:=base) F31 bl (C_law_fit.mono (by decide))
  have C_law_due:Callee l.prog w K mg base 2 "_law_due" ["way", "bit_rows", "out", "point"] (J45 K qA qB qC qD qE qF qG qH qI qJ qK qL qM):=⟨_,_,O31,b31,k31,PySem.W.mg_of X G a31⟩
  have O36:=O_4 (P:=l.prog) (w:=w) (base:=base) F36 bl (B_Way___init___First.mono (by decide))
  have K_First___init___First:MkCallee CX0 l.prog w K mg base 2 "First" qB ["self"] (J4 K qA qB qC qD qE qF qG qH qI qJ qK qL qM):=⟨_,_,⟨im36,i36,if36,ik36⟩,O36,b36,PySem.W.mg_of X G n_First⟩
  have O38:=O_13 (P:=l.prog) (w:=w) (base:=base) F38 bl (B_Way___init___Only.mono (by decide))
  have K_Only___init___Only:MkCallee CX0 l.prog w K mg base 2 "Only" qC ["self"] (J13 K qA qB qC qD qE qF qG qH qI qJ qK qL qM):=⟨_,_,⟨im38,i38,if38,ik38⟩,O38,b38,PySem.W.mg_of X G n_Only⟩
  have O40:=O_8 (P:=l.prog) (w:=w) (base:=base) F40 bl (B_Way___init___Like.mono (by decide))
  have K_Like___init___Like:MkCallee CX0 l.prog w K mg base 2 "Like" qD ["self"] (J8 K qA qB qC qD qE qF qG qH qI qJ qK qL qM):=⟨_,_,⟨im40,i40,if40,ik40⟩,O40,b40,PySem.W.mg_of X G n_Like⟩
  have O42:=O_10 (P:=l.prog) (w:=w) (base:=base) F42 bl (B_Way___init___Low.mono (by decide))
  have K_Low___init___Low:MkCallee CX0 l.prog w K mg base 2 "Low" qE ["self"] (J10 K qA qB qC qD qE qF qG qH qI qJ qK qL qM):=⟨_,_,⟨im42,i42,if42,ik42⟩,O42,b42,PySem.W.mg_of X G n_Low⟩
  have O44:=O_6 (P:=l.prog) (w:=w) (base:=base) F44 bl (B_Way___init___High.mono (by decide))
  have K_High___init___High:MkCallee CX0 l.prog w K mg base 2 "High" qF ["self"] (J6 K qA qB qC qD qE qF qG qH qI qJ qK qL qM):=⟨_,_,⟨im44,i44,if44,ik44⟩,O44,b44,PySem.W.mg_of X G n_High⟩
  have O46:=O_15 (P:=l.prog) (w:=w) (base:=base) F46 bl (B_Way___init___Sum.mono (by decide))
  have K_Sum___init___Sum:MkCallee CX0 l.prog w K mg base 2 "Sum" qG ["self"] (J15 K qA qB qC qD qE qF qG qH qI qJ qK qL qM):=⟨_,_,⟨im46,i46,if46,ik46⟩,O46,b46,PySem.W.mg_of X G n_Sum⟩
  have O48:=O_2 (P:=l.prog) (w:=w) (base:=base) F48 bl (C_is_whole.mono (by decide))
  have M_Domain_has_code_Numbers:MCallee CX0 l.prog w K mg base 2 qI "has_code" ["self", "value"] (J2 K qA qB qC qD qE qF qG qH qI qJ qK qL qM):=⟨_,_,⟨m48,mf48,k48⟩,O48,b48⟩
  have O49:=O_3 (P:=l.prog) (w:=w) (base:=base) F49 bl (C_is_whole.mono (by decide))
  have M_Domain_has_code_Words:MCallee CX0 l.prog w K mg base 2 qJ "has_code" ["self", "value"] (J3 K qA qB qC qD qE qF qG qH qI qJ qK qL qM):=⟨_,_,⟨m49,mf49,k49⟩,O49,b49⟩
  have O50:=O_12 (P:=l.prog) (w:=w) (base:=base) F50 bl (B_Domain___init___Numbers.mono (by decide))
  have K_Numbers___init___Numbers:MkCallee CX0 l.prog w K mg base 2 "Numbers" qI ["self", "low", "high"] (J12 K qA qB qC qD qE qF qG qH qI qJ qK qL qM):=⟨_,_,⟨im50,i50,if50,ik50⟩,O50,b50,PySem.W.mg_of X G n_Numbers⟩
  have O54:=O_24 (P:=l.prog) (w:=w) (base:=base) F54 bl (M_First_chosen_First.mono (by decide))
  have M_Way_verdict_First:MCallee CX0 l.prog w K mg base 2 qB "verdict" ["self", "codes", "outcome"] (J24 K qA qB qC qD qE qF qG qH qI qJ qK qL qM):=⟨_,_,⟨m54,mf54,k54⟩,O54,b54⟩
  have O56:=O_28 (P:=l.prog) (w:=w) (base:=base) F56 bl (M_Only_chosen_Only.mono (by decide))
  have M_Way_verdict_Only:MCallee CX0 l.prog w K mg base 2 qC "verdict" ["self", "codes", "outcome"] (J28 K qA qB qC qD qE qF qG qH qI qJ qK qL qM):=⟨_,_,⟨m56,mf56,k56⟩,O56,b56⟩
  have O58:=O_26 (P:=l.prog) (w:=w) (base:=base) F58 bl (M_Like_chosen_Like.mono (by decide))
  have M_Way_verdict_Like:MCallee CX0 l.prog w K mg base 2 qD "verdict" ["self", "codes", "outcome"] (J26 K qA qB qC qD qE qF qG qH qI qJ qK qL qM):=⟨_,_,⟨m58,mf58,k58⟩,O58,b58⟩
  have O60:=O_27 (P:=l.prog) (w:=w) (base:=base) F60 bl (M_Low_chosen_Low.mono (by decide))
  have M_Way_verdict_Low:MCallee CX0 l.prog w K mg base 2 qE "verdict" ["self", "codes", "outcome"] (J27 K qA qB qC qD qE qF qG qH qI qJ qK qL qM):=⟨_,_,⟨m60,mf60,k60⟩,O60,b60⟩
  have O62:=O_25 (P:=l.prog) (w:=w) (base:=base) F62 bl (M_High_chosen_High.mono (by decide))
  have M_Way_verdict_High:MCallee CX0 l.prog w K mg base 2 qF "verdict" ["self", "codes", "outcome"] (J25 K qA qB qC qD qE qF qG qH qI qJ qK qL qM):=⟨_,_,⟨m62,mf62,k62⟩,O62,b62⟩
  have O64:=O_29 (P:=l.prog) (w:=w) (base:=base) F64 bl (M_Sum_chosen_Sum.mono (by decide))
  have M_Way_verdict_Sum:MCallee CX0 l.prog w K mg base 2 qG "verdict" ["self", "codes", "outcome"] (J29 K qA qB qC qD qE qF qG qH qI qJ qK qL qM):=⟨_,_,⟨m64,mf64,k64⟩,O64,b64⟩
  have O6:=O_61 (P:=l.prog) (w:=w) (base:=base) F6 bl (C_is_word.mono (by decide))
  have C_refuse_names:Callee l.prog w K mg base 3 "refuse_names" ["names"] (J61 K qA qB qC qD qE qF qG qH qI qJ qK qL qM):=⟨_,_,O6,b6,k6,PySem.W.mg_of X G a6⟩
  have O9:=O_62 (P:=l.prog) (w:=w) (base:=base) F9 bl (M_Domain_has_code_Numbers.mono (by decide)) (M_Domain_has_code_Words.mono (by decide))
  have C_refuse_row:Callee l.prog w K mg base 3 "refuse_row" ["domains", "outcome", "cells", "code"] (J62 K qA qB qC qD qE qF qG qH qI qJ qK qL qM):=⟨_,_,O9,b9,k9,PySem.W.mg_of X G a9⟩
  have O12:=O_58 (P:=l.prog) (w:=w) (base:=base) F12 bl (C_fits.mono (by decide))
  have C_mask:Callee l.prog w K mg base 3 "mask" ["table", "codes"] (J58 K qA qB qC qD qE qF qG qH qI qJ qK qL qM):=⟨_,_,O12,b12,k12,PySem.W.mg_of X G a12⟩
  have O24:=O_40 (P:=l.prog) (w:=w) (base:=base) F24 bl (C_law_bit_row.mono (by decide))
  have C_law_bit_rows:Callee l.prog w K mg base 3 "_law_bit_rows" ["seeds", "columns", "out"] (J40 K qA qB qC qD qE qF qG qH qI qJ qK qL qM):=⟨_,_,O24,b24,k24,PySem.W.mg_of X G a24⟩
  have O52:=O_30 (P:=l.prog) (w:=w) (base:=base) F52 bl (B_Domain___init___Words.mono (by decide)) (C_is_word.mono (by decide))
  have K_Words___init___Words:MkCallee CX0 l.prog w K mg base 3 "Words" qJ ["self", "words"] (J30 K qA qB qC qD qE qF qG qH qI qJ qK qL qM):=⟨_,_,⟨im52,i52,if52,ik52⟩,O52,b52,PySem.W.mg_of X G n_Words⟩
  have O5:=O_66 (P:=l.prog) (w:=w) (base:=base) F5 bl (K_First___init___First.mono (by decide)) (K_Only___init___Only.mono (by decide)) (K_Like___init___Like.mono (by decide)) (K_Low___init___Low.mono (by decide)) (K_High___init___High.mono (by decide)) (K_Sum___init___Sum.mono (by decide))
  have C_way_by:Callee l.prog w K mg base 4 "way_by" ["name"] (J66 K qA qB qC qD qE qF qG qH qI qJ qK qL qM):=⟨_,_,O5,b5,k5,PySem.W.mg_of X G a5⟩
  have O8:=O_63 (P:=l.prog) (w:=w) (base:=base) F8 bl (C_way_by.mono (by decide))
  have C_refuse_way:Callee l.prog w K mg base 5 "refuse_way" ["way", "outcome"] (J63 K qA qB qC qD qE qF qG qH qI qJ qK qL qM):=⟨_,_,O8,b8,k8,PySem.W.mg_of X G a8⟩
  have O13:=O_37 (P:=l.prog) (w:=w) (base:=base) F13 bl (M_Way_verdict_First.mono (by decide)) (M_Way_verdict_Only.mono (by decide)) (M_Way_verdict_Like.mono (by decide)) (M_Way_verdict_Low.mono (by decide)) (M_Way_verdict_High.mono (by decide)) (M_Way_verdict_Sum.mono (by decide)) (C_way_by.mono (by decide))
  have C_judged:Callee l.prog w K mg base 5 "judged" ["table", "rows"] (J37 K qA qB qC qD qE qF qG qH qI qJ qK qL qM):=⟨_,_,O13,b13,k13,PySem.W.mg_of X G a13⟩
  have O21:=O_44 (P:=l.prog) (w:=w) (base:=base) F21 bl (K_Numbers___init___Numbers.mono (by decide)) (K_Words___init___Words.mono (by decide)) (C_law_word.mono (by decide))
  have C_law_domain:Callee l.prog w K mg base 5 "_law_domain" ["column"] (J44 K qA qB qC qD qE qF qG qH qI qJ qK qL qM):=⟨_,_,O21,b21,k21,PySem.W.mg_of X G a21⟩
  have O14:=O_65 (P:=l.prog) (w:=w) (base:=base) F14 bl (C_judged.mono (by decide)) (C_mask.mono (by decide))
  have C_verdict:Callee l.prog w K mg base 6 "verdict" ["table", "codes"] (J65 K qA qB qC qD qE qF qG qH qI qJ qK qL qM):=⟨_,_,O14,b14,k14,PySem.W.mg_of X G a14⟩
  have O34:=O_47 (P:=l.prog) (w:=w) (base:=base) F34 bl (C_alike.mono (by decide)) (C_law_domain.mono (by decide))
  have C_law_has:Callee l.prog w K mg base 6 "_law_has" ["table", "names", "rows", "columns"] (J47 K qA qB qC qD qE qF qG qH qI qJ qK qL qM):=⟨_,_,O34,b34,k34,PySem.W.mg_of X G a34⟩
  have O35:=O_17 (P:=l.prog) (w:=w) (base:=base) F35 bl (C_refuse_names.mono (by decide)) (C_refuse_counts.mono (by decide)) (C_refuse_way.mono (by decide)) (C_refuse_row.mono (by decide)) (C_own_row.mono (by decide))
  have K_Table___init___Table:MkCallee CX0 l.prog w K mg base 6 "Table" qK ["self", "name", "names", "domains", "outcome", "way", "rows"] (J17 K qA qB qC qD qE qF qG qH qI qJ qK qL qM):=⟨_,_,⟨im35,i35,if35,ik35⟩,O35,b35,PySem.W.mg_of X G n_Table⟩
  have O15:=O_64 (P:=l.prog) (w:=w) (base:=base) F15 bl (K_Table___init___Table.mono (by decide))
  have C_turned:Callee l.prog w K mg base 8 "turned" ["table", "order"] (J64 K qA qB qC qD qE qF qG qH qI qJ qK qL qM):=⟨_,_,O15,b15,k15,PySem.W.mg_of X G a15⟩
  have O26:=O_55 (P:=l.prog) (w:=w) (base:=base) F26 bl (K_Table___init___Table.mono (by decide)) (C_law_word.mono (by decide)) (C_law_domain.mono (by decide)) (C_law_rows.mono (by decide))
  have C_law_table:Callee l.prog w K mg base 8 "_law_table" ["head", "columns", "out", "way", "bit_rows"] (J55 K qA qB qC qD qE qF qG qH qI qJ qK qL qM):=⟨_,_,O26,b26,k26,PySem.W.mg_of X G a26⟩
  exact O_38 F66 bl (C_law_cell_at.mono (by decide)) (C_law_column.mono (by decide)) (C_law_way.mono (by decide)) (C_law_bit_rows.mono (by decide)) (C_law_table.mono (by decide)) (C_law_rows.mono (by decide)) (C_law_order.mono (by decide)) (C_turned.mono (by decide)) (C_law_points.mono (by decide)) (C_law_has.mono (by decide)) (C_law_mixed.mono (by decide)) (C_law_seeds.mono (by decide)) (C_law_word.mono (by decide)) (C_law_codes.mono (by decide)) (C_alike.mono (by decide)) (C_law_same.mono (by decide)) (C_law_domain.mono (by decide)) (C_verdict.mono (by decide)) (C_law_due.mono (by decide))
theorem walk {l:PySem.W.OpenLaw} {q:Program} {loose:List Str} {XP:(Str→Option Value)→Heap→Prop} {YP:World→Heap→Prop} {d:DefRec} {K:Params→PySem.W.Frag} (hn:l.most = some 63) (hdf:d.params.defaults = [])
    (hY:∀ (w:World) (h:Heap),YP w h→(K w.params).In h)
    (F:∀ (w:World) (mg:Str→Option Value) (fa:Addr) (h:Heap),(K w.params).In h→h.Ns mainGlobals mg→mg d.name = some (.ref fa) →
      ∃ fd:FuncData,(∀ (s:Shared) (u:Value),BindsTo s fd ⟨[u],[]⟩ [("script",u)])∧∀ base:Heap,(K w.params).In base→base.Ns mainGlobals mg→FnOk l.prog w (K w.params) mg base CX0 9 fa fd ["script"] (J38 (K w.params))) :
    PySem.W.WalkO q loose XP YP l.row.toRowW d [] (fun f vs=>PySem.call f vs) :=
  L2.walk_of (n:=63) (k:=9) (x := "script") (CX:=fun _=>CX0) (sp:=fun w=>J38 (K w.params)) hn (by decide) hdf ⟨rfl,by decide,by decide⟩ hY F (fun _ _ a ns hl _ hS=>⟨a,ns,rfl,hS,hl,fun _=>rfl⟩) fun _ _ _ _ _ z=>z
end My
namespace PySem.W.Fast
def tw4780437012230784678:=()
def tw6898504552053156675:=()
def tw7190384782594016098:=()
def tw13515205991736617146:=()
def tw8540576632213349069:=()
def tw14594653208184755281:=()
def tw1020848421107405715:=()
def tw5655817683894686181:=()
def tw6084717303704287375:=()
def tw13399631649684594991:=()
def tw4569618739862104074:=()
def tw14995549480066447558:=()
def tw16331158317242367274:=()
def tw4790062803784594068:=()
def tw17403421113503857533:=()
def tw6455016482169348411:=()
def tw2698658517894311157:=()
def tw7972538733182892445:=()
def tw4212619714187873881:=()
def tw10981833160846004809:=()
def tw12381647351943459585:=()
def tw6864925658201897137:=()
def tw1204628249784958267:=()
def tw2640938788907395532:=()
def tw10765528973387891912:=()
def tw17716423559903003436:=()
def tw2442524833202885005:=()
def tw8804808638516327021:=()
def tw15753934363292892529:=()
def tw15590873795107331176:=()
def tw6377515080076777755:=()
def tw17051777015995068391:=()
def tw13415992656765556911:=()
def tw10978547243391821680:=()
def tw17823451103300248905:=()
def tw9172488448637843703:=()
def tw10164309713047127184:=()
def tw17682826107568418457:=()
def tw8578813887613894587:=()
def tw4115742946525562759:=()
def tw15472843635693990955:=()
def tw3766556436320652153:=()
def tw6345896910106129533:=()
def tw5506087850038484504:=()
def tw4849025923815121699:=()
def tw17269654924950350238:=()
def tw4007608736060576610:=()
def tw16180657193378385194:=()
def tw13888556815306237627:=()
def tw7764066933291503052:=()
def tw8232968823705674498:=()
def tw10932452652494380863:=()
def tw3343634045669275407:=()
def tw13760721610030062665:=()
def tw5638372783702625534:=()
def tw15716130121957954900:=()
def tw14101497992740900641:=()
def tw1870130422274389990:=()
def tw10810715787400960776:=()
def tw3391370438814961022:=()
def tw132371316244585896:=()
def tw701083231989512424:=()
def tw1982217371579915672:=()
def tw8300751643807778934:=()
def tw15307364605691355926:=()
def tw10419483570592741454:=()
def tw845583141112282642:=()
def tw2627994274723482921:=()
def tw3925975273030240637:=()
def tw5888404729798697768:=()
def tw11030949876455437465:=()
def tw7475818328305915283:=()
def tw9147643278965572735:=()
def tw7952232333984212219:=()
def tw9499379379275475426:=()
def tw5942208694794325415:=()
def tw12100068945714077529:=()
def tw4212709449802686188:=()
def tw13763566825705581265:=()
def tw14148994678834868020:=()
def tw11221784773734244267:=()
def tw1264534172925186492:=()
def tw6818174878163899372:=()
def tw4021732249332201937:=()
def tw5447753906893043655:=()
def tw7093806829464558369:=()
def tw5586204484391304009:=()
def tw2835412362343591834:=()
def tw8336560296908516059:=()
def tw14594848532101063316:=()
def tw1738061336553505412:=()
def tw11774302160612295877:=()
def tw12477742917539751444:=()
def tw17599668371430615338:=()
def tw16100651236131242304:=()
def tw6536353467862963163:=()
def tw15706583426406626408:=()
def tw16873557679908631668:=()
def tw12015891710861724906:=()
def tw5678510842316441533:=()
def tw505543426015972470:=()
def tw6861515297716017066:=()
def tw3584956270585156621:=()
def tw13534928401261688201:=()
def tw12293002195089401179:=()
def tw16264208406761126836:=()
def tw11499604935423993478:=()
def tw5711774940063967173:=()
def tw9179852313881075222:=()
def tw627713260720142768:=()
def tw6779983940656403984:=()
def tw733128185588056786:=()
def tw347878008975334110:=()
def tw18002244051931477984:=()
def tw12481136615790007077:=()
def tw5252566253790001387:=()
def tw1051380997997155709:=()
def tw1672744837810878069:=()
def tw17353150338429543026:=()
def tw10691252210887666316:=()
def tw2529773159709686614:=()
def tw4998632466301511122:=()
def tw17413611786656240630:=()
def tw8823153730745721899:=()
def tw14031058543871649670:=()
def tw5812594243112430928:=()
def tw7943950038382986959:=()
def tw10172978262409164846:=()
def tw17672523776160358730:=()
def tw16724395472669130661:=()
def tw4011825508130316863:=()
def tw6133846000863620736:=()
def tw4234912200649797153:=()
def tw6450246198270848580:=()
def tw10910359339764592586:=()
def tw2089022100054951961:=()
def tw15079351430536881115:=()
def tw17939786730240450390:=()
def tw3284450914458537809:=()
def tw12284378797219157687:=()
def tw14438914697545240299:=()
def tw370296198859272727:=()
def tw239619590477236043:=()
def tw15810599276367492584:=()
def tw16266164750669820065:=()
def tw13337683992701723280:=()
def tw17908526413552019277:=()
def tw16159251218324845396:=()
def tw4720937793695400042:=()
def tw6775073344223519171:=()
def tw5186344148798318873:=()
def tw4079455540219817602:=()
def tw10959361224947332511:=()
def tw4633645351236597733:=()
def tw10908164870937893888:=()
def tw2985488446937704517:=()
def tw3327907444446483566:=()
def tw11368714620775747310:=()
def tw15121388331192551994:=()
def tw17367489274159309284:=()
def tw1737806605044985078:=()
def tw7410695424325099770:=()
def tw7631953677684971285:=()
def tw5265202470436661760:=()
def tw213070686669678895:=()
def tw17577522073854414984:=()
def tw14619502941295790851:=()
def tw12656985476865856135:=()
def tw16368012666431148757:=()
def tw7696537397162455222:=()
def tw3907763004194144664:=()
def tw13322474864876768495:=()
def tw16596842328761193655:=()
def tw13461934737545263524:=()
def tw6788592819119670310:=()
def tw15817457025081494070:=()
def tw1643011524344210862:=()
def tw13252332150562945169:=()
def tw11909986307455762999:=()
def tw15293965630091945294:=()
def tw14736827334986378564:=()
def tw11220281809824556561:=()
def tw6495115810120020877:=()
def tw16425913852158881673:=()
def tw17832867234956767907:=()
def tw3001764660321333036:=()
def tw17466095252946336944:=()
def tw953677050087397962:=()
def tw5636418937236377569:=()
def tw3918882745427246056:=()
def tw12004622123328618022:=()
def tw7034119622318806456:=()
def tw2686251131034613374:=()
def tw594384509598950525:=()
def tw3099231219685952169:=()
def tw7604751403078527143:=()
def tw8517543168561225558:=()
def tw18384820184166417973:=()
def tw16871383142383243129:=()
def tw6296205487991643652:=()
def tw9868630421712027287:=()
def tw14466697313171141995:=()
def tw5547158584275457119:=()
def tw7562857377154854568:=()
def tw2149824837912803810:=()
def tw8085635116306145453:=()
def tw11168374284461571474:=()
def tw4986649747092795658:=()
def tw9845393600936120760:=()
def tw13360499557876025595:=()
def tw15002805477657569478:=()
def tw17995047646402073682:=()
def tw7639159671988204534:=()
def tw3723383538225114505:=()
def tw4349086199145839058:=()
def tw8512576272457688442:=()
def tw1664924011930301421:=()
def tw8136557235898475513:=()
def tw3380427401348655888:=()
def tw6455884220306673351:=()
def tw5456874700520947848:=()
def tw16831333720782266570:=()
def tw13801411047392122943:=()
def tw14789538361209912018:=()
def tw9719800208071439829:=()
def tw7027275587622007449:=()
def tw777450039254408808:=()
def tw13979341716587396861:=()
def tw3211118939676210586:=()
def tw14336804216667608857:=()
def tw613380425272290141:=()
def tw4403618571718687344:=()
def tw1977465822723272923:=()
def tw7263450857424441708:=()
def tw7614144322192374231:=()
def tw8247485287827781986:=()
def tw7344127224058214772:=()
def tw3765004986775048248:=()
def tw10315320403137123499:=()
def tw5254770606246636811:=()
def tw18263734704499012148:=()
def tw2259323516687670184:=()
def tw3326166481008758491:=()
def tw1339619015185022864:=()
def tw9726041282162086751:=()
def tw8174164983132367765:=()
def tw9559368852501894436:=()
def tw14801957420616039445:=()
def tw15059284105553494545:=()
def tw5784040708896813887:=()
def tw10133069713918247357:=()
def tw10075315362954990176:=()
def tw8162279698157574673:=()
def tw15189856952968780130:=()
def tw5835665970239044137:=()
def tw10921283812653934600:=()
def tw18332074217405858187:=()
def tw13291208295558689186:=()
def tw9149744898159594895:=()
def tw6390203998019125924:=()
def tw8564281184889309693:=()
def tw7615981675576546681:=()
def tw17800099992589921061:=()
def tw16355934659314716573:=()
def tw4929366974435739839:=()
def tw10254857141270185785:=()
def tw14964962828769572994:=()
def tw17758929760377323561:=()
def tw3222517688331823559:=()
def tw11073664506097499286:=()
def tw12019381835901534330:=()
def tw13951626137103110018:=()
def tw8611017037478241639:=()
def tw9942852834708988681:=()
def tw14207149416124734017:=()
def tw18321039972423771275:=()
def tw5512273286737892531:=()
def tw2243620110795138513:=()
def tw17988663004688824956:=()
def tw14868668836022453702:=()
def tw2924899296086804533:=()
def tw2183401708522152796:=()
def tw8600987504583756066:=()
def tw1548734265430136925:=()
def tw1711611580110373620:=()
def tw13016803005545053315:=()
def tw14842434016530332124:=()
def tw4725107798225379587:=()
def tw8539387063935346650:=()
def tw7186925300169785690:=()
def tw7051898947352288527:=()
def tw179000300283983266:=()
def tw13399929972267893180:=()
def tw64891958606640694:=()
def tw15297023022152078356:=()
def tw6699491561027708740:=()
def tw17143185303756432322:=()
def tw3540512278518378439:=()
def tw506143852951034038:=()
def tw8039513927163693572:=()
def tw13896983065281879278:=()
def tw18218812313963949972:=()
def tw6932538024413190982:=()
def tw11268023524065234279:=()
def tw12649147122180313681:=()
def tw139151153592330817:=()
def tw10948236000305587294:=()
def tw14184707505073852902:=()
def tw16294106469344197452:=()
def tw11021567218458523140:=()
def tw16309204514561046286:=()
def tw9476479670834219236:=()
def tw14109020663426698995:=()
def tw9703548849066018586:=()
def tw11780575168585826832:=()
def tw9325116699059719484:=()
def tw3075090768950035163:=()
def tw6290081365786480629:=()
def tw3548047932471150398:=()
def tw15975741672080010476:=()
def tw17262202840904845343:=()
def tw15657774966336817606:=()
def tw9602065062807946199:=()
def tw7979831514036938786:=()
def tw11981708038888988424:=()
def tw216795198314895221:=()
def tw2907424062769236873:=()
def tw9192709182401203480:=()
def tw13809908709942175247:=()
def tw9437972423445465996:=()
def tw4461100158869495754:=()
def tw3393291291228028519:=()
def tw4223866871362016192:=()
def tw8325925223546066170:=()
def tw13556088534512969212:=()
def tw17127255383285472899:=()
def tw5779762866362480174:=()
def tw8618792820916011140:=()
def tw5965643202933190103:=()
def tw10840635157959602740:=()
def tw6496138336445802872:=()
def tw17229350388543029045:=()
def tw15774685001144252451:=()
def tw9068304832578501968:=()
def tw16832633850624633224:=()
def tw14869680736351643798:=()
def tw14000062134322054744:=()
def tw5412992433547380703:=()
def tw6223736303618889599:=()
def tw10660250623431184380:=()
def tw3681745375888625275:=()
def tw14972361114594437787:=()
def tw12554503045708003979:=()
def tw7803100604649502950:=()
def tw6953938966541387730:=()
def tw348759705405537509:=()
def tw518432772847232509:=()
def tw6987555946240352736:=()
def tw10916131629709388482:=()
def tw3231420128691423413:=()
def tw8205724827664168278:=()
def tw17870430191742126668:=()
def tw15360916881711017846:=()
def tw14828244010396703454:=()
def tw2131592950243476949:=()
def tw3436754986455090648:=()
def tw11431228442615499993:=()
def tw4290029206390908814:=()
def tw12128177861101728818:=()
def tw7260704588836030484:=()
def tw5686716423641588470:=()
def tw4789062470153034158:=()
def tw13681980153292553571:=()
def tw1604395562991820172:=()
def tw1649690916832043894:=()
def tw14566933607606155676:=()
def tw2960113933356347597:=()
def tw16539809676803093379:=()
def tw4629992113759397718:=()
def tw5924523039555286154:=()
def tw8327460094385260513:=()
def tw13646610798101022213:=()
def tw17368474479378446746:=()
def tw9996178353279640819:=()
def tw14024916434646556305:=()
def tw14433102258189332382:=()
def tw12492169226851962110:=()
def tw8406235125808909111:=()
def tw13865963435802323454:=()
def tw9945315184438685154:=()
def tw5113576797310653022:=()
def tw2630155499494579917:=()
def tw9526358204754393954:=()
def tw16488572075727219459:=()
def tw4702512950698050596:=()
def tw11544187788462349407:=()
def tw3330985141653428829:=()
def tw12264330506620293818:=()
def tw14656425744326026427:=()
def tw17266198521338793785:=()
def tw15284891282754083559:=()
def tw11387563452600948879:=()
def tw15462618505580753624:=()
def tw8827610163593999210:=()
def tw5360571248057971561:=()
def tw13319097861772568007:=()
def tw15906716787390873593:=()
def tw5077613259032655074:=()
def tw11667103434809751831:=()
def tw17315752878051876256:=()
def tw5081763372465299069:=()
def tw3954821635914673579:=()
def tw6296936475064246542:=()
def tw1254824644545870565:=()
def tw5715025374176052232:=()
def tw8171679727749512726:=()
def tw17931035802928688574:=()
def tw6480434373388490904:=()
def tw18379358130053005440:=()
def tw9631230595838495747:=()
def tw5705316245193100721:=()
def tw9780573529683376430:=()
def tw2282584397069649384:=()
def tw8684048237133799391:=()
def tw6844859526039746752:=()
def tw6201942029394761393:=()
def tw1300382105692403795:=()
def tw4361676197790995771:=()
def tw9298286234353983289:=()
def tw7170677603477640399:=()
def tw58748432737331235:=()
def tw4748719256250538035:=()
def tw8960605227375405313:=()
def tw11735590843071105843:=()
def tw9745361366638763681:=()
def tw5730100244127801758:=()
def tw4080312480488616277:=()
def tw10662956008532116478:=()
def tw12724833399410330984:=()
def tw16489901697229274137:=()
def tw13611822984742062489:=()
def tw3539429846208166007:=()
def tw6468040448503937131:=()
def tw10168111437103149145:=()
def tw2306097404376958115:=()
def tw13758371069676352650:=()
def tw8327354125023775782:=()
def tw3105226715975137126:=()
def tw8437020447074825373:=()
def tw5380187936200265359:=()
def tw17586141626927228828:=()
def tw17163343204706957418:=()
def tw6737677472688429149:=()
def tw17870027154313630091:=()
def tw4398788555269227549:=()
def tw10168334492101265666:=()
def tw7971463604188784888:=()
def tw16739675602069626804:=()
def tw1588540110221260642:=()
def tw1484132124279452611:=()
def tw18433530458208849617:=()
def tw17317102831250797432:=()
def tw9654809113307714494:=()
def tw1326244694784168685:=()
def tw149882350640642235:=()
def tw16938315212474826699:=()
def tw4919109943236444282:=()
def tw6262562868993947131:=()
def tw2959767273176160025:=()
def tw4237654780169980460:=()
def tw12813639813845449737:=()
def tw4648576678252432299:=()
def tw9592006409117405969:=()
def tw9026368907987863555:=()
def tw14871099025391371301:=()
def tw14224412717654903013:=()
def tw4718636687959473931:=()
def tw13940797753673962874:=()
def tw12379987071227504116:=()
def tw17113122507141377159:=()
def tw11015567088046646887:=()
def tw1924192466651012842:=()
def tw1531615762356334004:=()
def tw4103160000353887925:=()
def tw17060113981652309498:=()
def tw709119556289042002:=()
def tw14174879700168615451:=()
def tw3028400468467423360:=()
def tw18090428966882728727:=()
def tw15926169556019085398:=()
def tw10196214313878607816:=()
def tw13712180503734826023:=()
def tw6842249706456093389:=()
def tw5681957303359882110:=()
def tw13085362441390287478:=()
def tw10476463452648533659:=()
def tw6588561828889344082:=()
def tw12309715214645515680:=()
def tw7295236292844334061:=()
def tw16362058461553378217:=()
def tw13891247792658697148:=()
def tw11557160081672200013:=()
def tw14137616146966446478:=()
def tw15671947847246259942:=()
def tw13749773261025437827:=()
def tw4129578982390718342:=()
def tw10889539477920839312:=()
def tw8912243253016796662:=()
def tw11225483193331157446:=()
def tw16881685599321418663:=()
def tw12319955123959425791:=()
def tw11981796160670875605:=()
def tw16953236886648720016:=()
def tw7677621749597074077:=()
def tw14028260666083953419:=()
def tw11439864832415525212:=()
def tw4802632548609423416:=()
def tw10501284087547529848:=()
def tw12246279662837239499:=()
def tw11907885613233496870:=()
def tw13326396392897491998:=()
def tw13593761217597507987:=()
def tw16408617838383808560:=()
def tw13917193259212411693:=()
def tw1316732424480520362:=()
def tw8335459632150004589:=()
def tw2179224634995956946:=()
def tw7607306475968871990:=()
def tw15228258210310202769:=()
def tw5789467862060644269:=()
def tw1921505398463574514:=()
def tw8825029474419404593:=()
def tw13728027751418992495:=()
def tw12713469478996057139:=()
def tw4821771497698879635:=()
def tw9527329374611400320:=()
def tw4838431817934901211:=()
def tw15203987686545833102:=()
def tw7252626912903430452:=()
def tw12373264441434651968:=()
def tw17543773358209443648:=()
def tw10051667970434247168:=()
def tw2452597336516064308:=()
def tw17792258467218462839:=()
def tw9594010032845207319:=()
def tw83058066216644858:=()
def tw7172641017728863711:=()
def tw7605679977741347085:=()
def tw10692800100430239323:=()
def tw17985025225317350167:=()
def tw4447701018852023063:=()
def tw14449045274091338245:=()
def tw4356764180595669327:=()
def tw12082061693948959985:=()
def tw517388277024598804:=()
def tw11965976387302729451:=()
def tw9662022341426488128:=()
def tw6037802535592090777:=()
def tw293611371076293869:=()
def tw5561160383362886714:=()
def tw17049351665997758516:=()
def tw687389070899732475:=()
def tw11972512396724540776:=()
def tw17258388974569568943:=()
def tw5483896989503463030:=()
def tw823593005466208824:=()
def tw16662014728108586422:=()
def tw69442387727243923:=()
def tw9071329542070664612:=()
def tw12635567772620818728:=()
def tw7032167378363650697:=()
def tw9007077198769232903:=()
def tw968646346810746030:=()
def tw4290143882080130248:=()
def tw16761533178116116553:=()
def tw17515601408789155148:=()
def tw4219944987637363083:=()
def tw16164981457270555868:=()
def tw9930678429555984384:=()
def tw8716493893335491209:=()
def tw12697038184271040472:=()
def tw15446142938188000723:=()
def tw12594037771820907064:=()
def tw3639028145134935004:=()
def tw13134559604060116553:=()
def tw15760728367065739500:=()
def tw11891535234497680595:=()
def tw15054466067207751345:=()
def tw4718303358883539197:=()
def tw18326788045969179443:=()
def tw7870001346843976299:=()
def tw145947601792870612:=()
def tw8574761147263188010:=()
def tw102162729805486782:=()
def tw10586668617482658185:=()
def tw609341891830869930:=()
def tw9670558307832860844:=()
def tw16941316787377233675:=()
def tw6174748941626165835:=()
def tw5004715964484861397:=()
def tw15874405453721404047:=()
def tw8918482073906906261:=()
def tw2150033669039941002:=()
def tw111231634942070048:=()
def tw6795619366651927374:=()
def tw1762624427726342937:=()
def tw8452111672984647118:=()
def tw1070043080496155037:=()
def tw15579142364169043620:=()
def tw12900743173265195639:=()
def tw4933113570498859051:=()
def tw7122058596206374804:=()
def tw4176785553819045471:=()
def tw7846637214689770813:=()
def tw17350038259800240505:=()
def tw2161972812280886366:=()
def tw14294300753416683475:=()
def tw10989851466762662861:=()
def tw14580669986982696433:=()
def tw8727447083238550166:=()
def tw4368997965423824564:=()
def tw16757906989952170346:=()
def tw5736217302865146950:=()
def tw11114051475698843164:=()
def tw8887140484700838155:=()
def tw16021669597685485220:=()
def tw18209105846773057685:=()
def tw3658943109411387715:=()
def tw15647527900544186274:=()
def tw8999771352073582506:=()
def tw11383051687989550849:=()
def tw10480308731444642690:=()
def tw3676176014267103851:=()
def tw14281273786163189478:=()
def tw13356831137951369190:=()
def tw597556882651475287:=()
def tw10231817122935525240:=()
def tw10230670518503567143:=()
def tw9044290333222669569:=()
def tw2803881672595167022:=()
def tw5433165584099092990:=()
def tw7317806714905773151:=()
def tw12244807274667010704:=()
def tw14413857182517394804:=()
def tw17759016015759502389:=()
def tw18201538329829723984:=()
def tw7226260364546514687:=()
def tw1573226265051798016:=()
def tw8566219377311923889:=()
def tw15577472350414942091:=()
def tw1360686473386243982:=()
def tw9033382300367640208:=()
def tw14291035560970425009:=()
def tw5393908344786908524:=()
def tw2074432937534742394:=()
def tw5890580295790565221:=()
def tw17947797380598252026:=()
def tw3489155279081943355:=()
def tw10555014039852799393:=()
def tw7417860393680571000:=()
def tw13270003037607407327:=()
def tw1721267806562767963:=()
def tw16147299490680724089:=()
def tw15666295007830762598:=()
def tw14001850990195051957:=()
def tw9698698346304609144:=()
def tw8579053290685218523:=()
def tw12091677364182592943:=()
def tw10303425939442076903:=()
def tw12704771048457447065:=()
def tw15005312418603906135:=()
def tw2716665515088711377:=()
def tw17358162721412884715:=()
def tw2344776906481289679:=()
def tw14708523023503215800:=()
def tw14153693865014788119:=()
def tw6855160908761129237:=()
def tw16386490184176620095:=()
def tw13811143133203236204:=()
def tw17123198014055491843:=()
def tw9260139673378353967:=()
def tw5449852815998379925:=()
def tw15495810608861064461:=()
def tw1708014375307047071:=()
def tw15709662387529040132:=()
def tw4117930350746684193:=()
def tw6763640628154746045:=()
def tw5004896202529780556:=()
def tw12537430495298549018:=()
def tw7883479169724792940:=()
def tw371266796802900846:=()
def tw8340310974257392681:=()
def tw6476217544331426383:=()
def tw12151823985625444386:=()
def tw17995762508973533912:=()
def tw17809566918643136548:=()
def tw12308387880269372798:=()
def tw13272812580215716905:=()
def tw6880904491793508305:=()
def tw11724938855584796918:=()
def tw3839579988454876116:=()
def tw8033531858934880151:=()
def tw14564248018582446274:=()
def tw1224975836004369463:=()
def tw14345853953759139474:=()
def tw10364114553555148363:=()
def tw11193165628321911464:=()
def tw926490365755763927:=()
def tw11756935325795272774:=()
def tw6335464587197665104:=()
def tw4267804740347821014:=()
def tw13777199023228761895:=()
def tw3736918307492920514:=()
def tw1798161512623509416:=()
def tw9488416868096915318:=()
def tw128630228696446700:=()
def tw15061388181818239766:=()
def tw7701300156888437104:=()
def tw10947138586682166350:=()
def tw4935419910369208690:=()
def tw16216979605292536553:=()
def tw3580333518431725201:=()
def tw7097610009305092623:=()
def tw6311925263511033798:=()
def tw739975412117792758:=()
def tw16700850982499654701:=()
def tw16625422229309058920:=()
def tw9922464302061301783:=()
def tw15668636052226395939:=()
def tw6335890850430292715:=()
def tw10112979599622927881:=()
def tw16596868034461074808:=()
def tw6476994058414438942:=()
def tw765111374888912113:=()
def tw11406042741220880285:=()
def tw15206038861936293377:=()
def tw13507840019570972664:=()
def tw5414769575445572229:=()
def tw8385867863490698299:=()
def tw17256812420998220335:=()
def tw4531795891202408:=()
def tw10440005610930317263:=()
def tw404211848454996355:=()
def tw8839564918500312209:=()
def tw2353372519907504726:=()
def tw1233336225851510738:=()
def tw4574889898882653045:=()
def tw7864206576814048176:=()
def tw14261129522471138908:=()
def tw4275596941162245740:=()
def tw12334659749887015411:=()
def tw10413667755887505785:=()
def tw2411261576713161457:=()
def tw12467194772411161947:=()
def tw10474455328064593095:=()
def tw12762269290744150814:=()
def tw5812215919158754076:=()
def tw16143496027933889060:=()
def tw15400282272696712992:=()
def tw15464746062575146082:=()
def tw9110190741525927495:=()
def tw18200194497929563676:=()
def tw11801203551531897054:=()
def tw13559406241348945140:=()
def tw13328901857769748086:=()
def tw12491771819111294061:=()
def tw14615999657215928784:=()
def tw270313848711181546:=()
def tw16467118737564604361:=()
def tw8187322866871890622:=()
def tw14268431146962115586:=()
def tw11429730727179628823:=()
def tw10882188921249225775:=()
def tw9194373461912634078:=()
def tw1077958879761467424:=()
def tw18001484931317286485:=()
def tw17972426260681537561:=()
def tw1604964079017463662:=()
def tw2031147398080981558:=()
def tw16740958053443746634:=()
def tw6771374321297673668:=()
def tw12047711322465431680:=()
def tw4909935433375227719:=()
def tw16517860604101291652:=()
def tw18181432176487312830:=()
def tw1313825457655698062:=()
def tw7137480610222577582:=()
def tw3136703113683309239:=()
def tw16711322391273891830:=()
def tw3279223386500656751:=()
def tw12044856824165297236:=()
def tw6340915662149544603:=()
def tw17222965912362293496:=()
def tw12125615019199321811:=()
def tw17817205895177737611:=()
def tw4799751817925427167:=()
def tw5455259249842683703:=()
def tw10310251763858439143:=()
def tw4660141523123697909:=()
def tw10674754627465756727:=()
def tw1873764340268686669:=()
def tw8115440823632327379:=()
def tw2891702672040982993:=()
def tw11564552152883637886:=()
def tw14044733616438121515:=()
def tw9917014483040865320:=()
def tw5108819690999346264:=()
def tw13543206319072746277:=()
def tw4345652705214953693:=()
def tw12715929523496996876:=()
def tw8677416911870833311:=()
def tw2198326417154327744:=()
def tw10409077220201862623:=()
def tw4519955339024204767:=()
def tw13475359662778523037:=()
def tw8879225590115489601:=()
end PySem.W.Fast
open PySem PySem.W PyProof.Rows
set_option maxRecDepth 100000 in
set_option maxHeartbeats 0 in
theorem PySem.Challenge.cw_rowjudge_k61_columns_turned_holds : PySem.Challenge.rw_rowjudge_k61_columns_turned.Holds := by
  w_on; o_law; k_head; (case hw=>w_witness2)
  k_fill
  refine My.walk (l:=PySem.Challenge.rw_rowjudge_k61_columns_turned) rfl rfl (fun w h Y=>PySem.W.kIn_of Y) ?F
  case F =>
    intro w mg fa h KX G hmg
    refine' My.all_mk KX G hmg ?n_Way ?n_First ?n_Only ?n_Like ?n_Low ?n_High ?n_Sum ?n_Domain ?n_Numbers ?n_Words ?n_Table ?n_NONE ?lk_NONE ?sz_NONE ?vs_NONE ?n_CLASH ?lk_CLASH ?sz_CLASH ?vs_CLASH ?a0 ?l0 ?c0 ?k0 ?a1 ?l1 ?c1 ?k1 ?a2 ?l2 ?c2 ?k2 ?a3 ?l3 ?c3 ?k3 ?a4 ?l4 ?c4 ?k4 ?a5 ?l5 ?c5 ?k5 ?a6 ?l6 ?c6 ?k6 ?a7 ?l7 ?c7 ?k7 ?a8 ?l8 ?c8 ?k8 ?a9 ?l9 ?c9 ?k9 ?a10 ?l10 ?c10 ?k10 ?a11 ?l11 ?c11 ?k11 ?a12 ?l12 ?c12 ?k12 ?a13 ?l13 ?c13 ?k13 ?a14 ?l14 ?c14 ?k14 ?a15 ?l15 ?c15 ?k15 ?a16 ?l16 ?c16 ?k16 ?a17 ?l17 ?c17 ?k17 ?a18 ?l18 ?c18 ?k18 ?a19 ?l19 ?c19 ?k19 ?a20 ?l20 ?c20 ?k20 ?a21 ?l21 ?c21 ?k21 ?a22 ?l22 ?c22 ?k22 ?a23 ?l23 ?c23 ?k23 ?a24 ?l24 ?c24 ?k24 ?a25 ?l25 ?c25 ?k25 ?a26 ?l26 ?c26 ?k26 ?a27 ?l27 ?c27 ?k27 ?a28 ?l28 ?c28 ?k28 ?a29 ?l29 ?c29 ?k29 ?a30 ?l30 ?c30 ?k30 ?a31 ?l31 ?c31 ?k31 ?a32 ?l32 ?c32 ?k32 ?a33 ?l33 ?c33 ?k33 ?a34 ?l34 ?c34 ?k34 ?i35 ?if35 ?im35 ?ik35 ?l35 ?c35 ?k35 ?i36 ?if36 ?im36 ?ik36 ?l36 ?c36 ?k36 ?b_s37 ?b_r37 ?b_a37 ?l37 ?c37 ?k37 ?i38 ?if38 ?im38 ?ik38 ?l38 ?c38 ?k38 ?b_s39 ?b_r39 ?b_a39 ?l39 ?c39 ?k39 ?i40 ?if40 ?im40 ?ik40 ?l40 ?c40 ?k40 ?b_s41 ?b_r41 ?b_a41 ?l41 ?c41 ?k41 ?i42 ?if42 ?im42 ?ik42 ?l42 ?c42 ?k42 ?b_s43 ?b_r43 ?b_a43 ?l43 ?c43 ?k43 ?i44 ?if44 ?im44 ?ik44 ?l44 ?c44 ?k44 ?b_s45 ?b_r45 ?b_a45 ?l45 ?c45 ?k45 ?i46 ?if46 ?im46 ?ik46 ?l46 ?c46 ?k46 ?b_s47 ?b_r47 ?b_a47 ?l47 ?c47 ?k47 ?m48 ?mf48 ?l48 ?c48 ?k48 ?m49 ?mf49 ?l49 ?c49 ?k49 ?i50 ?if50 ?im50 ?ik50 ?l50 ?c50 ?k50 ?b_s51 ?b_r51 ?b_a51 ?l51 ?c51 ?k51 ?i52 ?if52 ?im52 ?ik52 ?l52 ?c52 ?k52 ?b_s53 ?b_r53 ?b_a53 ?l53 ?c53 ?k53 ?m54 ?mf54 ?l54 ?c54 ?k54 ?m55 ?mf55 ?l55 ?c55 ?k55 ?m56 ?mf56 ?l56 ?c56 ?k56 ?m57 ?mf57 ?l57 ?c57 ?k57 ?m58 ?mf58 ?l58 ?c58 ?k58 ?m59 ?mf59 ?l59 ?c59 ?k59 ?m60 ?mf60 ?l60 ?c60 ?k60 ?m61 ?mf61 ?l61 ?c61 ?k61 ?m62 ?mf62 ?l62 ?c62 ?k62 ?m63 ?mf63 ?l63 ?c63 ?k63 ?m64 ?mf64 ?l64 ?c64 ?k64 ?m65 ?mf65 ?l65 ?c65 ?k65 ?a66 ?l66 ?c66 ?k66 ?z0 ?z1 ?z2 ?z3 ?z4 ?z5 ?z6 ?z7 ?z8 ?z9 ?z10 ?z11 ?z12 ?z13 ?z14 ?y0 ?x0 ?y1 ?x1 ?y2 ?x2 ?y3 ?x3 ?y4 ?x4 ?pg_First ?hd_First ?po_First ?sa_First ?pg_Only ?hd_Only ?po_Only ?sa_Only ?pg_Like ?hd_Like ?po_Like ?sa_Like ?pg_Low ?hd_Low ?po_Low ?sa_Low ?pg_High ?hd_High ?po_High ?sa_High ?pg_Sum ?hd_Sum ?po_Sum ?sa_Sum ?pg_Numbers ?hd_Numbers ?po_Numbers ?sa_Numbers ?pg_Words ?hd_Words ?po_Words ?sa_Words ?pg_Table ?hd_Table ?po_Table ?sa_Table ?ta_First ?tn_First ?tt_First ?tm_First ?ta_Only ?tn_Only ?tt_Only ?tm_Only ?ta_Like ?tn_Like ?tt_Like ?tm_Like ?ta_Low ?tn_Low ?tt_Low ?tm_Low ?ta_High ?tn_High ?tt_High ?tm_High ?ta_Sum ?tn_Sum ?tt_Sum ?tm_Sum ?ta_Numbers ?tn_Numbers ?tt_Numbers ?tm_Numbers ?ta_Words ?tn_Words ?tt_Words ?tm_Words ?ta_Table ?tn_Table ?tt_Table ?tm_Table ?na_First_called ?na_Only_called ?na_Like_called ?na_Low_called ?na_High_called ?na_Sum_called ?na_Numbers_low ?na_Numbers_high ?na_Numbers_words ?na_Words_low ?na_Words_high ?na_Words_words ?na_Table_name ?na_Table_names ?na_Table_domains ?na_Table_outcome ?na_Table_way ?na_Table_rows ?f_nn ?f_wn ?f_ww ?f_tt ?f_nw
    (case n_Way=>k_is)
    (case n_First=>k_is)
    (case n_Only=>k_is)
    (case n_Like=>k_is)
    (case n_Low=>k_is)
    (case n_High=>k_is)
    (case n_Sum=>k_is)
    (case n_Domain=>k_is)
    (case n_Numbers=>k_is)
    (case n_Words=>k_is)
    (case n_Table=>k_is)
    (case n_NONE=>k_is)
    (case lk_NONE=>k_is)
    (case sz_NONE=>decide)
    (case vs_NONE=>exact (.cons ⟨_,rfl⟩ (.cons ⟨_,rfl⟩ .nil)))
    (case n_CLASH=>k_is)
    (case lk_CLASH=>k_is)
    (case sz_CLASH=>decide)
    (case vs_CLASH=>exact (.cons ⟨_,rfl⟩ (.cons ⟨_,rfl⟩ .nil)))
    (case a0=>k_is); (case l0=>k_is); (case c0=>k_is); (case k0=>k_is)
    (case a1=>k_is); (case l1=>k_is); (case c1=>k_is); (case k1=>k_is)
    (case a2=>k_is); (case l2=>k_is); (case c2=>k_is); (case k2=>k_is)
    (case a3=>k_is); (case l3=>k_is); (case c3=>k_is); (case k3=>k_is)
    (case a4=>k_is); (case l4=>k_is); (case c4=>k_is); (case k4=>k_is)
    (case a5=>k_is); (case l5=>k_is); (case c5=>k_is); (case k5=>k_is)
    (case a6=>k_is); (case l6=>k_is); (case c6=>k_is); (case k6=>k_is)
    (case a7=>k_is); (case l7=>k_is); (case c7=>k_is); (case k7=>k_is)
    (case a8=>k_is); (case l8=>k_is); (case c8=>k_is); (case k8=>k_is)
    (case a9=>k_is); (case l9=>k_is); (case c9=>k_is); (case k9=>k_is)
    (case a10=>k_is); (case l10=>k_is); (case c10=>k_is); (case k10=>k_is)
    (case a11=>k_is); (case l11=>k_is); (case c11=>k_is); (case k11=>k_is)
    (case a12=>k_is); (case l12=>k_is); (case c12=>k_is); (case k12=>k_is)
    (case a13=>k_is); (case l13=>k_is); (case c13=>k_is); (case k13=>k_is)
    (case a14=>k_is); (case l14=>k_is); (case c14=>k_is); (case k14=>k_is)
    (case a15=>k_is); (case l15=>k_is); (case c15=>k_is); (case k15=>k_is)
    (case a16=>k_is); (case l16=>k_is); (case c16=>k_is); (case k16=>k_is)
    (case a17=>k_is); (case l17=>k_is); (case c17=>k_is); (case k17=>k_is)
    (case a18=>k_is); (case l18=>k_is); (case c18=>k_is); (case k18=>k_is)
    (case a19=>k_is); (case l19=>k_is); (case c19=>k_is); (case k19=>k_is)
    (case a20=>k_is); (case l20=>k_is); (case c20=>k_is); (case k20=>k_is)
    (case a21=>k_is); (case l21=>k_is); (case c21=>k_is); (case k21=>k_is)
    (case a22=>k_is); (case l22=>k_is); (case c22=>k_is); (case k22=>k_is)
    (case a23=>k_is); (case l23=>k_is); (case c23=>k_is); (case k23=>k_is)
    (case a24=>k_is); (case l24=>k_is); (case c24=>k_is); (case k24=>k_is)
    (case a25=>k_is); (case l25=>k_is); (case c25=>k_is); (case k25=>k_is)
    (case a26=>k_is); (case l26=>k_is); (case c26=>k_is); (case k26=>k_is)
    (case a27=>k_is); (case l27=>k_is); (case c27=>k_is); (case k27=>k_is)
    (case a28=>k_is); (case l28=>k_is); (case c28=>k_is); (case k28=>k_is)
    (case a29=>k_is); (case l29=>k_is); (case c29=>k_is); (case k29=>k_is)
    (case a30=>k_is); (case l30=>k_is); (case c30=>k_is); (case k30=>k_is)
    (case a31=>k_is); (case l31=>k_is); (case c31=>k_is); (case k31=>k_is)
    (case a32=>k_is); (case l32=>k_is); (case c32=>k_is); (case k32=>k_is)
    (case a33=>k_is); (case l33=>k_is); (case c33=>k_is); (case k33=>k_is)
    (case a34=>k_is); (case l34=>k_is); (case c34=>k_is); (case k34=>k_is)
    (case i35=>k_is); (case if35=>k_is); (case im35=>k_is); (case ik35=>k_is); (case l35=>k_is); (case c35=>k_is); (case k35=>k_is)
    (case i36=>k_is); (case if36=>k_is); (case im36=>k_is); (case ik36=>k_is); (case l36=>k_is); (case c36=>k_is); (case k36=>k_is)
    (case b_s37=>k_is); (case b_r37=>k_is); (case b_a37=>k_is); (case l37=>k_is); (case c37=>k_is); (case k37=>k_is)
    (case i38=>k_is); (case if38=>k_is); (case im38=>k_is); (case ik38=>k_is); (case l38=>k_is); (case c38=>k_is); (case k38=>k_is)
    (case b_s39=>k_is); (case b_r39=>k_is); (case b_a39=>k_is); (case l39=>k_is); (case c39=>k_is); (case k39=>k_is)
    (case i40=>k_is); (case if40=>k_is); (case im40=>k_is); (case ik40=>k_is); (case l40=>k_is); (case c40=>k_is); (case k40=>k_is)
    (case b_s41=>k_is); (case b_r41=>k_is); (case b_a41=>k_is); (case l41=>k_is); (case c41=>k_is); (case k41=>k_is)
    (case i42=>k_is); (case if42=>k_is); (case im42=>k_is); (case ik42=>k_is); (case l42=>k_is); (case c42=>k_is); (case k42=>k_is)
    (case b_s43=>k_is); (case b_r43=>k_is); (case b_a43=>k_is); (case l43=>k_is); (case c43=>k_is); (case k43=>k_is)
    (case i44=>k_is); (case if44=>k_is); (case im44=>k_is); (case ik44=>k_is); (case l44=>k_is); (case c44=>k_is); (case k44=>k_is)
    (case b_s45=>k_is); (case b_r45=>k_is); (case b_a45=>k_is); (case l45=>k_is); (case c45=>k_is); (case k45=>k_is)
    (case i46=>k_is); (case if46=>k_is); (case im46=>k_is); (case ik46=>k_is); (case l46=>k_is); (case c46=>k_is); (case k46=>k_is)
    (case b_s47=>k_is); (case b_r47=>k_is); (case b_a47=>k_is); (case l47=>k_is); (case c47=>k_is); (case k47=>k_is)
    (case m48=>k_is); (case mf48=>k_is); (case l48=>k_is); (case c48=>k_is); (case k48=>k_is)
    (case m49=>k_is); (case mf49=>k_is); (case l49=>k_is); (case c49=>k_is); (case k49=>k_is)
    (case i50=>k_is); (case if50=>k_is); (case im50=>k_is); (case ik50=>k_is); (case l50=>k_is); (case c50=>k_is); (case k50=>k_is)
    (case b_s51=>k_is); (case b_r51=>k_is); (case b_a51=>k_is); (case l51=>k_is); (case c51=>k_is); (case k51=>k_is)
    (case i52=>k_is); (case if52=>k_is); (case im52=>k_is); (case ik52=>k_is); (case l52=>k_is); (case c52=>k_is); (case k52=>k_is)
    (case b_s53=>k_is); (case b_r53=>k_is); (case b_a53=>k_is); (case l53=>k_is); (case c53=>k_is); (case k53=>k_is)
    (case m54=>k_is); (case mf54=>k_is); (case l54=>k_is); (case c54=>k_is); (case k54=>k_is)
    (case m55=>k_is); (case mf55=>k_is); (case l55=>k_is); (case c55=>k_is); (case k55=>k_is)
    (case m56=>k_is); (case mf56=>k_is); (case l56=>k_is); (case c56=>k_is); (case k56=>k_is)
    (case m57=>k_is); (case mf57=>k_is); (case l57=>k_is); (case c57=>k_is); (case k57=>k_is)
    (case m58=>k_is); (case mf58=>k_is); (case l58=>k_is); (case c58=>k_is); (case k58=>k_is)
    (case m59=>k_is); (case mf59=>k_is); (case l59=>k_is); (case c59=>k_is); (case k59=>k_is)
    (case m60=>k_is); (case mf60=>k_is); (case l60=>k_is); (case c60=>k_is); (case k60=>k_is)
    (case m61=>k_is); (case mf61=>k_is); (case l61=>k_is); (case c61=>k_is); (case k61=>k_is)
    (case m62=>k_is); (case mf62=>k_is); (case l62=>k_is); (case c62=>k_is); (case k62=>k_is)
    (case m63=>k_is); (case mf63=>k_is); (case l63=>k_is); (case c63=>k_is); (case k63=>k_is)
    (case m64=>k_is); (case mf64=>k_is); (case l64=>k_is); (case c64=>k_is); (case k64=>k_is)
    (case m65=>k_is); (case mf65=>k_is); (case l65=>k_is); (case c65=>k_is); (case k65=>k_is)
    (case a66=>k_is); (case l66=>k_is); (case c66=>k_is); (case k66=>k_is)
    (case z0=>k_is)
    (case z1=>k_is)
    (case z2=>k_is)
    (case z3=>k_is)
    (case z4=>k_is)
    (case z5=>k_is)
    (case z6=>k_is)
    (case z7=>k_is)
    (case z8=>k_is)
    (case z9=>k_is)
    (case z10=>k_is)
    (case z11=>k_is)
    (case z12=>k_is)
    (case z13=>k_is)
    (case z14=>k_is)
    (case y0=>k_is)
    (case x0=>exact ⟨_,rfl⟩)
    (case y1=>k_is)
    (case x1=>exact ⟨_,rfl⟩)
    (case y2=>k_is)
    (case x2=>exact ⟨_,rfl⟩)
    (case y3=>k_is)
    (case x3=>exact ⟨_,rfl⟩)
    (case y4=>k_is)
    (case x4=>exact ⟨_,rfl⟩)
    (case pg_First=>first | k_is | rfl | with_unfolding_all rfl)
    (case hd_First=>first | k_is | rfl | with_unfolding_all rfl)
    (case po_First=>first | k_is | rfl | with_unfolding_all rfl)
    (case sa_First=>first | k_is | rfl | with_unfolding_all rfl)
    (case pg_Only=>first | k_is | rfl | with_unfolding_all rfl)
    (case hd_Only=>first | k_is | rfl | with_unfolding_all rfl)
    (case po_Only=>first | k_is | rfl | with_unfolding_all rfl)
    (case sa_Only=>first | k_is | rfl | with_unfolding_all rfl)
    (case pg_Like=>first | k_is | rfl | with_unfolding_all rfl)
    (case hd_Like=>first | k_is | rfl | with_unfolding_all rfl)
    (case po_Like=>first | k_is | rfl | with_unfolding_all rfl)
    (case sa_Like=>first | k_is | rfl | with_unfolding_all rfl)
    (case pg_Low=>first | k_is | rfl | with_unfolding_all rfl)
    (case hd_Low=>first | k_is | rfl | with_unfolding_all rfl)
    (case po_Low=>first | k_is | rfl | with_unfolding_all rfl)
    (case sa_Low=>first | k_is | rfl | with_unfolding_all rfl)
    (case pg_High=>first | k_is | rfl | with_unfolding_all rfl)
    (case hd_High=>first | k_is | rfl | with_unfolding_all rfl)
    (case po_High=>first | k_is | rfl | with_unfolding_all rfl)
    (case sa_High=>first | k_is | rfl | with_unfolding_all rfl)
    (case pg_Sum=>first | k_is | rfl | with_unfolding_all rfl)
    (case hd_Sum=>first | k_is | rfl | with_unfolding_all rfl)
    (case po_Sum=>first | k_is | rfl | with_unfolding_all rfl)
    (case sa_Sum=>first | k_is | rfl | with_unfolding_all rfl)
    (case pg_Numbers=>first | k_is | rfl | with_unfolding_all rfl)
    (case hd_Numbers=>first | k_is | rfl | with_unfolding_all rfl)
    (case po_Numbers=>first | k_is | rfl | with_unfolding_all rfl)
    (case sa_Numbers=>first | k_is | rfl | with_unfolding_all rfl)
    (case pg_Words=>first | k_is | rfl | with_unfolding_all rfl)
    (case hd_Words=>first | k_is | rfl | with_unfolding_all rfl)
    (case po_Words=>first | k_is | rfl | with_unfolding_all rfl)
    (case sa_Words=>first | k_is | rfl | with_unfolding_all rfl)
    (case pg_Table=>first | k_is | rfl | with_unfolding_all rfl)
    (case hd_Table=>first | k_is | rfl | with_unfolding_all rfl)
    (case po_Table=>first | k_is | rfl | with_unfolding_all rfl)
    (case sa_Table=>first | k_is | rfl | with_unfolding_all rfl)
    (case ta_First=>first | k_is | rfl | with_unfolding_all rfl)
    (case tn_First=>first | k_is | rfl | with_unfolding_all rfl)
    (case tt_First=>first | k_is | rfl | with_unfolding_all rfl)
    (case tm_First=>first | k_is | rfl | with_unfolding_all rfl)
    (case ta_Only=>first | k_is | rfl | with_unfolding_all rfl)
    (case tn_Only=>first | k_is | rfl | with_unfolding_all rfl)
    (case tt_Only=>first | k_is | rfl | with_unfolding_all rfl)
    (case tm_Only=>first | k_is | rfl | with_unfolding_all rfl)
    (case ta_Like=>first | k_is | rfl | with_unfolding_all rfl)
    (case tn_Like=>first | k_is | rfl | with_unfolding_all rfl)
    (case tt_Like=>first | k_is | rfl | with_unfolding_all rfl)
    (case tm_Like=>first | k_is | rfl | with_unfolding_all rfl)
    (case ta_Low=>first | k_is | rfl | with_unfolding_all rfl)
    (case tn_Low=>first | k_is | rfl | with_unfolding_all rfl)
    (case tt_Low=>first | k_is | rfl | with_unfolding_all rfl)
    (case tm_Low=>first | k_is | rfl | with_unfolding_all rfl)
    (case ta_High=>first | k_is | rfl | with_unfolding_all rfl)
    (case tn_High=>first | k_is | rfl | with_unfolding_all rfl)
    (case tt_High=>first | k_is | rfl | with_unfolding_all rfl)
    (case tm_High=>first | k_is | rfl | with_unfolding_all rfl)
    (case ta_Sum=>first | k_is | rfl | with_unfolding_all rfl)
    (case tn_Sum=>first | k_is | rfl | with_unfolding_all rfl)
    (case tt_Sum=>first | k_is | rfl | with_unfolding_all rfl)
    (case tm_Sum=>first | k_is | rfl | with_unfolding_all rfl)
    (case ta_Numbers=>first | k_is | rfl | with_unfolding_all rfl)
    (case tn_Numbers=>first | k_is | rfl | with_unfolding_all rfl)
    (case tt_Numbers=>first | k_is | rfl | with_unfolding_all rfl)
    (case tm_Numbers=>first | k_is | rfl | with_unfolding_all rfl)
    (case ta_Words=>first | k_is | rfl | with_unfolding_all rfl)
    (case tn_Words=>first | k_is | rfl | with_unfolding_all rfl)
    (case tt_Words=>first | k_is | rfl | with_unfolding_all rfl)
    (case tm_Words=>first | k_is | rfl | with_unfolding_all rfl)
    (case ta_Table=>first | k_is | rfl | with_unfolding_all rfl)
    (case tn_Table=>first | k_is | rfl | with_unfolding_all rfl)
    (case tt_Table=>first | k_is | rfl | with_unfolding_all rfl)
    (case tm_Table=>first | k_is | rfl | with_unfolding_all rfl)
    (case na_First_called=>first | k_is | rfl | with_unfolding_all rfl)
    (case na_Only_called=>first | k_is | rfl | with_unfolding_all rfl)
    (case na_Like_called=>first | k_is | rfl | with_unfolding_all rfl)
    (case na_Low_called=>first | k_is | rfl | with_unfolding_all rfl)
    (case na_High_called=>first | k_is | rfl | with_unfolding_all rfl)
    (case na_Sum_called=>first | k_is | rfl | with_unfolding_all rfl)
    (case na_Numbers_low=>first | k_is | rfl | with_unfolding_all rfl)
    (case na_Numbers_high=>first | k_is | rfl | with_unfolding_all rfl)
    (case na_Numbers_words=>first | k_is | rfl | with_unfolding_all rfl)
    (case na_Words_low=>first | k_is | rfl | with_unfolding_all rfl)
    (case na_Words_high=>first | k_is | rfl | with_unfolding_all rfl)
    (case na_Words_words=>first | k_is | rfl | with_unfolding_all rfl)
    (case na_Table_name=>first | k_is | rfl | with_unfolding_all rfl)
    (case na_Table_names=>first | k_is | rfl | with_unfolding_all rfl)
    (case na_Table_domains=>first | k_is | rfl | with_unfolding_all rfl)
    (case na_Table_outcome=>first | k_is | rfl | with_unfolding_all rfl)
    (case na_Table_way=>first | k_is | rfl | with_unfolding_all rfl)
    (case na_Table_rows=>first | k_is | rfl | with_unfolding_all rfl)
    (case f_nn=>first | k_is | rfl | with_unfolding_all rfl)
    (case f_wn=>first | k_is | rfl | with_unfolding_all rfl)
    (case f_ww=>first | k_is | rfl | with_unfolding_all rfl)
    (case f_tt=>first | k_is | rfl | with_unfolding_all rfl)
    (case f_nw=>first | k_is | rfl | with_unfolding_all rfl)
