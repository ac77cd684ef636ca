import PyProof.Rows.All
import Wide.All
import OpenK.AllK
import Wide.FinOn
import Lean
import PyProof.EqAt
import PyProof.EqKinds
import PyProof.TupleCall
import KE.KIntText
import PyProof.NeKinds
import KE.KTryMore
import KE.KIsAll
import PyProof.ZipIter
import KE.KRevIter
import KE.KNest
import KE.KLam
import PySem.Challenge.RW_rowjudge_k54_trees_priced
set_option Elab.async false
set_option linter.all false
set_option maxRecDepth 100000
namespace L2
open PySem PySem.Spec PyProof.Rows
abbrev Key:=Sum Int Str
def keyIs:Key→Value→Bool
  | .inl k,v=>Value.isInt k v
  | .inr x,v=>Value.isStrOf x v
def keyH (w:World):Key→Int
  | .inl k=>hashInt k
  | .inr x=>hashStr w x
theorem keyIs_shape:∀ {k:Key} {v:Value},keyIs k v=true→(∃ i t,k=Sum.inl i∧v=Value.int i t)∨(∃ x t,k=Sum.inr x∧v=Value.str x t)
  | .inl i,v,h=>by
    obtain ⟨t,e⟩:=Value.isInt_shape (k:=i) (v:=v) h
    exact .inl ⟨i,t,rfl,e⟩
  | .inr x,v,h=>by
    obtain ⟨t,e⟩:=Value.isStrOf_shape (x:=x) (v:=v) h
    exact .inr ⟨x,t,rfl,e⟩
theorem key_ll (a b:Int):decide ((Sum.inl a:Key)=Sum.inl b)=(a == b):=by
  by_cases e:a=b
  · subst e;simp
  · have h:¬ (Sum.inl a:Key)=Sum.inl b:=fun q=>e (Sum.inl.inj q)
    rw [decide_eq_false h]
    exact (beq_eq_false_iff_ne.mpr e).symm
theorem key_rr (a b:Str):decide ((Sum.inr a:Key)=Sum.inr b)=decide (a=b):=by
  by_cases e:a=b
  · subst e;simp
  · have h:¬ (Sum.inr a:Key)=Sum.inr b:=fun q=>e (Sum.inr.inj q)
    rw [decide_eq_false h,decide_eq_false e]
theorem key_lr (a:Int) (b:Str):decide ((Sum.inl a:Key)=Sum.inr b)=false:=decide_eq_false (fun q=>nomatch q)
theorem key_rl (a:Str) (b:Int):decide ((Sum.inr a:Key)=Sum.inl b)=false:=decide_eq_false (fun q=>nomatch q)
def mixKind (prog:Program) (w:World):PySem.KeyKind prog w Key where
  is:=keyIs
  hash:=keyH w
  inj:=fun v a b ha hb=>by
    rcases keyIs_shape ha with ⟨i,t,rfl,rfl⟩ | ⟨x,t,rfl,rfl⟩
    · rcases keyIs_shape hb with ⟨j,u,rfl,e⟩ | ⟨y,u,rfl,e⟩
      · injection e with e1 _;rw [e1]
      · exact nomatch e
    · rcases keyIs_shape hb with ⟨j,u,rfl,e⟩ | ⟨y,u,rfl,e⟩
      · exact nomatch e
      · injection e with e1 _;rw [e1]
  byValue:=fun k v h=>by
    rcases keyIs_shape h with ⟨i,t,rfl,rfl⟩ | ⟨x,t,rfl,rfl⟩ <;> rfl
  pyHash:=fun hv h=>by
    rcases keyIs_shape hv with ⟨i,t,rfl,rfl⟩ | ⟨x,t,rfl,rfl⟩
    · exact wpAny_pyHash_int h
    · exact wpAny_pyHash_str h
  eqBool:=fun hu hv h=>by
    rcases keyIs_shape hu with ⟨i,t,rfl,rfl⟩ | ⟨x,t,rfl,rfl⟩
    · rcases keyIs_shape hv with ⟨j,u,rfl,rfl⟩ | ⟨y,u,rfl,rfl⟩
      · rw [key_ll] at h;exact wpAny_eqBool_int h
      · rw [key_lr] at h;exact SeqAt.EqAt.int_str i t y u _ _ _ _ h
    · rcases keyIs_shape hv with ⟨j,u,rfl,rfl⟩ | ⟨y,u,rfl,rfl⟩
      · rw [key_rl] at h;exact SeqAt.EqAt.str_int x t j u _ _ _ _ h
      · rw [key_rr] at h;exact wpAny_eqBool_str h
  «strs»:=fun k x t v h=>by
    rcases keyIs_shape h with ⟨i,u,rfl,e⟩ | ⟨y,u,rfl,e⟩
    · exact nomatch e
    · injection e with e1 _
      subst e1
      cases v <;> rfl
end L2
namespace L2
open PySem PySem.Spec PyProof.Rows
inductive V where
  | non | bl (b:Bool) | int (i:Int) | str (x:Str) | byt (b:Array UInt8) | flt (b:UInt64) | ref (a:Addr) | ty (n:String)
  deriving DecidableEq
def RelV:V→Value→Prop
  | .non,u=>u=Value.none
  | .bl b,u=>u=Value.bool b
  | .int i,u=>∃ t,u=Value.int i t
  | .str x,u=>∃ t,u=Value.str x t
  | .byt b,u=>∃ t,u=Value.bytes b t
  | .flt b,u=>∃ t,u=Value.float b t
  | .ref a,u=>u=Value.ref a
  | .ty n,u=>u=Value.type n
abbrev Vals:List V→List Value→Prop:=Paired RelV
theorem Vals.length {xs:List V} {us:List Value} (r:Vals xs us):xs.length=us.length:=Paired.length r
theorem Vals.get:∀ {xs:List V} {us:List Value} {i:Nat} {x:V},Vals xs us→xs[i]?=some x→∃ u,us[i]?=some u∧RelV x u
  | _,_,_,_,.nil,e=>by simp at e
  | _,_,0,_,.cons r _,e=>by simp at e;subst e;exact ⟨_,rfl,r⟩
  | _,_,i+1,x,.cons _ t,e=>by
    obtain ⟨u,h1,h2⟩:=Vals.get (i:=i) (x:=x) t (by simpa using e)
    exact ⟨u,by simpa using h1,h2⟩
theorem Vals.append:∀ {xs ys:List V} {us ws:List Value},Vals xs us→Vals ys ws→Vals (xs ++ ys) (us ++ ws)
  | _,_,_,_,.nil,s=>s
  | _,_,_,_,.cons r t,s=>.cons r (Vals.append t s)
theorem Vals.take:∀ {xs:List V} {us:List Value} (n:Nat),Vals xs us→Vals (xs.take n) (us.take n)
  | _,_,0,_=>.nil
  | _,_,_+1,.nil=>.nil
  | _,_,n+1,.cons r t=>.cons r (Vals.take n t)
theorem Vals.drop:∀ {xs:List V} {us:List Value} (n:Nat),Vals xs us→Vals (xs.drop n) (us.drop n)
  | _,_,0,r=>r
  | _,_,_+1,.nil=>.nil
  | _,_,n+1,.cons _ t=>Vals.drop n t
def RelO:Option V→Option Value→Prop
  | some v,some u=>RelV v u
  | none,none=>True
  | _,_=>False
def KV {κ:Type} : List (κ × V)→List (κ × Value)→Prop:=Paired fun (p:κ × V) (q:κ × Value)=>p.1=q.1∧RelV p.2 q.2
def kV:Key→V
  | .inl i=>.int i
  | .inr x=>.str x
inductive HO where
  | lst (xs:List V)
  | tup (xs:List V)
  | dK (kvs:List (Key × V)) | dT (kvs:List (List Key × V))
  | set (S:Int→Bool) (n:Nat)
  | ins (C dx:Addr) (fs:List (Str × V))
  | own (x:Addr)
  | xd (fs:List (Str × V))
  | met (f x:Addr)
  | rng (lo hi:Int)
  | frz (o:Obj) (u:HO)
  | tbl (ps:Array Value)
  | ext (φ:Heap→Prop)
abbrev Hp:=Addr→Option HO
def upd (H:Hp) (a:Addr) (o:HO):Hp:=fun b=>if b=a then some o else H b
theorem upd_same {H:Hp} {a:Addr} {o:HO} : upd H a o a=some o:=by unfold upd;rw [if_pos rfl]
theorem upd_ne {H:Hp} {a b:Addr} {o:HO} (h:b ≠ a):upd H a o b=H b:=by unfold upd;rw [if_neg h]
theorem ne_of {H:Hp} {a b:Addr} {o u:HO} (h:H a=some o) (h' : H b=some u) (d:o ≠ u):a ≠ b:=by
  intro e;subst e;rw [h] at h';exact d (Option.some.inj h')
theorem ne_of_none {H:Hp} {a b:Addr} {o:HO} (h:H a=some o) (h' : H b=none):a ≠ b:=by
  intro e;subst e;rw [h] at h';cases h'
section
variable (P:Program) (w:World)
def ObjOk (H:Hp) (h:Heap) (a:Addr):HO→Prop
  | .lst xs=>xs.length≤sizeLine∧∃ (its:List Value) (n:Nat),Vals xs its∧h.get? a=some { cls:=.type "list",data:=.seq its.toArray n }
  | .tup xs=>xs.length≤sizeLine∧∃ its:List Value,Vals xs its∧IsTup h a its.toArray
  | .dK kvs=>kvs.length≤sizeLine∧(a == sysModules)=false∧∃ vs,KV kvs vs∧h.DictOf (mixKind P w) a vs
  | .dT kvs=>kvs.length≤sizeLine∧(a == sysModules)=false∧∃ xs:List (List Key × Addr × Value),
      Paired (fun (p:List Key × V) (q:List Key × Addr × Value)=>p.1=q.1∧H q.2.1=some (.tup (p.1.map kV))∧RelV p.2 q.2.2) kvs xs ∧
      ∃ o es ep,h.get? a=some o∧o.ExactDict∧o.data=.dict es ep∧es.toList=xs.map (entryOfKey (tupleKind (mixKind P w)))∧(xs.map (·.1)).Nodup
  | .set S n=>h.SetOf (intKind P w) a S n
  | .ins C dx fs=>H dx=some (.own a)∧fs.length≤1000∧dx ≠ a∧h.get? a=some (PySem.W.instObj C dx) ∧
      ∃ mA,h.Ns1 dx mA∧(∀ f,RelO (fs.lookup f) (mA f))∧PySem.Within mA (fs.map (·.1))
  | .own _=>∃ o,h.get? a=some o
  | .xd fs=>∃ mA,h.Ns1 a mA∧∀ f,RelO (fs.lookup f) (mA f)
  | .rng lo hi=>∃ t u v,h.get? a=some { cls:=.type "range",data:=.fields #[.int lo t,.int hi u,.int 1 v] }
  | .frz o u=>h.get? a=some o∧ObjOk H h a u
  | .tbl ps=>h.get? a=some { cls:=.none,data:=.fields ps }
  | .met f x=>h.get? a=some (PySem.W.methodObj (.ref f) (.ref x))
  | .ext φ=>φ h∧(∃ o,h.get? a=some o)∧∀ h1 h2:Heap,φ h1→(∀ o,h1.get? a=some o→h2.get? a=some o)→φ h2
def HOk (H:Hp) (h:Heap):Prop:=∀ a o,H a=some o→ObjOk P w H h a o
end
section
variable {P:Program} {w:World} {H H' : Hp} {h h' : Heap} {a:Addr} {o:HO}
theorem ObjOk.lt (x:ObjOk P w H h a o):a < h.objs.size:=by
  cases o with
  | lst xs=>obtain ⟨_,_,_,_,e⟩:=x;exact Heap.lt_size e
  | tup xs=>obtain ⟨_,_,_,p⟩:=x;exact p.lt
  | dK kvs=>obtain ⟨_,_,_,_,o,_,_,e,_⟩:=x;exact Heap.lt_size e
  | dT kvs=>obtain ⟨_,_,_,_,o,_,_,e,_⟩:=x;exact Heap.lt_size e
  | set S n=>obtain ⟨o,_,_,_,e,_⟩:=x;exact Heap.lt_size e
  | ins C dx fs=>obtain ⟨_,_,_,e,_⟩:=x;exact Heap.lt_size e
  | own y=>obtain ⟨_,e⟩:=x;exact Heap.lt_size e
  | xd fs=>obtain ⟨_,⟨_,_,_,e,_⟩,_⟩:=x;exact Heap.lt_size e
  | rng lo hi=>obtain ⟨_,_,_,e⟩:=x;exact Heap.lt_size e
  | frz ob u=>obtain ⟨e,_⟩:=x;exact Heap.lt_size e
  | tbl ps=>exact Heap.lt_size (show h.get? a=some _ from x)
  | met f y=>exact Heap.lt_size (show h.get? a=some _ from x)
  | ext φ=>obtain ⟨_,⟨_,e⟩,_⟩:=x;exact Heap.lt_size e
theorem Paired.mapP {α β:Type} {F G:α→β→Prop} : ∀ {l₁:List α} {l₂:List β},Paired F l₁ l₂→(∀ a b,F a b→G a b)→Paired G l₁ l₂
  | _,_,.nil,_=>.nil
  | _,_,.cons r t,f=>.cons (f _ _ r) (Paired.mapP t f)
theorem ObjOk.stay (x:ObjOk P w H h a o) (k:∀ b u,(b=a∨H b=some (.own a))→h.get? b=some u→h'.get? b=some u)
    (ho:∀ b,H b=some (.own a)→H' b=some (.own a)) (ht:∀ b xs,H b=some (.tup xs)→H' b=some (.tup xs)):ObjOk P w H' h' a o:=by
  induction o with
  | lst xs=>obtain ⟨z,its,n,r,e⟩:=x;exact ⟨z,its,n,r,k _ _ (.inl rfl) e⟩
  | tup xs=>obtain ⟨z,its,r,ob,e,c⟩:=x;exact ⟨z,its,r,ob,k _ _ (.inl rfl) e,c⟩
  | dK kvs=>obtain ⟨z,y,vs,r,ob,es,ep,e,c⟩:=x;exact ⟨z,y,vs,r,ob,es,ep,k _ _ (.inl rfl) e,c⟩
  | dT kvs =>
    obtain ⟨z,y,xs,r,ob,es,ep,e,c⟩:=x
    exact ⟨z,y,xs,Paired.mapP r fun p q z=>⟨z.1,ht _ _ z.2.1,z.2.2⟩,ob,es,ep,k _ _ (.inl rfl) e,c⟩
  | set S n=>obtain ⟨ob,es,ep,t,e,c⟩:=x;exact ⟨ob,es,ep,t,k _ _ (.inl rfl) e,c⟩
  | ins C dx fs =>
    obtain ⟨d,z,ne,e,mA,⟨od,es,ep,e2,c⟩,r⟩:=x
    exact ⟨ho _ d,z,ne,k _ _ (.inl rfl) e,mA,⟨od,es,ep,k _ _ (.inr d) e2,c⟩,r⟩
  | own y=>obtain ⟨ob,e⟩:=x;exact ⟨ob,k _ _ (.inl rfl) e⟩
  | xd fs=>obtain ⟨mA,⟨od,es,ep,e,c⟩,r⟩:=x;exact ⟨mA,⟨od,es,ep,k _ _ (.inl rfl) e,c⟩,r⟩
  | rng lo hi=>obtain ⟨t,u,v,e⟩:=x;exact ⟨t,u,v,k _ _ (.inl rfl) e⟩
  | frz ob u ih=>obtain ⟨e,q⟩:=x;exact ⟨k _ _ (.inl rfl) e,ih q⟩
  | tbl ps =>
    have e:h.get? a=some { cls:=.none,data:=.fields ps }:=x
    show h'.get? a=some { cls:=.none,data:=.fields ps }
    exact k a _ (.inl rfl) e
  | met f y =>
    have e:h.get? a=some (PySem.W.methodObj (.ref f) (.ref y)):=x
    show h'.get? a=some (PySem.W.methodObj (.ref f) (.ref y))
    exact k a _ (.inl rfl) e
  | ext φ=>obtain ⟨p,⟨o,e⟩,st⟩:=x;exact ⟨st _ _ p fun o q=>k _ _ (.inl rfl) q,⟨o,k _ _ (.inl rfl) e⟩,st⟩
theorem HOk.lt (x:HOk P w H h) (e:H a=some o):a < h.objs.size:=(x a o e).lt
theorem HOk.fresh (x:HOk P w H h) (e:h.objs.size≤a):H a=none:=by
  cases q:H a with
  | none=>rfl
  | some u=>exact absurd (Nat.lt_of_lt_of_le (x.lt q) e) (Nat.lt_irrefl _)
theorem HOk.kept (x:HOk P w H h) (k:∀ b u,h.get? b=some u→h'.get? b=some u):HOk P w H h':=fun a o e =>
  (x a o e).stay (fun b u _ q=>k b u q) (fun _ q=>q) fun _ _ q=>q
theorem HOk.laid (x:HOk P w H h) (k:∀ b u,h.get? b=some u→h'.get? b=some u) (hp:h.objs.size≤a) (new:ObjOk P w (upd H a o) h' a o):HOk P w (upd H a o) h':=fun b u e=>by
  have hn:=x.fresh hp
  by_cases hb:b=a
  · subst hb;rw [upd_same] at e;cases e;exact new
  · rw [upd_ne hb] at e
    exact (x b u e).stay (fun c v _ q=>k c v q) (fun c q=>by rw [upd_ne (ne_of_none q hn)];exact q) fun c xs q=>by rw [upd_ne (ne_of_none q hn)];exact q
end
def Rd (H:Hp) (a:Addr) (u:HO):Prop:=H a=some u∨∃ o,H a=some (.frz o u)
theorem Rd.ok {P:Program} {w:World} {H:Hp} {h:Heap} {a:Addr} {u:HO} (r:Rd H a u) (x:HOk P w H h):ObjOk P w H h a u:=by
  rcases r with r | ⟨o,r⟩
  · exact x a u r
  · obtain ⟨_,q⟩:=x a _ r
    exact q
def Mut:Option HO→Prop
  | some (.lst _)=>True
  | some (.dK _)=>True
  | some (.dT _)=>True
  | some (.set _ _)=>True
  | some (.ins _ _ _)=>True
  | some (.ext _)=>True
  | _=>False
section
variable {P:Program} {w:World} {H:Hp} {h h' : Heap} {x e:Addr} {o' : HO}
theorem HOk.write (ok:HOk P w H h) (mu:Mut (H x)) (he:e=x∨H e=some (.own x)) (k:∀ b u,b ≠ e→h.get? b=some u→h'.get? b=some u) (heo:∃ u,h'.get? e=some u)
    (new:ObjOk P w (upd H x o') h' x o'):HOk P w (upd H x o') h':=fun b u q=>by
  have nown:∀ c y,H c=some (.own y)→c ≠ x:=fun c y r z=>by subst z;rw [r] at mu;exact mu
  have ntup:∀ c xs,H c=some (.tup xs)→c ≠ x:=fun c xs r z=>by subst z;rw [r] at mu;exact mu
  by_cases hb:b=x
  · subst hb;rw [upd_same] at q;cases q;exact new
  · rw [upd_ne hb] at q
    by_cases hbe:b=e
    · have q' : H b=some (.own x):=by
        rcases he with z | z
        · exact absurd (hbe.trans z) hb
        · rw [hbe];exact z
      rw [q] at q';cases q'
      obtain ⟨v,hv⟩:=heo
      exact ⟨v,by rw [hbe];exact hv⟩
    · refine (ok b u q).stay (fun c v hc r=>k c v ?_ r) (fun c r=>by rw [upd_ne (nown c b r)];exact r) fun c xs r=>by rw [upd_ne (ntup c xs r)];exact r
      rcases hc with rfl | hc
      · exact hbe
      · rintro rfl
        rcases he with z | z
        · exact nown c b hc z
        · rw [hc] at z;cases z;exact hb rfl
end
structure Un (fs ex:List Addr) (H H' : Hp) (h h' : Heap):Prop where
  keep:∀ b o,h.get? b=some o→H b=none→b ∉ fs→b ∉ ex→h'.get? b=some o
  slot:∀ b o,h.get? b=some o→H b=none→b ∈ fs→b ∉ ex→∃ sl,h'.get? b=some { o with slots:=sl }
  free:∀ b o,h.get? b=some o→H b=none→b ∉ ex→H' b=none
  there:∀ b o,h.get? b=some o→b ∉ ex→∃ o',h'.get? b=some o'
  tups:∀ b xs,H b=some (.tup xs)→H' b=some (.tup xs)
  frzs:∀ b o u,H b=some (.frz o u)→H' b=some (.frz o u)
  tbls:∀ b ps,H b=some (.tbl ps)→∃ more,H' b=some (.tbl (ps ++ more))
section
variable {fs fs' ex ex' : List Addr} {H H1 H2:Hp} {h h1 h2 h' : Heap} {a x e:Addr} {o:HO}
theorem Un.any (u:Un fs ex H H1 h h1) {b:Addr} {ob:Obj} (q:h.get? b=some ob) (n:H b=none) (hx:b ∉ ex):∃ sl,h1.get? b=some { ob with slots:=sl }:=by
  by_cases hb:b ∈ fs
  · exact u.slot b ob q n hb hx
  · exact ⟨ob.slots,u.keep b ob q n hb hx⟩
theorem Un.kept (k:∀ b u,h.get? b=some u→h'.get? b=some u):Un fs ex H H h h' :=
  ⟨fun b ob q _ _ _=>k b ob q,fun b ob q _ _ _=>⟨ob.slots,k b ob q⟩,fun _ _ _ n _=>n,fun b ob q _=>⟨ob,k b ob q⟩,fun _ _ q=>q,fun _ _ _ q=>q,fun _ ps q=>⟨#[],by rw [q];simp⟩⟩
theorem Un.refl:Un fs ex H H h h:=Un.kept fun _ _ q=>q
theorem Un.laid (k:∀ b u,h.get? b=some u→h'.get? b=some u) (hp:h.objs.size≤a) (hn:H a=none):Un fs ex H (upd H a o) h h' where
  keep:=fun b u q _ _ _=>k b u q
  slot:=fun b u q _ _ _=>⟨u.slots,k b u q⟩
  free:=fun b u q n _=>by rw [upd_ne (Nat.ne_of_lt (Nat.lt_of_lt_of_le (Heap.lt_size q) hp))];exact n
  there:=fun b u q _=>⟨u,k b u q⟩
  tups:=fun b xs q=>by rw [upd_ne (ne_of_none q hn)];exact q
  frzs:=fun b u xs q=>by rw [upd_ne (ne_of_none q hn)];exact q
  tbls:=fun b ps q=>⟨#[],by rw [upd_ne (ne_of_none q hn),q];simp⟩
theorem Un.write (mu:Mut (H x)) (he:e=x∨H e=some (.own x)) (k:∀ b u,b ≠ e→h.get? b=some u→h'.get? b=some u) (heo:∃ u,h'.get? e=some u):Un fs ex H (upd H x o) h h':=by
  have hx:∀ b,H b=none→b ≠ x:=fun b n z=>by subst z;rw [n] at mu;exact mu
  have hb:∀ b,H b=none→b ≠ e:=fun b n z=>by
    subst z
    rcases he with r | r
    · exact hx b n r
    · rw [n] at r;cases r
  have hm:∀ b u,H b=some u→¬ Mut (some u)→b ≠ x:=fun b u q nm z=>by subst z;rw [q] at mu;exact nm mu
  refine ⟨fun b u q n _ _=>k b u (hb b n) q,fun b u q n _ _=>⟨u.slots,k b u (hb b n) q⟩,fun b u q n _=>by rw [upd_ne (hx b n)];exact n,fun b u q _=>?_,
    fun b xs q=>by rw [upd_ne (hm b _ q fun z=>z)];exact q,fun b u xs q=>by rw [upd_ne (hm b _ q fun z=>z)];exact q,fun b ps q=>⟨#[],by rw [upd_ne (hm b _ q fun z=>z),q];simp⟩⟩
  by_cases hbe:b=e
  · subst hbe;exact heo
  · exact ⟨u,k b u hbe q⟩
end
def trk (h:Heap) (H:Hp):List Addr:=(List.range h.objs.size).filter fun a=>(H a).isSome
def hidT (h:Heap) (H:Hp):Heap:=PySem.W.hideAll h (trk h H)
theorem hidT_size (h:Heap) (H:Hp):(hidT h H).objs.size=h.objs.size:=PySem.W.hideAll_size _ _
theorem hidT_get {h:Heap} {H:Hp} {b:Addr} {o:Obj} (e:h.get? b=some o) (n:H b=none):(hidT h H).get? b=some o :=
  PySem.W.hideAll_get _ e fun hm=>by
    have q:(H b).isSome=true:=(List.mem_filter.mp hm).2
    rw [n] at q;simp at q
theorem of_hidT {h:Heap} {H:Hp} {b:Addr} {o:Obj} (e:(hidT h H).get? b=some o):h.get? b=some o∧H b=none:=by
  have e' : h.get? b=some o:=PySem.W.of_hideAll (trk h H) e
  refine ⟨e',?_⟩
  cases q:H b with
  | none=>rfl
  | some x =>
    have hm:b ∈ trk h H:=List.mem_filter.mpr ⟨List.mem_range.mpr (Heap.lt_size e'),by simp [q]⟩
    have z:(hidT h H).get? b=none:=PySem.W.hideAll_none (trk h H) hm
    rw [z] at e;cases e
def allNews (g h:Heap) (L:Addr):List (Addr × Obj):=(List.range h.objs.size).filterMap fun a=>if a=L∨(g.get? a).isSome=true then none else (h.get? a).map fun o=>(a,o)
def rest (g h:Heap) (L d:Addr):List (Addr × Obj):=(allNews g h L).filter fun p=>decide (p.1 ≠ d)
end L2
namespace L2
open PySem PySem.Spec PyProof.Rows
structure Mod (K:PySem.W.Frag) (mg:Str→Option Value) (base:Heap):Prop where
  kin:K.In base
  glob:base.Ns mainGlobals mg
  blt:∃ mb,base.Ns builtinsNs mb∧∀ x:Str,x ≠ "__name__" → mb x=bootBuiltins x
  nolimit:base.NoLimit
structure Cx where
  prog:Program
  w:World
  K:PySem.W.Frag
  mg:Str→Option Value
  base:Heap
  A:Around
  N:List Str
  s₀:Shared
  H₀:Hp
  env:Env
  outer:List Env
  stack:List Env
  ex:List Addr
  fn:Str→Bool
  calm:Bool
  pn:List (Addr × Obj)
  xe:Value→Shared→Prop
def frs (l:List Env):List Addr:=l.filterMap (·.frame)
abbrev Cx.fs (X:Cx):List Addr:=frs X.outer
def Vis (sc:Scope) (x:Str):Prop:=sc.names.lookup x=some .local∨sc.names.lookup x=some .cell∨sc.names.lookup x=some .free
def Loc (sc:Scope) (x:Str):Prop:=sc.names.lookup x=some .local∨sc.names.lookup x=some .cell
def Look (env:Env) (h:Heap) (m:Str→Option Value) (x:Str) (u:Value):Prop :=
  (env.kindOf x=some .local∧m x=some u)∨((env.kindOf x=some .cell∨env.kindOf x=some .free)∧∃ c,env.cells.lookup x=some c∧h.IsCell c (some u))
structure Cx.Ok (X:Cx):Prop where
  mod:Mod X.K X.mg X.base
  kind:X.env.scope.kind=.function
  glob:X.env.globals=mainGlobals
  blt:X.env.builtins=builtinsNs
  above:X.s₀.heap.objs.size≤X.env.locals
  inj:∀ x y c,X.env.cells.lookup x=some c→X.env.cells.lookup y=some c→x=y
  has:∀ x,(X.env.kindOf x=some .cell∨X.env.kindOf x=some .free)→∃ c,X.env.cells.lookup x=some c
  cab:∀ x c,X.fn x=true→X.env.cells.lookup x=some c→X.s₀.heap.objs.size≤c
  hd:X.calm=true→X.A.handled=none
  frames:X.A.frames=some X.stack
  stk:X.stack=X.outer∨(X.stack=X.env :: X.outer∧X.env.frame=some X.env.locals)
  exf:∀ b ∈ X.ex,b ≠ X.env.locals∧∀ x c,X.env.cells.lookup x=some c→c ≠ b
  bs:∀ b o,X.base.get? b=some o→X.s₀.heap.get? b=some o∧X.H₀ b=none
  bsz:X.base.objs.size≤X.s₀.heap.objs.size
  noex:∀ b o,X.base.get? b=some o→b ∉ X.ex
  exfs:∀ b ∈ X.ex,b ∉ X.fs
  funs:X.s₀.heap.FunFrames X.base X.outer
  frf:∀ b ∈ X.fs,X.H₀ b=none
structure Inv (X:Cx) (pins:List (Addr × Obj)) (σ:List (Option V)) (H:Hp) (s:Shared):Prop where
  ok:X.Ok
  os:s.os=X.s₀.os
  bare:AllBare s.gens
  base:Un X.fs X.ex X.H₀ H X.s₀.heap s.heap
  loc:∃ m,s.heap.Ns X.env.locals m∧∀ (i:Nat) (x:Str) (v:V),X.N[i]?=some x→σ[i]?=some (some v)→Vis X.env.scope x→∃ u,RelV v u∧Look X.env s.heap m x u
  cell:∀ x c,X.env.cells.lookup x=some c→∃ v,s.heap.IsCell c v
  free:H X.env.locals=none
  freeC:∀ x c,X.env.cells.lookup x=some c→H c=none
  pin:∀ p ∈ X.pn ++ pins,s.heap.get? p.1=some p.2∧H p.1=none∧p.1 ≠ X.env.locals∧p.1 ∉ X.fs∧∀ v,p.2.data ≠ .cell v
  hok:HOk X.prog X.w H s.heap
  len:σ.length=X.N.length
section
variable {X:Cx} {pins:List (Addr × Obj)} {σ:List (Option V)} {H H' : Hp} {s:Shared} {h' : Heap}
theorem Cx.Ok.nofr (ok:X.Ok) {b:Addr} {o:Obj} (e:X.base.get? b=some o):b ∉ X.fs:=fun hb=>by
  have:=(ok.funs.mem hb).1
  rw [e] at this;cases this
theorem Inv.bs (I:Inv X pins σ H s):∀ b o,X.base.get? b=some o→s.heap.get? b=some o∧H b=none:=fun b o e =>
  ⟨I.base.keep b o (I.ok.bs b o e).1 (I.ok.bs b o e).2 (I.ok.nofr e) (I.ok.noex b o e),I.base.free b o (I.ok.bs b o e).1 (I.ok.bs b o e).2 (I.ok.noex b o e)⟩
theorem Inv.bk (I:Inv X pins σ H s):∀ b o,X.base.get? b=some o→s.heap.get? b=some o:=fun b o e=>(I.bs b o e).1
theorem Inv.mod (I:Inv X pins σ H s):Mod X.K X.mg X.base:=I.ok.mod
theorem Inv.kIn (I:Inv X pins σ H s):X.K.In s.heap:=I.ok.mod.kin.keeps I.bk
theorem Inv.lt (I:Inv X pins σ H s):X.env.locals < s.heap.objs.size:=by obtain ⟨_,hn,_⟩:=I.loc;exact hn.lt
theorem Inv.sz (I:Inv X pins σ H s):X.s₀.heap.objs.size≤s.heap.objs.size:=Nat.le_trans I.ok.above (Nat.le_of_lt I.lt)
theorem Inv.nofs (I:Inv X pins σ H s) {a:Addr} (h:s.heap.objs.size≤a):a ∉ X.fs:=fun hb=>by
  obtain ⟨_,o,ho,_⟩:=I.ok.funs.mem hb
  exact absurd (Nat.lt_of_lt_of_le (Heap.lt_size ho) (Nat.le_trans I.sz h)) (Nat.lt_irrefl _)
theorem Inv.cne (I:Inv X pins σ H s):∀ x c,X.env.cells.lookup x=some c→c ≠ X.env.locals:=fun x c e z=>by
  obtain ⟨v,o,ho,hd⟩:=I.cell x c e
  obtain ⟨m,⟨o',es,ep,ho',hd',_⟩,_⟩:=I.loc
  rw [z,ho'] at ho;cases ho;rw [hd'] at hd;cases hd
theorem Inv.funs (I:Inv X pins σ H s):s.heap.FunFrames X.base X.outer:=by
  have all:∀ (l:List Env),(∀ b ∈ frs l,b ∈ X.fs)→X.s₀.heap.FunFrames X.base l→s.heap.FunFrames X.base l:=by
    intro l
    induction l with
    | nil=>intro _ _;trivial
    | cons env r ih =>
      intro hs hl
      obtain ⟨hk,⟨L,o,hf,hn,ho,hd⟩,hr⟩:=hl
      have hL:L ∈ X.fs:=hs L (by unfold frs;rw [List.filterMap_cons,hf];exact List.mem_cons_self)
      obtain ⟨sl,e⟩:=I.base.slot L o ho (I.ok.frf L hL) hL fun z=>I.ok.exfs L z hL
      exact ⟨hk,⟨L,_,hf,hn,e,hd⟩,ih (fun b hb=>hs b (by unfold frs;rw [List.filterMap_cons,hf];exact List.mem_cons_of_mem _ hb)) hr⟩
  exact all X.outer (fun _ hb=>hb) I.ok.funs
theorem Inv.stack (I:Inv X pins σ H s):s.heap.FunFrames X.base X.stack:=by
  rcases I.ok.stk with e | ⟨e,hf⟩
  · rw [e];exact I.funs
  · rw [e]
    obtain ⟨m,hn,_⟩:=I.loc
    refine .cons (by rw [I.ok.kind];decide) hf hn ?_ I.funs
    exact Heap.get?_none_of_le (Nat.le_trans I.ok.bsz I.ok.above)
theorem Inv.stkSub (I:Inv X pins σ H s):∀ b ∈ frs X.stack,b ∈ X.env.locals :: X.fs:=fun b hb=>by
  rcases I.ok.stk with e | ⟨e,hf⟩
  · rw [e] at hb;exact List.mem_cons_of_mem _ hb
  · rw [e] at hb
    unfold frs at hb
    rw [List.filterMap_cons,hf] at hb
    exact hb
theorem Inv.stkFree (I:Inv X pins σ H s):∀ b ∈ frs X.stack,H b=none:=fun b hb=>by
  rcases List.mem_cons.mp (I.stkSub b hb) with e | hb
  · rw [e];exact I.free
  · obtain ⟨_,o,ho,_⟩:=I.ok.funs.mem hb
    exact I.base.free b o ho (I.ok.frf b hb) fun z=>I.ok.exfs b z hb
theorem Inv.step {g' : Array GenState} {t' : Nat} {d' : Drawn} {ch:List Addr} (I:Inv X pins σ H s)
    (hch:∀ b ∈ ch,(b ∈ X.ex∨X.s₀.heap.objs.size≤b)∧b ≠ X.env.locals∧(∀ x c,X.env.cells.lookup x=some c→c ≠ b)∧∀ p ∈ X.pn ++ pins,p.1 ≠ b)
    (keep:∀ b o,b ≠ X.env.locals→b ∉ X.fs→b ∉ ch→s.heap.get? b=some o→H b=none→h'.get? b=some o)
    (slot:∀ b o,b ≠ X.env.locals→b ∈ X.fs→b ∉ ch→s.heap.get? b=some o→H b=none→∃ sl,h'.get? b=some { o with slots:=sl }) (free:∀ b o,b ∉ ch→s.heap.get? b=some o→H b=none→H' b=none)
    (there:∀ b o,b ∉ ch→s.heap.get? b=some o→∃ o',h'.get? b=some o')
    (tups:∀ b xs,H b=some (.tup xs)→H' b=some (.tup xs)) (frzs:∀ b o u,H b=some (.frz o u)→H' b=some (.frz o u)) (tbls:∀ b ps,H b=some (.tbl ps)→∃ more,H' b=some (.tbl (ps ++ more)))
    (ns:∀ m,s.heap.Ns X.env.locals m→h'.Ns X.env.locals m) (hok:HOk X.prog X.w H' h') (hg:AllBare g') :
    Inv X pins σ H' { s with heap:=h',gens:=g',drawn:=d',toks:=t' }:=by
  have neL:∀ b o,X.s₀.heap.get? b=some o→b ≠ X.env.locals:=fun b o e=>Nat.ne_of_lt (Nat.lt_of_lt_of_le (Heap.lt_size e) I.ok.above)
  have neC:∀ b o,X.s₀.heap.get? b=some o→b ∉ X.ex→b ∉ ch:=fun b o e hx hb=>by
    rcases (hch b hb).1 with z | z
    · exact hx z
    · exact absurd (Nat.lt_of_lt_of_le (Heap.lt_size e) z) (Nat.lt_irrefl _)
  have cellK:∀ x c,X.env.cells.lookup x=some c→∀ v,s.heap.IsCell c v→h'.IsCell c v:=fun x c e v ⟨o,ho,hd⟩=>by
    have nch:c ∉ ch:=fun z=>(hch c z).2.2.1 x c e rfl
    by_cases hc:c ∈ X.fs
    · obtain ⟨sl,q⟩:=slot c o (I.cne x c e) hc nch ho (I.freeC x c e)
      exact ⟨_,q,hd⟩
    · exact ⟨o,keep c o (I.cne x c e) hc nch ho (I.freeC x c e),hd⟩
  refine ⟨I.ok,I.os,hg,⟨fun b o e n hb hx=>?_,fun b o e n hb hx=>?_,fun b o e n hx=>?_,fun b o e hx=>?_,fun b xs e=>tups b xs (I.base.tups b xs e),fun b o xs e=>frzs b o xs (I.base.frzs b o xs e),fun b ps e=>?_⟩,?_,fun x c e=>?_,?_,fun x c e=>?_,fun p hp=>?_,hok,I.len⟩
  · exact keep b o (neL b o e) hb (neC b o e hx) (I.base.keep b o e n hb hx) (I.base.free b o e n hx)
  · obtain ⟨sl,e1⟩:=I.base.slot b o e n hb hx
    obtain ⟨sl',e2⟩:=slot b _ (neL b o e) hb (neC b o e hx) e1 (I.base.free b o e n hx)
    exact ⟨sl',e2⟩
  · obtain ⟨o',e1⟩:=I.base.there b o e hx
    exact free b o' (neC b o e hx) e1 (I.base.free b o e n hx)
  · obtain ⟨o',e1⟩:=I.base.there b o e hx
    exact there b o' (neC b o e hx) e1
  · obtain ⟨m1,e1⟩:=I.base.tbls b ps e
    obtain ⟨m2,e2⟩:=tbls b _ e1
    exact ⟨m1 ++ m2,by rw [e2,Array.append_assoc]⟩
  · obtain ⟨m,hn,hl⟩:=I.loc
    refine ⟨m,ns m hn,fun i x v e1 e2 e3=>?_⟩
    obtain ⟨u,r,l⟩:=hl i x v e1 e2 e3
    refine ⟨u,r,?_⟩
    rcases l with l | ⟨k,c,e,z⟩
    · exact .inl l
    · exact .inr ⟨k,c,e,cellK x c e _ z⟩
  · obtain ⟨v,z⟩:=I.cell x c e
    exact ⟨v,cellK x c e v z⟩
  · obtain ⟨m,⟨o,_,_,ho,_⟩,_⟩:=I.loc
    exact free _ o (fun z=>(hch _ z).2.1 rfl) ho I.free
  · obtain ⟨v,o,ho,hd⟩:=I.cell x c e
    exact free c o (fun z=>(hch c z).2.2.1 x c e rfl) ho (I.freeC x c e)
  · obtain ⟨e,n,ne,nf,d⟩:=I.pin p hp
    have nch:p.1 ∉ ch:=fun z=>(hch p.1 z).2.2.2 p hp rfl
    exact ⟨keep p.1 p.2 ne nf nch e n,free p.1 p.2 nch e n,ne,nf,d⟩
theorem Inv.un {t' : Nat} (I:Inv X pins σ H s) (u:Un X.fs [] H H' s.heap h') (hok:HOk X.prog X.w H' h'):Inv X pins σ H' { s with heap:=h',toks:=t' }:=by
  obtain ⟨m,⟨o,es,ep,ho,r⟩,_⟩:=id I.loc
  obtain ⟨sl,hL⟩:=u.any ho I.free (by simp)
  exact I.step (g':=s.gens) (d':=s.drawn) (ch:=[]) (fun _ z=>nomatch z) (fun b o _ hb _ e n=>u.keep b o e n hb (by simp)) (fun b o _ hb _ e n=>u.slot b o e n hb (by simp)) (fun b o _ e n=>u.free b o e n (by simp)) (fun b o _ e=>u.there b o e (by simp)) u.tups u.frzs u.tbls (fun m' hm=>by
    obtain ⟨o',es',ep',ho',r'⟩:=hm
    rw [ho] at ho';cases ho'
    exact ⟨_,es',ep',hL,r'⟩) hok I.bare
theorem Inv.call {g' : Array GenState} {t' : Nat} {d' : Drawn} {ch:List Addr} (I:Inv X pins σ H s) (u:Un (frs X.stack) ch H H' s.heap h') (hok:HOk X.prog X.w H' h') (hg:AllBare g')
    (hch:∀ b ∈ ch,(b ∈ X.ex∨X.s₀.heap.objs.size≤b)∧b ≠ X.env.locals∧(∀ x c,X.env.cells.lookup x=some c→c ≠ b)∧∀ p ∈ X.pn ++ pins,p.1 ≠ b) :
    Inv X pins σ H' { s with heap:=h',gens:=g',drawn:=d',toks:=t' }:=by
  obtain ⟨m,⟨o,es,ep,ho,r⟩,_⟩:=id I.loc
  obtain ⟨sl,hL⟩:=u.any ho I.free fun z=>(hch _ z).2.1 rfl
  exact I.step (ch:=ch) hch (fun b o hL hb hc e n=>u.keep b o e n (fun z=>(List.mem_cons.mp (I.stkSub b z)).elim hL hb) hc) (fun b o _ _ hc e n=>u.any e n hc) (fun b o hc e n=>u.free b o e n hc) (fun b o hc e=>u.there b o e hc) u.tups u.frzs u.tbls (fun m' hm=>by
    obtain ⟨o',es',ep',ho',r'⟩:=hm
    rw [ho] at ho';cases ho'
    exact ⟨_,es',ep',hL,r'⟩) hok hg
theorem Inv.turned {t' : Nat} {it:Addr} (I:Inv X pins σ H s) (k:∀ b o,b ≠ it→s.heap.get? b=some o→h'.get? b=some o) (hn:H it=none) (hL:it ≠ X.env.locals)
    (h1:it ∈ X.ex∨X.s₀.heap.objs.size≤it) (h2:∀ x c,X.env.cells.lookup x=some c→c ≠ it) (h3:∀ p ∈ X.pn ++ pins,p.1 ≠ it):Inv X pins σ H { s with heap:=h',toks:=t' }:=by
  have nit:∀ b u,H b=some u→b ≠ it:=fun b u e z=>by rw [z,hn] at e;cases e
  refine I.step (g':=s.gens) (d':=s.drawn) (ch:=[it]) (fun b hb=>?_) (fun b o _ _ hc e _=>k b o (fun z=>hc (by simp [z])) e) (fun b o _ _ hc e _=>⟨o.slots,k b o (fun z=>hc (by simp [z])) e⟩) (fun _ _ _ _ n=>n)
    (fun b o hc e=>⟨o,k b o (fun z=>hc (by simp [z])) e⟩) (fun _ _ e=>e) (fun _ _ _ e=>e) (fun b ps e=>⟨#[],by rw [e];simp⟩) (fun m hm=>?_) (fun b u e=>?_) I.bare
  · have e:b=it:=by simpa using hb
    subst e
    exact ⟨h1,hL,h2,h3⟩
  · obtain ⟨o,es,ep,ho,r⟩:=hm
    exact ⟨o,es,ep,k _ o (Ne.symm hL) ho,r⟩
  · refine (I.hok b u e).stay (fun c v hc q=>k c v ?_ q) (fun _ q=>q) fun _ _ q=>q
    rcases hc with z | z
    · rw [z];exact nit b u e
    · exact nit c _ z
theorem Inv.tok (I:Inv X pins σ H s) (t:Nat):Inv X pins σ H { s with toks:=t }:=I.un (h':=s.heap) (t':=t) Un.refl I.hok
theorem Inv.kept {t' : Nat} (I:Inv X pins σ H s) (k:∀ b u,s.heap.get? b=some u→h'.get? b=some u):Inv X pins σ H { s with heap:=h',toks:=t' }:=I.un (Un.kept k) (I.hok.kept k)
theorem Inv.laid {a:Addr} {o:HO} {t' : Nat} (I:Inv X pins σ H s) (k:∀ b u,s.heap.get? b=some u→h'.get? b=some u) (hp:s.heap.objs.size≤a) (new:ObjOk X.prog X.w (upd H a o) h' a o) :
    Inv X pins σ (upd H a o) { s with heap:=h',toks:=t' }:=I.un (Un.laid k hp (I.hok.fresh hp)) (I.hok.laid k hp new)
theorem Inv.write {x e:Addr} {o:HO} {t' : Nat} (I:Inv X pins σ H s) (mu:Mut (H x)) (he:e=x∨H e=some (.own x)) (k:∀ b u,b ≠ e→s.heap.get? b=some u→h'.get? b=some u) (heo:∃ u,h'.get? e=some u)
    (new:ObjOk X.prog X.w (upd H x o) h' x o):Inv X pins σ (upd H x o) { s with heap:=h',toks:=t' }:=I.un (Un.write mu he k heo) (I.hok.write mu he k heo new)
theorem Inv.pins_of {pins' : List (Addr × Obj)} (I:Inv X pins σ H s) (h:∀ p ∈ pins',s.heap.get? p.1=some p.2∧H p.1=none∧p.1 ≠ X.env.locals∧p.1 ∉ X.fs∧∀ v,p.2.data ≠ .cell v):Inv X pins' σ H s :=
  ⟨I.ok,I.os,I.bare,I.base,I.loc,I.cell,I.free,I.freeC,fun p hp=>(List.mem_append.mp hp).elim (fun z=>I.pin p (List.mem_append_left _ z)) (h p),I.hok,I.len⟩
theorem nodup_ix {N:List Str} (hN:N.Nodup) {i j:Nat} {x:Str} (a:N[i]?=some x) (b:N[j]?=some x):i=j:=by
  obtain ⟨h1,e1⟩:=List.getElem?_eq_some_iff.mp a
  obtain ⟨h2,e2⟩:=List.getElem?_eq_some_iff.mp b
  exact (List.getElem_inj hN).mp (e1.trans e2.symm)
theorem store_ok2 {M:Model} {A:Around} {E:Value→Shared→Prop} {i:Nat} {x:Str} {v:V} {u:Value} {Q:Unit→Shared→Prop} (I:Inv X pins σ H s) (hN:X.N.Nodup) (hi:X.N[i]?=some x) (hx:Loc X.env.scope x) (r:RelV v u)
    (h:∀ s',Inv X pins (σ.set i (some v)) H s'→(∃ a,Heap.SameBut a s.heap s'.heap∧(a=X.env.locals∨X.env.cells.lookup x=some a))→Q () s') (hf:X.fn x=true∨X.env.scope.names.lookup x=some .local:=by first | exact .inl rfl | exact .inr rfl | assumption):wpAny M A (storeName X.env x u) Q E s:=by
  obtain ⟨m,hn,hl⟩:=id I.loc
  have hcls:(X.env.scope.kind == .class || (X.env.scope.kind == .module && X.env.locals != X.env.globals))=false:=by rw [I.ok.kind];rfl
  have hiσ:i < σ.length:=by rw [I.len];exact (List.getElem?_eq_some_iff.mp hi).1
  have cne:=I.cne
  have tracked:∀ {a:Addr} {h' : Heap},(∃ o,s.heap.get? a=some o∧H a=none)→Heap.SameBut a s.heap h'→HOk X.prog X.w H h':=fun {a h'} ha hs b ob e=>by
    obtain ⟨_,_,hfree⟩:=ha
    refine (I.hok b ob e).stay (fun c w' hc q=>(hs.2 c ?_).trans q) (fun _ q=>q) fun _ _ q=>q
    rintro rfl
    rcases hc with rfl | hc
    · rw [hfree] at e;cases e
    · rw [hfree] at hc;cases hc
  rcases hx with hk | hk
  · refine wpAny_storeName_local hk hn (fun h' hn' hs=>?_) hcls
    obtain ⟨oL,_,_,hoL,_⟩:=id hn
    refine h _ ⟨I.ok,I.os,I.bare,⟨fun b o e n hb hx=>?_,fun b o e n hb hx=>?_,I.base.free,fun b o e hx=>?_,I.base.tups,I.base.frzs,I.base.tbls⟩,⟨_,hn',fun j y v' e1 e2 e3=>?_⟩,fun y c e=>?_,I.free,I.freeC,fun p hp=>?_,tracked ⟨oL,hoL,I.free⟩ hs,by simpa using I.len⟩ ⟨_,hs,.inl rfl⟩
    · exact (hs.2 b (Nat.ne_of_lt (Nat.lt_of_lt_of_le (Heap.lt_size e) I.ok.above))).trans (I.base.keep b o e n hb hx)
    · obtain ⟨sl,e1⟩:=I.base.slot b o e n hb hx
      exact ⟨sl,(hs.2 b (Nat.ne_of_lt (Nat.lt_of_lt_of_le (Heap.lt_size e) I.ok.above))).trans e1⟩
    · obtain ⟨o',e1⟩:=I.base.there b o e hx
      exact ⟨o',(hs.2 b (Nat.ne_of_lt (Nat.lt_of_lt_of_le (Heap.lt_size e) I.ok.above))).trans e1⟩
    · by_cases hj:j=i
      · subst hj
        rw [hi] at e1;cases e1
        rw [List.getElem?_set_self hiσ] at e2
        cases e2
        exact ⟨u,r,.inl ⟨hk,by simp⟩⟩
      · rw [List.getElem?_set_ne (Ne.symm hj)] at e2
        obtain ⟨u',r',q⟩:=hl j y v' e1 e2 e3
        refine ⟨u',r',?_⟩
        rcases q with ⟨k,e⟩ | ⟨k,c,e,z⟩
        · refine .inl ⟨k,?_⟩
          have:y ≠ x:=fun e=>hj (nodup_ix hN e1 (e ▸ hi))
          simp [this,e]
        · exact .inr ⟨k,c,e,z.sameBut hs (cne y c e)⟩
    · obtain ⟨w',z⟩:=I.cell y c e
      exact ⟨w',z.sameBut hs (cne y c e)⟩
    · obtain ⟨e,n,ne,nf,d⟩:=I.pin p hp
      exact ⟨(hs.2 p.1 ne).trans e,n,ne,nf,d⟩
  · have hfn:X.fn x=true:=by
      rcases hf with z | z
      · exact z
      · rw [z] at hk;cases hk
    obtain ⟨c,hc⟩:=I.ok.has x (.inl hk)
    obtain ⟨w',z⟩:=I.cell x c hc
    refine wpAny_storeName_cell I.ok.kind hk hc z (fun h' hc' hs=>?_)
    obtain ⟨oc,hoc,hocd⟩:=id z
    refine h { s with heap:=h' } ⟨I.ok,I.os,I.bare,⟨fun b o e n hb hx=>?_,fun b o e n hb hx=>?_,I.base.free,fun b o e hx=>?_,I.base.tups,I.base.frzs,I.base.tbls⟩,⟨m,hn.sameBut hs (Ne.symm (cne x c hc)),fun j y v' e1 e2 e3=>?_⟩,fun y c' e=>?_,I.free,I.freeC,fun p hp=>?_,tracked ⟨oc,hoc,I.freeC x c hc⟩ hs,by simpa using I.len⟩ ⟨c,hs,.inr hc⟩
    · exact (hs.2 b (Nat.ne_of_lt (Nat.lt_of_lt_of_le (Heap.lt_size e) (I.ok.cab x c hfn hc)))).trans (I.base.keep b o e n hb hx)
    · obtain ⟨sl,e1⟩:=I.base.slot b o e n hb hx
      exact ⟨sl,(hs.2 b (Nat.ne_of_lt (Nat.lt_of_lt_of_le (Heap.lt_size e) (I.ok.cab x c hfn hc)))).trans e1⟩
    · obtain ⟨o',e1⟩:=I.base.there b o e hx
      exact ⟨o',(hs.2 b (Nat.ne_of_lt (Nat.lt_of_lt_of_le (Heap.lt_size e) (I.ok.cab x c hfn hc)))).trans e1⟩
    · by_cases hj:j=i
      · subst hj
        rw [hi] at e1;cases e1
        rw [List.getElem?_set_self hiσ] at e2
        cases e2
        exact ⟨u,r,.inr ⟨.inl hk,c,hc,hc'⟩⟩
      · rw [List.getElem?_set_ne (Ne.symm hj)] at e2
        obtain ⟨u',r',q⟩:=hl j y v' e1 e2 e3
        refine ⟨u',r',?_⟩
        rcases q with q | ⟨k,c',e,z'⟩
        · exact .inl q
        · refine .inr ⟨k,c',e,z'.sameBut hs ?_⟩
          rintro rfl
          exact hj (nodup_ix hN e1 (I.ok.inj _ _ _ e hc ▸ hi))
    · by_cases hcc:c'=c
      · subst hcc;exact ⟨_,hc'⟩
      · obtain ⟨w2,z2⟩:=I.cell y c' e
        exact ⟨w2,z2.sameBut hs hcc⟩
    · obtain ⟨e,n,ne,nf,d⟩:=I.pin p hp
      refine ⟨(hs.2 p.1 ?_).trans e,n,ne,nf,d⟩
      intro q
      rw [q,hoc] at e
      have q' : oc=p.2:=Option.some.inj e
      exact d w' (by rw [← q'];exact hocd)
theorem store_ok {M:Model} {A:Around} {E:Value→Shared→Prop} {i:Nat} {x:Str} {v:V} {u:Value} {Q:Unit→Shared→Prop} (I:Inv X pins σ H s) (hN:X.N.Nodup) (hi:X.N[i]?=some x) (hx:Loc X.env.scope x) (r:RelV v u)
    (h:∀ s',Inv X pins (σ.set i (some v)) H s'→Q () s') (hf:X.fn x=true∨X.env.scope.names.lookup x=some .local:=by first | exact .inl rfl | exact .inr rfl | assumption):wpAny M A (storeName X.env x u) Q E s :=
  store_ok2 I hN hi hx r (fun s' I' _=>h s' I') hf
theorem Inv.call' {s' : Shared} {ch:List Addr} (I:Inv X pins σ H s) (ho:s'.os=s.os) (u:Un (frs X.stack) ch H H' s.heap s'.heap) (hok:HOk X.prog X.w H' s'.heap) (hg:AllBare s'.gens)
    (hch:∀ b ∈ ch,(b ∈ X.ex∨X.s₀.heap.objs.size≤b)∧b ≠ X.env.locals∧(∀ x c,X.env.cells.lookup x=some c→c ≠ b)∧∀ p ∈ X.pn ++ pins,p.1 ≠ b):Inv X pins σ H' s':=by
  obtain ⟨h',g',d',t',o'⟩:=s'
  have e:o'=s.os:=ho
  subst e
  exact I.call (g':=g') (t':=t') (d':=d') u hok hg hch
end
abbrev XK:=Value→Option Addr→Hp→Prop
abbrev St:=List (Option V)
abbrev VK:=V→Hp→Prop
abbrev TE:=St→Hp→VK→Prop
abbrev TT:=St→Hp→(Bool→Hp→Prop)→Prop
abbrev TA:=St→Hp→(List V→Hp→Prop)→Prop
structure Ends where
  nx:St→Hp→Prop
  rt:VK
  bk:St→Hp→Prop:=fun _ _=>False
  ct:St→Hp→Prop:=fun _ _=>False
abbrev TS:=Ends→St→Hp→Prop
def EP (X:Cx) (pins:List (Addr × Obj)) (σ:St) (Q:VK) (u:Value) (s' : Shared):Prop:=∃ v H',Inv X pins σ H' s'∧RelV v u∧Q v H'
def TP (X:Cx) (pins:List (Addr × Obj)) (σ:St) (Q:Bool→Hp→Prop) (b:Bool) (s' : Shared):Prop:=∃ H',Inv X pins σ H' s'∧Q b H'
def AP (X:Cx) (pins:List (Addr × Obj)) (σ:St) (Q:List V→Hp→Prop) (us:List Value) (s' : Shared):Prop:=∃ vs H',Inv X pins σ H' s'∧Vals vs us∧Q vs H'
def SP (X:Cx) (pins:List (Addr × Obj)) (D:Ends) (f:Flow) (s' : Shared):Prop :=
  match f with
  | .next=>∃ σ' H',Inv X pins σ' H' s'∧D.nx σ' H'
  | .brk=>∃ σ' H',Inv X pins σ' H' s'∧D.bk σ' H'
  | .cont=>∃ σ' H',Inv X pins σ' H' s'∧D.ct σ' H'
  | .ret u=>∃ v σ' H',Inv X pins σ' H' s'∧RelV v u∧D.rt v H'
def PE (X:Cx) (e:Expr) (t:TE):Prop :=
  ∀ (pins:List (Addr × Obj)) (s:Shared) (σ:St) (H:Hp) (Q:VK),Inv X pins σ H s→t σ H Q→wpAny (model X.prog X.w) X.A (eval e X.env) (EP X pins σ Q) X.xe s
def PT (X:Cx) (e:Expr) (t:TT):Prop :=
  ∀ (pins:List (Addr × Obj)) (s:Shared) (σ:St) (H:Hp) (Q:Bool→Hp→Prop),Inv X pins σ H s→t σ H Q→wpAny (model X.prog X.w) X.A (isTrue e X.env (eval e X.env)) (TP X pins σ Q) X.xe s
def PW (X:Cx) (e:Expr) (t:TT):Prop :=
  ∀ (whole:Sem Value) (pins:List (Addr × Obj)) (s:Shared) (σ:St) (H:Hp) (Q:Bool→Hp→Prop),Inv X pins σ H s→t σ H Q→wpAny (model X.prog X.w) X.A (isTrue e X.env whole) (TP X pins σ Q) X.xe s
theorem PW.pt {X:Cx} {e:Expr} {t:TT} (h:PW X e t):PT X e t:=h _
def PA (X:Cx) (es:List Expr) (t:TA):Prop :=
  ∀ (pos:Pos) (pins:List (Addr × Obj)) (s:Shared) (σ:St) (H:Hp) (Q:List V→Hp→Prop),Inv X pins σ H s→t σ H Q→wpAny (model X.prog X.w) X.A (spliced (backTo pos (starEach es X.env))) (AP X pins σ Q) X.xe s
def PS (X:Cx) (st:Stmt) (t:TS):Prop :=
  ∀ (pins:List (Addr × Obj)) (s:Shared) (σ:St) (H:Hp) (D:Ends),Inv X pins σ H s→t D σ H→wpAny (model X.prog X.w) X.A (exec st X.env) (SP X pins D) X.xe s
def PSs (X:Cx) (st:List Stmt) (t:TS):Prop :=
  ∀ (pins:List (Addr × Obj)) (s:Shared) (σ:St) (H:Hp) (D:Ends),Inv X pins σ H s→t D σ H→wpAny (model X.prog X.w) X.A (execs st X.env) (SP X pins D) X.xe s
theorem thn {α:Type} {t:Sem α} {Q Q' : α→Shared→Prop} {M:Model} {A:Around} {E:Value→Shared→Prop} {s:Shared} (h:wpAny M A t Q E s) (hQ:∀ a s,Q a s→Q' a s):wpAny M A t Q' E s:=wpAny_mono h hQ fun _ _ x=>x
end L2
namespace L2
open PySem PySem.Spec PyProof.Rows
section
variable {X:Cx}
inductive tVar (i:Nat) (σ:St) (H:Hp) (Q:VK):Prop
  | mk (v:_) (_:σ[i]?=some (some v)) (_:Q v H):tVar i σ H Q
def tC (v:V):TE:=fun _ H Q=>Q v H
theorem pe_var {i:Nat} {x:Str} {pos:Pos} (hN:X.N[i]?=some x) (hv:Vis X.env.scope x) (hd:(x == ("__debug__" : Str))=false:=by decide) (hcd:(x == ("__classdict__" : Str))=false:=by decide):PE X (.Name x pos) (tVar i):=by
  intro pins s σ H Q I h
  obtain ⟨v,e,h⟩:=h
  obtain ⟨m,hn,hl⟩:=I.loc
  obtain ⟨u,r,l⟩:=hl i x v hN e hv
  have fin:EP X pins σ Q u s:=⟨v,H,I,r,h⟩
  rcases l with ⟨hk,hm⟩ | ⟨hk,c,hc,hcell⟩
  · exact wpAny_Name (wpAny_loadName_local I.ok.kind hk hn hm fin) hd
  · rcases hk with hk | hk
    · exact wpAny_Name (wpAny_loadName_cell I.ok.kind hk hc hcell fin) hd
    · exact wpAny_Name (wpAny_loadName_free I.ok.kind hk hc hcell fin hcd) hd
theorem pe_int {i j pos} : PE X (.Constant (.int i) j pos) (tC (.int i)):=fun _ _ _ H _ I h=>wpAny_Constant_int ⟨.int i,H,I.tok _,⟨_,rfl⟩,h⟩
theorem pe_bl {b j pos} : PE X (.Constant (.bool b) j pos) (tC (.bl b)):=fun _ _ _ H _ I h=>Constant_bool ⟨.bl b,H,I,rfl,h⟩
theorem pe_non {j pos} : PE X (.Constant .none j pos) (tC .non):=fun _ _ _ H _ I h=>Constant_none ⟨.non,H,I,rfl,h⟩
theorem pe_str {x j pos} : PE X (.Constant (.str x) j pos) (tC (.str x)):=fun _ _ _ H _ I h=>Calls.Constant_str ⟨.str x,H,I.tok _,⟨_,rfl⟩,h⟩
def Gl (X:Cx) (x:Str):Prop:=X.env.kindOf x=some .globalImplicit
theorem ld_glob {E:Value→Shared→Prop} {pins:List (Addr × Obj)} {s:Shared} {σ:St} {H:Hp} {x:Str} {u:Value} {pos:Pos} {Q:Value→Shared→Prop} (I:Inv X pins σ H s) (hg:Gl X x) (hm:X.mg x=some u) (h:Q u s)
    (hd:(x == ("__debug__" : Str))=false:=by decide):wpAny (model X.prog X.w) X.A (eval (.Name x pos) X.env) Q E s :=
  Calls.Name_function_global I.ok.kind hg (Calls.loadGlobal_global (by rw [I.ok.glob];exact I.mod.glob.keeps I.bk) hm h) hd
theorem ld_blt {E:Value→Shared→Prop} {pins:List (Addr × Obj)} {s:Shared} {σ:St} {H:Hp} {x:Str} {u:Value} {pos:Pos} {Q:Value→Shared→Prop} (I:Inv X pins σ H s) (hg:Gl X x) (hm:X.mg x=none) (hv:bootBuiltins x=some u) (h:Q u s)
    (hn:x ≠ "__name__" := by decide) (hd:(x == ("__debug__" : Str))=false:=by decide):wpAny (model X.prog X.w) X.A (eval (.Name x pos) X.env) Q E s:=by
  obtain ⟨mb,h1,h2⟩:=I.mod.blt
  exact Calls.Name_function_global I.ok.kind hg (Calls.loadGlobal_builtin (by rw [I.ok.glob];exact I.mod.glob.keeps I.bk) hm (by rw [I.ok.blt];exact h1.keeps I.bk) ((h2 x hn).trans hv) h) hd
theorem pe_glob {x:Str} {v:V} {u:Value} {pos:Pos} (hg:Gl X x) (hm:X.mg x=some u) (r:RelV v u) (hd:(x == ("__debug__" : Str))=false:=by decide):PE X (.Name x pos) (tC v) :=
  fun _ _ _ H _ I h=>ld_glob I hg hm ⟨v,H,I,r,h⟩ hd
theorem pe_bltn {x:Str} {v:V} {u:Value} {pos:Pos} (hg:Gl X x) (hm:X.mg x=none) (hv:bootBuiltins x=some u) (r:RelV v u) (hn:x ≠ "__name__" := by decide) (hd:(x == ("__debug__" : Str))=false:=by decide):PE X (.Name x pos) (tC v) :=
  fun _ _ _ H _ I h=>ld_blt I hg hm hv ⟨v,H,I,r,h⟩ hn hd
variable {a b:Expr} {ta tb:TE} {pos:Pos}
inductive tBq  (Q:Bool→Hp→Prop) (x:V) (H1:Hp):Prop
  | mk (c:_) (_:x=.bl c) (_:Q c H1):tBq Q x H1
def tB (t:TE):TT:=fun σ H Q=>t σ H fun x H1=>tBq Q x H1
theorem pt_val {e:Expr} {t:TE} (h:PE X e t) (he:∀ whole,isTrue e X.env whole=(do let v ← whole;standAt e.pos;holding [v] (truthy v)):=by intro _;rfl):PT X e (tB t):=by
  intro pins s σ H Q I hw
  refine isTrue_plain (thn (h pins s σ H _ I hw) fun v s1 ⟨x,H1,I1,r1,q1⟩=>?_) (he _)
  obtain ⟨d,rfl,q⟩:=q1
  cases r1
  exact wpAny_truthy_bool ⟨H1,I1,q⟩
variable {tA tB' : TT} {rest:List Expr}
def tAnd (t u:TT):TT:=fun σ H Q=>t σ H fun c H1=>if c=true then u σ H1 Q else Q false H1
def tOr (t u:TT):TT:=fun σ H Q=>t σ H fun c H1=>if c=true then Q true H1 else u σ H1 Q
def tNot (t:TT):TT:=fun σ H Q=>t σ H fun c H1=>Q (!c) H1
theorem pw_and1 (ha:PT X a tA):PW X (.BoolOp .And [a] pos) tA:=by
  intro wh pins s σ H Q I h
  refine isTrue_and (thn (ha pins s σ H Q I h) fun c s1 e=>?_)
  cases c with
  | true=>exact isTrue_and_nil e
  | false=>exact e
theorem pw_or1 (ha:PT X a tA):PW X (.BoolOp .Or [a] pos) tA:=by
  intro wh pins s σ H Q I h
  refine isTrue_or (thn (ha pins s σ H Q I h) fun c s1 e=>?_)
  cases c with
  | false=>exact isTrue_or_nil e
  | true=>exact e
theorem pw_and (ha:PT X a tA) (hb:PW X (.BoolOp .And (b :: rest) pos) tB'):PW X (.BoolOp .And (a :: b :: rest) pos) (tAnd tA tB'):=by
  intro wh pins s σ H Q I h
  refine isTrue_and (thn (ha pins s σ H _ I h) fun c s1 ⟨H1,I1,q1⟩=>?_)
  cases c with
  | true=>exact hb wh pins s1 σ H1 Q I1 q1
  | false=>exact ⟨H1,I1,q1⟩
theorem pw_or (ha:PT X a tA) (hb:PW X (.BoolOp .Or (b :: rest) pos) tB'):PW X (.BoolOp .Or (a :: b :: rest) pos) (tOr tA tB'):=by
  intro wh pins s σ H Q I h
  refine isTrue_or (thn (ha pins s σ H _ I h) fun c s1 ⟨H1,I1,q1⟩=>?_)
  cases c with
  | true=>exact ⟨H1,I1,q1⟩
  | false=>exact hb wh pins s1 σ H1 Q I1 q1
theorem pt_not (ha:PT X a tA):PT X (.UnaryOp .Not a pos) (tNot tA):=by
  intro pins s σ H Q I h
  exact isTrue_not (ha pins s σ H (fun c H1=>Q (!c) H1) I h)
inductive tAndVq (tb:TE) (σ:St) (Q:VK) (x:V) (H1:Hp):Prop
  | mk (c:_) (_:x=.bl c) (_:if c=true then tb σ H1 Q else Q (.bl false) H1):tAndVq tb σ Q x H1
def tAndV (ta tb:TE):TE:=fun σ H Q=>ta σ H fun x H1=>tAndVq tb σ Q x H1
inductive tNotVq  (Q:VK) (x:V) (H1:Hp):Prop
  | mk (c:_) (_:x=.bl c) (_:Q (.bl (!c)) H1):tNotVq Q x H1
def tNotV (ta:TE):TE:=fun σ H Q=>ta σ H fun x H1=>tNotVq Q x H1
theorem pe_one {op} {t:TE} (h:PE X a t):PE X (.BoolOp op [a] pos) t:=fun pins s σ H Q I hw=>BoolOp_one (h pins s σ H Q I hw)
theorem pe_and (ha:PE X a ta) (hb:PE X (.BoolOp .And (b :: rest) pos) tb):PE X (.BoolOp .And (a :: b :: rest) pos) (tAndV ta tb):=by
  intro pins s σ H Q I h
  refine BoolOp_and (thn (ha pins s σ H _ I h) fun v s1 ⟨x,H1,I1,r1,q1⟩=>?_)
  obtain ⟨c,rfl,q1⟩:=q1
  cases r1
  refine wpAny_truthy_bool ?_
  cases c with
  | true=>exact hb pins s1 σ H1 Q I1 q1
  | false=>exact ⟨.bl false,H1,I1,rfl,q1⟩
theorem pe_not (ha:PE X a ta):PE X (.UnaryOp .Not a pos) (tNotV ta):=by
  intro pins s σ H Q I h
  refine UnaryOp_ (thn (ha pins s σ H _ I h) fun v s1 ⟨x,H1,I1,r1,q1⟩=>?_)
  obtain ⟨c,rfl,q1⟩:=q1
  cases r1
  exact not_of (wpAny_truthy_bool ⟨.bl (!c),H1,I1,rfl,q1⟩)
def tIf (t:TT) (ta tb:TE):TE:=fun σ H Q=>t σ H fun c H1=>if c=true then ta σ H1 Q else tb σ H1 Q
theorem pe_ifExp {c:Expr} (hc:PT X c tA) (ha:PE X a ta) (hb:PE X b tb):PE X (.IfExp c a b pos) (tIf tA ta tb):=by
  intro pins s σ H Q I h
  refine wpAny_IfExp (thn (hc pins s σ H _ I h) fun d s1 ⟨H1,I1,q1⟩=>?_)
  cases d with
  | true=>exact ha pins s1 σ H1 Q I1 q1
  | false=>exact hb pins s1 σ H1 Q I1 q1
end
end L2
namespace L2
open PySem PySem.Spec PyProof.Rows
def SqL (K:PySem.W.Frag) (H:Hp) (a:Addr) (xs:List V):Prop :=
  Rd H a (.lst xs) ∨
    ∃ (o:Obj) (its:Array Value) (n:Nat),K.lookup a=some o∧o.cls=.type "list" ∧ o.dict=none∧o.data=.seq its n∧its.size≤sizeLine∧Vals xs its.toList
def SqT (K:PySem.W.Frag) (H:Hp) (a:Addr) (xs:List V):Prop :=
  Rd H a (.tup xs) ∨
    ∃ (o:Obj) (its:Array Value) (n:Nat),K.lookup a=some o∧o.cls=.type "tuple" ∧ o.data=.seq its n∧its.size≤sizeLine∧Vals xs its.toList
def absV:Value→Option V
  | .none=>some .non
  | .bool b=>some (.bl b)
  | .int i _=>some (.int i)
  | .str x _=>some (.str x)
  | .bytes b _=>some (.byt b)
  | .float b _=>some (.flt b)
  | .ref a=>some (.ref a)
  | .type n=>some (.ty n)
  | _=>none
theorem RelV.abs {x:V} {u:Value} (r:RelV x u):absV u=some x:=by
  cases x with
  | non=>cases r;rfl
  | bl _=>cases r;rfl
  | int _=>obtain ⟨t,rfl⟩:=r;rfl
  | str _=>obtain ⟨t,rfl⟩:=r;rfl
  | byt _=>obtain ⟨t,rfl⟩:=r;rfl
  | flt _=>obtain ⟨t,rfl⟩:=r;rfl
  | ref _=>cases r;rfl
  | ty _=>cases r;rfl
theorem RelV.inj {x y:V} {u:Value} (r:RelV x u) (q:RelV y u):x=y:=Option.some.inj (r.abs.symm.trans q.abs)
theorem Vals.inj:∀ {xs ys:List V} {us:List Value},Vals xs us→Vals ys us→xs=ys
  | _,_,_,.nil,.nil=>rfl
  | _,_,_,.cons r t,.cons r' t'=>by rw [r.inj r',Vals.inj t t']
section
variable {X:Cx} {pins:List (Addr × Obj)} {σ:St} {H:Hp} {s:Shared} {a:Addr} {xs ys:List V}
theorem SqL.of {K:PySem.W.Frag} (h:H a=some (.lst xs)):SqL K H a xs:=.inl (.inl h)
theorem SqT.of {K:PySem.W.Frag} (h:H a=some (.tup xs)):SqT K H a xs:=.inl (.inl h)
theorem Inv.list (I:Inv X pins σ H s) (h:SqL X.K H a xs):∃ its:List Value,Vals xs its∧PlainL s.heap a its.toArray∧xs.length≤sizeLine:=by
  rcases h with h | ⟨o,its,n,hk,hc,hd,hs,hz,r⟩
  · obtain ⟨z,its,n,r,e⟩:=h.ok I.hok
    exact ⟨its,r,⟨_,n,e,rfl,rfl,rfl⟩,z⟩
  · refine ⟨its.toList,r,⟨o,n,I.kIn a o hk,hc,hd,by simpa using hs⟩,?_⟩
    have e:=r.length
    simp only [Array.length_toList] at e
    omega
theorem Inv.tuple (I:Inv X pins σ H s) (h:SqT X.K H a xs):∃ its:List Value,Vals xs its∧IsTup s.heap a its.toArray∧xs.length≤sizeLine:=by
  rcases h with h | ⟨o,its,n,hk,hc,hs,hz,r⟩
  · obtain ⟨z,its,r,p⟩:=h.ok I.hok
    exact ⟨its,r,p,z⟩
  · refine ⟨its.toList,r,⟨o,I.kIn a o hk,hc,n,by simpa using hs⟩,?_⟩
    have e:=r.length
    simp only [Array.length_toList] at e
    omega
theorem Inv.list_inj (I:Inv X pins σ H s) (h:SqL X.K H a xs) (h' : SqL X.K H a ys):xs=ys:=by
  obtain ⟨its,r,⟨o,n,e,_,_,d⟩,_⟩:=I.list h
  obtain ⟨its',r',⟨o',n',e',_,_,d'⟩,_⟩:=I.list h'
  rw [e] at e';cases e'
  rw [d] at d'
  injection d' with d1 _
  have:its=its':=by simpa using congrArg Array.toList d1
  subst this
  exact r.inj r'
theorem Inv.tuple_inj (I:Inv X pins σ H s) (h:SqT X.K H a xs) (h' : SqT X.K H a ys):xs=ys:=by
  obtain ⟨its,r,⟨o,e,_,n,d⟩,_⟩:=I.tuple h
  obtain ⟨its',r',⟨o',e',_,n',d'⟩,_⟩:=I.tuple h'
  rw [e] at e';cases e'
  rw [d] at d'
  injection d' with d1 _
  have:its=its':=by simpa using congrArg Array.toList d1
  subst this
  exact r.inj r'
end
abbrev Cx.wish (X:Cx) (E:Value→Shared→Prop):Cx:={ X with xe:=E }
abbrev Cx.nox (X:Cx):Cx:=X.wish fun _ _=>False
theorem Cx.Ok.wish {X:Cx} (ok:X.Ok) (E:Value→Shared→Prop):(X.wish E).Ok :=
  ⟨ok.mod,ok.kind,ok.glob,ok.blt,ok.above,ok.inj,ok.has,ok.cab,ok.hd,ok.frames,ok.stk,ok.exf,ok.bs,ok.bsz,ok.noex,ok.exfs,ok.funs,ok.frf⟩
theorem Cx.Ok.unwish {X:Cx} {E:Value→Shared→Prop} (ok:(X.wish E).Ok):X.Ok :=
  ⟨ok.mod,ok.kind,ok.glob,ok.blt,ok.above,ok.inj,ok.has,ok.cab,ok.hd,ok.frames,ok.stk,ok.exf,ok.bs,ok.bsz,ok.noex,ok.exfs,ok.funs,ok.frf⟩
section
variable {X:Cx} {pins:List (Addr × Obj)} {σ:St} {H:Hp} {s:Shared} {E:Value→Shared→Prop}
theorem Inv.wish (I:Inv X pins σ H s) (E:Value→Shared→Prop):Inv (X.wish E) pins σ H s:=⟨I.ok.wish E,I.os,I.bare,I.base,I.loc,I.cell,I.free,I.freeC,I.pin,I.hok,I.len⟩
theorem Inv.unwish (I:Inv (X.wish E) pins σ H s):Inv X pins σ H s:=⟨I.ok.unwish,I.os,I.bare,I.base,I.loc,I.cell,I.free,I.freeC,I.pin,I.hok,I.len⟩
theorem SP.unwish {D:Ends} {f:Flow} {s' : Shared} (h:SP (X.wish E) pins D f s'):SP X pins D f s':=by
  cases f with
  | next=>obtain ⟨σ',H',I,q⟩:=h;exact ⟨σ',H',I.unwish,q⟩
  | brk=>obtain ⟨σ',H',I,q⟩:=h;exact ⟨σ',H',I.unwish,q⟩
  | cont=>obtain ⟨σ',H',I,q⟩:=h;exact ⟨σ',H',I.unwish,q⟩
  | ret u=>obtain ⟨v,σ',H',I,r,q⟩:=h;exact ⟨v,σ',H',I.unwish,r,q⟩
theorem PE.nox {e:Expr} {t:TE} (h:PE X.nox e t):PE X e t:=fun pins s σ H Q I hw =>
  wpAny_mono (h pins s σ H Q (I.wish _) hw) (fun _ _ ⟨v,H',I',r,q⟩=>⟨v,H',I'.unwish,r,q⟩) fun _ _ z=>False.elim z
theorem PSs.nox {st:List Stmt} {t:TS} (h:PSs X.nox st t):PSs X st t:=fun pins s σ H D I hw =>
  wpAny_mono (h pins s σ H D (I.wish _) hw) (fun _ _ q=>q.unwish) fun _ _ z=>False.elim z
end
section
variable {X:Cx} {st:Stmt} {rest:List Stmt} {t u:TS} {e:Expr} {te:TE} {pos:Pos}
def tNext:TS:=fun D σ H=>D.nx σ H
def tSeq (t u:TS):TS:=fun D σ H=>t { D with nx:=u D } σ H
theorem pss_nil:PSs X [] tNext:=fun _ _ σ H _ I h=>wpAny_execs_nil ⟨σ,H,I,h⟩
theorem pss_cons (h1:PS X st t) (h2:PSs X rest u):PSs X (st :: rest) (tSeq t u):=by
  intro pins s σ H D I h
  refine wpAny_execs_cons (thn (h1 pins s σ H { D with nx:=u D } I h) fun f s1 q=>?_)
  cases f with
  | next =>
    obtain ⟨σ',H',I',q⟩:=q
    exact h2 pins s1 σ' H' D I' q
  | ret v=>exact q
  | brk=>exact q
  | cont=>exact q
theorem pss_one (h1:PS X st t):PSs X [st] t:=by
  intro pins s σ H D I h
  refine wpAny_execs_cons (thn (h1 pins s σ H D I h) fun f s1 q=>?_)
  cases f with
  | next=>exact wpAny_execs_nil q
  | ret v=>exact q
  | brk=>exact q
  | cont=>exact q
theorem Inv.quiet {pins:List (Addr × Obj)} {σ:St} {H:Hp} {s:Shared} (I:Inv X pins σ H s):interactive X.env=false:=by simp [interactive,I.ok.kind]
def tDrop (te:TE):TS:=fun D σ H=>te σ H fun _ H1=>D.nx σ H1
theorem ps_expr (he:PE X e te) (hs:swapsWith e none pos.line X.env=pure false:=by rfl):PS X (.Expr e pos) (tDrop te):=by
  intro pins s σ H D I h
  exact wpAny_Expr_any (thn (he pins s σ H _ I h) fun v s1 ⟨x,H1,I1,r1,q1⟩=>⟨σ,H1,I1,q1⟩) I.quiet hs
def tRet (te:TE):TS:=fun D σ H=>te σ H D.rt
theorem ps_ret (he:PE X e te):PS X (.Return (some e) pos) (tRet te):=by
  intro pins s σ H D I h
  exact wpAny_Return_some (thn (he pins s σ H _ I h) fun v s1 ⟨x,H1,I1,r1,q1⟩=>⟨x,σ,H1,I1,r1,q1⟩)
def tIfS (c:TT) (t u:TS):TS:=fun D σ H=>c σ H fun b H1=>if b=true then t D σ H1 else u D σ H1
theorem ps_if {c:Expr} {a b:List Stmt} {tc:TT} (hc:PT X c tc) (ha:PSs X a t) (hb:PSs X b u):PS X (.If c a b pos) (tIfS tc t u):=by
  intro pins s σ H D I h
  refine wpAny_If (thn (hc pins s σ H _ I h) fun d s1 ⟨H1,I1,q1⟩=>?_)
  cases d with
  | true=>exact ha pins s1 σ H1 D I1 q1
  | false=>exact hb pins s1 σ H1 D I1 q1
end
abbrev TG:=V→St→Hp→(St→Hp→Prop)→Prop
def PG (X:Cx) (target:Expr) (t:TG):Prop :=
  ∀ (pins:List (Addr × Obj)) (s:Shared) (σ:St) (H:Hp) (v:V) (u:Value) (Q:St→Hp→Prop),Inv X pins σ H s→RelV v u→t v σ H Q →
    wpAny (model X.prog X.w) X.A (assign target X.env u) (fun _ s'=>∃ σ' H',Inv X pins σ' H' s'∧Q σ' H') X.xe s
section
variable {X:Cx} {pos:Pos}
def gName (i:Nat):TG:=fun v σ H Q=>Q (σ.set i (some v)) H
theorem pg_name {i:Nat} {x:Str} (hN:X.N.Nodup) (hi:X.N[i]?=some x) (hx:Loc X.env.scope x) (hf:X.fn x=true∨X.env.scope.names.lookup x=some .local:=by first | exact .inl rfl | exact .inr rfl | assumption):PG X (.Name x pos) (gName i):=by
  intro pins s σ H v u Q I r h
  exact wpAny_assign_Name (store_ok I hN hi hx r (fun s' I'=>⟨_,H,I',h⟩) hf)
def tAsg (te:TE) (g:TG):TS:=fun D σ H=>te σ H fun x H1=>g x σ H1 D.nx
theorem ps_set {i:Nat} {x:Str} {e:Expr} {te:TE} {pos' : Pos} (hN:X.N.Nodup) (hi:X.N[i]?=some x) (hx:Loc X.env.scope x) (he:PE X e te) (hs:swapsWith e (some (.Name x pos')) pos.line X.env=pure false:=by rfl) (hf:X.fn x=true∨X.env.scope.names.lookup x=some .local:=by first | exact .inl rfl | exact .inr rfl | assumption) :
    PS X (.Assign [.Name x pos'] e pos) (tAsg te (gName i)):=by
  intro pins s σ H D I h
  refine wpAny_Assign_Name (thn (he pins s σ H _ I h) fun v s1 ⟨y,H1,I1,r1,q1⟩=>?_) hs
  exact store_ok I1 hN hi hx r1 (fun s2 I2=>⟨_,H1,I2,q1⟩) hf
end
section
variable {X:Cx} {pos:Pos}
end
structure It where
  go:Nat→Hp→Prop
  yld:Nat→Hp→V→Hp→Prop
  stop:Nat→Hp→Prop
def FpOk (X:Cx) (pins:List (Addr × Obj)) (H:Hp) (b:Addr):Prop :=
  H b=none∧b ≠ X.env.locals∧b ∉ X.fs∧(b ∈ X.ex∨X.s₀.heap.objs.size≤b)∧(∀ x c,X.env.cells.lookup x=some c→c ≠ b)∧∀ p ∈ X.pn ++ pins,p.1 ≠ b
theorem Inv.fpOk {X:Cx} {pins:List (Addr × Obj)} {σ:St} {H H' : Hp} {s:Shared} {b:Addr} (I:Inv X pins σ H s) (hb:s.heap.objs.size≤b) (hn:H' b=none):FpOk X pins H' b:=by
  refine ⟨hn,Nat.ne_of_gt (Nat.lt_of_lt_of_le I.lt hb),I.nofs hb,.inr (Nat.le_trans I.sz hb),fun x c e z=>?_,fun p hp z=>?_⟩
  · obtain ⟨v,q⟩:=I.cell x c e
    exact absurd (Nat.lt_of_lt_of_le q.lt (by rw [z];exact hb)) (Nat.lt_irrefl _)
  · exact absurd (Nat.lt_of_lt_of_le (Heap.lt_size (I.pin p hp).1) (by rw [z];exact hb)) (Nat.lt_irrefl _)
structure Turn (P:Program) (w:World) (K:PySem.W.Frag) (tg:Expr) (J:It) (fp:List Addr) (it:Addr) (tn:Nat→Heap→Prop):Prop where
  mem:it ∈ fp
  obj:∀ i h,tn i h→∀ b ∈ fp,∃ o,h.get? b=some o∧∀ v,o.data ≠ .cell v
  keep:∀ i h h',tn i h→(∀ b ∈ fp,∀ o,h.get? b=some o→h'.get? b=some o)→tn i h'
  item:∀ (X:Cx),X.prog=P→X.w=w→X.K=K→X.calm=true→∀ (i:Nat) (pins:List (Addr × Obj)) (s:Shared) (σ:St) (H:Hp) (E:Value→Shared→Prop),Inv X pins σ H s→(∀ b ∈ fp,FpOk X pins H b)→tn i s.heap→J.go i H →
    wpAny (model P w) X.A (pyNext (.ref it)) (fun r s1=>∃ u,r=some u ∧
      wpAny (model P w) X.A (letOwnedTupleGo tg (.ref it) u) (fun _ s2=>∃ x H',Inv X pins σ H' s2∧RelV x u∧J.yld i H x H'∧tn (i+1) s2.heap∧∀ b ∈ fp,H' b=none) E s1) E s
  done:∀ (X:Cx),X.prog=P→X.w=w→X.K=K→X.calm=true→∀ (i:Nat) (pins:List (Addr × Obj)) (s:Shared) (σ:St) (H:Hp) (E:Value→Shared→Prop),Inv X pins σ H s→(∀ b ∈ fp,FpOk X pins H b)→tn i s.heap→J.stop i H →
    wpAny (model P w) X.A (pyNext (.ref it)) (fun r s1=>r=none∧Inv X pins σ H s1) E s
  self:∀ (A:Around) (i:Nat) (s:Shared) (Q:Value→Shared→Prop) (E:Value→Shared→Prop),tn i s.heap→Q (.ref it) s→wpAny (model P w) A (pyIter (.ref it)) Q E s
abbrev TI:=St→Hp→(It→Hp→Prop)→Prop
def PIE (X:Cx) (pins:List (Addr × Obj)) (σ:St) (tg:Expr) (R:It→Hp→Prop) (itv:Value) (s2:Shared):Prop :=
  ∃ (it:Addr) (fp:List Addr) (tn:Nat→Heap→Prop) (J:It) (H' : Hp),itv=.ref it∧Inv X pins σ H' s2∧Turn X.prog X.w X.K tg J fp it tn∧tn 0 s2.heap∧(∀ b ∈ fp,FpOk X pins H' b)∧R J H'
def PI (X:Cx) (tg iter:Expr) (wi:TI):Prop :=
  ∀ (pins:List (Addr × Obj)) (s:Shared) (σ:St) (H:Hp) (R:It→Hp→Prop),Inv X pins σ H s→wi σ H R →
    wpAny (model X.prog X.w) X.A (eval iter X.env) (fun v s1=>wpAny (model X.prog X.w) X.A (pyIter v) (PIE X pins σ tg R) X.xe s1) X.xe s
theorem go_of {M:Model} {A:Around} {E:Value→Shared→Prop} {s:Shared} {tg:Expr} {it:Addr} {u:Value} {o:Obj} {n:String} {vs:Array Value} {Q:Unit→Shared→Prop} (ho:s.heap.get? it=some o) (hc:o.cls=.type n) (hd:o.data=.fields vs)
    (hn:["enumerate", "zip", "dict_itemiterator", "dict_reverseitemiterator", "odict_iterator", "itertools.zip_longest", "itertools.pairwise"].contains n=false) (hQ:Q () s):wpAny M A (letOwnedTupleGo tg (.ref it) u) Q E s:=by
  unfold letOwnedTupleGo
  cases tg <;> first
    | exact wpAny_pure hQ
    | (cases u <;> first
        | exact wpAny_pure hQ
        | (refine wpAny_bind (wpAny_load ho ?_)
           rw [hc,hd]
           show wpAny M A (if (["enumerate", "zip", "dict_itemiterator", "dict_reverseitemiterator", "odict_iterator", "itertools.zip_longest", "itertools.pairwise"].contains n && vs[0]? == some (rawInt _))=true then _ else _) Q E s
           rw [if_neg (by intro h;rw [hn,Bool.false_and] at h;cases h)]
           exact wpAny_pure hQ))
def Itl (K:PySem.W.Frag) (a:Addr):It :=
  ⟨fun i H=>∃ xs x,SqL K H a xs∧xs[i]?=some x,fun i H x H'=>H'=H∧∀ xs,SqL K H a xs→xs[i]?=some x,fun i H=>∃ xs,SqL K H a xs∧xs.length≤i⟩
def Itr (lo:Int) (n:Nat):It:=⟨fun i _=>i < n,fun i H x H'=>H'=H∧x=.int (lo+i),fun i _=>n≤i⟩
theorem turn_list {P:Program} {w:World} {K:PySem.W.Frag} {tg:Expr} (a it:Addr):Turn P w K tg (Itl K a) [it] it (fun i h=>h.IsListIter it a i) where
  mem:=by simp
  obj:=fun i h st b hb=>by
    have e:b=it:=by simpa using hb
    subst e
    obtain ⟨o,e,c,d⟩:=st
    exact ⟨o,e,fun v z=>by rw [d] at z;cases z⟩
  keep:=fun i h h' st k=>st.at fun o e=>k it (by simp) o e
  item:=by
    intro X hP hw hK hc i pins s σ H E I hf st hg
    subst hP hw hK
    obtain ⟨xs,x,hq,hx⟩:=hg
    obtain ⟨its,rv,p,hz⟩:=I.list hq
    obtain ⟨u,hu,ru⟩:=rv.get hx
    obtain ⟨f0,f1,f2,f3,f4,f5⟩:=hf it (by simp)
    refine wpAny_pyNext_list_item st p.isList (x:=u) (by simpa using hu) fun h' st' sb=>?_
    have I1:Inv X pins σ H { s with heap:=h' }:=I.turned (t':=s.toks) (fun b o hb e=>(sb.2 b hb).trans e) f0 f1 f3 f4 f5
    obtain ⟨o,e,c,d⟩:=id st'
    exact ⟨u,rfl,go_of (s:={ s with heap:=h' }) e c d (by decide) ⟨x,H,I1,ru,⟨rfl,fun ys hy=>by rw [I.list_inj hy hq];exact hx⟩,st',fun b hb=>(hf b hb).1⟩⟩
  done:=by
    intro X hP hw hK hc i pins s σ H E I hf st hg
    subst hP hw hK
    obtain ⟨xs,hq,hx⟩:=hg
    obtain ⟨its,rv,p,hz⟩:=I.list hq
    obtain ⟨f0,f1,f2,f3,f4,f5⟩:=hf it (by simp)
    have hl:=rv.length
    exact wpAny_pyNext_list_end (I.ok.hd hc) st p.isList (by simp;omega) fun h' eb=>⟨rfl,I.turned (t':=s.toks) (fun b o hb e=>eb b o hb e) f0 f1 f3 f4 f5⟩
  self:=fun _ _ _ _ _ st h=>wpAny_pyIter_listiter st h
theorem turn_range {P:Program} {w:World} {K:PySem.W.Frag} {tg:Expr} (it:Addr) (lo:Int) (n:Nat):Turn P w K tg (Itr lo n) [it] it (fun i h=>IsRangeIter h it (lo+(i:Nat) * 1) ((n:Int) - (i:Nat)) 1) where
  mem:=by simp
  obj:=fun i h st b hb=>by
    have e:b=it:=by simpa using hb
    subst e
    exact ⟨_,st,fun v z=>by
      have z' : Data.fields _=Data.cell v:=z
      cases z'⟩
  keep:=fun i h h' st k=>k it (by simp) _ st
  item:=by
    intro X hP hw hK hc i pins s σ H E I hf st hg
    subst hP hw hK
    obtain ⟨f0,f1,f2,f3,f4,f5⟩:=hf it (by simp)
    have W:=Walks.range (prog:=X.prog) (w:=X.w) (I.ok.hd hc) it lo 1 n
    refine W.item i s _ _ hg st fun v h' tk hv st' kk=>?_
    obtain ⟨t,rfl⟩:=hv
    have I1:Inv X pins σ H { s with heap:=h',toks:=tk }:=I.turned (fun b o hb e=>kk b o (by simpa using hb) e) f0 f1 f3 f4 f5
    refine ⟨_,rfl,go_of (s:={ s with heap:=h',toks:=tk }) (n := "range_iterator") st' rfl rfl (by decide) ⟨.int (lo+i),H,I1,⟨t,?_⟩,⟨rfl,rfl⟩,st',fun b hb=>(hf b hb).1⟩⟩
    rw [Int.mul_one]
  done:=by
    intro X hP hw hK hc i pins s σ H E I hf st hg
    subst hP hw hK
    obtain ⟨f0,f1,f2,f3,f4,f5⟩:=hf it (by simp)
    exact wpAny_pyNext_range_end (I.ok.hd hc) st (by have:n≤i:=hg;omega) fun h' eb=>⟨rfl,I.turned (t':=s.toks) (fun b o hb e=>eb b o hb e) f0 f1 f3 f4 f5⟩
  self:=fun _ _ _ _ _ st h=>wpAny_pyIter_rangeiter st h
end L2
namespace L2
open PySem PySem.Spec PyProof.Rows
section
variable {X:Cx} {tg:Expr}
inductive iListq (K:PySem.W.Frag) (R:It→Hp→Prop) (x:V) (H1:Hp):Prop
  | mk (a:_) (_:x=.ref a) (_:(∃ xs,SqL K H1 a xs)) (_:R (Itl K a) H1):iListq K R x H1
def iList (K:PySem.W.Frag) (tl:TE):TI:=fun σ H R=>tl σ H fun x H1=>iListq K R x H1
theorem pi_list {l:Expr} {tl:TE} (hl:PE X l tl):PI X tg l (iList X.K tl):=by
  intro pins s σ H R I h
  refine thn (hl pins s σ H _ I h) fun v s1 ⟨x,H1,I1,r1,q1⟩=>?_
  obtain ⟨a,e,⟨xs,hq⟩,q⟩:=q1
  subst e
  cases r1
  obtain ⟨its,rv,p,hz⟩:=I1.list hq
  refine wpAny_pyIter_list p.isList ?_
  refine ⟨s1.heap.objs.size,[s1.heap.objs.size],_,_,H1,rfl,I1.kept (t':=s1.toks) fun b o e=>Heap.get?_push_of_some _ e,turn_list a _,⟨_,Heap.get?_push_size _ rfl,rfl,rfl⟩,fun b hb=>?_,q⟩
  have e:b=s1.heap.objs.size:=by simpa using hb
  subst e
  exact I1.fpOk (Nat.le_refl _) (I1.hok.fresh (Nat.le_refl _))
theorem range_it {pins:List (Addr × Obj)} {σ:St} {H:Hp} {s:Shared} {R:It→Hp→Prop} {E:Value→Shared→Prop} {lo hi:Int} {t u v:Tok} {tk:Nat} (I:Inv X pins σ H s) (h1 : -(2 ^ 62)≤lo) (h2:lo < 2 ^ 62) (h3 : -(2 ^ 62)≤hi) (h4:hi < 2 ^ 62)
    (q:R (Itr lo (hi - lo).toNat) H):wpAny (model X.prog X.w) X.A (pyIter (.ref s.heap.objs.size)) (PIE X pins σ tg R) E { s with heap:=s.heap.push { cls:=.type "range",data:=.fields #[.int lo t,.int hi u,.int 1 v] },toks:=tk }:=by
  refine wpAny_pyIter_range (IsRange.new ..) (small_one h1 h2 h3 h4) ?_
  have I1:Inv X pins σ H { s with heap:=s.heap.push { cls:=.type "range",data:=.fields #[.int lo t,.int hi u,.int 1 v] },toks:=tk }:=I.kept fun b o e=>Heap.get?_push_of_some _ e
  refine ⟨(s.heap.push { cls:=.type "range",data:=.fields #[.int lo t,.int hi u,.int 1 v] }).objs.size,[(s.heap.push { cls:=.type "range",data:=.fields #[.int lo t,.int hi u,.int 1 v] }).objs.size],_,_,H,rfl,
    I1.kept (t':=tk) fun b o e=>Heap.get?_push_of_some _ e,turn_range _ lo (hi - lo).toNat,?_,fun b hb=>?_,q⟩
  · have e1:lo+((0:Nat):Int) * 1=lo:=by simp
    have e2:(((hi - lo).toNat:Nat):Int) - ((0:Nat):Int)=Builtin.Range.rangeSize lo hi 1:=by rw [rangeSize_one];split <;> omega
    show IsRangeIter _ _ (lo+((0:Nat):Int) * 1) ((((hi - lo).toNat:Nat):Int) - ((0:Nat):Int)) 1
    rw [e1,e2]
    exact Heap.get?_push_size _ rfl
  · have e:b=(s.heap.push { cls:=.type "range",data:=.fields #[.int lo t,.int hi u,.int 1 v] }).objs.size:=by simpa using hb
    subst e
    exact I1.fpOk (Nat.le_refl _) (I1.hok.fresh (Nat.le_refl _))
inductive iRng1q  (R:It→Hp→Prop) (vs:List V) (H1:Hp):Prop
  | mk (j:Int) (_:vs=[.int j]) (_ : -(2 ^ 62)≤j) (_:j < 2 ^ 62) (_:R (Itr 0 j.toNat) H1):iRng1q R vs H1
def iRng1 (ta:TA):TI:=fun σ H R=>ta σ H fun vs H1=>iRng1q R vs H1
theorem pi_range1 {a:Expr} {ta:TA} {p pos:Pos} (hg:Gl X "range") (hm:X.mg "range" = none) (ha:PA X [a] ta) (hs:starEach [a] X.env=[(false,eval a X.env)]:=by rfl):PI X tg (.Call (.Name "range" p) [a] [] pos) (iRng1 ta):=by
  intro pins s σ H R I h
  refine Call_ (ld_blt I hg hm boot_range (PyProof.Rows.callWith_type1 (thn (ha pos pins s σ H _ I h) fun us s1 ⟨vs,H1,I1,r1,q1⟩=>?_) hs rfl))
  obtain ⟨j,e,q1,q2,q⟩:=q1
  subst e
  cases r1 with
  | cons r rr =>
    cases rr
    obtain ⟨t,rfl⟩:=r
    exact call_range_1 (range_it I1 (by omega) (by omega) q1 q2 (by simpa using q))
def tFor (wi:TI) (g:TG) (tb:TS):TS:=fun D σ H=>wi σ H fun J H1=>∃ W:Nat→Nat→St→Hp→Prop,(∃ m,W 0 m σ H1)∧∀ i m σ H,W i m σ H →
  (J.stop i H∧D.nx σ H)∨(J.go i H∧∃ N:St→Hp→Prop,(∀ σ' H',N σ' H'→∃ m',m' < m∧W (i+1) m' σ' H')∧∀ x H',J.yld i H x H'→g x σ H' fun σ2 H2=>tb { D with nx:=N,ct:=N,bk:=D.nx } σ2 H2)
def pinsAt (fp:List Addr) (h:Heap):List (Addr × Obj):=fp.filterMap fun b=>(h.get? b).map fun o=>(b,o)
theorem mem_pinsAt {fp:List Addr} {h:Heap} {b:Addr} {o:Obj} (hb:b ∈ fp) (e:h.get? b=some o):(b,o) ∈ pinsAt fp h:=List.mem_filterMap.mpr ⟨b,hb,by rw [e];rfl⟩
theorem of_pinsAt {fp:List Addr} {h:Heap} {p:Addr × Obj} (hp:p ∈ pinsAt fp h):p.1 ∈ fp∧h.get? p.1=some p.2:=by
  obtain ⟨b,hb,e⟩:=List.mem_filterMap.mp hp
  cases q:h.get? b with
  | none=>rw [q] at e;cases e
  | some o =>
    rw [q] at e
    have e' : (b,o)=p:=Option.some.inj e
    subst e'
    exact ⟨hb,q⟩
theorem Inv.pinned {pins:List (Addr × Obj)} {σ:St} {H:Hp} {s:Shared} {fp:List Addr} (I:Inv X pins σ H s) (hf:∀ b ∈ fp,FpOk X pins H b) (ho:∀ b ∈ fp,∃ o,s.heap.get? b=some o∧∀ v,o.data ≠ .cell v):Inv X (pins ++ pinsAt fp s.heap) σ H s :=
  I.pins_of fun p hp=>(List.mem_append.mp hp).elim (fun z=>I.pin p (List.mem_append_right _ z)) fun z=>by
    obtain ⟨hb,e⟩:=of_pinsAt z
    obtain ⟨f0,f1,f2,_⟩:=hf p.1 hb
    obtain ⟨o,e',d⟩:=ho p.1 hb
    rw [e] at e';cases e'
    exact ⟨e,f0,f1,f2,d⟩
theorem Inv.unpinned {pins pl:List (Addr × Obj)} {σ:St} {H:Hp} {s:Shared} (I:Inv X (pins ++ pl) σ H s):Inv X pins σ H s:=I.pins_of fun p hp=>I.pin p (List.mem_append_right _ (List.mem_append_left _ hp))
theorem ps_for {iter:Expr} {body:List Stmt} {wi:TI} {g:TG} {tb:TS} {pos:Pos} (hp:PassesOwn (model X.prog X.w) X.A X.env X.xe) (hc:X.calm=true) (hi:PI X tg iter wi) (hg:PG X tg g) (hb:PSs X body tb)
    (hs:∀ x,foldedSetIterable iter X.env x=pure x:=by intro _;rfl):PS X (.For tg iter body [] pos) (tFor wi g tb):=by
  intro pins s σ H D I h
  refine wpAny_For (thn (hi pins s σ H _ I h) fun v s1 h1=>thn h1 fun itv s2 h2=>?_) hs
  obtain ⟨it,fp,tn,J,H2,e,I2,T,st2,f2,W,⟨m0,w0⟩,turn⟩:=h2
  subst e
  have stat:∀ {H' : Hp},(∀ b ∈ fp,H' b=none)→∀ b ∈ fp,FpOk X pins H' b:=fun hn b hb=>⟨hn b hb,(f2 b hb).2⟩
  refine codeAny_forLoop_any (fun n s'=>∃ i σ' H',Inv X pins σ' H' s'∧tn i s'.heap∧(∀ b ∈ fp,H' b=none)∧W i n σ' H') ?_ m0 ⟨0,σ,H2,I2,st2,fun b hb=>(f2 b hb).1,w0⟩
  rintro n s3 ⟨i,σ3,H3,I3,st3,fr3,w3⟩
  rcases turn i n σ3 H3 w3 with ⟨stop,qn⟩ | ⟨go,N,hN,step⟩
  · refine wpAny_passesOwn hp (thn (T.done X rfl rfl rfl hc i pins s3 σ3 H3 X.xe I3 (stat fr3) st3 stop) fun r s4 ⟨hr,I4⟩=>?_)
    subst hr
    exact wpAny_execs_nil ⟨σ3,H3,I4,qn⟩
  · refine wpAny_passesOwn hp (thn (T.item X rfl rfl rfl hc i pins s3 σ3 H3 X.xe I3 (stat fr3) st3 go) fun r s4 ⟨u,hr,h4⟩=>?_)
    subst hr
    refine wpAny_passesOwn hp (thn h4 fun _ s5 ⟨x,H5,I5,r5,y5,st5,fr5⟩=>?_)
    have I5':=I5.pinned (stat fr5) (T.obj _ _ st5)
    refine wpAny_passesOwn hp (thn (hg _ s5 σ3 H5 x u _ I5' r5 (step x H5 y5)) fun _ s6 ⟨σ6,H6,I6,q6⟩=>?_)
    refine wpAny_passesOwn hp (thn (hb _ s6 σ6 H6 _ I6 q6) fun f s7 q7=>?_)
    have again:∀ {σ7:St} {H7:Hp},Inv X (pins ++ pinsAt fp s5.heap) σ7 H7 s7→N σ7 H7→∃ m,m < n∧∃ i σ' H',Inv X pins σ' H' s7∧tn i s7.heap∧(∀ b ∈ fp,H' b=none)∧W i m σ' H':=fun {σ7 H7} I7 n7=>by
      obtain ⟨m',hm,w7⟩:=hN σ7 H7 n7
      refine ⟨m',hm,i+1,σ7,H7,I7.unpinned,T.keep _ _ _ st5 fun b hb o e=>(I7.pin (b,o) (List.mem_append_right _ (List.mem_append_right _ (mem_pinsAt hb e)))).1,fun b hb=>?_,w7⟩
      obtain ⟨o,e,d⟩:=T.obj _ _ st5 b hb
      exact (I7.pin (b,o) (List.mem_append_right _ (List.mem_append_right _ (mem_pinsAt hb e)))).2.1
    cases f with
    | next=>obtain ⟨σ7,H7,I7,n7⟩:=q7;exact again I7 n7
    | cont=>obtain ⟨σ7,H7,I7,n7⟩:=q7;exact again I7 n7
    | brk=>obtain ⟨σ7,H7,I7,q7⟩:=q7;exact ⟨σ7,H7,I7.unpinned,q7⟩
    | ret v=>obtain ⟨x7,σ7,H7,I7,r7,q7⟩:=q7;exact ⟨x7,σ7,H7,I7.unpinned,r7,q7⟩
end
theorem for_list {K:PySem.W.Frag} {a:Addr} {xs:List V} {g:TG} {tb:TS} {D:Ends} {σ:St} {H:Hp} (Pv:Nat→St→Hp→Prop) (h0:Pv 0 σ H) (hl:∀ i σ H,i≤xs.length→Pv i σ H→SqL K H a xs)
    (hs:∀ i x σ H,xs[i]?=some x→Pv i σ H→g x σ H fun σ2 H2=>tb { D with nx:=Pv (i+1),ct:=Pv (i+1),bk:=D.nx } σ2 H2) (hd:∀ σ H,Pv xs.length σ H→D.nx σ H) :
    ∃ W:Nat→Nat→St→Hp→Prop,(∃ m,W 0 m σ H)∧∀ i m σ H,W i m σ H →
      ((Itl K a).stop i H∧D.nx σ H)∨((Itl K a).go i H∧∃ N:St→Hp→Prop,(∀ σ' H',N σ' H'→∃ m',m' < m∧W (i+1) m' σ' H')∧∀ x H',(Itl K a).yld i H x H'→g x σ H' fun σ2 H2=>tb { D with nx:=N,ct:=N,bk:=D.nx } σ2 H2):=by
  refine ⟨fun i m σ H=>m=xs.length - i∧i≤xs.length∧Pv i σ H,⟨xs.length,by simp,Nat.zero_le _,h0⟩,?_⟩
  rintro i m σ H ⟨rfl,hi,p⟩
  have q:=hl i σ H hi p
  by_cases hlt:i < xs.length
  · refine .inr ⟨⟨xs,xs[i],q,by simp [hlt]⟩,Pv (i+1),fun σ' H' p'=>⟨xs.length - (i+1),by omega,rfl,hlt,p'⟩,fun x H' y=>?_⟩
    obtain ⟨e,y⟩:=y
    subst e
    exact hs i x σ _ (y xs q) p
  · have e:i=xs.length:=by omega
    subst e
    exact .inl ⟨⟨xs,q,Nat.le_refl _⟩,hd σ H p⟩
theorem for_range {lo:Int} {n:Nat} {g:TG} {tb:TS} {D:Ends} {σ:St} {H:Hp} (Pv:Nat→St→Hp→Prop) (h0:Pv 0 σ H)
    (hs:∀ i σ H,i < n→Pv i σ H→g (.int (lo+i)) σ H fun σ2 H2=>tb { D with nx:=Pv (i+1),ct:=Pv (i+1),bk:=D.nx } σ2 H2) (hd:∀ σ H,Pv n σ H→D.nx σ H) :
    ∃ W:Nat→Nat→St→Hp→Prop,(∃ m,W 0 m σ H)∧∀ i m σ H,W i m σ H →
      ((Itr lo n).stop i H∧D.nx σ H)∨((Itr lo n).go i H∧∃ N:St→Hp→Prop,(∀ σ' H',N σ' H'→∃ m',m' < m∧W (i+1) m' σ' H')∧∀ x H',(Itr lo n).yld i H x H'→g x σ H' fun σ2 H2=>tb { D with nx:=N,ct:=N,bk:=D.nx } σ2 H2):=by
  refine ⟨fun i m σ H=>m=n - i∧i≤n∧Pv i σ H,⟨n,by simp,Nat.zero_le _,h0⟩,?_⟩
  rintro i m σ H ⟨rfl,hi,p⟩
  by_cases hlt:i < n
  · refine .inr ⟨hlt,Pv (i+1),fun σ' H' p'=>⟨n - (i+1),by omega,rfl,hlt,p'⟩,fun x H' y=>?_⟩
    obtain ⟨e,y⟩:=y
    subst e y
    exact hs i σ _ hlt p
  · have e:i=n:=by omega
    subst e
    exact .inl ⟨Nat.le_refl _,hd σ H p⟩
end L2
namespace L2
open PySem PySem.Spec PyProof.Rows
abbrev R2:=V→V→Hp→VK→Prop
def OpR (X:Cx) (f:Value→Value→Sem Value) (r:R2):Prop :=
  ∀ (pins:List (Addr × Obj)) (s:Shared) (σ:St) (H:Hp) (x y:V) (v u:Value) (Q:VK),Inv X pins σ H s→RelV x v→RelV y u→r x y H Q →
    wpAny (model X.prog X.w) X.A (f v u) (EP X pins σ Q) X.xe s
def UnR (X:Cx) (f:Value→Sem Value) (r:V→Hp→VK→Prop):Prop :=
  ∀ (pins:List (Addr × Obj)) (s:Shared) (σ:St) (H:Hp) (x:V) (v:Value) (Q:VK),Inv X pins σ H s→RelV x v→r x H Q →
    wpAny (model X.prog X.w) X.A (f v) (EP X pins σ Q) X.xe s
def CallR (X:Cx) (f:Value) (r:List V→Hp→VK→Prop):Prop :=
  ∀ (pins:List (Addr × Obj)) (s:Shared) (σ:St) (H:Hp) (xs:List V) (us:List Value) (Q:VK),Inv X pins σ H s→Vals xs us→r xs H Q →
    wpAny (model X.prog X.w) X.A (call f us) (EP X pins σ Q) X.xe s
def tOp (r:R2) (ta tb:TE):TE:=fun σ H Q=>ta σ H fun x H1=>tb σ H1 fun y H2=>r x y H2 Q
def tUn (r:V→Hp→VK→Prop) (ta:TE):TE:=fun σ H Q=>ta σ H fun x H1=>r x H1 Q
inductive rI (C:Int→Int→Prop) (g:Int→Int→V) (x:V) (y:V) (H:Hp) (Q:VK):Prop
  | mk (i j:_) (_:x=.int i) (_:y=.int j) (_:C i j) (_:Q (g i j) H):rI C g x y H Q
inductive rI0 (g:Int→Int→V) (x:V) (y:V) (H:Hp) (Q:VK):Prop
  | mk (i j:_) (_:x=.int i) (_:y=.int j) (_:Q (g i j) H):rI0 g x y H Q
inductive rU (g:Int→V) (x:V) (H:Hp) (Q:VK):Prop
  | mk (i:_) (_:x=.int i) (_:Q (g i) H):rU g x H Q
section
variable {X:Cx} {a b c:Expr} {ta tb tc:TE} {pos:Pos}
theorem binT (ha:PE X a ta) (hb:PE X b tb) {pins:List (Addr × Obj)} {s:Shared} {σ:St} {H:Hp} {R:V→V→Hp→Prop} (I:Inv X pins σ H s)
    (h:ta σ H fun x H1=>tb σ H1 fun y H2=>R x y H2) {Q:Value→Shared→Prop} {f:Value→Value→Sem Value}
    (hf:∀ v u s2 x y H2,Inv X pins σ H2 s2→RelV x v→RelV y u→R x y H2→wpAny (model X.prog X.w) X.A (f v u) Q X.xe s2) :
    wpAny (model X.prog X.w) X.A (eval a X.env) (fun v s₁=>wpAny (model X.prog X.w) X.A (eval b X.env) (fun u s₂=>wpAny (model X.prog X.w) X.A (f v u) Q X.xe s₂) X.xe s₁) X.xe s:=by
  refine thn (ha pins s σ H _ I h) fun v s1 ⟨x,H1,I1,r1,q1⟩=>?_
  refine thn (hb pins s1 σ H1 _ I1 q1) fun u s2 ⟨y,H2,I2,r2,q2⟩=>?_
  exact hf v u s2 x y H2 I2 r1 r2 q2
theorem pe_op {op:Operator} {r:R2} (ho:OpR X (binaryOp op) r) (ha:PE X a ta) (hb:PE X b tb):PE X (.BinOp a op b pos) (tOp r ta tb):=by
  intro pins s σ H Q I h
  exact wpAny_BinOp (binT ha hb I h fun v u s2 x y H2 I2 rx ry q=>ho pins s2 σ H2 x y v u Q I2 rx ry q)
theorem pe_un {op:UnaryOp} {r:V→Hp→VK→Prop} (ho:UnR X (unaryOp op) r) (ha:PE X a ta):PE X (.UnaryOp op a pos) (tUn r ta):=by
  intro pins s σ H Q I h
  exact UnaryOp_ (thn (ha pins s σ H _ I h) fun v s1 ⟨x,H1,I1,r1,q1⟩=>ho pins s1 σ H1 x v Q I1 r1 q1)
theorem opI {f:Value→Value→Sem Value} {C:Int→Int→Prop} {g:Int→Int→Int}
    (rule:∀ (i j:Int) (t u:Tok) (s:Shared) (Q:Value→Shared→Prop) (E:Value→Shared→Prop),C i j→Q (.int (g i j) s.toks) { s with toks:=s.toks+1 }→wpAny (model X.prog X.w) X.A (f (.int i t) (.int j u)) Q E s) :
    OpR X f (rI C fun i j=>.int (g i j)):=by
  intro pins s σ H x y v u Q I rx ry h
  obtain ⟨i,j,rfl,rfl,hc,q⟩:=h
  obtain ⟨t,rfl⟩:=rx
  obtain ⟨t',rfl⟩:=ry
  exact rule i j t t' s _ _ hc ⟨.int (g i j),H,I.tok _,⟨_,rfl⟩,q⟩
theorem opI0 {f:Value→Value→Sem Value} {g:Int→Int→Int}
    (rule:∀ (i j:Int) (t u:Tok) (s:Shared) (Q:Value→Shared→Prop) (E:Value→Shared→Prop),Q (.int (g i j) s.toks) { s with toks:=s.toks+1 }→wpAny (model X.prog X.w) X.A (f (.int i t) (.int j u)) Q E s) :
    OpR X f (rI0 fun i j=>.int (g i j)):=by
  intro pins s σ H x y v u Q I rx ry h
  obtain ⟨i,j,rfl,rfl,q⟩:=h
  obtain ⟨t,rfl⟩:=rx
  obtain ⟨t',rfl⟩:=ry
  exact rule i j t t' s _ _ ⟨.int (g i j),H,I.tok _,⟨_,rfl⟩,q⟩
theorem opB0 {f:Value→Value→Sem Value} {g:Int→Int→Bool}
    (rule:∀ (i j:Int) (t u:Tok) (s:Shared) (Q:Value→Shared→Prop) (E:Value→Shared→Prop),Q (.bool (g i j)) s→wpAny (model X.prog X.w) X.A (f (.int i t) (.int j u)) Q E s) :
    OpR X f (rI0 fun i j=>.bl (g i j)):=by
  intro pins s σ H x y v u Q I rx ry h
  obtain ⟨i,j,rfl,rfl,q⟩:=h
  obtain ⟨t,rfl⟩:=rx
  obtain ⟨t',rfl⟩:=ry
  exact rule i j t t' s _ _ ⟨.bl (g i j),H,I,rfl,q⟩
def CPow (i j:Int):Prop:=0≤j∧j≤1000000∧i.natAbs < 2 ^ 64
def CMul (i j:Int):Prop:=(-(2 ^ 64) < i∧i < 2 ^ 64)∨(-(2 ^ 64) < j∧j < 2 ^ 64)
theorem CMul.ok {i j:Int} (h:CMul i j):IntMulOk i j:=by
  rcases h with ⟨h1,h2⟩ | ⟨h1,h2⟩
  · exact .of_left (intBits_le_64 h1 h2)
  · exact .of_right (intBits_le_64 h1 h2)
theorem op_add:OpR X (binaryOp .Add) (rI0 fun i j=>.int (i+j)):=opI0 fun _ _ _ _ _ _ _ q=>add_int q
theorem op_sub:OpR X (binaryOp .Sub) (rI0 fun i j=>.int (i - j)):=opI0 fun _ _ _ _ _ _ _ q=>sub_int q
theorem op_mul:OpR X (binaryOp .Mult) (rI CMul fun i j=>.int (i * j)):=opI fun _ _ _ _ _ _ _ hc q=>mul_int q hc.ok
theorem op_mod:OpR X (binaryOp .Mod) (rI (fun _ j=>0 < j) fun i j=>.int (i % j)):=opI fun i j _ _ _ _ _ hc q=>by
  have h1:(0:Int) < j:=hc
  exact mod_int' (by omega) (by rw [Int.fmod_eq_emod_of_nonneg i (by omega)];exact q)
theorem op_pow:OpR X (binaryOp .Pow) (rI CPow fun i j=>.int (i ^ j.toNat)):=opI fun _ _ _ _ _ _ _ hc q=>pow_int_small hc.1 hc.2.1 hc.2.2 q
theorem unI {f:Value→Sem Value} {g:Int→Int}
    (rule:∀ (i:Int) (t:Tok) (s:Shared) (Q:Value→Shared→Prop) (E:Value→Shared→Prop),Q (.int (g i) s.toks) { s with toks:=s.toks+1 }→wpAny (model X.prog X.w) X.A (f (.int i t)) Q E s) :
    UnR X f (rU fun i=>.int (g i)):=by
  intro pins s σ H x v Q I rx h
  obtain ⟨i,rfl,q⟩:=h
  obtain ⟨t,rfl⟩:=rx
  exact rule i t s _ _ ⟨.int (g i),H,I.tok _,⟨_,rfl⟩,q⟩
theorem un_neg:UnR X (unaryOp .USub) (rU fun i=>.int (-i)):=unI fun _ _ _ _ _ q=>neg_int q
end
def scal:V→V→Bool
  | .non,.non=>true | .non,.int _=>true | .int _,.non=>true | .non,.bl _=>true | .bl _,.non=>true | .non,.str _=>true | .str _,.non=>true
  | .int _,.int _=>true | .bl _,.bl _=>true | .str _,.str _=>true | .byt _,.byt _=>true
  | .int _,.str _=>true | .str _,.int _=>true | .bl _,.str _=>true | .str _,.bl _=>true
  | _,_=>false
def rEq:R2:=fun x y H Q=>scal x y=true∧Q (.bl (decide (x=y))) H
def rNe:R2:=fun x y H Q=>scal x y=true∧Q (.bl (!decide (x=y))) H
theorem dec_int {i j:Int} : decide (V.int i=V.int j)=(i == j):=by
  rw [Bool.eq_iff_iff]
  simp
theorem dec_bl {i j:Bool} : decide (V.bl i=V.bl j)=(i == j):=by
  rw [Bool.eq_iff_iff]
  simp
theorem dec_str {i j:Str} : decide (V.str i=V.str j)=(i == j):=by
  rw [Bool.eq_iff_iff]
  simp
theorem dec_byt {i j:Array UInt8} : decide (V.byt i=V.byt j)=(i.toList == j.toList):=by
  rw [Bool.eq_iff_iff]
  cases i
  cases j
  simp
section
variable {X:Cx} {a b c:Expr} {ta tb tc:TE} {pos:Pos}
theorem fin_bl {pins:List (Addr × Obj)} {σ:St} {H:Hp} {s:Shared} {Q:VK} {k k' : Bool} (I:Inv X pins σ H s) (q:Q (.bl k) H) (e:k=k'):EP X pins σ Q (.bool k') s:=by
  subst e
  exact ⟨.bl k,H,I,rfl,q⟩
theorem op_eq:OpR X (compareOp .Eq) rEq:=by
  intro pins s σ H x y v u Q I rx ry h
  obtain ⟨hs,q⟩:=h
  cases x with
  | non =>
    cases rx
    cases y with
    | non=>cases ry;exact PySem.EqNone.eq_none_none (fin_bl I q (by simp))
    | bl j=>cases ry;exact PySem.EqNone.eq_none_bool (fin_bl I q (by simp))
    | int j=>obtain ⟨t',rfl⟩:=ry;exact PySem.EqNone.eq_none_int (fin_bl I q (by simp))
    | str j=>obtain ⟨t',rfl⟩:=ry;exact PySem.EqNone.eq_none_str (fin_bl I q (by simp))
    | _=>exact absurd (show false=true from hs) Bool.false_ne_true
  | bl i =>
    cases rx
    cases y with
    | non=>cases ry;exact PySem.EqNone.eq_bool_none (fin_bl I q (by simp))
    | bl j=>cases ry;exact eq_bool (fin_bl I q dec_bl)
    | str j=>obtain ⟨t',rfl⟩:=ry;exact PySem.EqMixed.eq_bool_str (fin_bl I q (by simp))
    | _=>exact absurd (show false=true from hs) Bool.false_ne_true
  | int i =>
    obtain ⟨t,rfl⟩:=rx
    cases y with
    | non=>cases ry;exact PySem.EqNone.eq_int_none (fin_bl I q (by simp))
    | int j=>obtain ⟨t',rfl⟩:=ry;exact eq_int (fin_bl I q dec_int)
    | str j=>obtain ⟨t',rfl⟩:=ry;exact PySem.EqMixed.eq_int_str (fin_bl I q (by simp))
    | _=>exact absurd (show false=true from hs) Bool.false_ne_true
  | str i =>
    obtain ⟨t,rfl⟩:=rx
    cases y with
    | non=>cases ry;exact PySem.EqNone.eq_str_none (fin_bl I q (by simp))
    | bl j=>cases ry;exact PySem.EqMixed.eq_str_bool (fin_bl I q (by simp))
    | int j=>obtain ⟨t',rfl⟩:=ry;exact PySem.EqMixed.eq_str_int (fin_bl I q (by simp))
    | str j=>obtain ⟨t',rfl⟩:=ry;exact eq_str (fin_bl I q dec_str)
    | _=>exact absurd (show false=true from hs) Bool.false_ne_true
  | byt i =>
    obtain ⟨t,rfl⟩:=rx
    cases y with
    | byt j=>obtain ⟨t',rfl⟩:=ry;exact PySem.W.eq_bytes (fin_bl I q dec_byt)
    | _=>exact absurd (show false=true from hs) Bool.false_ne_true
  | _=>cases y <;> exact absurd (show false=true from hs) Bool.false_ne_true
theorem op_lt:OpR X (compareOp .Lt) (rI0 fun i j=>.bl (decide (i < j))):=opB0 fun _ _ _ _ _ _ _ q=>lt_int q
theorem op_gt:OpR X (compareOp .Gt) (rI0 fun i j=>.bl (decide (j < i))):=opB0 fun _ _ _ _ _ _ _ q=>gt_int q
theorem op_isN:OpR X (compareOp .Is) (fun x y H Q=>y=.non∧Q (.bl (decide (x=.non))) H):=by
  intro pins s σ H x y v u Q I rx ry h
  obtain ⟨rfl,q⟩:=h
  cases ry
  refine is_none_gen (fin_bl I q ?_)
  cases x <;> first
    | (cases rx;rfl)
    | (obtain ⟨t,rfl⟩:=rx;rfl)
theorem nomark (b:Expr) {op:CmpOp} (h:op ≠ .In:=by decide) (h2:op ≠ .NotIn:=by decide):behindInMarks op b=false:=by
  have e1:(op == CmpOp.In)=false:=by cases op <;> first | rfl | exact absurd rfl h
  have e2:(op == CmpOp.NotIn)=false:=by cases op <;> first | rfl | exact absurd rfl h2
  cases b <;> simp [behindInMarks,e1,e2]
theorem pe_cmpR {op:CmpOp} {r:R2} (ho:OpR X (compareOp op) r) (ha:PE X a ta) (hb:PE X b tb) (hm:behindInMarks op b=false):PE X (.Compare a [op] [b] pos) (tOp r ta tb):=by
  intro pins s σ H Q I h
  exact wpAny_Compare1 (binT ha hb I h fun v u s2 x y H2 I2 rx ry q=>ho pins s2 σ H2 x y v u Q I2 rx ry q) hm
inductive tTestq  (Q:Bool→Hp→Prop) (x:V) (H' : Hp):Prop
  | mk (k:_) (_:x=.bl k) (_:Q k H'):tTestq Q x H'
def tTest (t:TE):TT:=fun σ H Q=>t σ H fun x H'=>tTestq Q x H'
theorem pt_cmpR {op:CmpOp} {r:R2} (ho:OpR X (compareOp op) r) (ha:PE X a ta) (hb:PE X b tb) (hm:behindInMarks op b=false):PT X (.Compare a [op] [b] pos) (tTest (tOp r ta tb)):=by
  intro pins s σ H Q I h
  refine wpAny_isTrue_Compare1 (thn (ha pins s σ H _ I h) fun v s1 ⟨x,H1,I1,r1,q1⟩=>thn (hb pins s1 σ H1 _ I1 q1) fun u s2 ⟨y,H2,I2,r2,q2⟩ =>
    thn (ho pins s2 σ H2 x y v u _ I2 r1 r2 q2) fun c s3 ⟨z,H3,I3,r3,k,e,q3⟩=>?_) hm
  subst e
  cases r3
  exact wpAny_truthy_bool ⟨H3,I3,q3⟩
theorem line63:(sizeLine:Nat) < 2 ^ 63:=by rw [sizeLine_eq];decide
theorem op_add_byt:OpR X (binaryOp .Add) (fun x y H Q=>∃ i j,x=.byt i∧y=.byt j∧i.size+j.size≤16777216∧Q (.byt (i ++ j)) H):=by
  intro pins s σ H x y v u Q I rx ry h
  obtain ⟨i,j,rfl,rfl,hz,q⟩:=h
  obtain ⟨t,rfl⟩:=rx
  obtain ⟨t',rfl⟩:=ry
  exact PySem.W.KBy.add_bytes hz (fun t' tk=>⟨.byt (i ++ j),H,I.tok _,⟨_,rfl⟩,q⟩)
theorem vals1 {x:V} {us:List Value} (r:Vals [x] us):∃ u,us=[u]∧RelV x u:=by
  cases r with
  | cons r1 r2=>cases r2;exact ⟨_,rfl,r1⟩
theorem vals2 {x y:V} {us:List Value} (r:Vals [x,y] us):∃ u w',us=[u,w']∧RelV x u∧RelV y w':=by
  cases r with
  | cons r1 r2 =>
    cases r2 with
    | cons r3 r4=>cases r4;exact ⟨_,_,rfl,r1,r3⟩
theorem call_max2 (hc:X.calm=true):CallR X (.builtin "max") (fun xs H Q=>∃ i j,xs=[.int i,.int j]∧Q (.int (if j > i then j else i)) H):=by
  intro pins s σ H xs us Q I r h
  obtain ⟨i,j,rfl,q⟩:=h
  obtain ⟨u,w',rfl,⟨t,rfl⟩,⟨t',rfl⟩⟩:=vals2 r
  refine max_two_ints (I.ok.hd hc) fun h' tk k=>⟨_,H,I.kept k,?_,q⟩
  by_cases hj:j > i
  · rw [if_pos hj,if_pos hj];exact ⟨_,rfl⟩
  · rw [if_neg hj,if_neg hj];exact ⟨_,rfl⟩
end
end L2
namespace L2
open PySem PySem.Spec PyProof.Rows
structure ObjM (h:Heap) (x dx C:Addr) (mA:Str→Option Value):Prop where
  obj:h.get? x=some (PySem.W.instObj C dx)
  ns:h.Ns1 dx mA
  ne:dx ≠ x
theorem lookIn_ns {h:Heap} {dx:Addr} {mA:Str→Option Value} (n:h.Ns1 dx mA):∃ od,h.get? dx=some od∧∀ name,PySem.W.lookIn name od=some (mA name):=by
  obtain ⟨o,es,ep,ho,hd,hk,_,hm⟩:=n
  refine ⟨o,ho,fun name=>?_⟩
  have e:=hm name
  unfold nsFind findBy at e
  rw [← Array.find?_toList] at e
  unfold PySem.W.lookIn
  rw [hd]
  dsimp only
  split
  · rename_i y q
    rw [q] at e
    exact congrArg some e
  · rename_i q
    rw [q] at e
    have a:es.toList.any (·.refKey)=false:=by
      rw [List.any_eq_false]
      intro y hy
      obtain ⟨z,t,hkey⟩:=hk y (Array.mem_toList_iff.mp hy)
      simp [DictEntry.refKey,hkey]
    have a' : ¬ es.toList.any (·.refKey)=true:=by rw [a];exact Bool.false_ne_true
    rw [if_neg a']
    exact congrArg some e
theorem ObjM.look {h:Heap} {x dx C:Addr} {mA:Str→Option Value} (I:ObjM h x dx C mA):∃ od,PySem.W.InstAt h x (PySem.W.instObj C dx) C (some od)∧∀ name,PySem.W.lookIn name od=some (mA name):=by
  obtain ⟨od,ho,hl⟩:=lookIn_ns I.ns
  exact ⟨od,⟨I.obj,rfl,rfl,ho⟩,hl⟩
section
variable {prog:Program} {w:World} {A:Around} {E:Value→Shared→Prop} {s:Shared} {K:PySem.W.Frag} {x dx C f:Addr} {mA:Str→Option Value} {name:Str} {v:Value}
end
section
variable {P:Program} {w:World} {H H' : Hp} {h h' : Heap} {a C dx:Addr} {fs fs' : List (Str × V)}
theorem ins_get (hok:HOk P w H h) (e:H a=some (.ins C dx fs)):∃ mA,ObjM h a dx C mA∧(∀ f,RelO (fs.lookup f) (mA f))∧PySem.Within mA (fs.map (·.1))∧fs.length≤1000∧H dx=some (.own a):=by
  obtain ⟨d,z,ne,ob,mA,n,r,q⟩:=(show ObjOk P w H h a (.ins C dx fs) from hok a _ e)
  exact ⟨mA,⟨ob,n,ne⟩,r,q,z,d⟩
end
structure Cls (K:PySem.W.Frag) (C:Addr):Prop where
  pg:PySem.W.plainGet K C Str.empty=true
  hd:PySem.W.hasDictIn K C=true
  po:PySem.W.plainOver K C=true
  sa:PySem.W.findIn K (.ref C) "__setattr__" = some (some (.builtin "object.__setattr__"))
theorem Cls.get {K:PySem.W.Frag} {C:Addr} (c:Cls K C) (f:Str):PySem.W.plainGet K C f=true:=c.pg
structure Con (K:PySem.W.Frag) (C:Addr) (f:Str) (v:V) (u:Value):Prop where
  at_:PySem.W.findIn K (.ref C) f=some (some u)
  rel:RelV v u
  get:PySem.W.specialIn K u "__get__" = some none
  cp:PySem.W.copiedNames.contains f=false
structure Meth (K:PySem.W.Frag) (C:Addr) (m:Str) (f:Addr):Prop where
  at_:PySem.W.findIn K (.ref C) m=some (some (.ref f))
  fn:PySem.W.isFn K (.ref f)=true
  kp:PySem.W.keepIn K (.ref f)=true
section
variable {X:Cx} {pins:List (Addr × Obj)} {σ:St} {H:Hp} {s:Shared} {a C dx:Addr} {fs:List (Str × V)} {f:Str} {v:V} {A:Around} {E:Value→Shared→Prop}
end
section
variable {X:Cx} {o e value:Expr} {f:Str} {pos pos' tpos:Pos} {ta tv:TE}
end
section
variable {X:Cx} {pins:List (Addr × Obj)} {σ:St} {H:Hp} {s:Shared} {A:Around} {E:Value→Shared→Prop} {Q:Value→Shared→Prop} {c:Value} {b:Bool}
inductive TyOf (K:PySem.W.Frag) (H:Hp):V→Value→Prop where
  | non:TyOf K H .non (.type "NoneType")
  | bl (x:Bool):TyOf K H (.bl x) (.type "bool")
  | int (i:Int):TyOf K H (.int i) (.type "int")
  | str (x:Str):TyOf K H (.str x) (.type "str")
  | flt (x:UInt64):TyOf K H (.flt x) (.type "float")
  | lst {a:Addr} {xs:List V} (e:H a=some (.lst xs)):TyOf K H (.ref a) (.type "list")
  | frz {a:Addr} {o:Obj} {xs:List V} (e:H a=some (.frz o (.lst xs))):TyOf K H (.ref a) (.type "list")
  | tup {a:Addr} {xs:List V} (e:H a=some (.tup xs)):TyOf K H (.ref a) (.type "tuple")
  | dK {a:Addr} {kvs:List (Key × V)} (e:H a=some (.dK kvs)):TyOf K H (.ref a) (.type "dict")
  | dT {a:Addr} {kvs:List (List Key × V)} (e:H a=some (.dT kvs)):TyOf K H (.ref a) (.type "dict")
  | ins {a C dx:Addr} {fs:List (Str × V)} (e:H a=some (.ins C dx fs)) (cl:Cls K C) (ha:PySem.W.findIn K (.ref C) "__class__" = some (some (.builtin "object.__class__")))
      (hn:PySem.W.specialIn K (.builtin "object.__class__") "__get__" = some (some (.builtin "getset_descriptor.__get__"))) (htk:PySem.W.takesIn K (.builtin "object.__class__")=some true)
      (hm:PySem.W.mroIn K C (.type "object")=some true):TyOf K H (.ref a) (.ref C)
theorem isinst_ok {x:V} {u t:Value} (I:Inv X pins σ H s) (rx:RelV x u) (ty:TyOf X.K H x t) (e:PySem.W.kitOne X.K t c=some b) (h:∀ tk,Q (.bool b) { s with toks:=tk }) :
    wpAny (model X.prog X.w) A (call (.builtin "isinstance") [u,c]) Q E s:=by
  cases ty with
  | non=>cases (show u=Value.none from rx);exact PySem.W.kia_one PySem.W.kitx_none I.kIn True.intro e (fun z=>nomatch z) h
  | bl y=>cases (show u=Value.bool y from rx);exact PySem.W.kia_one PySem.W.kitx_bool I.kIn True.intro e (fun z=>nomatch z) h
  | int i=>obtain ⟨t,q⟩:=(show ∃ t,u=Value.int i t from rx);cases q;exact PySem.W.kia_one PySem.W.kitx_int I.kIn True.intro e (fun z=>nomatch z) h
  | str y=>obtain ⟨t,q⟩:=(show ∃ t,u=Value.str y t from rx);cases q;exact PySem.W.kia_one PySem.W.kitx_str I.kIn True.intro e (fun z=>nomatch z) h
  | flt y=>obtain ⟨t,q⟩:=(show ∃ t,u=Value.float y t from rx);cases q;exact PySem.W.kia_one PySem.W.kitx_float I.kIn True.intro e (fun z=>nomatch z) h
  | @lst a xs ea =>
    cases (show u=Value.ref a from rx)
    obtain ⟨_,_,n,_,h1⟩:=(show ObjOk X.prog X.w H s.heap a (.lst xs) from I.hok a _ ea)
    exact PySem.W.kia_one PySem.W.kitx_list I.kIn ⟨_,h1,rfl⟩ e (fun z=>nomatch z) h
  | @frz a ob xs ea =>
    cases (show u=Value.ref a from rx)
    obtain ⟨_,_,_,n,_,h1⟩:=(show ObjOk X.prog X.w H s.heap a (.frz ob (.lst xs)) from I.hok a _ ea)
    exact PySem.W.kia_one PySem.W.kitx_list I.kIn ⟨_,h1,rfl⟩ e (fun z=>nomatch z) h
  | @tup a xs ea =>
    cases (show u=Value.ref a from rx)
    obtain ⟨_,_,_,p⟩:=(show ObjOk X.prog X.w H s.heap a (.tup xs) from I.hok a _ ea)
    obtain ⟨o,h1,h2,_⟩:=p
    exact PySem.W.kia_one PySem.W.kitx_tuple I.kIn ⟨o,h1,h2⟩ e (fun z=>nomatch z) h
  | @dK a kvs ea =>
    cases (show u=Value.ref a from rx)
    obtain ⟨_,_,vs,_,p⟩:=(show ObjOk X.prog X.w H s.heap a (.dK kvs) from I.hok a _ ea)
    obtain ⟨o,es,ep,h1,h2,_⟩:=p
    exact PySem.W.kia_one PySem.W.kitx_dict I.kIn ⟨o,h1,h2.1⟩ e (fun z=>nomatch z) h
  | @dT a kvs ea =>
    cases (show u=Value.ref a from rx)
    obtain ⟨_,_,xs,_,o,es,ep,h1,h2,_⟩:=(show ObjOk X.prog X.w H s.heap a (.dT kvs) from I.hok a _ ea)
    exact PySem.W.kia_one PySem.W.kitx_dict I.kIn ⟨o,h1,h2.1⟩ e (fun z=>nomatch z) h
  | @ins a C dx fs ea cl ha hn htk hm =>
    cases (show u=Value.ref a from rx)
    obtain ⟨mA,O,_⟩:=ins_get I.hok ea
    obtain ⟨od,J,_⟩:=O.look
    exact PySem.W.kia_one (PySem.W.kitx_own (cl.get _) cl.hd ha hn htk hm) I.kIn J e (fun z=>nomatch z) h
end
end L2
namespace L2
open PySem PySem.Spec PyProof.Rows
structure Room (k:Nat) (A:Around):Prop where
  hd:A.handled=none
  dp:A.depth+3 * k+5 < recursionLimit
  un:A.units+16 * k+200 < cLine
theorem Room.mono {j k:Nat} {A:Around} (r:Room k A) (h:j≤k):Room j A:=⟨r.hd,by have:=r.dp;omega,by have:=r.un;omega⟩
theorem Room.deeper {k:Nat} {A:Around} (r:Room (k+1) A) (env:Env):Room k (A.deeper env) :=
  ⟨r.hd,by have:=r.dp;show A.depth+1+3 * k+5 < _;omega,by have:=r.un;show A.units+3+16 * k+200 < _;omega⟩
theorem Room.depth {k:Nat} {A:Around} (r:Room k A):A.depth < recursionLimit:=by have:=r.dp;omega
theorem Room.units {k:Nat} {A:Around} (r:Room k A):A.units+64 < cLine:=by have:=r.un;omega
def tNil:TA:=fun _ H Q=>Q [] H
def tCons (ta:TE) (tr:TA):TA:=fun σ H Q=>ta σ H fun x H1=>tr σ H1 fun xs H2=>Q (x :: xs) H2
section
variable {X:Cx} {e:Expr} {es:List Expr} {te:TE} {t:TA} {pos:Pos}
theorem pa_nil:PA X [] tNil:=fun _ _ _ _ H Q I h=>Calls.spliced_nil ⟨[],H,I,.nil,h⟩
theorem pa_cons (ha:PE X e te) (hr:PA X es t) (hs:starEach (e :: es) X.env=(false,eval e X.env) :: starEach es X.env:=by rfl):PA X (e :: es) (tCons te t):=by
  intro pos pins s σ H Q I h
  rw [hs]
  show wpAny _ _ (spliced ((false,eval e X.env) :: backTo pos (starEach es X.env))) _ _ s
  refine Calls.spliced_cons (thn (ha pins s σ H _ I h) fun u s1 ⟨x,H1,I1,r1,q1⟩=>?_)
  exact thn (hr pos pins s1 σ H1 _ I1 q1) fun us s2 ⟨xs,H2,I2,r2,q2⟩=>⟨x :: xs,H2,I2,.cons r1 r2,q2⟩
def tTup (t:TA):TE:=fun σ H Q=>t σ H fun xs H1=>xs.length≤sizeLine∧∀ p,H1 p=none→Q (.ref p) (upd H1 p (.tup xs))
def tLst (t:TA):TE:=fun σ H Q=>t σ H fun xs H1=>xs.length≤sizeLine∧∀ p,H1 p=none→Q (.ref p) (upd H1 p (.lst xs))
theorem pe_tup {x1} (h:PA X es t):PE X (.Tuple es x1 pos) (tTup t):=by
  intro pins s σ H Q I hq
  refine wpAny_Tuple_spliced (thn (h pos pins s σ H _ I hq) fun us s1 ⟨xs,H1,I1,r,z,q⟩=>⟨by rw [← r.length];exact z,?_⟩)
  have hf:H1 s1.heap.objs.size=none:=I1.hok.fresh (Nat.le_refl _)
  refine ⟨.ref s1.heap.objs.size,upd H1 s1.heap.objs.size (.tup xs),I1.laid (t':=s1.toks) (fun b u e=>Heap.get?_push_of_some _ e) (Nat.le_refl _) ?_,rfl,q _ hf⟩
  exact ⟨z,us,r,⟨_,Heap.get?_push_size _ rfl,rfl,_,rfl⟩⟩
theorem pe_lst (h:PA X es t):PE X (.List es pos) (tLst t):=by
  intro pins s σ H Q I hq
  refine wpAny_List_spliced (thn (h pos pins s σ H _ I hq) fun us s1 ⟨xs,H1,I1,r,z,q⟩=>⟨by rw [← r.length];exact z,?_⟩)
  have hf:H1 s1.heap.objs.size=none:=I1.hok.fresh (Nat.le_refl _)
  refine ⟨.ref s1.heap.objs.size,upd H1 s1.heap.objs.size (.lst xs),I1.laid (t':=s1.toks) (fun b u e=>Heap.get?_push_of_some _ e) (Nat.le_refl _) ?_,rfl,q _ hf⟩
  exact ⟨z,us,0,r,Heap.get?_push_size _ rfl⟩
end
abbrev Sp:=List V→Hp→VK→XK→Prop
abbrev CXT:=List Env→Hp→Shared→XK→Value→Shared→Prop
structure Env0 (P:Program) (w:World) (K:PySem.W.Frag) (mg:Str→Option Value) (base:Heap) (A:Around) (outer:List Env) (s:Shared) (H:Hp):Prop where
  frames:A.frames=some outer
  mod:Mod K mg base
  bs:∀ b o,base.get? b=some o→s.heap.get? b=some o∧H b=none
  bsz:base.objs.size≤s.heap.objs.size
  funs:s.heap.FunFrames base outer
  frf:∀ b ∈ frs outer,H b=none
  hok:HOk P w H s.heap
  bare:AllBare s.gens
def CE (outer:List Env) (P:Program) (w:World) (H:Hp) (s:Shared) (Q:VK) (u:Value) (s' : Shared):Prop :=
  ∃ v H',s'.os=s.os∧AllBare s'.gens∧Un (frs outer) [] H H' s.heap s'.heap∧HOk P w H' s'.heap∧RelV v u∧Q v H'
def CR (CX:CXT) (outer:List Env) (P:Program) (w:World) (H:Hp) (s:Shared) (Q:VK) (E:XK) (r:Result) (s' : Shared):Prop :=
  match r with
  | .ok (.ret u)=>CE outer P w H s Q u s'
  | .ok _=>False
  | .error e=>CX outer H s E e s'
structure FnOk (P:Program) (w:World) (K:PySem.W.Frag) (mg:Str→Option Value) (base:Heap) (CX:CXT) (k:Nat) (f:Addr) (fd:FuncData) (ps:List Str) (sp:Sp):Prop where
  len:∀ vs H Q E,sp vs H Q E→vs.length=ps.length
  run:∀ (A:Around) (outer:List Env) (s:Shared) (H:Hp) (args:Args) (us:List Value) (vs:List V) (Q:VK) (E:XK),Room k A→Env0 P w K mg base A outer s H→BindsTo s fd args (ps.zip us)→Vals vs us→sp vs H Q E →
    codeAny (model P w) A (.call (.ref f) args) (CR CX outer P w H s Q E) s
theorem FnOk.mono {P:Program} {w:World} {K:PySem.W.Frag} {mg:Str→Option Value} {base:Heap} {CX:CXT} {j k:Nat} {f:Addr} {fd:FuncData} {ps:List Str} {sp:Sp} (F:FnOk P w K mg base CX j f fd ps sp) (h:j≤k) :
    FnOk P w K mg base CX k f fd ps sp:=⟨F.len,fun A outer s H args us vs Q E hr=>F.run A outer s H args us vs Q E (hr.mono h)⟩
section
variable {X:Cx} {pins:List (Addr × Obj)} {σ:St} {H:Hp} {s s' : Shared}
theorem Inv.env0 (I:Inv X pins σ H s):Env0 X.prog X.w X.K X.mg X.base X.A X.stack s H :=
  ⟨I.ok.frames,I.ok.mod,I.bs,Nat.le_trans I.ok.bsz I.sz,I.stack,I.stkFree,I.hok,I.bare⟩
theorem Inv.after {Q:VK} {u:Value} (I:Inv X pins σ H s) (h:CE X.stack X.prog X.w H s Q u s'):EP X pins σ Q u s':=by
  obtain ⟨v,H',os,bare,un,hok,r,q⟩:=h
  obtain ⟨hh,g,d,t,os'⟩:=s'
  obtain rfl:os'=s.os:=os
  exact ⟨v,H',I.call (h':=hh) (g':=g) (d':=d) (t':=t) (ch:=[]) un hok bare (fun b z=>absurd z (by simp)),r,q⟩
end
def tCall (sp:Sp) (dvs:List V) (E:XK) (t:TA):TE:=fun σ H Q=>t σ H fun vs H1=>sp (vs ++ dvs) H1 Q E
def Binds (K:PySem.W.Frag) (fd:FuncData) (ps:List Str) (ds:List Value):Prop :=
  ∀ (s:Shared) (us:List Value),K.In s.heap→(us ++ ds).length=ps.length→BindsTo s fd ⟨us,[]⟩ (ps.zip (us ++ ds))
theorem Binds.all {K:PySem.W.Frag} {fd:FuncData} {ps:List Str} (h:∀ us:List Value,us.length=ps.length→bindArgs fd ⟨us,[]⟩=pure (ps.zip us)):Binds K fd ps []:=fun s us _ hl=>by
  rw [List.append_nil] at hl ⊢
  exact .of_eq (h us hl)
def Passes (CX:CXT) (X:Cx) (E:XK):Prop:=∀ (pins:List (Addr × Obj)) (σ:St) (H:Hp) (s:Shared) (e:Value) (s' : Shared),Inv X pins σ H s→CX X.stack H s E e s'→X.xe e s'
section
variable {X:Cx} {CX:CXT} {k:Nat} {f C:Addr} {fd:FuncData} {ps:List Str} {sp:Sp} {dvs:List V} {ds:List Value} {E:XK} {x m:Str} {p pos apos:Pos} {e o:Expr} {es:List Expr} {ta:TE} {t:TA}
theorem run_fn {pins:List (Addr × Obj)} {σ:St} {H:Hp} {s:Shared} {Q:VK} {us:List Value} {vs:List V} (F:FnOk X.prog X.w X.K X.mg X.base CX k f fd ps sp) (hr:Room k X.A) (hb:Binds X.K fd ps ds) (hd:Vals dvs ds) (hx:Passes CX X E)
    (I:Inv X pins σ H s) (r:Vals vs us) (h:sp (vs ++ dvs) H Q E):wpAny (model X.prog X.w) X.A (call (.ref f) us) (EP X pins σ Q) X.xe s:=by
  have r2:Vals (vs ++ dvs) (us ++ ds):=r.append hd
  have hl:(us ++ ds).length=ps.length:=by rw [← r2.length];exact F.len _ _ _ _ h
  refine wpAny_call (codeAny_mono (F.run X.A X.stack s H ⟨us,[]⟩ (us ++ ds) (vs ++ dvs) Q E hr I.env0 (hb s us I.kIn hl) r2 h) fun r s' hq=>?_)
  cases r with
  | error e=>exact hx pins σ H s e s' I hq
  | ok fl =>
    cases fl with
    | ret u=>exact I.after hq
    | next=>exact False.elim hq
    | brk=>exact False.elim hq
    | cont=>exact False.elim hq
theorem pe_call (F:FnOk X.prog X.w X.K X.mg X.base CX k f fd ps sp) (hr:Room k X.A) (hg:Gl X x) (hm:X.mg x=some (.ref f)) (hk:PySem.W.keepIn X.K (.ref f)=true) (hb:Binds X.K fd ps ds) (hd:Vals dvs ds) (hx:Passes CX X E)
    (ha:PA X (e :: es) t) (hdb:(x == ("__debug__" : Str))=false:=by decide) (he:starEach (e :: es) X.env=(false,eval e X.env) :: starEach es X.env:=by rfl) (hpl:(backTo pos (starEach es X.env)).any (·.1)=false:=by rfl) :
    PE X (.Call (.Name x p) (e :: es) [] pos) (tCall sp dvs E t):=by
  intro pins s σ H Q I h
  refine wpAny_Call_Name_kw (ld_glob I hg hm ?_ hdb)
  refine PySem.W.callWith_K (h₀:=X.base) I.ok.mod.kin hk (thn (ha pos pins s σ H _ I h) fun us s1 ⟨vs,H1,I1,r,q⟩=>⟨I1.kIn,?_⟩) he hpl
  exact run_fn F hr hb hd hx I1 r q
structure Mk (K:PySem.W.Frag) (C f:Addr):Prop where
  makes:PySem.W.makesIn K C=true
  init:PySem.W.findIn K (.ref C) "__init__" = some (some (.ref f))
  fn:PySem.W.isFn K (.ref f)=true
  kp:PySem.W.keepIn K (.ref C)=true
end
section
variable {X:Cx} {CX:CXT} {k:Nat} {f C:Addr} {fd:FuncData} {ps ks:List Str} {sp:Sp} {E:XK} {x m:Str} {p pos apos kpos:Pos} {e o:Expr} {es:List Expr} {kws:List Keyword} {te ta:TE} {t tk:TA} {nm:Option Str}
structure KBinds (K:PySem.W.Frag) (fd:FuncData) (ps ks:List Str) (g:List Value→List Value→List Value) (gV:List V→List V→List V):Prop where
  to:∀ (s:Shared) (us ws:List Value),K.In s.heap→(g us ws).length=ps.length→BindsTo s fd ⟨us,ks.zip ws⟩ (ps.zip (g us ws))
  rel:∀ {vs:List V} {us:List Value} {zs:List V} {ws:List Value},Vals vs us→Vals zs ws→Vals (gV vs zs) (g us ws)
variable {g:List Value→List Value→List Value} {gV:List V→List V→List V}
end
structure FnScope (N P:List Str) (sc:Scope):Prop where
  kind:sc.kind=.function
  co:sc.isCoroutine=false
  gen:sc.isGenerator=false
  nd:N.Nodup
  pre:N.take P.length=P
  par:∀ x ∈ P,sc.names.lookup x=some .local∨sc.names.lookup x=some .cell
  nofree:∀ y ∈ sc.names,y.2 ≠ .free
theorem bindL_out {kindOf:Str→Option NameKind} {x:Str} : ∀ {binds:List (Str × Value)} {m:Str→Option Value},(∀ v,(x,v) ∉ binds)→bindL kindOf binds m x=m x
  | [],_,_=>rfl
  | (n,v) :: r,m,h=>by
    unfold bindL
    rw [bindL_out fun w hw=>h w (List.mem_cons_of_mem _ hw)]
    split
    · have:x ≠ n:=by rintro rfl;exact h v List.mem_cons_self
      simp [this]
    · rfl
theorem bindC_out {kindOf:Str→Option NameKind} {x:Str} : ∀ {binds:List (Str × Value)} {m:Str→Option Value},(∀ v,(x,v) ∉ binds)→bindC kindOf binds m x=m x
  | [],_,_=>rfl
  | (n,v) :: r,m,h=>by
    unfold bindC
    rw [bindC_out fun w hw=>h w (List.mem_cons_of_mem _ hw)]
    split
    · rfl
    · have:x ≠ n:=by rintro rfl;exact h v List.mem_cons_self
      simp [this]
theorem bindL_get {kindOf:Str→Option NameKind} {x:Str} {v:Value} : ∀ {P:List Str} {vs:List Value} {i:Nat} {m:Str→Option Value},P.Nodup→P[i]?=some x→vs[i]?=some v→kindOf x=some .local →
    bindL kindOf (P.zip vs) m x=some v
  | [],_,_,_,_,h,_,_=>by simp at h
  | _ :: _,[],_,_,_,_,h,_=>by simp at h
  | p :: P,w :: vs,0,m,nd,h1,h2,hk=>by
    simp at h1 h2;subst h1;subst h2
    show bindL kindOf ((p,w) :: P.zip vs) m p=_
    unfold bindL
    rw [bindL_out fun v hv=>(List.nodup_cons.mp nd).1 (List.of_mem_zip hv).1,if_pos hk]
    simp
  | p :: P,w :: vs,i+1,m,nd,h1,h2,hk=>by
    show bindL kindOf ((p,w) :: P.zip vs) m x=_
    unfold bindL
    exact bindL_get (i:=i) (List.nodup_cons.mp nd).2 (by simpa using h1) (by simpa using h2) hk
theorem bindC_get {kindOf:Str→Option NameKind} {x:Str} {v:Value} : ∀ {P:List Str} {vs:List Value} {i:Nat} {m:Str→Option Value},P.Nodup→P[i]?=some x→vs[i]?=some v→kindOf x ≠ some .local →
    bindC kindOf (P.zip vs) m x=some v
  | [],_,_,_,_,h,_,_=>by simp at h
  | _ :: _,[],_,_,_,_,h,_=>by simp at h
  | p :: P,w :: vs,0,m,nd,h1,h2,hk=>by
    simp at h1 h2;subst h1;subst h2
    show bindC kindOf ((p,w) :: P.zip vs) m p=_
    unfold bindC
    rw [bindC_out fun v hv=>(List.nodup_cons.mp nd).1 (List.of_mem_zip hv).1,if_neg hk]
    simp
  | p :: P,w :: vs,i+1,m,nd,h1,h2,hk=>by
    show bindC kindOf ((p,w) :: P.zip vs) m x=_
    unfold bindC
    exact bindC_get (i:=i) (List.nodup_cons.mp nd).2 (by simpa using h1) (by simpa using h2) hk
def start (N:List Str) (vs:List V):St:=vs.map some ++ List.replicate (N.length - vs.length) none
def cxOf (CX:CXT) (P:Program) (w:World) (K:PySem.W.Frag) (mg:Str→Option Value) (base:Heap) (N:List Str) (qual:Str) (scope:Scope) (f:Addr) (cd:Value) (A:Around) (outer:List Env) (s:Shared) (H:Hp) (E:XK):Cx where
  prog:=P
  w:=w
  K:=K
  mg:=mg
  base:=base
  A:=A.deeper (envOfC qual scope s.heap.objs.size f cd)
  N:=N
  s₀:=s
  H₀:=H
  env:=envOfC qual scope s.heap.objs.size f cd
  outer:=outer
  stack:=envOfC qual scope s.heap.objs.size f cd :: outer
  ex:=[]
  calm:=true
  fn:=fun _=>true
  pn:=[]
  xe:=fun e s'=>wpAny (model P w) (A.deeper (envOfC qual scope s.heap.objs.size f cd)) (leaving (envOfC qual scope s.heap.objs.size f cd) e) (fun _ s''=>CX outer H s E e s'') (fun e' s''=>CX outer H s E e' s'') s'
theorem cell_has {sc:Scope} {n:Nat} {x:Str} (h:sc.names.lookup x=some .cell):∃ c,(cellsFrom n sc.names []).lookup x=some c:=by
  have q:=PySem.W.cellsFrom_some sc.names n [] (.inl h)
  exact Option.isSome_iff_exists.mp q
theorem inv_start {CX:CXT} {P:Program} {w:World} {K:PySem.W.Frag} {mg:Str→Option Value} {base:Heap} {N ps:List Str} {qual:Str} {scope:Scope} {f:Addr} {cd:Value} {A:Around} {outer:List Env} {s s1:Shared} {H:Hp} {E:XK} {us:List Value} {vs:List V}
    (S:FnScope N ps scope) (hd:A.handled=none) (e0:Env0 P w K mg base A outer s H) (hl:vs.length=ps.length) (r:Vals vs us)
    (x:InCallC s s.heap.objs.size (bindL (envOfC qual scope s.heap.objs.size f cd).kindOf (ps.zip us) fun _=>none) (cellsFrom (s.heap.objs.size+1) scope.names []) (bindC (envOfC qual scope s.heap.objs.size f cd).kindOf (ps.zip us) fun _=>none) s1) :
    Inv (cxOf CX P w K mg base N qual scope f cd A outer s H E) [] (start N vs) H s1:=by
  have hpl:ps.length≤N.length:=by have:=congrArg List.length S.pre;rw [List.length_take] at this;omega
  obtain ⟨h1,tk,rfl,hk⟩:=x.done
  have noA:∀ b:Addr,b ∉ (cxOf CX P w K mg base N qual scope f cd A outer s H E).ex:=fun b z=>absurd (show b ∈ ([]:List Addr) from z) (by simp)
  refine ⟨⟨e0.mod,S.kind,rfl,rfl,Nat.le_refl _,fun y z c h1 h2=>?_,fun y hy=>?_,fun y c _ h=>?_,fun _=>hd,Around.frames_deeper e0.frames,.inr ⟨rfl,rfl⟩,fun b z=>absurd z (noA b),e0.bs,e0.bsz,fun b _ _=>noA b,fun b z=>absurd z (noA b),e0.funs,e0.frf⟩,
    rfl,e0.bare,Un.kept hk,⟨_,x.toInCall.ns,fun i y v h1 h2 h3=>?_⟩,fun y c h=>⟨_,x.cell y c h⟩,e0.hok.fresh (Nat.le_refl _),fun y c h=>?_,fun p hp=>absurd (show p ∈ ([]:List (Addr × Obj)) from hp) (by simp),e0.hok.kept hk,?_⟩
  · exact name_of_addr x.apart (PySem.mem_of_lookup h1) (PySem.mem_of_lookup h2)
  · have hy:scope.names.lookup y=some .cell∨scope.names.lookup y=some .free:=hy
    rcases hy with hy | hy
    · exact cell_has hy
    · exact absurd rfl (S.nofree _ (PySem.mem_of_lookup hy))
  · exact Nat.le_of_lt (x.above y c (PySem.mem_of_lookup h))
  · have hi:i < vs.length:=by
      unfold start at h2
      by_cases hi:i < vs.length
      · exact hi
      · rw [List.getElem?_append_right (by simpa using hi)] at h2
        rw [List.getElem?_replicate] at h2
        split at h2 <;> cases h2
    have ha:vs[i]?=some v:=by
      unfold start at h2
      rw [List.getElem?_append_left (by simpa using hi),List.getElem?_map] at h2
      cases e:vs[i]? with
      | none=>rw [e] at h2;cases h2
      | some a=>rw [e] at h2;cases h2;rfl
    obtain ⟨u,hu,rv⟩:=r.get ha
    have hp:ps[i]?=some y:=by
      rw [← S.pre,List.getElem?_take_of_lt (by omega)];exact h1
    have ndP:ps.Nodup:=by rw [← S.pre];exact S.nd.sublist (List.take_sublist _ _)
    refine ⟨u,rv,?_⟩
    rcases S.par y (List.mem_of_getElem? hp) with k | k
    · exact .inl ⟨k,bindL_get ndP hp hu k⟩
    · obtain ⟨c,e⟩:=cell_has (n:=s.heap.objs.size+1) k
      refine .inr ⟨.inl k,c,e,?_⟩
      have q:=x.cell y c e
      rw [bindC_get ndP hp hu (by show scope.names.lookup y ≠ _;rw [k];decide)] at q
      exact q
  · exact e0.hok.fresh (Nat.le_of_lt (x.above y c (PySem.mem_of_lookup h)))
  · unfold start
    show _=N.length
    rw [List.length_append,List.length_map,List.length_replicate]
    omega
theorem fn_of {CX:CXT} {P:Program} {w:World} {K:PySem.W.Frag} {mg:Str→Option Value} {base:Heap} {k:Nat} {f:Addr} {name qual:Str} {params:Arguments} {body:List Stmt} {scope:Scope} {dV kV doc pm cdv ct oc:Value} {an od:Option Addr}
    {osl:Array (Option Value)} {N ps:List Str} {sp:Sp} (lk:K.lookup f=some ⟨oc,od,.func (PySem.W.fnOf name qual params body scope dV kV doc pm an cdv ct),osl⟩) (hcd:PySem.W.codeIn K cdv qual=true) (S:FnScope N ps scope)
    (len:∀ vs H Q E,sp vs H Q E→vs.length=ps.length)
    (hbody:∀ (A:Around) (outer:List Env) (s:Shared) (H:Hp) (vs:List V) (Q:VK) (E:XK),Room k (A.deeper (envOfC qual scope s.heap.objs.size f cdv))→sp vs H Q E →
      ∃ t,PSs (cxOf CX P w K mg base N qual scope f cdv A outer s H E) body t∧t { nx:=fun _ H'=>Q .non H',rt:=Q } (start N vs) H) :
    FnOk P w K mg base CX (k+1) f (PySem.W.fnOf name qual params body scope dV kV doc pm an cdv ct) ps sp:=by
  refine ⟨len,fun A outer s H args us vs Q E hr e0 hb r hsp=>?_⟩
  have hl:=len _ _ _ _ hsp
  have KX:K.In s.heap:=e0.mod.kin.keeps fun b o e=>(e0.bs b o e).1
  have lim:s.heap.NoLimit:=e0.mod.nolimit.keeps fun b o e=>(e0.bs b o e).1
  have hkind:∀ y ∈ ps.zip us,scope.names.lookup y.1=some .local∨(scope.names.lookup y.1=some .cell∧((cellsFrom (s.heap.objs.size+1) scope.names []).lookup y.1).isSome=true):=fun ⟨n,v⟩ hy=>by
    rcases S.par n (List.of_mem_zip hy).1 with q | q
    · exact .inl q
    · exact .inr ⟨q,PySem.W.cellsFrom_some _ _ _ (.inl q)⟩
  refine codeAny_call_function hr.depth (KX _ _ lk) rfl S.co S.gen rfl (PySem.W.codeRec_of KX hcd) (hb _ _ _ _ ?_)
  refine wpAny_newFunctionEnv_cells S.kind hkind fun env he s1 x=>?_
  subst he
  refine ⟨lim.keeps x.toInCall.keep,codeAny_func ?_⟩
  obtain ⟨t,ht,hq⟩:=hbody A outer s H vs Q E (hr.deeper _) hsp
  have I:Inv (cxOf CX P w K mg base N qual scope f cdv A outer s H E) [] (start N vs) H s1:=inv_start S hr.hd e0 hl r x
  refine wpAny_mono (ht [] s1 (start N vs) H _ I hq) (fun fl s' hs=>?_) fun e s' hs=>hs
  have fin:∀ {σ' : St} {H' : Hp} {v:V} {u:Value},Inv (cxOf CX P w K mg base N qual scope f cdv A outer s H E) [] σ' H' s'→RelV v u→Q v H'→CE outer P w H s Q u s' :=
    fun {σ' H' v u} J rv q=>⟨v,H',J.os,J.bare,J.base,J.hok,rv,q⟩
  cases fl with
  | ret u =>
    obtain ⟨v,σ',H',J,rv,q⟩:=hs
    exact fin J rv q
  | next =>
    obtain ⟨σ',H',J,q⟩:=hs
    exact fin (v:=V.non) (u:=Value.none) J rfl q
  | brk =>
    obtain ⟨_,_,_,q⟩:=hs
    exact False.elim q
  | cont =>
    obtain ⟨_,_,_,q⟩:=hs
    exact False.elim q
end L2
namespace L2
open PySem PySem.Spec PyProof.Rows
section
variable {X:Cx} {x:Str} {p pos:Pos} {e:Expr} {es:List Expr} {t:TA} {id T:String} {r:List V→Hp→VK→Prop}
def tCB (r:List V→Hp→VK→Prop) (t:TA):TE:=fun σ H Q=>t σ H fun vs H1=>r vs H1 Q
theorem pe_callB (hc:CallR X (.builtin id) r) (hg:Gl X x) (hm:X.mg x=none) (hv:bootBuiltins x=some (.builtin id)) (ha:PA X (e :: es) t) (hn:x ≠ "__name__" := by decide) (hdb:(x == ("__debug__" : Str))=false:=by decide)
    (he:starEach (e :: es) X.env=(false,eval e X.env) :: starEach es X.env:=by rfl) (hpl:(backTo pos (starEach es X.env)).any (·.1)=false:=by rfl):PE X (.Call (.Name x p) (e :: es) [] pos) (tCB r t):=by
  intro pins s σ H Q I h
  refine wpAny_Call_Name_kw (ld_blt I hg hm hv ?_ hn hdb)
  exact PyProof.Rows.callWith_builtin1 (thn (ha pos pins s σ H _ I h) fun us s1 ⟨vs,H1,I1,r1,q1⟩=>hc pins s1 σ H1 vs us Q I1 r1 q1) he hpl
theorem pe_callTy (hc:CallR X (.type T) r) (hg:Gl X x) (hm:X.mg x=none) (hv:bootBuiltins x=some (.type T)) (ha:PA X (e :: es) t) (hn:x ≠ "__name__" := by decide) (hdb:(x == ("__debug__" : Str))=false:=by decide)
    (he:starEach (e :: es) X.env=(false,eval e X.env) :: starEach es X.env:=by rfl) (hpl:(backTo pos (starEach es X.env)).any (·.1)=false:=by rfl):PE X (.Call (.Name x p) (e :: es) [] pos) (tCB r t):=by
  intro pins s σ H Q I h
  refine wpAny_Call_Name_kw (ld_blt I hg hm hv ?_ hn hdb)
  exact PyProof.Rows.callWith_type1 (thn (ha pos pins s σ H _ I h) fun us s1 ⟨vs,H1,I1,r1,q1⟩=>hc pins s1 σ H1 vs us Q I1 r1 q1) he hpl
end
end L2
namespace HT
open PySem PyProof.Rows
section
open PySem.SeqAt
open PySem.AutoSeq1 (wpAny_loadPart')
open PySem.MeetsSeq PySem.MeetsSeq2 PySem.MeetsSeq3
end
section
variable {prog:Program} {w:World} {A:Around} {E:Value→Shared→Prop} {s:Shared}
def sIx (n d:Nat):Option Int→Nat
  | none=>d
  | some v=>if v < 0 then (v+(n:Int)).toNat else min v.toNat n
end
end HT
namespace L2
open PySem PySem.Spec PyProof.Rows
abbrev TO:=St→Hp→(Option Int→Hp→Prop)→Prop
def PO (X:Cx) (e:Option Expr) (t:TO):Prop :=
  ∀ (pins:List (Addr × Obj)) (s:Shared) (σ:St) (H:Hp) (Q:Option Int→Hp→Prop),Inv X pins σ H s→t σ H Q →
    wpAny (model X.prog X.w) X.A (evalPart e X.env) (fun u s'=>∃ o H',Inv X pins σ H' s'∧IsPart u o∧Q o H') X.xe s
def tNoPart:TO:=fun _ H Q=>Q none H
inductive tPartq  (Q:Option Int→Hp→Prop) (x:V) (H1:Hp):Prop
  | mk (i:_) (_:x=.int i) (_:Q (some i) H1):tPartq Q x H1
def tPart (t:TE):TO:=fun σ H Q=>t σ H fun x H1=>tPartq Q x H1
section
variable {X:Cx} {e:Expr} {te:TE} {lo hi:Option Expr} {tl th:TO} {pos p2:Pos}
theorem po_none:PO X none tNoPart:=by
  intro pins s σ H Q I h
  rw [evalPart_none]
  exact wpAny_pure ⟨none,H,I,.none,h⟩
theorem po_some (h:PE X e te):PO X (some e) (tPart te):=by
  intro pins s σ H Q I hw
  rw [evalPart_some]
  refine thn (h pins s σ H _ I hw) fun u s1 ⟨x,H1,I1,r1,q1⟩=>?_
  obtain ⟨i,rfl,q⟩:=q1
  obtain ⟨t,rfl⟩:=r1
  exact ⟨some i,H1,I1,.int i t,q⟩
def SlR (X:Cx) (r:V→Option Int→Option Int→Hp→VK→Prop):Prop :=
  ∀ (pins:List (Addr × Obj)) (s:Shared) (σ:St) (H:Hp) (x:V) (v vl vu:Value) (lo hi:Option Int) (sl:Addr) (Q:VK),Inv X pins σ H s→RelV x v→s.heap.IsSliceOf sl vl vu .none→IsPart vl lo→IsPart vu hi→r x lo hi H Q →
    ∃ T id,typeLookup (.type T) "__getitem__" = pure (some (.builtin id))∧s.TypeIs v T∧wpAny (model X.prog X.w) X.A (getItem v (.ref sl)) (EP X pins σ Q) X.xe s
def tSl (r:V→Option Int→Option Int→Hp→VK→Prop) (te:TE) (tl th:TO):TE:=fun σ H Q=>te σ H fun x H1=>tl σ H1 fun l H2=>th σ H2 fun u H3=>r x l u H3 Q
theorem pe_slice {r:V→Option Int→Option Int→Hp→VK→Prop} (hr:SlR X r) (he:PE X e te) (hl:PO X lo tl) (hu:PO X hi th):PE X (.Subscript e (.Slice lo hi none p2) pos) (tSl r te tl th):=by
  intro pins s σ H Q I h
  refine Subscript_ (thn (he pins s σ H _ I h) fun v s1 ⟨x,H1,I1,r1,q1⟩=>?_)
  refine wpAny_Slice (thn (hl pins s1 σ H1 _ I1 q1) fun vl s2 ⟨l,H2,I2,pl,q2⟩=>thn (hu pins s2 σ H2 _ I2 q2) fun vu s3 ⟨u,H3,I3,pu,q3⟩=>?_)
  rw [evalPart_none]
  refine wpAny_pure ?_
  have I4:Inv X pins σ H3 { s3 with heap:=s3.heap.push { cls:=.type "slice",data:=.fields #[vl,vu,.none] } }:=I3.kept (t':=s3.toks) fun b ob q=>Heap.get?_push_of_some _ q
  obtain ⟨T,id,hT,ht,hg⟩:=hr pins { s3 with heap:=s3.heap.push { cls:=.type "slice",data:=.fields #[vl,vu,.none] } } σ H3 x v vl vu l u s3.heap.objs.size Q I4 r1 (Heap.IsSliceOf.new ..) pl pu q3
  show wpAny (model X.prog X.w) X.A (subscriptTail e (.Slice lo hi none p2) v (.ref s3.heap.objs.size)) (EP X pins σ Q) X.xe { s3 with heap:=s3.heap.push { cls:=.type "slice",data:=.fields #[vl,vu,.none] } }
  exact tail_any (ops:=[.ref s3.heap.objs.size,v]) ht hT hg (by with_unfolding_all rfl)
def cutV (xs:List V) (lo hi:Option Int):List V:=(xs.drop (HT.sIx xs.length 0 lo)).take (HT.sIx xs.length xs.length hi - HT.sIx xs.length 0 lo)
theorem cutV_length (xs:List V) (lo hi:Option Int):(cutV xs lo hi).length≤xs.length:=by
  unfold cutV
  rw [List.length_take,List.length_drop]
  omega
end
end L2
namespace L2
open PySem PySem.Spec PyProof.Rows
def ixN (n:Nat) (i:Int):Option Nat:=if 0≤i then (if i < n then some i.toNat else none) else if -(n:Int)≤i then some (i+n).toNat else none
def atI {α:Type} (xs:List α) (i:Int):Option α:=(ixN xs.length i).bind fun j=>xs[j]?
theorem ixN_seq {n:Nat} {i:Int} {j:Nat} (h:ixN n i=some j):seqIndex? i n=some j∧j < n∧-(n:Int)≤i∧i < n:=by
  unfold ixN at h
  by_cases h0:0≤i
  · rw [if_pos h0] at h
    by_cases h1:i < n
    · rw [if_pos h1] at h
      have e:i.toNat=j:=Option.some.inj h
      exact ⟨by rw [seqIndex_of h0 h1,e],by omega,by omega,h1⟩
    · rw [if_neg h1] at h;cases h
  · rw [if_neg h0] at h
    by_cases h1 : -(n:Int)≤i
    · rw [if_pos h1] at h
      have e:(i+n).toNat=j:=Option.some.inj h
      exact ⟨by rw [seqIndex_neg (by omega) h1,e],by omega,h1,by omega⟩
    · rw [if_neg h1] at h;cases h
theorem atI_get {α:Type} {xs:List α} {i:Int} {v:α} (h:atI xs i=some v):∃ j,seqIndex? i xs.length=some j∧xs[j]?=some v∧j < xs.length∧-(xs.length:Int)≤i∧i < xs.length:=by
  unfold atI at h
  cases e:ixN xs.length i with
  | none=>rw [e] at h;cases h
  | some j =>
    rw [e] at h
    obtain ⟨h1,h2,h3,h4⟩:=ixN_seq e
    exact ⟨j,h1,h,h2,h3,h4⟩
theorem atI_nat {α:Type} {xs:List α} {j:Nat} {v:α} (h:xs[j]?=some v):atI xs (j:Int)=some v:=by
  have hj:j < xs.length:=(List.getElem?_eq_some_iff.mp h).1
  have e:ixN xs.length (j:Int)=some j:=by
    unfold ixN
    rw [if_pos (by omega),if_pos (by omega)];simp
  unfold atI;rw [e];exact h
theorem atI_last {α:Type} (xs:List α) (v:α):atI (xs ++ [v]) (-1)=some v:=by
  have hl:(xs ++ [v]).length=xs.length+1:=by simp
  have e:ixN (xs ++ [v]).length (-1)=some xs.length:=by
    unfold ixN
    rw [hl,if_neg (by decide),if_pos (by omega)]
    congr 1
    omega
  unfold atI
  rw [e]
  show (xs ++ [v])[xs.length]?=some v
  simp
def PlainIx (b:Expr):Prop:=∀ o i,subscripted b false o i=operate [o,i] (getItem o i)
def IxR (X:Cx) (r:R2):Prop :=
  ∀ (value slice:Expr) (pins:List (Addr × Obj)) (s:Shared) (σ:St) (H:Hp) (x y:V) (v u:Value) (Q:VK),Inv X pins σ H s→RelV x v→RelV y u→r x y H Q →
    subscripted slice false v u=operate [v,u] (getItem v u)→wpAny (model X.prog X.w) X.A (subscriptTail value slice v u) (EP X pins σ Q) X.xe s
def MtR (X:Cx) (id:String) (r:V→List V→Hp→VK→Prop):Prop :=
  ∀ (pins:List (Addr × Obj)) (s:Shared) (σ:St) (H:Hp) (x:V) (xs:List V) (v:Value) (us:List Value) (Q:VK),Inv X pins σ H s→RelV x v→Vals xs us→r x xs H Q →
    wpAny (model X.prog X.w) X.A (call (.builtin id) (v :: us)) (EP X pins σ Q) X.xe s
section
variable {X:Cx} {a b:Expr} {ta tb:TE} {pos:Pos}
theorem pe_ix {r:R2} (hr:IxR X r) (ha:PE X a ta) (hb:PE X b tb) (hs:PlainIx b):PE X (.Subscript a b pos) (tOp r ta tb):=by
  intro pins s σ H Q I h
  exact Subscript_ (binT ha hb I h fun v u s2 x y H2 I2 rx ry q=>hr a b pins s2 σ H2 x y v u Q I2 rx ry q (hs _ _))
inductive rIxL (K:PySem.W.Frag) (x:V) (y:V) (H:Hp) (Q:VK):Prop
  | mk (p xs i v:_) (_:x=.ref p) (_:y=.int i) (_:SqL K H p xs) (_:atI xs i=some v) (_:Q v H):rIxL K x y H Q
inductive rIxT (K:PySem.W.Frag) (x:V) (y:V) (H:Hp) (Q:VK):Prop
  | mk (p xs i v:_) (_:x=.ref p) (_:y=.int i) (_:SqT K H p xs) (_:atI xs i=some v) (_:Q v H):rIxT K x y H Q
theorem ix_list:IxR X (rIxL X.K):=by
  intro value slice pins s σ H x y v u Q I rx ry h hs
  obtain ⟨p,xs,i,z,rfl,rfl,hq,he,q⟩:=h
  cases rx
  obtain ⟨t,rfl⟩:=ry
  obtain ⟨its,r,pl,hz⟩:=I.list hq
  obtain ⟨j,h1,h2,h3,h4,h5⟩:=atI_get he
  obtain ⟨w,ew,rw'⟩:=r.get h2
  have hl:=r.length
  have hn:=line63
  have fin:EP X pins σ Q w s:=⟨z,H,I,rw',q⟩
  by_cases h0:0≤i
  · have hj:i.toNat=j:=by
      rw [seqIndex_of h0 h5] at h1
      exact Option.some.inj h1
    exact item_listR pl.isList h0 (by omega) (by rw [hj];simpa using ew) fin hs
  · have hj:(i+(its.toArray.size:Int)).toNat=j:=by
      rw [seqIndex_neg (by omega) h4] at h1
      rw [List.size_toArray,← hl]
      exact Option.some.inj h1
    exact subscriptTail_builtinR (x:=w) pl.isList.typeIs slot_list_getitem.lookup
      (wpAny_getItem_list_neg (Q:=fun r s'=>r=w∧EP X pins σ Q r s') pl.isList (by omega) (by rw [List.size_toArray] <;> omega) (by omega) (by rw [hj];simpa using ew) ⟨rfl,fin⟩) hs
theorem ix_tup:IxR X (rIxT X.K):=by
  intro value slice pins s σ H x y v u Q I rx ry h hs
  obtain ⟨p,xs,i,z,rfl,rfl,hq,he,q⟩:=h
  cases rx
  obtain ⟨t,rfl⟩:=ry
  obtain ⟨its,r,pl,hz⟩:=I.tuple hq
  obtain ⟨j,h1,h2,h3,h4,h5⟩:=atI_get he
  obtain ⟨w,ew,rw'⟩:=r.get h2
  have hl:=r.length
  have hn:=line63
  have fin:EP X pins σ Q w s:=⟨z,H,I,rw',q⟩
  exact subscriptTail_builtinR (x:=w) pl.typeIs slot_tuple_getitem.lookup
    (getItem_tuple (j:=j) (Q:=fun r s'=>r=w∧EP X pins σ Q r s') pl (by omega) (by omega) (by rw [List.size_toArray,← hl];exact h1) (by simpa using ew) ⟨rfl,fin⟩) hs
theorem slice_bounds (lo hi:Option Int) (n:Nat):(sliceBounds lo hi none n).1=((HT.sIx n 0 lo:Nat):Int)∧(sliceBounds lo hi none n).2.1=((HT.sIx n n hi:Nat):Int)∧(sliceBounds lo hi none n).2.2=1:=by
  refine ⟨?_,?_,rfl⟩
  · cases lo with
    | none=>simp [sliceBounds,HT.sIx]
    | some i =>
      simp only [sliceBounds,HT.sIx,Option.getD_none,show (1:Int) > 0 by decide,if_true]
      by_cases h:i < 0
      · simp only [h,if_true] <;> omega
      · simp only [h,if_false] <;> omega
  · cases hi with
    | none=>simp [sliceBounds,HT.sIx]
    | some i =>
      simp only [sliceBounds,HT.sIx,Option.getD_none,show (1:Int) > 0 by decide,if_true]
      by_cases h:i < 0
      · simp only [h,if_true] <;> omega
      · simp only [h,if_false] <;> omega
theorem slicePick_cut (its:List Value) (lo hi:Option Int):slicePick its.toArray lo hi none=((its.drop (HT.sIx its.length 0 lo)).take (HT.sIx its.length its.length hi - HT.sIx its.length 0 lo)).toArray:=by
  obtain ⟨h1,h2,h3⟩:=slice_bounds lo hi its.toArray.size
  unfold slicePick
  rw [h1,h2,h3]
  simp only [sliceRange_one,pick_run,List.size_toArray] <;> rfl
inductive rSlL (K:PySem.W.Frag) (x:V) (lo:Option Int) (hi:Option Int) (H:Hp) (Q:VK):Prop
  | mk (a xs:_) (_:x=.ref a) (_:SqL K H a xs) (_:∀ p,H p=none→Q (.ref p) (upd H p (.lst (cutV xs lo hi)))):rSlL K x lo hi H Q
theorem sl_list:SlR X (rSlL X.K):=by
  intro pins s σ H x v vl vu lo hi sl Q I rx hs pl pu h
  obtain ⟨a,xs,rfl,hx,q⟩:=h
  cases rx
  obtain ⟨its,r,ht,hz⟩:=I.list hx
  have hlen:=r.length
  refine ⟨"list",_,slot_list_getitem.lookup,ht.isList.typeIs,?_⟩
  refine wpAny_getItem_list_slice ht.isList hs pl pu .none (by simp) ?_ (by rw [List.size_toArray] <;> omega)
  rw [slicePick_cut,← hlen]
  refine ⟨.ref s.heap.objs.size,_,I.laid (t':=s.toks) (o:=.lst (cutV xs lo hi)) (fun b ob q=>Heap.get?_push_of_some _ q) (Nat.le_refl _) ?_,rfl,q _ (I.hok.fresh (Nat.le_refl _))⟩
  exact ⟨Nat.le_trans (cutV_length xs lo hi) hz,_,0,(r.drop (HT.sIx xs.length 0 lo)).take (HT.sIx xs.length xs.length hi - HT.sIx xs.length 0 lo),Heap.get?_push_size _ rfl⟩
def flatV:V→Bool
  | .non=>true
  | .bl _=>true
  | .int _=>true
  | .str _=>true
  | _=>false
def eqV:V→V→Bool
  | .non,.non=>true
  | .bl a,.bl b=>a == b
  | .bl a,.int b=>(if a then 1 else 0) == b
  | .int a,.bl b=>a == (if b then 1 else 0)
  | .int a,.int b=>a == b
  | .str a,.str b=>a == b
  | _,_=>false
theorem eqAt_V {A:Around} {s:Shared} {y x:V} {u v:Value} (ry:RelV y u) (rx:RelV x v) (fy:flatV y=true) (fx:flatV x=true):SeqAt.EqAt A s u v (eqV y x):=by
  cases y with
  | non =>
    cases ry
    cases x with
    | non=>cases rx;exact SeqAt.EqAt.same _
    | bl b=>cases rx;exact SeqAt.EqAt.none_bool b
    | int b=>obtain ⟨t,rfl⟩:=rx;exact SeqAt.EqAt.none_int b t
    | str b=>obtain ⟨t,rfl⟩:=rx;exact SeqAt.EqAt.none_str b t
    | _=>exact absurd (show false=true from fx) Bool.false_ne_true
  | bl a =>
    cases ry
    cases x with
    | non=>cases rx;exact SeqAt.EqAt.bool_none a
    | bl b=>cases rx;exact SeqAt.EqAt.bool_bool a b
    | int b=>obtain ⟨t,rfl⟩:=rx;exact SeqAt.EqAt.bool_int a b t
    | str b=>obtain ⟨t,rfl⟩:=rx;exact SeqAt.EqAt.bool_str a b t
    | _=>exact absurd (show false=true from fx) Bool.false_ne_true
  | int a =>
    obtain ⟨t',rfl⟩:=ry
    cases x with
    | non=>cases rx;exact SeqAt.EqAt.int_none a t'
    | bl b=>cases rx;exact SeqAt.EqAt.int_bool a t' b
    | int b=>obtain ⟨t,rfl⟩:=rx;exact SeqAt.EqAt.int_int a t' b t
    | str b=>obtain ⟨t,rfl⟩:=rx;exact SeqAt.EqAt.int_str a t' b t
    | _=>exact absurd (show false=true from fx) Bool.false_ne_true
  | str a =>
    obtain ⟨t',rfl⟩:=ry
    cases x with
    | non=>cases rx;exact SeqAt.EqAt.str_none a t'
    | bl b=>cases rx;exact SeqAt.EqAt.str_bool a t' b
    | int b=>obtain ⟨t,rfl⟩:=rx;exact SeqAt.EqAt.str_int a t' b t
    | str b=>obtain ⟨t,rfl⟩:=rx;exact SeqAt.EqAt.str_str a t' b t
    | _=>exact absurd (show false=true from fx) Bool.false_ne_true
  | _=>exact absurd (show false=true from fy) Bool.false_ne_true
theorem call_len_seq:CallR X (.builtin "len") (fun xs H Q=>∃ p ys,xs=[.ref p]∧(SqL X.K H p ys∨SqT X.K H p ys)∧Q (.int ys.length) H):=by
  intro pins s σ H xs us Q I r h
  obtain ⟨p,ys,rfl,hq,q⟩:=h
  obtain ⟨u,rfl,rx⟩:=vals1 r
  cases rx
  have hn:=line63
  rcases hq with hq | hq
  · obtain ⟨its,r',pl,hz⟩:=I.list hq
    have hlen:=r'.length
    exact Calls.call_len_list pl.isList (by simp only [List.size_toArray] <;> omega) ⟨.int ys.length,H,I.tok _,⟨s.toks+1,by rw [List.size_toArray,hlen]⟩,q⟩
  · obtain ⟨its,r',pl,hz⟩:=I.tuple hq
    have hlen:=r'.length
    exact len_tuple pl (by simp only [List.size_toArray] <;> omega) ⟨.int ys.length,H,I.tok _,⟨s.toks+1,by rw [List.size_toArray,hlen]⟩,q⟩
theorem call_list_of:CallR X (.type "list") (fun xs H Q=>∃ p ys,xs=[.ref p]∧(SqL X.K H p ys∨SqT X.K H p ys)∧∀ l,H l=none→Q (.ref l) (upd H l (.lst ys))):=by
  intro pins s σ H xs us Q I r h
  obtain ⟨p,ys,rfl,hq,q⟩:=h
  obtain ⟨u,rfl,rx⟩:=vals1 r
  cases rx
  have fin:∀ (its:List Value),Vals ys its→ys.length≤sizeLine→∀ (h' : Heap) (c' : Nat),(∀ b o',s.heap.get? b=some o'→h'.get? b=some o') →
      h'.get? s.heap.objs.size=some { cls:=.type "list",dict:=none,data:=.seq its.toArray c',slots:=#[] }→EP X pins σ Q (.ref s.heap.objs.size) { s with heap:=h' }:=fun its r' hz h' c' kp e =>
    ⟨.ref s.heap.objs.size,_,I.laid (t':=s.toks) kp (Nat.le_refl _) (show ObjOk X.prog X.w _ h' _ (.lst ys) from ⟨hz,its,c',r',e⟩),rfl,q _ (I.hok.fresh (Nat.le_refl _))⟩
  rcases hq with hq | hq
  · obtain ⟨its,r',pl,hz⟩:=I.list hq
    have hlen:=r'.length
    obtain ⟨o,ho,hc,n,hd⟩:=pl.isList
    exact call_list_seq p (.inl rfl) ho hc hd (fun h' c' kp e=>fin its r' hz h' c' kp e) (by simp only [List.size_toArray] <;> omega)
  · obtain ⟨its,r',pl,hz⟩:=I.tuple hq
    have hlen:=r'.length
    obtain ⟨o,ho,hc,n,hd⟩:=pl
    exact call_list_seq p (.inr rfl) ho hc hd (fun h' c' kp e=>fin its r' hz h' c' kp e) (by simp only [List.size_toArray] <;> omega)
def tyV (K:PySem.W.Frag) (T:String) (x:V) (H:Hp):Prop:=match x with
  | .str _=>T = "str"
  | .int _=>T = "int"
  | .ref p=>(T = "list" ∧ ∃ xs,SqL K H p xs)∨(T = "tuple" ∧ ∃ o,K.lookup p=some o∧o.cls=.type "tuple" ∧ o.dict=none) ∨
      (T = "dict" ∧ ((∃ kvs,H p=some (.dK kvs))∨∃ kvs,H p=some (.dT kvs)))∨(T = "set" ∧ ∃ S n,H p=some (.set S n))
  | _=>False
theorem tyV_is {pins:List (Addr × Obj)} {σ:St} {H:Hp} {s:Shared} {T:String} {x:V} {v:Value} (I:Inv X pins σ H s) (r:RelV x v) (ty:tyV X.K T x H) :
    s.TypeIs v T∧∀ a,v=.ref a→∃ ob,s.heap.get? a=some ob∧ob.dict=none:=by
  cases x with
  | str z =>
    obtain ⟨t,rfl⟩:=r
    cases (show T = "str" from ty)
    exact ⟨typeIs_str s z t,fun _ e=>nomatch e⟩
  | int i =>
    obtain ⟨t,rfl⟩:=r
    cases (show T = "int" from ty)
    exact ⟨typeIs_int s i t,fun _ e=>nomatch e⟩
  | ref p =>
    cases r
    rcases ty with ⟨rfl,xs,hq⟩ | ⟨rfl,o,hk,hc,hd⟩ | ⟨rfl,hk⟩ | ⟨rfl,S,n,hk⟩
    · obtain ⟨its,_,pl,_⟩:=I.list hq
      refine ⟨pl.isList.typeIs,fun a e=>?_⟩
      cases e
      obtain ⟨o,n,e,c,hd,_⟩:=pl
      exact ⟨o,e,hd⟩
    · refine ⟨⟨o,I.kIn p o hk,hc⟩,fun a e=>?_⟩
      cases e
      exact ⟨o,I.kIn _ o hk,hd⟩
    · have z:∃ o,s.heap.get? p=some o∧o.ExactDict:=by
        rcases hk with ⟨kvs,hk⟩ | ⟨kvs,hk⟩
        · obtain ⟨_,_,_,_,o,_,_,e,ex,_⟩:=I.hok p _ hk
          exact ⟨o,e,ex⟩
        · obtain ⟨_,_,_,_,o,_,_,e,ex,_⟩:=I.hok p _ hk
          exact ⟨o,e,ex⟩
      obtain ⟨o,e,ex⟩:=z
      refine ⟨⟨o,e,ex.1⟩,fun a e2=>?_⟩
      cases e2
      exact ⟨o,e,ex.2.1⟩
    · obtain ⟨o,_,_,_,e,ex,_⟩:=I.hok p _ hk
      refine ⟨⟨o,e,ex.1⟩,fun a e2=>?_⟩
      cases e2
      exact ⟨o,e,ex.2.1⟩
  | _=>exact False.elim ty
def tBM0 (K:PySem.W.Frag) (T:String) (r:V→List V→Hp→VK→Prop) (to:TE):TE:=fun σ H Q=>to σ H fun x H1=>tyV K T x H1∧r x [] H1 Q
def tBM (K:PySem.W.Frag) (T:String) (r:V→List V→Hp→VK→Prop) (to:TE) (t:TA):TE:=fun σ H Q=>to σ H fun x H1=>tyV K T x H1∧t σ H1 fun xs H2=>r x xs H2 Q
variable {o e:Expr} {es:List Expr} {to:TE} {t:TA} {name:Str} {apos cpos:Pos} {T id:String} {r:V→List V→Hp→VK→Prop}
theorem pe_bm0 (pa:PlainAttrs T) (slot:Slot T name id) (hty:typeOf (.builtin id)=pure (.type "method_descriptor")) (hm:MtR X id r) (ho:PE X o to)
    (hbase:attributeBase o name X.env (eval o X.env)=eval o X.env:=by rfl) (hline:(apos.endLine == cpos.line)=true:=by rfl):PE X (.Call (.Attribute o name apos) [] [] cpos) (tBM0 X.K T r to):=by
  intro pins s σ H Q I h
  refine wpAny_Call_method0_late hbase hline (thn (ho pins s σ H _ I h) fun v s1 ⟨x,H1,I1,r1,ty,q1⟩=>?_)
  obtain ⟨h1,h2⟩:=tyV_is I1 r1 ty
  exact ⟨T,id,pa,slot,hty,h1,h2,Calls.callWith_builtin rfl (PySem.evalArgs_none (hm pins s1 σ H1 x [] v [] Q I1 r1 .nil q1))⟩
theorem pe_bm (pa:PlainAttrs T) (slot:Slot T name id) (hty:typeOf (.builtin id)=pure (.type "method_descriptor")) (hm:MtR X id r) (ho:PE X o to) (ha:PA X (e :: es) t)
    (hbase:attributeBase o name X.env (eval o X.env)=eval o X.env:=by rfl)
    (hfew:((backTo cpos (starEach (e :: es) X.env)).all (fun x=>!x.1) && (backToKw cpos (keywordEach [] X.env)).all (fun x=>x.1.isSome)
      && decide ((e :: es).length+([]:List Keyword).length+(if ([]:List Keyword).isEmpty then 0 else 1) < 30))=true:=by rfl)
    (hline:(apos.endLine == cpos.line)=true:=by rfl) (hs:starEach (e :: es) X.env=(false,eval e X.env) :: starEach es X.env:=by rfl) (hplain:(backTo cpos (starEach es X.env)).any (·.1)=false:=by rfl) :
    PE X (.Call (.Attribute o name apos) (e :: es) [] cpos) (tBM X.K T r to t):=by
  intro pins s σ H Q I h
  refine wpAny_Call_method_late hbase hfew hline rfl (thn (ho pins s σ H _ I h) fun v s1 ⟨x,H1,I1,r1,ty,q1⟩=>?_)
  obtain ⟨h1,h2⟩:=tyV_is I1 r1 ty
  refine ⟨T,id,pa,slot,hty,h1,h2,?_⟩
  have hA:=ha cpos pins s1 σ H1 _ I1 q1
  rw [hs] at hA ⊢
  refine Calls.callWith_builtin (by show (false || (backTo cpos (starEach es X.env)).any (·.1))=false;rw [hplain] <;> rfl) (Calls.evalArgs_plain ?_)
  exact thn hA fun us s2 ⟨vs,H2,I2,r2,q2⟩=>hm pins s2 σ H2 x vs v us Q I2 r1 r2 q2
end
end L2
namespace L2
open PySem PySem.Spec PyProof.Rows
def MtM (X:Cx) (id:String) (r:V→List V→Hp→VK→Prop):Prop :=
  ∀ (pins:List (Addr × Obj)) (s:Shared) (σ:St) (H:Hp) (x:V) (xs:List V) (v:Value) (us:List Value) (Q:VK),Inv X pins σ H s→RelV x v→Vals xs us→r x xs H Q →
    wpAny (model X.prog X.w) X.A (call (.builtin id) (v :: us)) (EP X pins σ Q) X.xe s
theorem Vals.one:∀ {x:V} {us:List Value},Vals [x] us→∃ u,us=[u]∧RelV x u
  | _,_,.cons r .nil=>⟨_,rfl,r⟩
theorem Vals.zero:∀ {us:List Value},Vals [] us→us=[]
  | _,.nil=>rfl
theorem Vals.dropLast {xs:List V} {us:List Value} (h:Vals xs us):Vals xs.dropLast us.dropLast:=by
  induction h with
  | nil=>exact .nil
  | cons r t ih =>
    cases t with
    | nil=>exact .nil
    | cons q t'=>exact .cons r ih
theorem erase_last {α:Type} (l:List α):l.eraseIdx (l.length - 1)=l.dropLast:=by
  induction l with
  | nil=>rfl
  | cons a r ih =>
    cases r with
    | nil=>rfl
    | cons b r =>
      have e:(a :: b :: r).length - 1=((b :: r).length - 1)+1:=by
        have h1:(a :: b :: r).length=r.length+2:=rfl
        have h2:(b :: r).length=r.length+1:=rfl
        omega
      rw [e,List.eraseIdx_cons_succ,ih]
      all_goals rfl
section
variable {X:Cx} {pins:List (Addr × Obj)} {σ:St} {H:Hp} {s:Shared} {l b:Addr} {xs ys zs:List V}
theorem Inv.lset {its its' : List Value} {n:Nat} {f:Array Value→Array Value} {t' : Nat} (I:Inv X pins σ H s) (hH:H l=some (.lst xs))
    (e:s.heap.get? l=some { cls:=.type "list",data:=.seq its.toArray n }) (hf:f its.toArray=its'.toArray) (hv:Vals ys its') (hz:ys.length≤sizeLine) :
    Inv X pins σ (upd H l (.lst ys)) { s with heap:=s.heap.update l (Obj.mapSeq f),toks:=t' }:=by
  have q:=PySem.IsL.update e f
  rw [hf] at q
  refine I.write (x:=l) (e:=l) (by rw [hH];exact trivial) (.inl rfl) (fun b' u hb hu=>(Heap.get?_update_other s.heap (Obj.mapSeq f) (Ne.symm hb)).trans hu) ⟨_,q⟩ ?_
  exact ⟨hz,its',_,hv,q⟩
theorem Inv.fresh (I:Inv X pins σ H s):H s.heap.objs.size=none:=I.hok.fresh (Nat.le_refl _)
theorem Inv.lstM (I:Inv X pins σ H s) (hH:H l=some (.lst xs)):xs.length≤sizeLine∧∃ (its:List Value) (n:Nat),Vals xs its∧xs.length=its.length∧s.heap.get? l=some { cls:=.type "list",data:=.seq its.toArray n }:=by
  obtain ⟨z,its,n,r,e⟩:=I.hok l _ hH
  exact ⟨z,its,n,r,r.length,e⟩
end
section
variable {X:Cx}
inductive rAppend  (x:V) (vs:List V) (H:Hp) (Q:VK):Prop
  | mk (l xs y:_) (_:x=.ref l) (_:vs=[y]) (_:H l=some (.lst xs)) (_:xs.length < sizeLine) (_:Q .non (upd H l (.lst (xs ++ [y])))):rAppend x vs H Q
theorem mt_append:MtM X "list.append" rAppend:=by
  intro pins s σ H x vs v us Q I rx rv h
  obtain ⟨l,xs,y,rfl,rfl,hH,hz,q⟩:=h
  cases rx
  obtain ⟨u,rfl,ru⟩:=rv.one
  obtain ⟨z,its,n,r,hl,e⟩:=I.lstM hH
  refine call_meets F.slot_list_append ⟨_,e,rfl⟩ F.entry_list_append (F.args_list_append_2 _ _) (PySem.list_append l its.toArray n u (by rw [List.size_toArray];omega)) ⟨e,?_⟩
  refine ⟨.non,_,I.lset (its':=its ++ [u]) hH e (by simp) (r.append (.cons ru .nil)) ?_,rfl,q⟩
  rw [List.length_append,List.length_singleton]
  omega
inductive rPop  (x:V) (vs:List V) (H:Hp) (Q:VK):Prop
  | mk (l xs y:_) (_:x=.ref l) (_:vs=[]) (_:H l=some (.lst xs)) (_:xs[xs.length - 1]?=some y) (_:Q y (upd H l (.lst xs.dropLast))):rPop x vs H Q
theorem mt_pop:MtM X "list.pop" rPop:=by
  intro pins s σ H x vs v us Q I rx rv h
  obtain ⟨l,xs,y,rfl,rfl,hH,hy,q⟩:=h
  cases rx
  have hus:=rv.zero
  subst hus
  obtain ⟨z,its,n,r,hl,e⟩:=I.lstM hH
  obtain ⟨u,hu,ru⟩:=r.get hy
  have hy' : its.toArray[its.toArray.size - 1]?=some u:=by
    show its.toArray[its.length - 1]?=some u
    rw [← Array.getElem?_toList,← hl]
    exact hu
  refine call_meets F.slot_list_pop ⟨_,e,rfl⟩ F.entry_list_pop (F.args_list_pop_1 _) (MeetsSeq.list_pop_last l its.toArray n u hy' (by rw [List.size_toArray];omega)) ⟨e,?_⟩
  refine ⟨y,_,I.lset (its':=its.dropLast) hH e ?_ r.dropLast ?_,ru,q⟩
  · show its.toArray.eraseIdxIfInBounds (its.toArray.size - 1)=its.dropLast.toArray
    rw [List.size_toArray,List.eraseIdxIfInBounds_toArray,erase_last]
  · rw [List.length_dropLast]
    omega
end
section
variable {prog:Program} {w:World} {A:Around} {E:Value→Shared→Prop} {s:Shared}
end
section
variable {X:Cx}
end
end L2
namespace Att
open PySem PySem.W PySem.Calls PyProof.Rows
theorem ints_of_wellAll {P:Params} {h:Heap} : ∀ (ns:List Int) (vs:List Value),WellAll P h vs (ns.map WData.int)→IntsAre vs ns:=by
  intro ns
  induction ns with
  | nil =>
    intro vs w
    rw [List.map_nil] at w
    cases w
    exact .nil
  | cons n ns ih =>
    intro vs w
    rw [List.map_cons] at w
    cases w with
    | cons a b =>
      cases a
      exact .cons _ _ (ih _ b)
theorem script_of {l:OpenLaw} {n:Nat} (hn:l.most=some n) {P:Params} {h:Heap} {args:List WData} {vals:List Value}
    (hpre:l.row.toRowW.claim.pre args=true) (hwl:WellAll P h vals args) :
    ∃ a vs ns,vals=[Value.ref a]∧args=[WData.list (ns.map WData.int)]∧h.get? a=some { cls:=.type "list",data:=.seq vs.toArray }∧IntsAre vs ns∧ns.length≤n:=by
  have hsh:WShape.hasAll [] args [.list .int]=true:=(pre_splitW hpre).1
  have hc:l.pre.holds [] { args:=args } = true:=(pre_splitW hpre).2
  obtain ⟨d,r,rfl,h1,h2⟩:=hasAllW_cons hsh
  obtain rfl:=hasAllW_nil h2
  obtain ⟨xs,rfl,h3⟩:=hasW_list h1
  obtain ⟨ns,rfl⟩:=items_int h3
  have hlen:ns.length≤n:=by
    unfold OpenLaw.pre at hc
    have h4:(WTm.not (.lt (.lit (.int (n:Int))) (.len (.arg 0)))).holds [] { args:=[.list (ns.map .int)] } = true:=by
      have h4:=(holds_andW hc).1
      rw [hn] at h4
      exact h4
    have h5:=condW_of h4 (w_not (w_lt w_lit (w_len_list (w_arg rfl))))
    rw [List.length_map] at h5
    refine Nat.le_of_not_lt fun q=>?_
    have q' : (n:Int) < ((ns.length:Nat):Int):=by omega
    first
      | (rw [decide_eq_true q'] at h5;exact absurd h5 (by decide))
      | (simp at h5;omega)
  cases hwl with
  | cons w1 w2 =>
    cases w2
    cases w1 with
    | list ho hall=>exact ⟨_,_,ns,rfl,rfl,ho,ints_of_wellAll ns _ hall,hlen⟩
theorem post_true (l:OpenLaw) (args:List WData):l.row.toRowW.claim.post args (.bool true) args=true :=
  postW_of (r:=l.row.toRowW) (X:=(true == true))
    (show WShape.has [] (.bool true) .bool=true by first | rfl | decide | simp [WShape.has,WShape.arms,WShape.armsAll])
    (show (WTm.eq .res (.lit (.bool true))).value [] { args:=args,res:=some (.bool true),after:=args } = some (.bool (true == true)) from w_eq_bool (w_res rfl) w_lit) rfl
section
variable {prog:Program} {w:World} {A:Around} {E:Value→Shared→Prop} {s:Shared} {K:Frag}
end
end Att
namespace L2
open PySem PySem.Spec PyProof.Rows
theorem vals_ints:∀ {vs:List Value} {ns:List Int},IntsAre vs ns→Vals (ns.map V.int) vs
  | _,_,.nil=>.nil
  | _,_,.cons n t h=>.cons ⟨t,rfl⟩ (vals_ints h)
end L2
namespace L2
open PySem PySem.Spec PyProof.Rows
end L2
namespace L2
open PySem PySem.Spec PyProof.Rows
def defArgs (s:Stmt):Arguments:=match s with
  | .FunctionDef _ a _ _ _ _ _ _ _ _=>a
  | _=>{ posonlyargs:=[],args:=[],vararg:=none,kwonlyargs:=[],kw_defaults:=[],kwarg:=none,defaults:=[] }
def defBody (s:Stmt):List Stmt:=match s with
  | .FunctionDef _ _ b _ _ _ _ _ _ _=>b
  | _=>[]
def defScope (s:Stmt):Scope:=match s with
  | .FunctionDef _ _ _ _ _ _ sc _ _ _=>sc
  | _=>{ kind:=.function,names:=[],isGenerator:=false,isCoroutine:=false }
abbrev CX0:CXT:=fun _ _ _ _ _ _=>False
abbrev E0:XK:=fun _ _ _=>False
theorem pass0 {X:Cx} : Passes CX0 X E0:=fun _ _ _ _ _ _ _ h=>h.elim
structure Fun (K:PySem.W.Frag) (x qual:Str) (st:Stmt) (f:Addr) (fd:FuncData):Prop where
  ex:∃ (oc:Value) (od:Option Addr) (kV doc pm:Value) (an:Option Addr) (cdv ct:Value) (osl:Array (Option Value)),
    fd=PySem.W.fnOf x qual (defArgs st) (defBody st) (defScope st) .none kV doc pm an cdv ct∧K.lookup f=some ⟨oc,od,.func fd,osl⟩∧PySem.W.codeIn K cdv qual=true
  kp:PySem.W.keepIn K (.ref f)=true
section
variable {P:Program} {w:World} {K:PySem.W.Frag} {mg:Str→Option Value} {base:Heap}
theorem Fun.ok {x qual:Str} {st:Stmt} {f:Addr} {fd:FuncData} {N ps:List Str} {k:Nat} {sp:Sp} (F:Fun K x qual st f fd) (S:FnScope N ps (defScope st)) (len:∀ vs H Q E,sp vs H Q E→vs.length=ps.length)
    (hbody:∀ (cdv:Value) (A:Around) (outer:List Env) (s:Shared) (H:Hp) (vs:List V) (Q:VK) (E:XK),Room k (A.deeper (envOfC qual (defScope st) s.heap.objs.size f cdv))→sp vs H Q E →
      ∃ t,PSs (cxOf CX0 P w K mg base N qual (defScope st) f cdv A outer s H E).nox (defBody st) t∧t { nx:=fun _ H'=>Q .non H',rt:=Q } (start N vs) H):FnOk P w K mg base CX0 (k+1) f fd ps sp:=by
  obtain ⟨oc,od,kV,doc,pm,an,cdv,ct,osl,rfl,lk,hcd⟩:=F.ex
  refine fn_of lk hcd S len fun A outer s H vs Q E hr hsp=>?_
  obtain ⟨t,h,q⟩:=hbody cdv A outer s H vs Q E hr hsp
  exact ⟨t,h.nox,q⟩
theorem Fun.binds {x qual:Str} {st:Stmt} {f:Addr} {fd:FuncData} {ps:List Str} (F:Fun K x qual st f fd)
    (h:∀ (kV doc pm:Value) (an:Option Addr) (cdv ct:Value) (us:List Value),us.length=ps.length→bindArgs (PySem.W.fnOf x qual (defArgs st) (defBody st) (defScope st) .none kV doc pm an cdv ct) ⟨us,[]⟩=pure (ps.zip us)):Binds K fd ps []:=by
  obtain ⟨oc,od,kV,doc,pm,an,cdv,ct,osl,rfl,lk,hcd⟩:=F.ex
  exact .all (h kV doc pm an cdv ct)
theorem fun_mk {x qual:Str} {st:Stmt} {f:Addr} {oc:Value} {od an:Option Addr} {osl:Array (Option Value)} {kV doc pm cdv ct:Value} (l:K.lookup f=some ⟨oc,od,.func (PySem.W.fnOf x qual (defArgs st) (defBody st) (defScope st) .none kV doc pm an cdv ct),osl⟩)
    (c:PySem.W.codeIn K cdv qual=true) (k:PySem.W.keepIn K (.ref f)=true):Fun K x qual st f (PySem.W.fnOf x qual (defArgs st) (defBody st) (defScope st) .none kV doc pm an cdv ct):=⟨⟨oc,od,kV,doc,pm,an,cdv,ct,osl,rfl,l,c⟩,k⟩
end
theorem small1000 {n:Nat} (h:n≤1000):n < sizeLine:=Nat.lt_of_le_of_lt h (by decide)
section
variable {X:Cx}
theorem pv (i:Nat) {x:Str} {pos:Pos} (hN:X.N[i]?=some x:=by rfl) (hv:Vis X.env.scope x:=by first | exact Or.inl rfl | exact Or.inr (Or.inl rfl) | exact Or.inr (Or.inr rfl)) (hd:(x == ("__debug__" : Str))=false:=by decide)
    (hcd:(x == ("__classdict__" : Str))=false:=by decide):PE X (.Name x pos) (tVar i):=pe_var hN hv hd hcd
end
theorem iteF {A B:Prop} (h:B):if false=true then A else B:=by
  rw [if_neg Bool.false_ne_true]
  exact h
theorem iteT {A B:Prop} (h:A):if true=true then A else B:=by
  rw [if_pos rfl]
  exact h
theorem ite2 {c A B:Prop} [Decidable c] (h1:c→A) (h2:¬ c→B):if c then A else B:=by
  by_cases h:c
  · rw [if_pos h]
    exact h1 h
  · rw [if_neg h]
    exact h2 h
def Same (H H' : Hp):Prop:=∀ b o,H b=some o→H' b=some o
theorem Same.refl (H:Hp):Same H H:=fun _ _ h=>h
theorem Same.trans {H H1 H2:Hp} (a:Same H H1) (b:Same H1 H2):Same H H2:=fun c o h=>b c o (a c o h)
theorem Same.seq {K:PySem.W.Frag} {H H' : Hp} {a:Addr} {xs:List V} (e:Same H H') (h:SqL K H a xs):SqL K H' a xs:=by
  rcases h with (h | ⟨o,h⟩) | h
  · exact .inl (.inl (e _ _ h))
  · exact .inl (.inr ⟨o,e _ _ h⟩)
  · exact .inr h
end L2
set_option maxHeartbeats 4000000
namespace L2
abbrev Pr:=Int × Int
def inR (n:Int) (p:Pr):Bool:=decide (p.1≤n) && decide (n≤p.2)
def inP (ps:List Pr) (n:Int):Bool:=ps.any (inR n)
structure Apart (R:List Pr):Prop where
  le:∀ p ∈ R,p.1≤p.2
  gap:R.Pairwise fun p q=>p.2+2≤q.1
structure TidI (R qs:List Pr):Prop where
  ap:Apart R
  mem:∀ n,inP R n=inP qs n
  cov:∀ p ∈ qs,p.1≤p.2→∃ r ∈ R,r.1≤p.1∧p.2≤r.2
  low:∀ r ∈ R,∃ q ∈ qs,r.1=q.1
end L2
namespace L2
open PySem PySem.Spec PyProof.Rows
def Callee (P:Program) (w:World) (K:PySem.W.Frag) (mg:Str→Option Value) (base:Heap) (k:Nat) (x:Str) (ps:List Str) (sp:Sp):Prop :=
  ∃ f fd,FnOk P w K mg base CX0 k f fd ps sp∧Binds K fd ps []∧PySem.W.keepIn K (.ref f)=true∧mg x=some (.ref f)
theorem Callee.mono {P:Program} {w:World} {K:PySem.W.Frag} {mg:Str→Option Value} {base:Heap} {j k:Nat} {x:Str} {ps:List Str} {sp:Sp} (C:Callee P w K mg base j x ps sp) (h:j≤k):Callee P w K mg base k x ps sp:=by
  obtain ⟨f,fd,F,r⟩:=C
  exact ⟨f,fd,F.mono h,r⟩
section
variable {X:Cx} {k:Nat} {x:Str} {ps:List Str} {sp:Sp} {e:Expr} {es:List Expr} {t:TA} {p pos:Pos}
def tFn (sp:Sp) (t:TA):TE:=fun σ H Q=>t σ H fun vs H1=>sp vs H1 Q E0
theorem pe_fn (C:Callee X.prog X.w X.K X.mg X.base k x ps sp) (hr:Room k X.A) (hg:Gl X x) (ha:PA X (e :: es) t) (hdb:(x == ("__debug__" : Str))=false:=by decide)
    (he:starEach (e :: es) X.env=(false,eval e X.env) :: starEach es X.env:=by rfl) (hpl:(backTo pos (starEach es X.env)).any (·.1)=false:=by rfl):PE X (.Call (.Name x p) (e :: es) [] pos) (tFn sp t):=by
  obtain ⟨f,fd,F,b,kk,m⟩:=C
  have h:=pe_call (E:=E0) (dvs:=[]) (ds:=[]) (p:=p) F hr hg m kk b .nil pass0 ha hdb he hpl
  intro pins s σ H Q I q
  refine h pins s σ H Q I ?_
  have q' : t σ H fun vs H1=>sp vs H1 Q E0:=q
  have e1:(fun (vs:List V) (H1:Hp)=>sp (vs ++ []) H1 Q E0)=fun vs H1=>sp vs H1 Q E0:=by
    funext vs H1
    rw [List.append_nil]
  show t σ H fun vs H1=>sp (vs ++ []) H1 Q E0
  rw [e1]
  exact q'
end
def tCut (t u:TS):TS:=fun D σ H=>∃ M:St→Hp→Prop,t { D with nx:=M } σ H∧∀ σ' H',M σ' H'→u D σ' H'
theorem pss_cut {X:Cx} {st:Stmt} {rest:List Stmt} {t u:TS} (h1:PS X st t) (h2:PSs X rest u):PSs X (st :: rest) (tCut t u):=by
  intro pins s σ H D I ⟨M,a,b⟩
  refine wpAny_execs_cons (thn (h1 pins s σ H { D with nx:=M } I a) fun fl s1 q=>?_)
  cases fl with
  | next=>obtain ⟨σ',H',I',q⟩:=q;exact h2 pins s1 σ' H' D I' (b σ' H' q)
  | ret v=>exact q
  | brk=>exact q
  | cont=>exact q
section
variable {X:Cx}
theorem call_isinst:CallR X (.builtin "isinstance") (fun xs H Q=>∃ x T t b,xs=[x,.ty T]∧TyOf X.K H x t∧PySem.W.kitOne X.K t (.type T)=some b∧Q (.bl b) H):=by
  intro pins s σ H xs us Q I r h
  obtain ⟨x,T,t,b,rfl,ty,e,q⟩:=h
  cases r with
  | cons rx r2 =>
    cases r2 with
    | cons ry r3 =>
      cases r3
      cases (show _=Value.type T from ry)
      exact isinst_ok I rx ty e fun tk=>⟨.bl b,H,I.tok tk,rfl,q⟩
end
inductive EqI (K:PySem.W.Frag) (H:Hp):V→V→Bool→Prop where
  | flat {x y:V} (fx:flatV x=true) (fy:flatV y=true):EqI K H x y (eqV x y)
  | same (a:Addr):EqI K H (.ref a) (.ref a) true
  | tup {a b:Addr} {xs ys:List V} (ha:SqT K H a xs) (hb:SqT K H b ys) (fx:xs.all flatV=true) (fy:ys.all flatV=true):EqI K H (.ref a) (.ref b) (decide (xs.length=ys.length) && (List.zipWith eqV xs ys).all id)
theorem eqV_refl:∀ {x:V},flatV x=true→eqV x x=true
  | .non,_=>rfl
  | .bl b,_=>by simp [eqV]
  | .int i,_=>by simp [eqV]
  | .str z,_=>by simp [eqV]
theorem eqAll_refl:∀ {xs:List V},xs.all flatV=true→(List.zipWith eqV xs xs).all id=true
  | [],_=>rfl
  | x :: xs,h=>by
    rw [List.all_cons,Bool.and_eq_true] at h
    rw [List.zipWith_cons_cons,List.all_cons,eqAll_refl h.2,Bool.and_true]
    exact eqV_refl h.1
theorem all_range_zip {f:Nat→Bool} : ∀ {xs ys:List V},(∀ j x y,xs[j]?=some x→ys[j]?=some y→f j=eqV x y)→(List.range (min xs.length ys.length)).all f=(List.zipWith eqV xs ys).all id
  | [],ys,_=>by simp
  | x :: xs,[],_=>by simp
  | x :: xs,y :: ys,h=>by
    have ih:=all_range_zip (f:=fun j=>f (j+1)) (xs:=xs) (ys:=ys) fun j a b e1 e2=>h (j+1) a b (by simpa using e1) (by simpa using e2)
    have e0:=h 0 x y rfl rfl
    have em:min (x :: xs).length (y :: ys).length=min xs.length ys.length+1:=by simp only [List.length_cons];omega
    rw [em,List.range_succ_eq_map,List.all_cons,List.zipWith_cons_cons,List.all_cons,List.all_map,e0]
    show (eqV x y && (List.range (min xs.length ys.length)).all (fun j=>f (j+1)))=_
    rw [ih]
    rfl
section
variable {X:Cx} {pins:List (Addr × Obj)} {σ:St} {H:Hp} {s:Shared}
theorem EqI.at {A:Around} {x y:V} {u v:Value} {b:Bool} (e:EqI X.K H x y b) (I:Inv X pins σ H s) (hu:A.units+1 < cLine) (rx:RelV x u) (ry:RelV y v):SeqAt.EqAt A s u v b:=by
  cases e with
  | flat fx fy=>exact eqAt_V rx ry fx fy
  | same a =>
    cases (show u=Value.ref a from rx)
    cases (show v=Value.ref a from ry)
    exact SeqAt.EqAt.same _
  | @tup a b xs ys ha hb fx fy =>
    cases (show u=Value.ref a from rx)
    cases (show v=Value.ref b from ry)
    by_cases z:a=b
    · subst z
      have e:=I.tuple_inj ha hb
      subst e
      rw [eqAll_refl fx,decide_eq_true rfl]
      exact SeqAt.EqAt.same _
    · obtain ⟨its,r,p,_⟩:=I.tuple ha
      obtain ⟨its',r',p',_⟩:=I.tuple hb
      have l1:=r.length
      have l2:=r'.length
      have h0:=SeqAt.RcAt.tuples (A:=A) (e:=fun j=>match its[j]?,xs[j]?,ys[j]? with | _,some x,some y=>eqV x y | _,_,_=>false) (show s.heap.IsTuple a its.toArray from p) (show s.heap.IsTuple b its'.toArray from p') (by omega) (fun j h1 h2=>by
        have j1:j < its.length:=by simpa using h1
        have j2:j < its'.length:=by simpa using h2
        have x1:xs[j]?=some xs[j]:=List.getElem?_eq_getElem (by omega)
        have y1:ys[j]?=some ys[j]:=List.getElem?_eq_getElem (by omega)
        obtain ⟨u1,q1,r1⟩:=r.get x1
        obtain ⟨u2,q2,r2⟩:=r'.get y1
        have eu:its.toArray[j]=u1:=by
          have:=List.getElem?_eq_getElem j1
          rw [this] at q1;simpa using Option.some.inj q1
        have ev:its'.toArray[j]=u2:=by
          have:=List.getElem?_eq_getElem j2
          rw [this] at q2;simpa using Option.some.inj q2
        rw [eu,ev]
        rw [x1,y1]
        have f1:flatV xs[j]=true:=List.all_eq_true.mp fx _ (List.getElem_mem _)
        have f2:flatV ys[j]=true:=List.all_eq_true.mp fy _ (List.getElem_mem _)
        exact eqAt_V r1 r2 f1 f2)
      have h1:=SeqAt.EqAt.of_refs z h0
      have e1:((List.range (min its.toArray.size its'.toArray.size)).all fun j=>match its[j]?,xs[j]?,ys[j]? with | _,some x,some y=>eqV x y | _,_,_=>false)=(List.zipWith eqV xs ys).all id:=by
        have es:min its.toArray.size its'.toArray.size=min xs.length ys.length:=by simp only [List.size_toArray];omega
        rw [es]
        exact all_range_zip fun j x y q1 q2=>by rw [q1,q2]
      rw [e1] at h1
      have e2:(its.toArray.size == its'.toArray.size)=decide (xs.length=ys.length):=by
        simp only [List.size_toArray,← l1,← l2]
        exact Bool.beq_eq_decide_eq _ _
      rw [e2,Bool.and_comm] at h1
      exact h1
end
inductive rEqL (K:PySem.W.Frag) (neg:Bool) (x:V) (y:V) (H:Hp) (Q:VK):Prop
  | mk (a b xs ys:_) (_:x=.ref a) (_:y=.ref b) (_:SqL K H a xs) (_:SqL K H b ys) (_:((xs.length ≠ ys.length∧Q (.bl neg) H)∨(xs.length=ys.length∧∃ f:Nat→Bool,(∀ j x y,xs[j]?=some x→ys[j]?=some y→EqI K H x y (f j))∧Q (.bl (if neg then !(List.range xs.length).all f else (List.range xs.length).all f)) H))):rEqL K neg x y H Q
section
variable {X:Cx}
theorem eqs_at {pins:List (Addr × Obj)} {σ:St} {H:Hp} {s:Shared} {A:Around} {xs ys:List V} {its its' : List Value} {f:Nat→Bool} (I:Inv X pins σ H s) (hu:A.units+1 < cLine) (r:Vals xs its) (r' : Vals ys its')
    (hf:∀ j x y,xs[j]?=some x→ys[j]?=some y→EqI X.K H x y (f j)):∀ j (h1:j < its.toArray.size) (h2:j < its'.toArray.size),SeqAt.EqAt A s its.toArray[j] its'.toArray[j] (f j):=fun j h1 h2=>by
  have j1:j < its.length:=by simpa using h1
  have j2:j < its'.length:=by simpa using h2
  have l1:=r.length
  have l2:=r'.length
  have x1:xs[j]?=some xs[j]:=List.getElem?_eq_getElem (by omega)
  have y1:ys[j]?=some ys[j]:=List.getElem?_eq_getElem (by omega)
  obtain ⟨u1,q1,r1⟩:=r.get x1
  obtain ⟨u2,q2,r2⟩:=r'.get y1
  have eu:its.toArray[j]=u1:=by
    have:=List.getElem?_eq_getElem j1
    rw [this] at q1;simpa using Option.some.inj q1
  have ev:its'.toArray[j]=u2:=by
    have:=List.getElem?_eq_getElem j2
    rw [this] at q2;simpa using Option.some.inj q2
  rw [eu,ev]
  exact (hf j _ _ x1 y1).at I hu r1 r2
theorem op_neL {k:Nat} (hr:Room k X.A):OpR X (compareOp .NotEq) (rEqL X.K true):=by
  intro pins s σ H x y v u Q I rx ry h
  obtain ⟨a,b,xs,ys,rfl,rfl,ha,hb,h⟩:=h
  cases (show v=Value.ref a from rx)
  cases (show u=Value.ref b from ry)
  obtain ⟨its,r,p,_⟩:=I.list ha
  obtain ⟨its',r',p',_⟩:=I.list hb
  have l1:=r.length
  have l2:=r'.length
  have hu:=hr.units
  rcases h with ⟨hn,q⟩ | ⟨hl,f,hf,q⟩
  · refine SeqAt.RcNeAt.lists_lengths p.isList p'.isList (by simp only [List.size_toArray,bne_iff_ne,ne_eq];omega) (by omega) X.prog X.w X.xe _ ⟨.bl true,H,I,rfl,q⟩
  · refine SeqAt.RcNeAt.lists (e:=f) p.isList p'.isList (by simp only [List.size_toArray];omega) (by omega) (eqs_at I (by show X.A.units+1+1 < cLine;omega) r r' hf) X.prog X.w X.xe _ ⟨.bl _,H,I,rfl,?_⟩
    rw [show its.toArray.size=xs.length by simp only [List.size_toArray];omega]
    exact q
theorem rNeL_same {K:PySem.W.Frag} {H:Hp} {Q:VK} {a b:Addr} {xs:List V} (ha:SqL K H a xs) (hb:SqL K H b xs) (fl:∀ x ∈ xs,flatV x=true∨∃ r,x=.ref r) (q:Q (.bl false) H):rEqL K true (.ref a) (.ref b) H Q:=by
  refine ⟨a,b,xs,xs,rfl,rfl,ha,hb,.inr ⟨rfl,fun _=>true,fun j x y e1 e2=>?_,?_⟩⟩
  · rw [e1] at e2;cases e2
    rcases fl x (List.mem_of_getElem? e1) with z | ⟨r,rfl⟩
    · have:=EqI.flat (K:=K) (H:=H) z z
      rw [eqV_refl z] at this
      exact this
    · exact .same r
  · have:(List.range xs.length).all (fun _=>true)=true:=by simp
    rw [this]
    exact q
end
def SameT (H H' : Hp):Prop:=∀ b xs,H b=some (.tup xs)→H' b=some (.tup xs)
theorem Same.tups {H H' : Hp} (h:Same H H'):SameT H H':=fun b xs e=>h b _ e
theorem SameT.trans {H H1 H2:Hp} (a:SameT H H1) (b:SameT H1 H2):SameT H H2:=fun c xs e=>b c xs (a c xs e)
theorem sameT_lst {H:Hp} {p:Addr} {o:HO} {ys:List V} (h:H p=some (.lst ys)):SameT H (upd H p o):=fun b xs e=>by rw [upd_ne (ne_of e h (by intro z;cases z))];exact e
theorem same_new {H:Hp} {p:Addr} (h:H p=none) (o:HO):Same H (upd H p o):=fun b u q=>by rw [upd_ne (ne_of_none q h)];exact q
theorem Same.upd {H H' : Hp} {p:Addr} {o:HO} (s:Same H H') (h:H p=none):Same H (upd H' p o):=fun b u q=>by rw [upd_ne (ne_of_none q h)];exact s b u q
abbrev Tr:=Int × Int × Int
theorem dec_t {p:Prop} [Decidable p] (h:decide p=true):p:=of_decide_eq_true h
end L2
namespace L2
open PySem PySem.Spec PyProof.Rows
def cmpCx (X:Cx) (N:List Str) (scope:Scope) (cl:List (Str × Addr)) (fp:List Addr) (C:Addr) (s2:Shared) (H2:Hp):Cx :=
  { prog:=X.prog,w:=X.w,K:=X.K,mg:=X.mg,base:=X.base,A:=X.A,N:=N,s₀:=s2,H₀:=H2,env:=compEnvC scope cl C X.env,outer:=X.stack,stack:=X.stack,ex:=fp,fn:=fun _=>false,calm:=X.calm,pn:=[],xe:=fun _ _=>False }
def PIf (X:Cx) (ifs:List Expr) (t:TT):Prop :=
  ∀ (pins:List (Addr × Obj)) (s:Shared) (σ:St) (H:Hp) (Q:Bool→Hp→Prop),Inv X pins σ H s→t σ H Q →
    wpAny (model X.prog X.w) X.A (forIn ifs true fun c r=>if r=true then do let ok ← isTrue c X.env (eval c X.env);pure (ForInStep.yield ok) else pure (ForInStep.yield r)) (TP X pins σ Q) X.xe s
def tYes:TT:=fun _ H Q=>Q true H
theorem pif_nil {X:Cx} : PIf X [] tYes:=fun _ _ _ H _ I h=>wpAny_tests_nil ⟨H,I,h⟩
structure CmpOk (X:Cx) (N:List Str) (fr:List Nat) (scope:Scope) (cl:List (Str × Addr)) (x:Str):Prop where
  clos:closureFor scope X.env=pure cl
  kind:scope.kind=.function
  nocell:∀ y ∈ scope.names,y.2 ≠ .cell
  names:∀ y ∈ scope.names,y.2=.local→scope.names.lookup y.1=some .local
  hx:scope.names.lookup x=some .local
  nd:N.Nodup
  n0:N[0]?=some x
  len:N.length=fr.length+1
  sub:∀ (i:Nat) (y:Str),N[i+1]?=some y→∃ j,fr[i]?=some j∧X.N[j]?=some y∧(X.env.kindOf y=some .cell∨X.env.kindOf y=some .free)∧((relabel scope X.env).names.lookup y=some .cell∨(relabel scope X.env).names.lookup y=some .free)
  cells:∀ y c,cl.lookup y=some c→X.env.cells.lookup y=some c
  has:∀ y,((relabel scope X.env).names.lookup y=some .cell∨(relabel scope X.env).names.lookup y=some .free)→∃ c,cl.lookup y=some c
theorem cmpOk_plain {X:Cx} {scope:Scope} {x:Str} (kind:scope.kind=.function) (nofree:∀ y ∈ scope.names,y.2 ≠ .free) (nocell:∀ y ∈ scope.names,y.2 ≠ .cell)
    (names:∀ y ∈ scope.names,y.2=.local→scope.names.lookup y.1=some .local) (hx:scope.names.lookup x=some .local):CmpOk X [x] [] scope [] x:=by
  have er:(relabel scope X.env).names=scope.names:=map_eq_self fun y hy=>by
    have z:(y.2 == NameKind.free)=false:=by simpa using nofree y hy
    simp [z]
  have no:∀ y,¬ ((relabel scope X.env).names.lookup y=some .cell∨(relabel scope X.env).names.lookup y=some .free):=fun y h=>by
    rw [er] at h
    rcases h with h | h
    · exact nocell _ (PySem.mem_of_lookup h) rfl
    · exact nofree _ (PySem.mem_of_lookup h) rfl
  exact ⟨closureFor_none nofree,kind,nocell,names,hx,by simp,rfl,rfl,fun i y e=>by simp at e,(fun y c e=>by cases e),fun y h=>absurd h (no y)⟩
def cmpSt (σ:St) (fr:List Nat) (x:Option V):St:=x :: fr.map fun j=>(σ[j]?).join
def CompAt (J:It) (fr:List Nat) (tt:TT) (te:TE) (σ:St) (Q:VK) (H1:Hp):Prop:=∀ D,H1 D=none→∃ W:Nat→Nat→Hp→Prop,(∃ m,W 0 m (upd H1 D (.lst [])))∧∀ i m H,W i m H →
  (J.stop i H∧Q (.ref D) H)∨(J.go i H∧∀ x H',J.yld i H x H'→tt (cmpSt σ fr (some x)) H' fun b H2=>if b=true then te (cmpSt σ fr (some x)) H2 fun y H3=>∃ ys,H3 D=some (.lst ys)∧ys.length < sizeLine∧∃ m',m' < m∧W (i+1) m' (upd H3 D (.lst (ys ++ [y])))
    else ∃ m',m' < m∧W (i+1) m' H2)
def tComp (wi:TI) (fr:List Nat) (tt:TT) (te:TE):TE:=fun σ H Q=>wi σ H fun J H1=>CompAt J fr tt te σ Q H1
section
variable {prog:Program} {w:World} {A:Around} {R:Result→Shared→Prop} {s:Shared}
theorem comp_turns {elt target iter:Expr} {ifs:List Expr} {scope:Scope} {pos:Pos} {it acc:Value} {env:Env} (J:Nat→Shared→Prop)
    (turn:∀ n s,J n s→wpAny (model prog w) A (pyNext it) (fun r s1=>match r with
      | none=>R (.ok .next) s1
      | some v=>wpAny (model prog w) A (letOwnedTupleGo target it v) (fun _ s2=>wpAny (model prog w) A (assign target env v) (fun _ s3 =>
          wpAny (model prog w) A (forIn ifs true fun c r=>if r=true then do let ok ← isTrue c env (eval c env);pure (ForInStep.yield ok) else pure (ForInStep.yield r)) (fun ok s4 =>
            if ok=true then wpAny (model prog w) A (eval elt env) (fun y s5=>wpAny (model prog w) A (call (.builtin "list.append") [acc,y]) (fun _ s6=>∃ m,m < n∧J m s6) (fun _ _=>False) s5) (fun _ _=>False) s4
            else ∃ m,m < n∧J m s4) (fun _ _=>False) s3) (fun _ _=>False) s2) (fun _ _=>False) s1) (fun _ _=>False) s)
    (n:Nat) (h:J n s):codeAny (model prog w) A (.compLoop (.ListComp elt [⟨target,iter,ifs,0⟩] scope pos) 0 it acc env) R s:=by
  refine codeAny_loop rfl J (fun n s hJ=>?_) n h
  show wpAny _ A ((compTurn (.ListComp elt [⟨target,iter,ifs,0⟩] scope pos) 0 it acc env).onRaise (fun x=>do noteFrame x env;theTreesLotGoes x)) _ _ s
  refine wpAny_noted ?_
  rw [compTurn_list]
  refine wpAny_bind (wpAny_standAt (wpAny_bind (wpAny_mono (turn n s hJ) (fun r s1 h1=>?_) fun _ _ z=>z.elim)))
  cases r with
  | none=>exact wpAny_pure h1
  | some v =>
    refine wpAny_bind (wpAny_mono h1 (fun _ s2 h2=>?_) fun _ _ z=>z.elim)
    refine wpAny_bind (wpAny_mono h2 (fun _ s3 h3=>wpAny_bind (wpAny_mono h3 (fun ok s4 h4=>?_) fun _ _ z=>z.elim)) fun _ _ z=>z.elim)
    cases ok with
    | false=>exact wpAny_pure ⟨rfl,h4⟩
    | true=>exact wpAny_bind (wpAny_bind (wpAny_mono h4 (fun y s5 h5=>wpAny_bind (wpAny_mono h5 (fun _ s6 h6=>wpAny_pure (wpAny_pure ⟨rfl,h6⟩)) fun _ _ z=>z.elim)) fun _ _ z=>z.elim))
end
section
variable {X:Cx} {elt iter:Expr} {ifs:List Expr} {x:Str} {px pos:Pos} {scope:Scope} {cl:List (Str × Addr)} {N:List Str} {fr:List Nat} {tt:TT} {te:TE}
theorem comp_core {pins:List (Addr × Obj)} {σ:St} {s2:Shared} {H2:Hp} {it:Addr} {fp:List Addr} {tn:Nat→Heap→Prop} {J:It} {Q:VK} {E:Value→Shared→Prop} {RR:Value→Addr→Result→Shared→Prop}
    (O:CmpOk X N fr scope cl x) (hc:X.calm=true) (I2:Inv X pins σ H2 s2) (T:Turn X.prog X.w X.K (.Name x px) J fp it tn) (st2:tn 0 s2.heap) (f2:∀ b ∈ fp,FpOk X pins H2 b)
    (ht:∀ fp C s H,PIf (cmpCx X N scope cl fp C s H) ifs tt) (he:∀ fp C s H,PE (cmpCx X N scope cl fp C s H) elt te)
    (hW:CompAt J fr tt te σ Q H2)
    (fin:∀ D C s' H',s2.heap.objs.size≤C→H' C=none→(∃ m,s'.heap.Ns C m)→Inv X pins σ H' s'→Q (.ref D) H'→RR (.ref D) C (.ok .next) s') :
    wpAny (model X.prog X.w) X.A (newList []) (fun acc s3=>wpAny (model X.prog X.w) X.A (newFunctionEnv scope X.env.globals cl [] X.env.qual none .none (some X.env)) (fun cenv s4 =>
      codeAny (model X.prog X.w) X.A (.compStart (.ListComp elt [⟨.Name x px,iter,ifs,0⟩] scope pos) 0 (.ref it) acc { cenv with scope:=relabel scope X.env }) (RR acc cenv.locals) s4) E s3) E s2:=by
  refine wpAny_newObj_type (wpAny_newFunctionEnv O.nocell (by intro y hy;simp at hy) (fun h1 hns hsb=>?_) O.kind)
  dsimp only at hns hsb ⊢
  generalize hG:s2.heap.push { cls:=.type "list",dict:=none,data:=.seq ([]:List Value).toArray } = G at hns hsb ⊢
  have hC:G.objs.size=s2.heap.objs.size+1:=by rw [← hG,Heap.size_push]
  have old:∀ b o,s2.heap.get? b=some o→h1.get? b=some o:=fun b o e=>hsb.extBut b o (Nat.ne_of_lt (by rw [hC];exact Nat.lt_succ_of_lt (Heap.lt_size e))) (Heap.get?_push_of_some _ (hG ▸ Heap.get?_push_of_some _ e))
  have hacc:h1.get? s2.heap.objs.size=some { cls:=.type "list",data:=.seq ([]:List Value).toArray 0 }:=hsb.extBut _ _ (Nat.ne_of_lt (by rw [hC];exact Nat.lt_succ_self _)) (Heap.get?_push_of_some _ (hG ▸ Heap.get?_push_size _ rfl))
  have hD:H2 s2.heap.objs.size=none:=I2.fresh
  have okX:(cmpCx X N scope cl fp G.objs.size s2 H2).Ok:=by
    refine ⟨I2.ok.mod,O.kind,I2.ok.glob,I2.ok.blt,by show s2.heap.objs.size≤G.objs.size;rw [hC];exact Nat.le_succ _,fun y z c e1 e2=>I2.ok.inj y z c (O.cells y c e1) (O.cells z c e2),fun y hy=>O.has y hy,fun y c z=>absurd (show false=true from z) Bool.false_ne_true,I2.ok.hd,I2.ok.frames,.inl rfl,
      fun b hb=>⟨?_,fun y c e=>(f2 b hb).2.2.2.2.1 y c (O.cells y c e)⟩,I2.bs,Nat.le_trans I2.ok.bsz I2.sz,fun b o e hb=>?_,fun b hb z=>?_,I2.stack,I2.stkFree⟩
    · obtain ⟨o,e,_⟩:=T.obj _ _ st2 b hb
      show b ≠ G.objs.size
      exact Nat.ne_of_lt (by rw [hC];exact Nat.lt_succ_of_lt (Heap.lt_size e))
    · rcases (f2 b hb).2.2.2.1 with z | z
      · exact I2.ok.noex b o e z
      · exact absurd (Nat.lt_of_lt_of_le (Heap.lt_size e) (Nat.le_trans I2.ok.bsz z)) (Nat.lt_irrefl _)
    · rcases List.mem_cons.mp (I2.stkSub b z) with z | z
      · exact (f2 b hb).2.1 z
      · exact (f2 b hb).2.2.1 z
  have statX:∀ {H' : Hp},(∀ b ∈ fp,H' b=none)→∀ b ∈ fp,FpOk (cmpCx X N scope cl fp G.objs.size s2 H2) [] H' b:=fun hn b hb =>
    ⟨hn b hb,(okX.exf b hb).1,okX.exfs b hb,.inl hb,(okX.exf b hb).2,fun p hp=>absurd (show p ∈ ([]:List (Addr × Obj)) from hp) (by simp)⟩
  have I' : Inv (cmpCx X N scope cl fp G.objs.size s2 H2) [] (cmpSt σ fr none) (upd H2 s2.heap.objs.size (.lst [])) { s2 with heap:=h1,toks:=s2.toks+([]:List (Str × Value)).length }:=by
    refine ⟨okX,rfl,I2.bare,Un.laid old (Nat.le_refl _) hD,⟨_,hns,fun i y v e1 e2 e3=>?_⟩,fun y c e=>?_,?_,fun y c e=>?_,fun p hp=>absurd (show p ∈ ([]:List (Addr × Obj)) from hp) (by simp),I2.hok.laid old (Nat.le_refl _) ⟨Nat.zero_le _,[],0,.nil,hacc⟩,?_⟩
    · cases i with
      | zero=>cases e2
      | succ i =>
        obtain ⟨j,q1,q2,q3,q4⟩:=O.sub i y e1
        have e2' : (σ[j]?).join=some v:=by
          have:(fr.map fun j=>(σ[j]?).join)[i]?=some (some v):=e2
          rw [List.getElem?_map,q1] at this
          exact Option.some.inj this
        have e4:σ[j]?=some (some v):=by
          cases z:σ[j]? with
          | none=>rw [z] at e2';cases e2'
          | some t=>rw [z] at e2';exact congrArg some e2'
        obtain ⟨m,_,hl⟩:=I2.loc
        have vis:Vis X.env.scope y:=.inr q3
        obtain ⟨u,r,l⟩:=hl j y v q2 e4 vis
        refine ⟨u,r,.inr ⟨q4,?_⟩⟩
        obtain ⟨c',hc'⟩:=O.has y q4
        rcases l with ⟨k,_⟩ | ⟨_,c,ec,ic⟩
        · rcases q3 with z | z
          · rw [z] at k;cases k
          · rw [z] at k;cases k
        · have:=O.cells y c' hc'
          have e' : c=c':=Option.some.inj (ec.symm.trans this)
          obtain ⟨o,ho,hd⟩:=ic
          rw [e'] at ho
          exact ⟨c',hc',o,old c' o ho,hd⟩
    · obtain ⟨v,o,ho,hd⟩:=I2.cell y c (O.cells y c e)
      exact ⟨v,o,old c o ho,hd⟩
    · show upd H2 s2.heap.objs.size (.lst []) G.objs.size=none
      rw [upd_ne (Nat.ne_of_gt (by rw [hC];exact Nat.lt_succ_self _))]
      exact I2.hok.fresh (by rw [hC];exact Nat.le_succ _)
    · obtain ⟨v,o,ho,hd⟩:=I2.cell y c (O.cells y c e)
      rw [upd_ne (Nat.ne_of_lt (Heap.lt_size ho))]
      exact I2.freeC y c (O.cells y c e)
    · show (cmpSt σ fr none).length=N.length
      rw [O.len];simp [cmpSt]
  have st1:tn 0 h1:=T.keep _ _ _ st2 fun b hb o e=>old b o e
  have loop:∀ s3:Shared,s3 = { s2 with heap:=h1,toks:=s2.toks+([]:List (Str × Value)).length } →
      codeAny (model X.prog X.w) X.A (.compLoop (.ListComp elt [⟨.Name x px,iter,ifs,0⟩] scope pos) 0 (.ref it) (.ref s2.heap.objs.size) (compEnvC scope cl G.objs.size X.env)) (RR (.ref s2.heap.objs.size) G.objs.size) s3:=by
    rintro s3 rfl
    obtain ⟨W,⟨m0,w0⟩,turn⟩:=hW _ hD
    refine comp_turns (fun n s'=>∃ i t H',Inv (cmpCx X N scope cl fp G.objs.size s2 H2) [] (cmpSt σ fr t) H' s'∧tn i s'.heap∧(∀ b ∈ fp,H' b=none)∧W i n H') ?_ m0
      ⟨0,none,_,I',st1,fun b hb=>by
        rw [upd_ne (by obtain ⟨o,e,_⟩:=T.obj _ _ st2 b hb;exact Nat.ne_of_lt (Heap.lt_size e))]
        exact (f2 b hb).1,w0⟩
    rintro n s' ⟨i,t,H',I3,st3,fr3,w3⟩
    rcases turn i n H' w3 with ⟨stop,qn⟩ | ⟨go,step⟩
    · refine thn (T.done (cmpCx X N scope cl fp G.objs.size s2 H2) rfl rfl rfl hc i [] s' _ H' _ I3 (statX fr3) st3 stop) fun r s4 ⟨hr,I4⟩=>?_
      subst hr
      obtain ⟨m,hm,_⟩:=I4.loc
      refine fin _ _ s4 H' (by rw [hC];exact Nat.le_succ _) I4.free ⟨m,hm⟩ (I2.call' (ch:=fp) I4.os I4.base I4.hok I4.bare fun b hb=>?_) qn
      exact ⟨(f2 b hb).2.2.2.1,(f2 b hb).2.1,(f2 b hb).2.2.2.2.1,(f2 b hb).2.2.2.2.2⟩
    · refine thn (T.item (cmpCx X N scope cl fp G.objs.size s2 H2) rfl rfl rfl hc i [] s' _ H' _ I3 (statX fr3) st3 go) fun r s4 ⟨u,hr,h4⟩=>?_
      subst hr
      refine thn h4 fun _ s5 ⟨y,H5,I5,r5,y5,st5,fr5⟩=>?_
      have I5':=I5.pinned (statX fr5) (T.obj _ _ st5)
      have lx:(cmpCx X N scope cl fp G.objs.size s2 H2).env.scope.names.lookup x=some .local:=lookup_relabel_local O.hx
      refine thn (pg_name (X:=cmpCx X N scope cl fp G.objs.size s2 H2) (i:=0) O.nd O.n0 (.inl lx) (.inr lx) _ s5 _ H5 y u (fun σ' H'=>σ'=cmpSt σ fr (some y)∧H'=H5) I5' r5 ⟨rfl,rfl⟩) fun _ s6 ⟨σ6,H6,I6,e6,e6'⟩=>?_
      subst e6;subst e6'
      have again:∀ {σ7:St} {H7:Hp} {s7:Shared} {m' : Nat},σ7=cmpSt σ fr (some y)→Inv (cmpCx X N scope cl fp G.objs.size s2 H2) ([] ++ pinsAt fp s5.heap) σ7 H7 s7→m' < n→W (i+1) m' H7 →
          ∃ m,m < n∧∃ i t H',Inv (cmpCx X N scope cl fp G.objs.size s2 H2) [] (cmpSt σ fr t) H' s7∧tn i s7.heap∧(∀ b ∈ fp,H' b=none)∧W i m H':=fun {σ7 H7 s7 m'} e7 I7 hm w7=>by
        subst e7
        refine ⟨m',hm,i+1,some y,H7,I7.unpinned,T.keep _ _ _ st5 fun b hb o e=>(I7.pin (b,o) (List.mem_append_right _ (List.mem_append_right _ (mem_pinsAt hb e)))).1,fun b hb=>?_,w7⟩
        obtain ⟨o,e,d⟩:=T.obj _ _ st5 b hb
        exact (I7.pin (b,o) (List.mem_append_right _ (List.mem_append_right _ (mem_pinsAt hb e)))).2.1
      refine thn (ht fp G.objs.size s2 H2 _ s6 _ H6 _ I6 (step y H6 y5)) fun ok s7 ⟨H7,I7,q7⟩=>?_
      cases ok with
      | false =>
        rw [if_neg Bool.false_ne_true] at q7 ⊢
        obtain ⟨m',hm,w7⟩:=q7
        exact again rfl I7 hm w7
      | true =>
        rw [if_pos rfl] at q7 ⊢
        refine thn (he fp G.objs.size s2 H2 _ s7 _ H7 _ I7 q7) fun u8 s8 ⟨v8,H8,I8,r8,ys,hys,hlen,m',hm,w8⟩=>?_
        refine thn (mt_append (X:=cmpCx X N scope cl fp G.objs.size s2 H2) _ s8 _ H8 (.ref s2.heap.objs.size) [v8] _ [u8] (fun _ H9=>W (i+1) m' H9) I8 rfl (.cons r8 .nil) ⟨_,ys,v8,rfl,rfl,hys,hlen,w8⟩) fun _ s9 ⟨_,H9,I9,_,w9⟩=>?_
        exact again rfl I9 hm w9
  exact codeAny_compStart_list (loop _ rfl) (T.self _ 0 _ _ _ st1 (loop _ rfl))
theorem Inv.left {pins:List (Addr × Obj)} {σ σ2:St} {s2 s' : Shared} {H2 H' : Hp} {C:Addr} {h' : Heap} (I2:Inv X pins σ2 H2 s2) (I' : Inv X pins σ H' s') (hC:s2.heap.objs.size≤C) (hn:H' C=none) (hs:Heap.SameBut C s'.heap h'):Inv X pins σ H' { s' with heap:=h' }:=by
  refine I'.turned (t':=s'.toks) (it:=C) (fun b o hb e=>(hs.2 b hb).trans e) hn (Nat.ne_of_gt (Nat.lt_of_lt_of_le I2.lt hC)) (.inr (Nat.le_trans I2.sz hC)) (fun y c e=>?_) fun p hp=>?_
  · obtain ⟨v,o,ho,_⟩:=I2.cell y c e
    exact Nat.ne_of_lt (Nat.lt_of_lt_of_le (Heap.lt_size ho) hC)
  · exact Nat.ne_of_lt (Nat.lt_of_lt_of_le (Heap.lt_size (I2.pin p hp).1) hC)
theorem pe_comp {wi:TI} (hi:PI X (.Name x px) iter wi) (O:CmpOk X N fr scope cl x) (hc:X.calm=true) (ht:∀ fp C s H,PIf (cmpCx X N scope cl fp C s H) ifs tt) (he:∀ fp C s H,PE (cmpCx X N scope cl fp C s H) elt te)
    (hs:∀ v,foldedSetIterable iter X.env v=pure v:=by intro _;rfl):PE X (.ListComp elt [⟨.Name x px,iter,ifs,0⟩] scope pos) (tComp wi fr tt te):=by
  intro pins s σ H Q I h
  rw [eval_ListComp]
  refine wpAny_comprehension_free (use:=none) rfl hs O.clos O.kind O.names (thn (hi pins s σ H _ I h) fun v s1 h1=>thn h1 fun itv s2 h2=>?_)
  obtain ⟨it,fp,tn,J,H2,e,I2,T,st2,f2,hW⟩:=h2
  subst e
  refine comp_core (RR:=fun acc C=>compPost (model X.prog X.w) X.A X.xe none (EP X pins σ Q) acc C) O hc I2 T st2 f2 ht he hW fun D C s' H' hC hn ⟨m,hm⟩ I' q=>?_
  exact ⟨m,hm,fun h' hs'=>⟨.ref D,H',I2.left I' hC hn hs',rfl,q⟩⟩
def CNext (Pv:Addr→Nat→List V→Hp→Prop) (D:Addr) (i n:Nat) (H2:Hp):Prop:=∃ m',m' < n - i∧m'=n - (i+1)∧i+1≤n∧∃ zs,Pv D (i+1) zs H2
def CYes (Pv:Addr→Nat→List V→Hp→Prop) (D:Addr) (i n:Nat):VK:=fun y H3=>∃ ys,H3 D=some (.lst ys)∧ys.length < sizeLine∧CNext Pv D i n (upd H3 D (.lst (ys ++ [y])))
theorem CNext.mk {Pv:Addr→Nat→List V→Hp→Prop} {D:Addr} {i n:Nat} {H2:Hp} {zs:List V} (hi:i < n) (h:Pv D (i+1) zs H2):CNext Pv D i n H2:=⟨n - (i+1),by omega,rfl,hi,zs,h⟩
theorem CYes.mk {Pv:Addr→Nat→List V→Hp→Prop} {D:Addr} {i n:Nat} {H3:Hp} {ys:List V} {y:V} (hi:i < n) (e:H3 D=some (.lst ys)) (hl:ys.length < sizeLine) (h:Pv D (i+1) (ys ++ [y]) (upd H3 D (.lst (ys ++ [y])))):CYes Pv D i n y H3:=⟨ys,e,hl,.mk hi h⟩
theorem comp_list {K:PySem.W.Frag} {a:Addr} {xs:List V} {σ:St} {H1:Hp} {Q:VK} (Pv:Addr→Nat→List V→Hp→Prop) (h0:∀ D,H1 D=none→Pv D 0 [] (upd H1 D (.lst [])))
    (hk:∀ D i ys H,H1 D=none→i≤xs.length→Pv D i ys H→SqL K H a xs)
    (hs:∀ D i x ys H,H1 D=none→xs[i]?=some x→Pv D i ys H→tt (cmpSt σ fr (some x)) H fun b H2=>if b=true then te (cmpSt σ fr (some x)) H2 (CYes Pv D i xs.length) else CNext Pv D i xs.length H2)
    (hd:∀ D ys H,H1 D=none→Pv D xs.length ys H→Q (.ref D) H):CompAt (Itl K a) fr tt te σ Q H1:=by
  intro D hD
  refine ⟨fun i m H=>m=xs.length - i∧i≤xs.length∧∃ ys,Pv D i ys H,⟨_,rfl,Nat.zero_le _,[],h0 D hD⟩,?_⟩
  rintro i m H ⟨rfl,hi,ys,p⟩
  have q:=hk D i ys H hD hi p
  by_cases hlt:i < xs.length
  · refine .inr ⟨⟨xs,xs[i],q,by simp [hlt]⟩,fun x H' y=>?_⟩
    obtain ⟨e,y⟩:=y
    subst e
    exact hs D i x ys _ hD (y xs q) p
  · have e:i=xs.length:=by omega
    subst e
    exact .inl ⟨⟨xs,q,Nat.le_refl _⟩,hd D ys H hD p⟩
end
end L2
namespace L2
open PySem PySem.Spec PyProof.Rows
structure CmpOkG (X:Cx) (N:List Str) (k:Nat) (fr:List Nat) (scope:Scope) (cl:List (Str × Addr)):Prop where
  clos:closureFor scope X.env=pure cl
  kind:scope.kind=.function
  nocell:∀ y ∈ scope.names,y.2 ≠ .cell
  names:∀ y ∈ scope.names,y.2=.local→scope.names.lookup y.1=some .local
  len:N.length=k+fr.length
  sub:∀ (i:Nat) (y:Str),N[k+i]?=some y→∃ j,fr[i]?=some j∧X.N[j]?=some y∧(X.env.kindOf y=some .cell∨X.env.kindOf y=some .free)∧((relabel scope X.env).names.lookup y=some .cell∨(relabel scope X.env).names.lookup y=some .free)
  cells:∀ y c,cl.lookup y=some c→X.env.cells.lookup y=some c
  has:∀ y,((relabel scope X.env).names.lookup y=some .cell∨(relabel scope X.env).names.lookup y=some .free)→∃ c,cl.lookup y=some c
section
variable {X:Cx} {elt iter tg:Expr} {ifs:List Expr} {pos:Pos} {scope:Scope} {cl:List (Str × Addr)} {N:List Str} {k:Nat} {fr:List Nat} {gt:TG} {tt:TT} {te:TE}
end
end L2
namespace Srt
open PySem PySem.W PyProof.Rows
def Ok (n:Nat) (lt:Nat→Nat→Bool) {α:Type} : KasT α→(α→Prop)→Prop
  | .ret a,Q=>Q a
  | .ask i j k,Q=>i < n∧j < n∧Ok n lt (k (lt i j)) Q
section
variable {n:Nat} {lt:Nat→Nat→Bool}
abbrev g (p:Array Nat) (i:Nat):Nat:=p.getD i 0
structure Ord (lt:Nat→Nat→Bool):Prop where
  tr:∀ a b c,lt b a=false→lt c b=false→lt c a=false
  as:∀ a b,lt a b=true→lt b a=false
end
end Srt
namespace L2
open PySem PySem.Spec PySem.W PyProof.Rows
section
variable {prog:Program} {w:World} {A:Around} {E:Value→Shared→Prop} {s:Shared}
end
section
variable {X:Cx}
end
end L2
namespace L2
structure BothI (S A B A0 B0:List Pr):Prop where
  ap:Apart S
  aA:Apart A
  aB:Apart B
  mem:∀ n,(inP A0 n && inP B0 n)=(inP S n || (inP A n && inP B n))
  gap:∀ s ∈ S,(∀ p ∈ A,s.2+2≤p.1)∨(∀ p ∈ B,s.2+2≤p.1)
structure GapI (F T:List Pr) (lo hi st:Int):Prop where
  ap:Apart F
  lt:∀ s ∈ F,s.2+2≤st
  rng:∀ s ∈ F,lo≤s.1∧s.2≤hi
  tk:∀ p ∈ T,p.2 < st
  fr:st=lo∨∃ p ∈ T,st=p.2+1
  ge:lo≤st
  mem:∀ n,lo≤n→n≤hi→n < st→inP F n = !inP T n
end L2
namespace L2
structure Walk (ts:List (Int × Int × Int)):Prop where
  le:∀ t ∈ ts,t.1≤t.2.1
  nx:∀ (i:Nat) a b,ts[i]?=some a→ts[i+1]?=some b→b.1=a.2.1+1
def pcs (msk:Int→Bool) (ts:List (Int × Int × Int)) (n:Int):Bool:=ts.any fun t=>inR n (t.1,t.2.1) && msk t.2.2
structure RunI (R:List Pr) (ts:List (Int × Int × Int)) (msk:Int→Bool) (i:Nat) (at_:Int):Prop where
  ap:Apart R
  mem:∀ n,inP R n=pcs msk (ts.take i) n
  lt:∀ r ∈ R,r.2 < at_
  few:2 * R.length≤i∨(2 * R.length≤i+1∧∃ R' l,R=R' ++ [l]∧l.2=at_ - 1)
section
variable {R:List Pr} {ts:List (Int × Int × Int)} {msk:Int→Bool} {i:Nat} {at_:Int} {t:Int × Int × Int}
end
end L2
namespace L2
end L2
namespace L2
open PySem PySem.Spec PyProof.Rows
theorem preSum_take (ns:List Int):∀ k,k≤ns.length→preSum (fun i=>ns.getD i 0) k=(ns.take k).sum
  | 0,_=>rfl
  | k+1,h=>by
    have ih:=preSum_take ns k (by omega)
    show preSum (fun i=>ns.getD i 0) k+ns.getD k 0=_
    have e:ns[k]?=some ns[k]:=List.getElem?_eq_getElem (by omega)
    rw [ih,List.take_add_one,e,List.sum_append,List.getD_eq_getElem?_getD,e]
    simp
section
variable {X:Cx}
theorem call_sum_ints (hc:X.calm=true):CallR X (.builtin "sum") (fun us H Q=>∃ (a:Addr) (ns:List Int),us=[.ref a]∧SqL X.K H a (ns.map V.int)∧Q (.int ns.sum) H):=by
  intro pins s σ H us vs Q I r h
  obtain ⟨a,ns,rfl,hq,q⟩:=h
  obtain ⟨u,rfl,rx⟩:=r.one
  cases (show u=Value.ref a from rx)
  obtain ⟨its,rv,pl,hz⟩:=I.list hq
  have l1:=rv.length
  rw [List.length_map] at l1
  obtain ⟨oa,ea,_⟩:=id pl.isList
  have hax:a < s.heap.objs.size:=Heap.lt_size ea
  refine call_sum_walkG (wpAny_pyIter_list pl.isList ?_)
  refine ⟨s.heap.objs.size,[s.heap.objs.size,a],[s.heap.objs.size],_,_,_,fun i=>ns.getD i 0,rfl,Walks.list (A:=X.A.in1) (I.ok.hd hc) _ a (Nat.ne_of_lt hax) its.toArray,⟨⟨_,Heap.get?_push_size _ rfl,rfl,rfl⟩,pl.isList.at fun o e=>Heap.get?_push_of_some _ e⟩,fun b hb=>?_,fun i v e=>?_,fun h' tk t' hk=>?_⟩
  · show b < (s.heap.push _).objs.size
    rw [Heap.size_push]
    rcases List.mem_cons.mp hb with z | z
    · rw [z];exact Nat.lt_succ_self _
    · have z2:b=a:=by simpa using z
      rw [z2];exact Nat.lt_succ_of_lt hax
  · have e' : its[i]?=some v:=by simpa using e
    have hi:i < ns.length:=by rw [l1];exact (List.getElem?_eq_some_iff.mp e').1
    have ex:(ns.map V.int)[i]?=some (.int ns[i]):=by rw [List.getElem?_map,List.getElem?_eq_getElem hi];rfl
    obtain ⟨u,q1,ru⟩:=rv.get ex
    rw [e'] at q1;cases q1
    obtain ⟨t,rfl⟩:=ru
    exact ⟨t,by show Value.int ns[i] t=Value.int (ns.getD i 0) t;rw [List.getD_eq_getElem?_getD,List.getElem?_eq_getElem hi];rfl⟩
  · refine ⟨.int ns.sum,H,I.kept (t':=tk) fun b o e=>hk b o (fun z=>?_) (Heap.get?_push_of_some _ e),⟨t',?_⟩,q⟩
    · have z2:b=s.heap.objs.size:=by simpa using z
      exact absurd (Heap.lt_size e) (by rw [z2];exact Nat.lt_irrefl _)
    · rw [List.size_toArray,← l1,preSum_take ns _ (Nat.le_refl _),List.take_length]
end
section
variable {prog:Program} {w:World} {A:Around} {E:Value→Shared→Prop} {s:Shared}
end
section
variable {X:Cx}
end
end L2
namespace L2
def NeS (W:List (Int × Int × Int)):Prop:=∀ (j:Nat) a b,W[j]?=some a→W[j+1]?=some b→a.2.2 ≠ b.2.2
structure StepI (G ts:List (Int × Int × Int)) (i:Nat):Prop where
  walk:Walk G
  ne:NeS G
  pcs:∀ msk n,pcs msk G n=L2.pcs msk (ts.take i) n
  hd:∀ t,ts[0]?=some t→0 < i→∃ g,G[0]?=some g∧g.1=t.1
  lst:∀ t,ts[i - 1]?=some t→0 < i→∃ G' g,G=G' ++ [g]∧g.2.1=t.2.1∧g.2.2=t.2.2
  len:G.length≤i
  stt:∀ g ∈ G,∃ t ∈ ts,g.2.2=t.2.2
section
variable {G ts:List (Int × Int × Int)} {i:Nat} {t:Int × Int × Int}
end
end L2
namespace L2
open PySem PySem.Spec PyProof.Rows
section
variable {X:Cx} {tg:Expr}
end
section
variable {X:Cx}
theorem pe_gl {x:Str} {v:V} {pos:Pos} (hg:Gl X x) (h:∃ u,X.mg x=some u∧RelV v u) (hd:(x == ("__debug__" : Str))=false:=by decide):PE X (.Name x pos) (tC v):=by
  obtain ⟨_,m,r⟩:=h
  exact pe_glob hg m r hd
end
end L2
namespace L2
open PySem PySem.Spec PyProof.Rows PySem.NumText
section
variable {X:Cx}
end
structure Figs (cs:List Nat):Prop where
  all:AllDigits cs
  one:cs.length=1∨∃ c r,cs=c :: r∧49≤c
end L2
namespace L2
open PySem PySem.Spec PyProof.Rows PySem.W
theorem weight_ints:∀ {ns:List Int} {n:Int},n ∈ ns→Builtin.Int.intBits n≤WData.weightAll (ns.map WData.int)
  | m :: ns,n,h=>by
    rw [List.map_cons,WData.weightAll.eq_2]
    rcases List.mem_cons.mp h with rfl | h
    · have e:(WData.int n).weight=Builtin.Int.intBits n:=by rw [WData.weight.eq_7];rfl
      rw [e];omega
    · have:=weight_ints h;omega
theorem bits_of_lay {ns:List Int} (h:WData.layableAll [WData.list (ns.map WData.int)]=true):∀ n ∈ ns,Builtin.Int.intBits n≤2 ^ 20:=by
  intro n hn
  unfold WData.layableAll WData.layable at h
  simp only [List.all_cons,Bool.and_eq_true,decide_eq_true_eq] at h
  have h1:=h.1.2
  rw [WData.weight.eq_2] at h1
  exact Nat.le_trans (weight_ints hn) h1
theorem op_mulO {X:Cx} : OpR X (binaryOp .Mult) (rI IntMulOk fun i j=>.int (i * j)):=opI fun _ _ _ _ _ _ _ hc q=>mul_int q hc
end L2
namespace L2
open PySem PySem.Spec PyProof.Rows
def ExcT (h:Heap) (e T:Addr) (cls a0:Value):Prop :=
  ∃ oe vs oT ts,h.get? e=some oe∧(oe.cls=cls∧vs[0]?=some a0)∧oe.data=.fields vs∧vs[1]?=some (.ref T)∧T ≠ e∧h.get? T=some oT∧oT.data=.fields ts∧ts[3]?=some .none
structure Stp (F X:List Addr) (h h' : Heap):Prop where
  keep:∀ b o,b ∉ F→b ∉ X→h.get? b=some o→h'.get? b=some o
  slot:∀ b o,b ∈ F→h.get? b=some o→∃ sl,h'.get? b=some { o with slots:=sl }
section
variable {M:Model} {A:Around} {E:Value→Shared→Prop} {s:Shared} {base:Heap} {env:Env} {outer:List Env} {L e T:Addr} {oe:Obj} {vs:Array Value} {a0 cls:Value} {Q:Unit→Shared→Prop}
end
end L2
namespace L2
open PySem PySem.Spec PyProof.Rows
section
variable {P:Program} {w:World} {H H' : Hp} {h h' : Heap} {a:Addr} {o:HO} {F Y fs:List Addr}
end
structure NewAt (X:Cx) (pins:List (Addr × Obj)) (H:Hp) (b:Addr):Prop where
  ent:X.s₀.heap.get? b=none
  unt:H b=none
  loc:b ≠ X.env.locals
  cel:∀ x c,X.env.cells.lookup x=some c→c ≠ b
  pin:∀ p ∈ X.pn ++ pins,p.1 ≠ b
section
variable {X:Cx} {pins:List (Addr × Obj)} {σ:St} {H:Hp} {s:Shared} {h' : Heap} {e T:Addr}
end
structure ExcCls (K:PySem.W.Frag) (C:Addr):Prop where
  ex:∃ (bmB bmN:List Value) (newId B Bn nid initId inN:String),PySem.W.excIn K C bmB newId=true∧ExcBaseFacts Bn newId inN bmN∧bmB.contains (Value.type Bn)=true∧ExcBaseFacts B nid initId bmB
section
variable {P:Program} {w:World} {K:PySem.W.Frag} {mg:Str→Option Value} {base:Heap} {N:List Str} {qual:Str} {scope:Scope} {f:Addr} {cd:Value} {A:Around} {outer:List Env} {s0:Shared} {H0:Hp} {E:XK}
end
end L2
namespace L2
open PySem PySem.Spec PyProof.Rows
def XP (X:Cx) (pins:List (Addr × Obj)) (σ:St) (EX:Addr→Hp→Prop) (ev:Value) (s' : Shared):Prop :=
  ∃ (e T C:Addr) (a0:Value) (H' : Hp),ev=.ref e∧Inv X pins σ H' s'∧ExcT s'.heap e T (.ref C) a0∧NewAt X pins H' e∧NewAt X pins H' T∧EX C H'
section
variable {X:Cx} {pins:List (Addr × Obj)} {σ:St} {H:Hp} {s s' : Shared}
end
section
variable {X:Cx} {k:Nat} {x:Str} {ps:List Str} {sp:Sp} {e:Expr} {es:List Expr} {t:TA} {p pos:Pos}
abbrev TSX:=Ends→St→Hp→(Addr→Hp→Prop)→Prop
end
section
variable {X:Cx} {pins:List (Addr × Obj)} {σ:St} {H:Hp} {s s' : Shared} {e:Addr} {oe:Obj}
end
section
variable {X:Cx} {pins:List (Addr × Obj)} {σ:St} {H:Hp} {s:Shared}
end
section
variable {X:Cx} {st b₀:Stmt} {su:List Stmt} {tb:TSX} {ts:Addr→Addr→TS} {Tn n:Str} {B:Addr} {i:Nat} {np hpos pos:Pos}
end
end L2
namespace L2
open PySem PySem.Spec PyProof.Rows
structure ExcLook (K:PySem.W.Frag) (C:Addr):Prop where
  ga:PySem.W.findIn K (.ref C) "__getattribute__" = some (some (.builtin "BaseException.__getattribute__"))
  hk:PySem.W.findIn K (.ref C) "__getattr__" = some none
  cl:PySem.W.findIn K (.ref C) "__class__" = some (some (.builtin "object.__class__"))
  gt:PySem.W.specialIn K (.builtin "object.__class__") "__get__" = some (some (.builtin "getset_descriptor.__get__"))
  tk:PySem.W.takesIn K (.builtin "object.__class__")=some true
  ob:PySem.W.mroIn K C (.type "object")=some true
  be:PySem.W.mroIn K C (.type "BaseException")=some true
  me:PySem.W.kitCls K (.ref C) (.ref C)=some true
section
variable {prog:Program} {w:World} {A:Around} {E:Value→Shared→Prop} {s:Shared} {K:PySem.W.Frag} {e C:Addr} {oe:Obj}
end
section
variable {X:Cx} {e C:Addr} {oe:Obj}
end
end L2
namespace L2
open PySem PySem.Spec PyProof.Rows
section
variable {X:Cx}
end
end L2
namespace L2
open PySem PySem.Spec PyProof.Rows
structure BaseM (K:PySem.W.Frag) (B:Addr) (m:Str) (f:Addr):Prop where
  sp:PySem.W.specialIn K (.ref B) "__getattribute__" = some (some (.builtin "type.__getattribute__"))
  rd:PySem.W.readsIn K B (.type "type")=true
  at_:PySem.W.findCls K (.ref B) (.type "type") m=some (.val (.ref f))
  kp:PySem.W.keepIn K (.ref f)=true
section
variable {CX:CXT} {P:Program} {w:World} {K:PySem.W.Frag} {mg:Str→Option Value} {base:Heap} {j k:Nat} {C:Addr} {x m:Str} {ps:List Str} {sp:Sp}
end
section
variable {X:Cx} {CX:CXT} {k:Nat} {f C:Addr} {fd:FuncData} {ps:List Str} {sp:Sp} {x m:Str} {p np pos apos:Pos} {e o:Expr} {es:List Expr} {ta:TE} {t:TA}
end
section
variable {X:Cx}
end
section
variable {X:Cx}
end
end L2
namespace L2
open PySem PySem.Spec PyProof.Rows
section
variable {X:Cx}
end
end L2
namespace L2
open PySem PySem.Spec PyProof.Rows
theorem FnOk.no {P:Program} {w:World} {K:PySem.W.Frag} {mg:Str→Option Value} {base:Heap} {CX:CXT} {k:Nat} {f:Addr} {fd:FuncData} {ps:List Str} {sp:Sp} (h:∀ vs H Q E,¬ sp vs H Q E):FnOk P w K mg base CX k f fd ps sp :=
  ⟨fun vs H Q E q=>(h vs H Q E q).elim,fun _ _ _ H _ _ vs Q E _ _ _ _ q=>(h vs H Q E q).elim⟩
end L2
namespace L2
open PySem PySem.Spec PyProof.Rows
end L2
namespace L2
open PySem
set_option maxRecDepth 100000
inductive DEq (K:PySem.W.Frag) (H:Hp):Nat→V→V→Bool→Prop where
  | flat {n:Nat} {x y:V} (fx:flatV x=true) (fy:flatV y=true):DEq K H n x y (eqV x y)
  | same {n:Nat} (a:Addr):DEq K H n (.ref a) (.ref a) true
  | lst {n:Nat} {a b:Addr} {xs ys:List V} {f:Nat→Bool} (ne:a ≠ b) (ha:SqL K H a xs) (hb:SqL K H b ys) (hl:xs.length=ys.length) (h:∀ (j:Nat) (x y:V),xs[j]?=some x→ys[j]?=some y→DEq K H n x y (f j)):DEq K H (n+1) (.ref a) (.ref b) ((List.range xs.length).all f)
  | lst_ne {n:Nat} {a b:Addr} {xs ys:List V} (ne:a ≠ b) (ha:SqL K H a xs) (hb:SqL K H b ys) (hl:xs.length ≠ ys.length):DEq K H (n+1) (.ref a) (.ref b) false
  | tup {n:Nat} {a b:Addr} {xs ys:List V} {f:Nat→Bool} (ne:a ≠ b) (ha:SqT K H a xs) (hb:SqT K H b ys) (h:∀ (j:Nat) (x y:V),xs[j]?=some x→ys[j]?=some y→DEq K H n x y (f j)):DEq K H (n+1) (.ref a) (.ref b) ((List.range (min xs.length ys.length)).all f && xs.length == ys.length)
theorem DEq.mono {K:PySem.W.Frag} {H:Hp} {n m:Nat} {x y:V} {b:Bool} (e:DEq K H n x y b) (h:n≤m):DEq K H m x y b:=by
  induction e generalizing m with
  | flat fx fy=>exact .flat fx fy
  | same a=>exact .same a
  | lst ne ha hb hl _ ih =>
    obtain ⟨m,rfl⟩:∃ k,m=k+1:=⟨m - 1,by omega⟩
    exact .lst ne ha hb hl fun j x y e1 e2=>ih j x y e1 e2 (by omega)
  | lst_ne ne ha hb hl =>
    obtain ⟨m,rfl⟩:∃ k,m=k+1:=⟨m - 1,by omega⟩
    exact .lst_ne ne ha hb hl
  | tup ne ha hb _ ih =>
    obtain ⟨m,rfl⟩:∃ k,m=k+1:=⟨m - 1,by omega⟩
    exact .tup ne ha hb fun j x y e1 e2=>ih j x y e1 e2 (by omega)
theorem its_at {xs:List V} {its:List Value} (r:Vals xs its) {j:Nat} (h:j < its.toArray.size):∃ x,xs[j]?=some x∧RelV x its.toArray[j]:=by
  have j1:j < its.length:=by simpa using h
  have l1:=r.length
  have x1:xs[j]?=some xs[j]:=List.getElem?_eq_getElem (by omega)
  obtain ⟨u1,q1,r1⟩:=r.get x1
  have eu:its.toArray[j]=u1:=by
    have:=List.getElem?_eq_getElem j1
    rw [this] at q1;simpa using Option.some.inj q1
  exact ⟨xs[j],x1,eu ▸ r1⟩
section
variable {X:Cx} {pins:List (Addr × Obj)} {σ:St} {H:Hp} {s:Shared}
theorem DEq.at {n:Nat} {x y:V} {b:Bool} (e:DEq X.K H n x y b) (I:Inv X pins σ H s):∀ {A:Around} {u v:Value},A.units+n < cLine→RelV x u→RelV y v→SeqAt.EqAt A s u v b:=by
  induction e with
  | flat fx fy=>intro A u v hu rx ry;exact eqAt_V rx ry fx fy
  | same a =>
    intro A u v hu rx ry
    cases (show u=Value.ref a from rx)
    cases (show v=Value.ref a from ry)
    exact SeqAt.EqAt.same _
  | @lst n a b xs ys f ne ha hb hl h ih =>
    intro A u v hu rx ry
    cases (show u=Value.ref a from rx)
    cases (show v=Value.ref b from ry)
    obtain ⟨its,r,p,_⟩:=I.list ha
    obtain ⟨its',r',p',_⟩:=I.list hb
    have l1:=r.length
    have l2:=r'.length
    have h0:=SeqAt.RcAt.lists (A:=A) (e:=f) p.isList p'.isList (by simp only [List.size_toArray];omega) (by omega) (fun j h1 h2=>by
      obtain ⟨x,e1,q1⟩:=its_at r h1
      obtain ⟨y,e2,q2⟩:=its_at r' h2
      exact ih j x y e1 e2 (by show A.units+1+n < cLine;omega) q1 q2)
    rw [show its.toArray.size=xs.length by simp only [List.size_toArray];omega] at h0
    exact SeqAt.EqAt.of_refs ne h0
  | @lst_ne n a b xs ys ne ha hb hl =>
    intro A u v hu rx ry
    cases (show u=Value.ref a from rx)
    cases (show v=Value.ref b from ry)
    obtain ⟨its,r,p,_⟩:=I.list ha
    obtain ⟨its',r',p',_⟩:=I.list hb
    have l1:=r.length
    have l2:=r'.length
    exact SeqAt.EqAt.of_refs ne (SeqAt.RcAt.lists_lengths p.isList p'.isList (by simp only [List.size_toArray,bne_iff_ne,ne_eq];omega) (by omega))
  | @tup n a b xs ys f ne ha hb h ih =>
    intro A u v hu rx ry
    cases (show u=Value.ref a from rx)
    cases (show v=Value.ref b from ry)
    obtain ⟨its,r,p,_⟩:=I.tuple ha
    obtain ⟨its',r',p',_⟩:=I.tuple hb
    have l1:=r.length
    have l2:=r'.length
    have h0:=SeqAt.RcAt.tuples (A:=A) (e:=f) (show s.heap.IsTuple a its.toArray from p) (show s.heap.IsTuple b its'.toArray from p') (by omega) (fun j h1 h2=>by
      obtain ⟨x,e1,q1⟩:=its_at r h1
      obtain ⟨y,e2,q2⟩:=its_at r' h2
      exact ih j x y e1 e2 (by show A.units+1+n < cLine;omega) q1 q2)
    rw [show its.toArray.size=xs.length by simp only [List.size_toArray];omega,show its'.toArray.size=ys.length by simp only [List.size_toArray];omega] at h0
    exact SeqAt.EqAt.of_refs ne h0
end
section
variable {X:Cx}
end
end L2
namespace L2
open PySem PySem.Spec PyProof.Rows
section
variable {κ:Type} [DecidableEq κ]
variable {prog:Program} {w:World} {A:Around} {E:Value→Shared→Prop} {s:Shared} {knd:KeyKind prog w κ}
end
section
variable {X:Cx}
end
end L2
namespace L2
open PySem
end L2
namespace L2
open PySem PySem.Spec PyProof.Rows
def keyI:Value→Int
  | .int k _=>k
  | _=>0
structure Ents (es:Array (Int × Value)) (ks:List Int):Prop where
  ent:∀ e ∈ es.toList,e.1=hashInt (keyI e.2)∧∃ u,e.2=.int (keyI e.2) u
  nd:(es.toList.map fun e=>keyI e.2).Nodup
  mem:∀ k,k ∈ ks↔k ∈ es.toList.map fun e=>keyI e.2
section
variable {prog:Program} {w:World} {A:Around} {E:Value→Shared→Prop} {s:Shared}
end
end L2
namespace L2
open PySem PySem.Spec PyProof.Rows
set_option maxRecDepth 100000
section
variable {prog:Program} {w:World} {A:Around} {E:Value→Shared→Prop} {s:Shared}
end
end L2
namespace L2
open PySem PySem.Spec PyProof.Rows
set_option maxRecDepth 100000
section
variable {prog:Program} {w:World} {A:Around} {E:Value→Shared→Prop} {s:Shared}
end
end L2
namespace L2
open PySem PySem.Spec PyProof.Rows
set_option maxRecDepth 100000
section
variable {prog:Program} {w:World} {A:Around} {E:Value→Shared→Prop} {s:Shared}
end
end L2
namespace L2
open PySem PySem.Spec PyProof.Rows
section
variable {M:Model} {A:Around} {E:Value→Shared→Prop} {s:Shared} {base:Heap} {env:Env} {outer:List Env} {L e T:Addr} {a0 cls fl:Value} {Q:Unit→Shared→Prop} {Ts:List Addr}
end
section
variable {X:Cx} {pins:List (Addr × Obj)} {σ:St} {H:Hp} {s:Shared} {h' : Heap} {Y:List Addr}
end
section
variable {P:Program} {w:World} {K:PySem.W.Frag} {mg:Str→Option Value} {base:Heap} {N:List Str} {qual:Str} {scope:Scope} {f:Addr} {cd:Value} {A:Around} {outer:List Env} {s0:Shared} {H0:Hp} {E:XK}
end
end L2
namespace L2
open PySem PySem.Spec PyProof.Rows
section
variable {X:Cx}
end
section
variable {X:Cx} {k:Nat} {f C:Addr} {fd:FuncData} {ps:List Str} {sp:Sp} {x m:Str} {p np pos apos:Pos} {e o:Expr} {es:List Expr} {ta:TE} {t:TA} {E:XK}
end
end L2
namespace L2
open PySem PySem.Spec PyProof.Rows
theorem ints_items:∀ {ns:List Int} {us:List Value},Vals (ns.map V.int) us→∃ xs:List (Int × Tok),us.toArray=intItems xs.toArray∧ns=xs.map (·.1)
  | [],_,.nil=>⟨[],by simp [intItems],rfl⟩
  | n :: ns,_,.cons ⟨t,e⟩ r=>by
    obtain ⟨xs,e1,e2⟩:=ints_items r
    refine ⟨(n,t) :: xs,?_,by rw [e2];rfl⟩
    subst e
    have e1':=congrArg Array.toList e1
    simp [intItems] at e1' ⊢
    exact e1'
section
variable {X:Cx}
theorem numAt_mem {xs:Array (Int × Tok)} {i:Nat} (h:i < xs.size):numAt xs i ∈ xs.toList.map (·.1):=by
  rw [numAt_eq];exact getD_mem (by rw [List.length_map,Array.length_toList];omega)
theorem call_max_list (hc:X.calm=true):CallR X (.builtin "max") (fun us H Q=>∃ (a:Addr) (ns:List Int),us=[.ref a]∧SqL X.K H a (ns.map V.int)∧0 < ns.length∧∀ m,m ∈ ns→(∀ b ∈ ns,b≤m)→Q (.int m) H):=by
  intro pins s σ H us vs Q I r h
  obtain ⟨a,ns,rfl,hq,hne,q⟩:=h
  obtain ⟨u,rfl,rx⟩:=r.one
  cases (show u=Value.ref a from rx)
  obtain ⟨its,rv,pl,hz⟩:=I.list hq
  obtain ⟨xs,e1,e2⟩:=ints_items rv
  have hl:=pl.isList
  rw [e1] at hl
  have hsz:0 < xs.toArray.size:=by
    rw [e2,List.length_map] at hne;simpa using hne
  refine max_intList (I.ok.hd hc) hl hsz fun v h' tk hv hk=>?_
  obtain ⟨t,rfl⟩:=intItems_at hv
  obtain ⟨h1,h2⟩:=argBest_gt (numAt xs.toArray) (xs.toArray.size - 1)
  refine ⟨.int _,H,I.kept (t':=tk) fun b o e=>hk b o e,⟨t,rfl⟩,q _ ?_ fun b hb=>?_⟩
  · rw [e2];exact numAt_mem (xs:=xs.toArray) (by omega)
  · rw [e2] at hb
    obtain ⟨j,hj,rfl⟩:=mem_getD hb
    rw [List.length_map] at hj
    have z:=h2 j (by simp;omega)
    rw [numAt_eq] at z ⊢
    rw [numAt_eq] at z
    simpa using z
end
section
variable {X:Cx}
end
end L2
namespace L2
open PySem PySem.Spec PyProof.Rows
section
variable {X:Cx}
end
end L2
namespace L2
open PySem PySem.Spec PyProof.Rows
section
variable {X:Cx}
end
structure InsT (K:PySem.W.Frag) (C:Addr):Prop where
  cl:Cls K C
  ha:PySem.W.findIn K (.ref C) "__class__" = some (some (.builtin "object.__class__"))
  hn:PySem.W.specialIn K (.builtin "object.__class__") "__get__" = some (some (.builtin "getset_descriptor.__get__"))
  tk:PySem.W.takesIn K (.builtin "object.__class__")=some true
  hm:PySem.W.mroIn K C (.type "object")=some true
section
variable {CX:CXT} {P:Program} {w:World} {K:PySem.W.Frag} {mg:Str→Option Value} {base:Heap} {k:Nat} {C:Addr} {m:Str} {ps:List Str} {sp:Sp} {cs:List (Addr × Sp)}
end
section
variable {X:Cx} {CX:CXT} {k:Nat} {f C:Addr} {fd:FuncData} {ps:List Str} {sp:Sp} {x m:Str} {p np pos apos:Pos} {e o:Expr} {es:List Expr} {ta:TE} {t:TA} {cs:List (Addr × Sp)}
end
end L2
namespace L2
open PySem PySem.Spec PyProof.Rows
theorem iteTS {c A B:Prop} [Decidable c] (hc:c) (h:A):if decide c=true then A else B:=by rw [if_pos (decide_eq_true hc)];exact h
theorem iteFS {c A B:Prop} [Decidable c] (hc:¬ c) (h:B):if decide c=true then A else B:=by rw [if_neg (by rw [decide_eq_false hc];decide)];exact h
end L2
namespace L2
open PySem PySem.Spec PyProof.Rows
theorem ls0 {P:List Value→Prop} (h:P []):∀ us:List Value,us.length=0→P us:=fun us e=>by
  cases us
  · exact h
  · cases e
theorem lsS {P:List Value→Prop} {n:Nat} (h:∀ a us,us.length=n→P (a :: us)):∀ us:List Value,us.length=n+1→P us:=fun us e=>by
  cases us
  · cases e
  · exact h _ _ (Nat.succ.inj e)
theorem ls1 {P:List Value→Prop} (h:∀ a,P [a]):∀ us:List Value,us.length=1→P us:=lsS fun a=>ls0 (P:=fun v=>P (a :: v)) (h a)
theorem ls2 {P:List Value→Prop} (h:∀ a b,P [a,b]):∀ us:List Value,us.length=2→P us:=lsS fun a=>ls1 (P:=fun v=>P (a :: v)) (h a)
theorem ls3 {P:List Value→Prop} (h:∀ a b c,P [a,b,c]):∀ us:List Value,us.length=3→P us:=lsS fun a=>ls2 (P:=fun v=>P (a :: v)) (h a)
theorem ls4 {P:List Value→Prop} (h:∀ a b c d,P [a,b,c,d]):∀ us:List Value,us.length=4→P us:=lsS fun a=>ls3 (P:=fun v=>P (a :: v)) (h a)
theorem lb1 {fd:FuncData} {ps:List Str} (h:∀ a,bindArgs fd ⟨[a],[]⟩=pure (ps.zip [a])):∀ us:List Value,us.length=1→bindArgs fd ⟨us,[]⟩=pure (ps.zip us):=ls1 (P:=fun us=>bindArgs fd ⟨us,[]⟩=pure (ps.zip us)) h
theorem lb2 {fd:FuncData} {ps:List Str} (h:∀ a b,bindArgs fd ⟨[a,b],[]⟩=pure (ps.zip [a,b])):∀ us:List Value,us.length=2→bindArgs fd ⟨us,[]⟩=pure (ps.zip us):=ls2 (P:=fun us=>bindArgs fd ⟨us,[]⟩=pure (ps.zip us)) h
theorem lb4 {fd:FuncData} {ps:List Str} (h:∀ a b c d,bindArgs fd ⟨[a,b,c,d],[]⟩=pure (ps.zip [a,b,c,d])):∀ us:List Value,us.length=4→bindArgs fd ⟨us,[]⟩=pure (ps.zip us):=ls4 (P:=fun us=>bindArgs fd ⟨us,[]⟩=pure (ps.zip us)) h
section
variable {CX:CXT} {P:Program} {w:World} {K:PySem.W.Frag} {mg:Str→Option Value} {base:Heap} {j k:Nat} {C f:Addr} {fd:FuncData} {x m q:Str} {N ps:List Str} {sp:Sp} {st:Stmt}
theorem fsc {P:List Str} {sc:Scope} (a:sc.kind=.function:=by rfl) (b:sc.isCoroutine=false:=by rfl) (c:sc.isGenerator=false:=by rfl) (d:N.Nodup:=by decide +kernel) (e:N.take P.length=P:=by rfl) (g:∀ x ∈ P,sc.names.lookup x=some .local∨sc.names.lookup x=some .cell:=by decide +kernel) (h:∀ y ∈ sc.names,y.2 ≠ .free:=by decide +kernel):FnScope N P sc:=⟨a,b,c,d,e,g,h⟩
theorem Fun.okA (F:Fun K x q st f fd) (S:FnScope N ps (defScope st)) (hbody:∀ (cdv:Value) (A:Around) (outer:List Env) (s:Shared) (H:Hp) (vs:List V) (Q:VK) (E:XK),Room k (A.deeper (envOfC q (defScope st) s.heap.objs.size f cdv))→sp vs H Q E→∃ t,PSs (cxOf CX0 P w K mg base N q (defScope st) f cdv A outer s H E).nox (defBody st) t∧t { nx:=fun _ H'=>Q .non H',rt:=Q } (start N vs) H) (len:∀ vs H Q E,sp vs H Q E→vs.length=ps.length:=by intro vs H Q E h;cases h;subst_vars;rfl):FnOk P w K mg base CX0 (k+1) f fd ps sp:=F.ok S len hbody
theorem Callee.up (c:Callee P w K mg base j x ps sp) (h:j≤k:=by decide):Callee P w K mg base k x ps sp:=c.mono h
inductive GF (K:PySem.W.Frag) (x q:Str) (st:Stmt):Prop
  | mk {f:Addr} {fd:FuncData} (a:PySem.W.nsIn K mainGlobals x=some (some (.ref f))) (F:Fun K q q st f fd):GF K x q st
inductive Zb (P:Program) (w:World) (K:PySem.W.Frag) (mg:Str→Option Value) (base:Heap):Prop
  | mk {h:Heap} (X:K.In h) (G:h.Ns mainGlobals mg):Zb P w K mg base
theorem Zb.g (Z:Zb P w K mg base) {v:Value} (e:PySem.W.nsIn K mainGlobals x=some (some v)):mg x=some v:=by cases Z with | mk X G=>exact PySem.W.mg_of X G e
theorem mkC (Z:Zb P w K mg base) (h:GF K x q st) (O:∀ {f:Addr} {fd:FuncData},Fun K q q st f fd→FnOk P w K mg base CX0 k f fd ps sp) (b:∀ {f:Addr} {fd:FuncData},Fun K q q st f fd→Binds K fd ps []:=by exact fun F=>F.binds fun _ _ _ _ _ _=>by first | exact L2.lb0 rfl | exact L2.lb1 fun _=>rfl | exact L2.lb2 fun _ _=>rfl | exact L2.lb3 fun _ _ _=>rfl | exact L2.lb4 fun _ _ _ _=>rfl | exact L2.lb5 fun _ _ _ _ _=>rfl | exact L2.lb6 fun _ _ _ _ _ _=>rfl | exact L2.lb7 fun _ _ _ _ _ _ _=>rfl | exact L2.lb8 fun _ _ _ _ _ _ _ _=>rfl | exact L2.lb9 fun _ _ _ _ _ _ _ _ _=>rfl):Callee P w K mg base k x ps sp:=by
  cases h with | mk a F=>exact ⟨_,_,O F,b F,F.kp,Z.g a⟩
theorem gv_mk {v:V} {u:Value} (a:PySem.W.nsIn K mainGlobals x=some (some u)) (r:RelV v u):∃ u,PySem.W.nsIn K mainGlobals x=some (some u)∧RelV v u:=⟨u,a,r⟩
end
end L2
namespace L2
open PySem PySem.Spec PyProof.Rows
section
variable {X:Cx} {pins:List (Addr × Obj)} {σ:St} {H:Hp} {s:Shared} {h' : Heap}
end
section
variable {X:Cx}
end
end L2
namespace L2
open PySem PySem.Spec PyProof.Rows
section
variable {X:Cx}
end
end L2
namespace L2
open PySem PySem.Spec PyProof.Rows
end L2
namespace L2
open PySem
set_option maxRecDepth 100000
section
variable {prog:Program} {w:World} {A:Around} {E:Value→Shared→Prop} {s:Shared}
end
section
variable {prog:Program} {w:World} {A:Around} {R:Result→Shared→Prop} {E:Value→Shared→Prop}
end
end L2
namespace L2
open PySem
set_option maxRecDepth 100000
section
variable {prog:Program} {w:World} {A:Around} {E:Value→Shared→Prop} {s:Shared}
end
end L2
namespace L2
open PySem PySem.Spec PyProof.Rows
set_option maxRecDepth 100000
section
variable {prog:Program} {w:World} {A:Around} {E:Value→Shared→Prop} {s:Shared}
end
section
variable {X:Cx} {pins:List (Addr × Obj)} {σ:St} {H H' : Hp} {s:Shared}
end
section
variable {X:Cx}
end
end L2
namespace L2
open PySem PySem.Spec PyProof.Rows
section
variable {X:Cx}
end
section
variable {gt:TG} {k:Nat} {fr:List Nat} {tt:TT} {te:TE}
end
section
variable {X:Cx}
end
section
variable {X:Cx} {elt iter tg:Expr} {ifs:List Expr} {pos:Pos} {scope:Scope} {cl:List (Str × Addr)} {N:List Str} {k:Nat} {fr:List Nat} {gt:TG} {tt:TT} {te:TE}
end
end L2
namespace L2
open PySem
set_option maxRecDepth 100000
section
variable {X:Cx}
end
end L2
namespace L2
open PySem
set_option maxRecDepth 100000
section
variable {prog:Program} {w:World} {A:Around} {E:Value→Shared→Prop} {s:Shared}
end
section
variable {X:Cx}
end
end L2
namespace L2
open PySem
end L2
namespace L2
open PySem PySem.Spec PyProof.Rows
structure CmpOkN (X:Cx) (N:List Str) (k:Nat) (fr:List Nat) (scope:Scope) (cl:List (Str × Addr)):Prop where
  clos:closureFor scope X.env=pure cl
  kind:scope.kind=.function
  names:∀ y ∈ scope.names,y.2=.local→scope.names.lookup y.1=some .local
  len:N.length=k+fr.length
  sub:∀ (i:Nat) (y:Str),N[k+i]?=some y→∃ j,fr[i]?=some j∧X.N[j]?=some y∧(X.env.kindOf y=some .cell∨X.env.kindOf y=some .free)∧((relabel scope X.env).names.lookup y=some .cell∨(relabel scope X.env).names.lookup y=some .free)∧∃ c,cl.lookup y=some c∧∀ C:Addr,(cellsFrom (C+1) scope.names cl).lookup y=some c
  cells:∀ y c,cl.lookup y=some c→X.env.cells.lookup y=some c
  has:∀ (C:Addr) (y:Str),((relabel scope X.env).names.lookup y=some .cell∨(relabel scope X.env).names.lookup y=some .free)→∃ c,(cellsFrom (C+1) scope.names cl).lookup y=some c
section
variable {X:Cx} {elt iter tg:Expr} {ifs:List Expr} {pos:Pos} {scope:Scope} {cl:List (Str × Addr)} {N:List Str} {k:Nat} {fr:List Nat} {gt:TG} {tt:TT} {te:TE}
end
end L2
namespace L2
open PySem PySem.Spec PyProof.Rows
section
variable {X:Cx} {st b₀:Stmt} {su:List Stmt} {tb:TSX} {ts:Addr→Addr→TS} {Tn:Str} {B:Addr} {np hpos pos:Pos}
end
end L2
namespace L2
open PySem PySem.Spec PyProof.Rows
abbrev TTh:HO:=.ext fun _=>True
theorem objTT {P:Program} {w:World} {H:Hp} {h:Heap} {a:Addr} {o:Obj} (e:h.get? a=some o):ObjOk P w H h a (.frz o TTh):=⟨e,trivial,⟨o,e⟩,fun _ _ _ _=>trivial⟩
def hideL (H:Hp) (cs:List Addr):Hp:=fun b=>if b ∈ cs then none else H b
def frzL (H:Hp) (fz:List (Addr × Obj)):Hp:=fun b=>match fz.lookup b with
  | some o=>some (.frz o TTh)
  | none=>H b
def backL (H H' : Hp) (cs:List Addr):Hp:=fun b=>if b ∈ cs then H b else H' b
theorem hideL_in {H:Hp} {cs:List Addr} {b:Addr} (h:b ∈ cs):hideL H cs b=none:=if_pos h
theorem hideL_out {H:Hp} {cs:List Addr} {b:Addr} (h:b ∉ cs):hideL H cs b=H b:=if_neg h
theorem backL_in {H H' : Hp} {cs:List Addr} {b:Addr} (h:b ∈ cs):backL H H' cs b=H b:=if_pos h
theorem backL_out {H H' : Hp} {cs:List Addr} {b:Addr} (h:b ∉ cs):backL H H' cs b=H' b:=if_neg h
theorem hideL_none {H:Hp} {cs:List Addr} {b:Addr} (h:H b=none):hideL H cs b=none:=by
  unfold hideL
  split
  · rfl
  · exact h
theorem hideL_some {H:Hp} {cs:List Addr} {b:Addr} {o:HO} (h:hideL H cs b=some o):b ∉ cs∧H b=some o:=by
  unfold hideL at h
  split at h
  · cases h
  · rename_i n
    exact ⟨n,h⟩
def Fzs (H:Hp) (cs:List Addr):Prop:=∀ c ∈ cs,∃ o,H c=some (.frz o TTh)
theorem Fzs.out {H:Hp} {cs:List Addr} (h:Fzs H cs) {b:Addr} {u:HO} (e:H b=some u) (n:∀ o,u ≠ .frz o TTh):b ∉ cs:=fun z=>by
  obtain ⟨o,q⟩:=h b z
  rw [e] at q
  exact n o (Option.some.inj q)
section
variable {P:Program} {w:World} {H H' : Hp} {h h' : Heap} {cs:List Addr}
theorem HOk.hideL (x:HOk P w H h) (f:Fzs H cs):HOk P w (hideL H cs) h:=fun b o e=>by
  obtain ⟨n,e⟩:=hideL_some e
  refine (x b o e).stay (fun _ _ _ q=>q) (fun c q=>?_) fun c xs q=>?_
  · rw [hideL_out (f.out q fun _ z=>by cases z)];exact q
  · rw [hideL_out (f.out q fun _ z=>by cases z)];exact q
theorem HOk.backL (x:HOk P w H' h') (f:Fzs H cs) (n:∀ c ∈ cs,H' c=none) (k:∀ c ∈ cs,∀ o,H c=some (.frz o TTh)→h'.get? c=some o):HOk P w (backL H H' cs) h':=fun b o e=>by
  by_cases hb:b ∈ cs
  · rw [backL_in hb] at e
    obtain ⟨ob,q⟩:=f b hb
    rw [q] at e
    cases e
    exact objTT (k b hb ob q)
  · rw [backL_out hb] at e
    have out:∀ {c:Addr} {u:HO},H' c=some u→c ∉ cs:=fun {c u} q z=>by rw [n c z] at q;cases q
    refine (x b o e).stay (fun _ _ _ q=>q) (fun c q=>?_) fun c xs q=>?_
    · rw [backL_out (out q)];exact q
    · rw [backL_out (out q)];exact q
end
section
variable {fs:List Addr} {H H' : Hp} {h h' : Heap} {cs:List Addr}
theorem Un.backL (u:Un fs [] (hideL H cs) H' h h') (f:Fzs H cs):Un fs [] H (backL H H' cs) h h' where
  keep:=fun b o e n hb hx=>u.keep b o e (hideL_none n) hb hx
  slot:=fun b o e n hb hx=>u.slot b o e (hideL_none n) hb hx
  free:=fun b o e n hx=>by
    have:b ∉ cs:=fun z=>by obtain ⟨ob,q⟩:=f b z;rw [n] at q;cases q
    rw [backL_out this]
    exact u.free b o e (hideL_none n) hx
  there:=u.there
  tups:=fun b xs e=>by
    have hb:=f.out e fun _ z=>by cases z
    rw [backL_out hb]
    exact u.tups b xs (by rw [hideL_out hb];exact e)
  frzs:=fun b o v e=>by
    by_cases hb:b ∈ cs
    · rw [backL_in hb];exact e
    · rw [backL_out hb]
      exact u.frzs b o v (by rw [hideL_out hb];exact e)
  tbls:=fun b ps e=>by
    have hb:=f.out e fun _ z=>by cases z
    rw [backL_out hb]
    exact u.tbls b ps (by rw [hideL_out hb];exact e)
end
def CodeO (oc:Obj) (qual:Str):Prop:=∃ vs t,oc.data=.fields vs∧vs[1]?=some (.str qual t)
structure CScope (N ps:List Str) (sc:Scope) (cl:List (Str × Addr)):Prop where
  kind:sc.kind=.function
  co:sc.isCoroutine=false
  gen:sc.isGenerator=false
  nd:N.Nodup
  pre:N.take ps.length=ps
  par:∀ x ∈ ps,sc.names.lookup x=some .local
  nocell:∀ y ∈ sc.names,y.2 ≠ .cell
  has:∀ y ∈ sc.names,y.2=.free→∃ c,cl.lookup y.1=some c
def cxC (CX:CXT) (P:Program) (w:World) (K:PySem.W.Frag) (mg:Str→Option Value) (base:Heap) (N:List Str) (qual:Str) (scope:Scope) (f:Addr) (cd:Value) (cl:List (Str × Addr)) (A:Around) (outer:List Env) (s:Shared) (H:Hp) (E:XK):Cx where
  prog:=P
  w:=w
  K:=K
  mg:=mg
  base:=base
  A:=A.deeper (PySem.W.envX qual scope s.heap.objs.size f cd cl)
  N:=N
  s₀:=s
  H₀:=hideL H (cl.map (·.2))
  env:=PySem.W.envX qual scope s.heap.objs.size f cd cl
  outer:=outer
  stack:=PySem.W.envX qual scope s.heap.objs.size f cd cl :: outer
  ex:=[]
  calm:=true
  fn:=fun _=>false
  pn:=[]
  xe:=fun e s'=>wpAny (model P w) (A.deeper (PySem.W.envX qual scope s.heap.objs.size f cd cl)) (leaving (PySem.W.envX qual scope s.heap.objs.size f cd cl) e) (fun _ s''=>CX outer H s E e s'') (fun e' s''=>CX outer H s E e' s'') s'
def CellsAt (H:Hp) (cl:List (Str × Addr)) (ws:List (Str × V)):Prop :=
  (∀ c ∈ cl.map (·.2),∃ o v,H c=some (.frz o TTh)∧o.data=.cell v)∧∀ (x:Str) (v:V),ws.lookup x=some v→∃ c o u,cl.lookup x=some c∧H c=some (.frz o TTh)∧o.data=.cell (some u)∧RelV v u
theorem CellsAt.fzs {H:Hp} {cl:List (Str × Addr)} {ws:List (Str × V)} (h:CellsAt H cl ws):Fzs H (cl.map (·.2)):=fun c hc=>let ⟨o,_,e,_⟩:=h.1 c hc;⟨o,e⟩
def startC (N ps:List Str) (vs:List V) (ws:List (Str × V)):St:=vs.map some ++ (N.drop ps.length).map fun x=>ws.lookup x
theorem mem_lookup_map {cl:List (Str × Addr)} {x:Str} {c:Addr} (h:cl.lookup x=some c):c ∈ cl.map (·.2):=List.mem_map.mpr ⟨(x,c),PySem.mem_of_lookup h,rfl⟩
theorem rev_lookup {ps:List Str} {us:List Value} {i:Nat} {y:Str} {u:Value} (nd:ps.Nodup) (h1:ps[i]?=some y) (h2:us[i]?=some u) (hl:us.length=ps.length):(ps.zip us).reverse.lookup y=some u:=by
  have hnd:((ps.zip us).map (·.1)).Nodup:=by rw [List.map_fst_zip (by omega)];exact nd
  rw [PySem.lookup_reverse_of_nodup _ hnd]
  have hm:(y,u) ∈ ps.zip us:=by
    have:(ps.zip us)[i]?=some (y,u):=by rw [List.getElem?_zip_eq_some];exact ⟨h1,h2⟩
    exact List.mem_of_getElem? this
  cases e:(ps.zip us).lookup y with
  | none =>
    exact absurd hm (by
      intro hm
      have:=List.lookup_eq_none_iff.mp e (y,u) hm
      simp at this)
  | some v =>
    have:=PySem.mem_of_lookup e
    obtain ⟨j,ej⟩:=List.getElem?_of_mem this
    rw [List.getElem?_zip_eq_some] at ej
    have:=nodup_ix nd ej.1 h1
    subst this
    rw [h2] at ej
    rw [Option.some.inj ej.2]
end L2
namespace L2
open PySem PySem.Spec PyProof.Rows
section
variable {X:Cx}
end
def HFn (P:Program) (w:World) (K:PySem.W.Frag) (mg:Str→Option Value) (base:Heap) (k:Nat) (f:Addr) (sp:Sp):Prop:=∃ fd ps,FnOk P w K mg base CX0 k f fd ps sp∧Binds K fd ps []
def FnO (H:Hp) (f:Addr):Prop:=∃ o fd,H f=some (.frz o TTh)∧o.data=.func fd
section
variable {X:Cx} {k i:Nat} {x:Str} {e:Expr} {es:List Expr} {t:TA} {p pos:Pos}
inductive tHeld (X:Cx) (k i:Nat) (t:TA) (σ:St) (H:Hp) (Q:VK):Prop
  | mk (f:Addr) (sp:Sp) (_:σ[i]?=some (some (.ref f))) (_:FnO H f) (_:HFn X.prog X.w X.K X.mg X.base k f sp) (_:t σ H fun vs H1=>FnO H1 f∧sp vs H1 Q E0):tHeld X k i t σ H Q
theorem pe_held (hr:Room k X.A) (hN:X.N[i]?=some x) (hv:Vis X.env.scope x) (ha:PA X (e :: es) t) (hd:(x == ("__debug__" : Str))=false:=by decide) (hcd:(x == ("__classdict__" : Str))=false:=by decide)
    (he:starEach (e :: es) X.env=(false,eval e X.env) :: starEach es X.env:=by rfl) (hpl:(backTo pos (starEach es X.env)).any (·.1)=false:=by rfl):PE X (.Call (.Name x p) (e :: es) [] pos) (tHeld X k i t):=by
  intro pins s σ H Q I h
  obtain ⟨f,sp,ef,fo,⟨fd,pn,F,hb⟩,h⟩:=h
  have at_:∀ {H:Hp} {s:Shared} {σ:St},Inv X pins σ H s→FnO H f→PySem.W.FnAt f s.heap:=fun I' ⟨o,fd,e,d⟩=>by
    have:=(I'.hok f _ e).1
    obtain ⟨oc,od,dt,sl⟩:=o
    simp only at d
    subst d
    exact ⟨oc,od,fd,sl,this⟩
  refine wpAny_Call_Name_kw (thn (pe_var hN hv hd hcd pins s σ H (fun v H'=>v=.ref f∧H'=H) I ⟨_,ef,rfl,rfl⟩) fun u s1 ⟨v,H1,I1,r1,q1⟩=>?_)
  obtain ⟨rfl,rfl⟩:=q1
  cases (show u=Value.ref f from r1)
  refine PySem.W.callWith_F (at_ I1 fo) (thn (ha pos pins s1 σ H1 _ I1 h) fun us s2 ⟨vs,H2,I2,r2,fo2,q2⟩=>⟨at_ I2 fo2,?_⟩) he hpl
  exact run_fn (E:=E0) (dvs:=[]) (ds:=[]) F hr hb .nil pass0 I2 r2 (by rw [List.append_nil];exact q2)
end
section
variable {X:Cx} {pins:List (Addr × Obj)} {σ:St} {H:Hp} {s:Shared}
theorem frzL_out {H:Hp} {fz:List (Addr × Obj)} {b:Addr} (h:b ∉ fz.map (·.1)):frzL H fz b=H b:=by
  unfold frzL
  cases e:fz.lookup b with
  | none=>rfl
  | some o=>exact absurd (List.mem_map.mpr ⟨(b,o),PySem.W.mem_of_lookupK e,rfl⟩) h
theorem frzL_in {H:Hp} {fz:List (Addr × Obj)} {b:Addr} (h:b ∈ fz.map (·.1)):∃ o,(b,o) ∈ fz∧frzL H fz b=some (.frz o TTh):=by
  unfold frzL
  cases e:fz.lookup b with
  | none =>
    obtain ⟨⟨b',o⟩,hm,rfl⟩:=List.mem_map.mp h
    have:=List.lookup_eq_none_iff.mp e _ hm
    simp at this
  | some o=>exact ⟨o,PySem.W.mem_of_lookupK e,rfl⟩
structure FzOk (X:Cx) (s:Shared) (fz:List (Addr × Obj)):Prop where
  cell:∀ p ∈ fz,∃ x,X.env.cells.lookup x=some p.1
  nb:∀ p ∈ fz,X.base.get? p.1=none
  nf:∀ p ∈ fz,p.1 ∉ X.fs
  at_:∀ p ∈ fz,s.heap.get? p.1=some p.2
theorem FzOk.free {fz:List (Addr × Obj)} (z:FzOk X s fz) (I:Inv X pins σ H s):∀ b ∈ fz.map (·.1),H b=none:=fun b hb=>by
  obtain ⟨p,hp,rfl⟩:=List.mem_map.mp hb
  obtain ⟨x,e⟩:=z.cell p hp
  exact I.freeC x _ e
theorem FzOk.hok {fz:List (Addr × Obj)} (z:FzOk X s fz) (I:Inv X pins σ H s):HOk X.prog X.w (frzL H fz) s.heap:=fun b u e=>by
  by_cases hb:b ∈ fz.map (·.1)
  · obtain ⟨o,hm,q⟩:=frzL_in (H:=H) hb
    rw [q] at e
    cases e
    exact objTT (z.at_ _ hm)
  · rw [frzL_out hb] at e
    have out:∀ {d:Addr} {u:HO},H d=some u→frzL H fz d=some u:=fun {d u} q=>by
      rw [frzL_out fun m=>by rw [z.free I d m] at q;cases q];exact q
    exact (I.hok b u e).stay (fun _ _ _ q=>q) (fun d q=>out q) fun d xs q=>out q
theorem FzOk.env0 {fz:List (Addr × Obj)} (z:FzOk X s fz) (I:Inv X pins σ H s):Env0 X.prog X.w X.K X.mg X.base X.A X.stack s (frzL H fz):=by
  have e:=I.env0
  refine ⟨e.frames,e.mod,fun b o q=>⟨(e.bs b o q).1,?_⟩,e.bsz,e.funs,fun b hb=>?_,z.hok I,e.bare⟩
  · rw [frzL_out fun m=>?_]
    · exact (e.bs b o q).2
    · obtain ⟨p,hp,rfl⟩:=List.mem_map.mp m
      rw [z.nb p hp] at q
      cases q
  · rw [frzL_out fun m=>?_]
    · exact e.frf b hb
    · obtain ⟨p,hp,rfl⟩:=List.mem_map.mp m
      rcases List.mem_cons.mp (I.stkSub _ hb) with q | q
      · obtain ⟨x,ex⟩:=z.cell p hp
        exact I.cne x _ ex q
      · exact z.nf p hp q
theorem Inv.cellNew (I:Inv X pins σ H s) {x:Str} {c:Addr} (e:X.env.cells.lookup x=some c) (hf:X.fn x=true):X.base.get? c=none∧c ∉ X.fs:=by
  have old:=I.ok.cab x c hf e
  refine ⟨Heap.get?_none_of_le (Nat.le_trans I.ok.bsz old),fun q=>?_⟩
  obtain ⟨_,o,ho,_⟩:=I.ok.funs.mem q
  exact absurd (Heap.lt_size ho) (Nat.not_lt.mpr old)
theorem FzOk.after {fz:List (Addr × Obj)} {Q:VK} {u:Value} {s' : Shared} (z:FzOk X s fz) (I:Inv X pins σ H s) (h:CE X.stack X.prog X.w (frzL H fz) s (fun v H2=>Q v (hideL H2 (fz.map (·.1)))) u s'):EP X pins σ Q u s':=by
  obtain ⟨v,H2,os,bare,un,hok,r,q⟩:=h
  have fzs:Fzs H2 (fz.map (·.1)):=fun c hc=>by
    obtain ⟨o,_,e⟩:=frzL_in (H:=H) hc
    exact ⟨o,un.frzs c o _ e⟩
  have out:∀ {d:Addr} {u:HO},H d=some u→d ∉ fz.map (·.1):=fun {d u} q m=>by rw [z.free I d m] at q;cases q
  refine ⟨v,hideL H2 (fz.map (·.1)),I.call' (ch:=[]) os ⟨fun b o e n hb hx=>?_,fun b o e n hb hx=>?_,fun b o e n hx=>?_,un.there,fun b xs e=>?_,fun b o w' e=>?_,fun b ps e=>?_⟩ (hok.hideL fzs) bare (fun b hb=>absurd hb (by simp)),r,q⟩
  · by_cases hm:b ∈ fz.map (·.1)
    · obtain ⟨ob,hmem,q2⟩:=frzL_in (H:=H) hm
      have:=(hok b _ (un.frzs b ob _ q2)).1
      have e':=z.at_ _ hmem
      rw [e] at e'
      cases e'
      exact this
    · exact un.keep b o e (by rw [frzL_out hm];exact n) hb hx
  · by_cases hm:b ∈ fz.map (·.1)
    · obtain ⟨ob,hmem,q2⟩:=frzL_in (H:=H) hm
      have:=(hok b _ (un.frzs b ob _ q2)).1
      have e':=z.at_ _ hmem
      rw [e] at e'
      cases e'
      exact ⟨_,this⟩
    · exact un.slot b o e (by rw [frzL_out hm];exact n) hb hx
  · by_cases hm:b ∈ fz.map (·.1)
    · exact hideL_in hm
    · rw [hideL_out hm]
      exact un.free b o e (by rw [frzL_out hm];exact n) hx
  · have hm:=out e
    rw [hideL_out hm]
    exact un.tups b xs (by rw [frzL_out hm];exact e)
  · have hm:=out e
    rw [hideL_out hm]
    exact un.frzs b o w' (by rw [frzL_out hm];exact e)
  · have hm:=out e
    rw [hideL_out hm]
    exact un.tbls b ps (by rw [frzL_out hm];exact e)
end
section
variable {X:Cx} {k:Nat} {x:Str} {ps:List Str} {sp:Sp} {e:Expr} {es:List Expr} {t:TA} {p pos:Pos}
def tZ (zs:List (Str × Nat × Addr)) (sp:Sp) (t:TA):TE:=fun σ H Q=>t σ H fun vs H1=>∀ os:List Obj,os.length=zs.length→(∀ z ∈ zs,H1 z.2.2=none) →
  (∀ (j:Nat) (z:Str × Nat × Addr),zs[j]?=some z→∃ o w,os[j]?=some o∧o.data=.cell w∧∀ v,σ[z.2.1]?=some (some v)→∃ u,w=some u∧RelV v u) →
  sp vs (frzL H1 ((zs.map (·.2.2)).zip os)) (fun v H2=>Q v (hideL H2 (zs.map (·.2.2)))) E0
theorem cells_now {pins:List (Addr × Obj)} {σ:St} {H:Hp} {s:Shared} (I:Inv X pins σ H s):∀ (zs:List (Str × Nat × Addr)),(∀ z ∈ zs,X.N[z.2.1]?=some z.1∧(X.env.scope.names.lookup z.1=some .cell∨X.env.scope.names.lookup z.1=some .free)∧X.env.cells.lookup z.1=some z.2.2∧(X.fn z.1=true∨(X.base.get? z.2.2=none∧z.2.2 ∉ X.fs))) →
    ∃ os:List Obj,os.length=zs.length∧(∀ (j:Nat) (z:Str × Nat × Addr),zs[j]?=some z→∃ o w,os[j]?=some o∧s.heap.get? z.2.2=some o∧o.data=.cell w∧∀ v,σ[z.2.1]?=some (some v)→∃ u,w=some u∧RelV v u)
  | [],_=>⟨[],rfl,fun j z e=>by simp at e⟩
  | z :: zs,h=>by
    obtain ⟨os,hl,ho⟩:=cells_now I zs fun q hq=>h q (List.mem_cons_of_mem _ hq)
    obtain ⟨h1,h2,h3,h4⟩:=h z List.mem_cons_self
    obtain ⟨w,o,e,d⟩:=I.cell _ _ h3
    refine ⟨o :: os,by rw [List.length_cons,List.length_cons,hl],fun j q hq=>?_⟩
    match j,hq with
    | 0,hq =>
      cases hq
      refine ⟨o,w,rfl,e,d,fun v hv=>?_⟩
      obtain ⟨m,hn,hloc⟩:=I.loc
      obtain ⟨u,r,l⟩:=hloc _ _ v h1 hv (.inr h2)
      rcases l with ⟨hk,_⟩ | ⟨_,c,hc,o',e',d'⟩
      · have hk:X.env.scope.names.lookup z.1=some .local:=hk
        rcases h2 with h2 | h2 <;> rw [h2] at hk <;> cases hk
      · rw [h3] at hc
        cases hc
        rw [e] at e'
        cases e'
        rw [d] at d'
        injection d' with d'
        exact ⟨u,d',r⟩
    | j+1,hq=>exact ho j q (by simpa using hq)
theorem zok_of {pins:List (Addr × Obj)} {σ:St} {H:Hp} {s:Shared} {zs:List (Str × Nat × Addr)} {os:List Obj} (I:Inv X pins σ H s)
    (hz:∀ z ∈ zs,X.N[z.2.1]?=some z.1∧(X.env.scope.names.lookup z.1=some .cell∨X.env.scope.names.lookup z.1=some .free)∧X.env.cells.lookup z.1=some z.2.2∧(X.fn z.1=true∨(X.base.get? z.2.2=none∧z.2.2 ∉ X.fs))) (hl:os.length=zs.length)
    (ho:∀ (j:Nat) (z:Str × Nat × Addr),zs[j]?=some z→∃ o w,os[j]?=some o∧s.heap.get? z.2.2=some o∧o.data=.cell w∧∀ v,σ[z.2.1]?=some (some v)→∃ u,w=some u∧RelV v u):FzOk X s ((zs.map (·.2.2)).zip os):=by
  have at_:∀ p ∈ (zs.map (·.2.2)).zip os,∃ z ∈ zs,z.2.2=p.1∧s.heap.get? p.1=some p.2:=fun p hp=>by
    obtain ⟨j,ej⟩:=List.getElem?_of_mem hp
    rw [List.getElem?_zip_eq_some,List.getElem?_map] at ej
    cases ez:zs[j]? with
    | none=>rw [ez] at ej;cases ej.1
    | some z =>
      rw [ez] at ej
      have e1:z.2.2=p.1:=Option.some.inj ej.1
      obtain ⟨o,w,e2,e3,_⟩:=ho j z ez
      rw [ej.2] at e2
      cases e2
      exact ⟨z,List.mem_of_getElem? ez,e1,e1 ▸ e3⟩
  have new:∀ z ∈ zs,X.base.get? z.2.2=none∧z.2.2 ∉ X.fs:=fun z hm=>by
    obtain ⟨_,_,h3,h4⟩:=hz z hm
    rcases h4 with h4 | h4
    · exact I.cellNew h3 h4
    · exact h4
  refine ⟨fun p hp=>?_,fun p hp=>?_,fun p hp=>?_,fun p hp=>?_⟩
  · obtain ⟨z,hm,e,_⟩:=at_ p hp
    exact ⟨z.1,e ▸ (hz z hm).2.2.1⟩
  · obtain ⟨z,hm,e,_⟩:=at_ p hp
    rw [← e]
    exact (new z hm).1
  · obtain ⟨z,hm,e,_⟩:=at_ p hp
    rw [← e]
    exact (new z hm).2
  · obtain ⟨z,hm,e,e2⟩:=at_ p hp
    exact e2
theorem pe_fnZ {zs:List (Str × Nat × Addr)} (C:Callee X.prog X.w X.K X.mg X.base k x ps sp) (hr:Room k X.A) (hg:Gl X x) (ha:PA X (e :: es) t) (hz:∀ z ∈ zs,X.N[z.2.1]?=some z.1∧(X.env.scope.names.lookup z.1=some .cell∨X.env.scope.names.lookup z.1=some .free)∧X.env.cells.lookup z.1=some z.2.2∧(X.fn z.1=true∨(X.base.get? z.2.2=none∧z.2.2 ∉ X.fs)))
    (hdb:(x == ("__debug__" : Str))=false:=by decide) (he:starEach (e :: es) X.env=(false,eval e X.env) :: starEach es X.env:=by rfl) (hpl:(backTo pos (starEach es X.env)).any (·.1)=false:=by rfl):PE X (.Call (.Name x p) (e :: es) [] pos) (tZ zs sp t):=by
  obtain ⟨f,fd,F,b,kk,m⟩:=C
  intro pins s σ H Q I h
  refine wpAny_Call_Name_kw (ld_glob I hg m ?_ hdb)
  refine PySem.W.callWith_K (h₀:=X.base) I.ok.mod.kin kk (thn (ha pos pins s σ H _ I h) fun us s1 ⟨vs,H1,I1,r,q⟩=>⟨I1.kIn,?_⟩) he hpl
  obtain ⟨os,hl,ho⟩:=cells_now I1 zs hz
  have hfst:((zs.map (·.2.2)).zip os).map (·.1)=zs.map (·.2.2):=List.map_fst_zip (by rw [List.length_map];omega)
  have zok:=zok_of I1 hz hl ho
  have hs:=q os hl (fun z hm=>I1.freeC z.1 _ (hz z hm).2.2.1) fun j z ez=>let ⟨o,w,a1,_,a3,a4⟩:=ho j z ez;⟨o,w,a1,a3,a4⟩
  have hlu:us.length=ps.length:=by rw [← r.length];exact F.len _ _ _ _ hs
  refine wpAny_call (codeAny_mono (F.run X.A X.stack s1 _ ⟨us,[]⟩ us vs _ E0 hr (zok.env0 I1) (by have:=b s1 us I1.kIn (by rw [List.append_nil];exact hlu);rw [List.append_nil] at this;exact this) r hs) fun r' s' hq=>?_)
  cases r' with
  | error e=>exact pass0 pins σ H1 s1 e s' I1 hq
  | ok fl =>
    cases fl with
    | ret u =>
      have hq:CE X.stack X.prog X.w _ s1 _ u s':=hq
      refine zok.after I1 ?_
      rw [hfst]
      exact hq
    | next=>exact False.elim hq
    | brk=>exact False.elim hq
    | cont=>exact False.elim hq
end
end L2
namespace L2
open PySem PySem.Spec PyProof.Rows PySem.W
def OnlyT (tabs:List (Addr × Addr)) (H:Hp):Prop:=∀ b,H b=none∨(∃ o xs,H b=some (.frz o (.lst xs)))∨(b ∈ tabs.map (·.2)∧H b=some (.tbl #[]))
theorem law_callT {P:Program} {w:World} {K:PySem.W.Frag} {mg mb:Str→Option Value} {CX:CXT} {k:Nat} {fa a:Addr} {fd:FuncData} {x:Str} {sp:Sp} {s₁:Shared} {vs:List Value} {ns:List Int} {tabs:List (Addr × Addr)}
    (KX:K.In s₁.heap) (hns:s₁.heap.Ns mainGlobals mg) (hb:s₁.heap.Ns builtinsNs mb) (hbb:∀ x:Str,x ≠ "__name__" → mb x=bootBuiltins x) (hlim:s₁.heap.NoLimit) (hg:s₁.gens = #[])
    (ha:s₁.heap.get? a=some { cls:=.type "list",data:=.seq vs.toArray }) (hi:IntsAre vs ns) (hl:ns.length≤sizeLine) (hr:Room k callerA)
    (hT:TabsAt tabs s₁.heap) (hnK:noTabs K=true) (hbm:∃ bm ob,mg "__builtins__" = some (.ref bm)∧bm ≠ builtinsNs∧s₁.heap.get? bm=some ob∧ob.cls=.type "module" ∧ ob.dict=some builtinsNs∧ob.data=.plain)
    (F:∀ base:Heap,K.In base→base.Ns mainGlobals mg→(∀ q ∈ tabs,CodeHd base q.1 q.2∧base.BuiltinsAt mg q.2)→FnOk P w K mg base CX k fa fd [x] sp) (hbind:∀ (s:Shared) (u:Value),BindsTo s fd ⟨[u],[]⟩ [(x,u)])
    (hsp:∀ H:Hp,OnlyT tabs H→SqL K H a (ns.map V.int)→(∀ q ∈ tabs,H q.2=some (.tbl #[]))→sp [.ref a] H (fun v _=>v=.bl true) fun _ _ _=>False)
    (hCX:∀ H e s',CX [] H s₁ (fun _ _ _=>False) e s'→False) :
    codeAny (model P w) callerA (.call (.ref fa) ⟨[.ref a],[]⟩) (fun r s'=>r=.ok (.ret (.bool true))∧OldK s₁.heap s'.heap∧s'.os=s₁.os∧AllBare s'.gens) s₁:=by
  have rv:=vals_ints hi
  have lenV:=hi.length
  have tabE:∀ b ∈ tabs.map (·.2),s₁.heap.get? b=some (tabObj #[]):=fun b hb'=>by
    obtain ⟨q,hq,rfl⟩:=List.mem_map.mp hb'
    exact (hT q hq).2
  have aT:a ∉ tabs.map (·.2):=fun z=>by
    have e:=tabE a z
    rw [ha] at e
    cases e
  have core:∀ H:Hp,OnlyT tabs H→SqL K H a (ns.map V.int)→HOk P w H s₁.heap→(∀ b,H b ≠ none→b=a∨b ∈ tabs.map (·.2))→(H a ≠ none→K.lookup a=none)→(∀ q ∈ tabs,H q.2=some (.tbl #[])) →
      codeAny (model P w) callerA (.call (.ref fa) ⟨[.ref a],[]⟩) (fun r s'=>r=.ok (.ret (.bool true))∧OldK s₁.heap s'.heap∧s'.os=s₁.os∧AllBare s'.gens) s₁:=by
    intro H hO hS hok hA hK hTb
    have base_of:∀ {b:Addr} {o:Obj},s₁.heap.get? b=some o→H b=none→(hidT s₁.heap H).get? b=some o:=fun e n=>hidT_get e n
    have noO:∀ {b:Addr} {o:Obj},s₁.heap.get? b=some o→(b=a→False)→o ≠ tabObj #[]→H b=none:=fun {b o} e n1 n2=>by
      cases q:H b with
      | none=>rfl
      | some u =>
        rcases hA b (by rw [q];simp) with z | z
        · exact (n1 z).elim
        · have:=tabE b z
          rw [e] at this
          exact absurd (Option.some.inj this) n2
    have noA:∀ {b:Addr} {o:Obj} {es:Array DictEntry} {ep:Nat},s₁.heap.get? b=some o→o.data=.dict es ep→H b=none:=fun {b o es ep} e d=>noO e (fun z=>by
      subst z
      rw [ha] at e
      cases e
      have d' : Data.seq vs.toArray _=Data.dict es ep:=d
      cases d') (fun z=>by rw [z] at d;cases d)
    have noC:∀ {b:Addr} {o:Obj} {T:String},s₁.heap.get? b=some o→o.cls=.type T→T ≠ "list" → H b=none:=fun {b o T} e d hT'=>noO e (fun z=>by
      subst z
      rw [ha] at e
      cases e
      have d' : Value.type "list" = Value.type T:=d
      injection d' with d'
      exact hT' d'.symm) (fun z=>by rw [z] at d;cases d)
    have nsK:∀ {b:Addr} {m:Str→Option Value},s₁.heap.Ns b m→(hidT s₁.heap H).Ns b m:=fun {b m} ⟨o,es,ep,e,d,r⟩=>⟨o,es,ep,base_of e (noA e d),d,r⟩
    have hKb:K.In (hidT s₁.heap H):=fun b o e=>base_of (KX b o e) (by
      cases q:H b with
      | none=>rfl
      | some u =>
        rcases hA b (by rw [q];simp) with z | z
        · subst z
          rw [hK (by rw [q];simp)] at e;cases e
        · have e2:=tabE b z
          rw [KX b o e] at e2
          cases e2
          have h2:=List.all_eq_true.mp hnK (b,tabObj #[]) (mem_of_lookupK e)
          exact absurd (show false=true from h2) Bool.false_ne_true)
    have hM:Mod K mg (hidT s₁.heap H):=⟨hKb,nsK hns,⟨mb,nsK hb,hbb⟩,let ⟨mc,h1,h2⟩:=hlim;⟨mc,nsK h1,h2⟩⟩
    have e0:Env0 P w K mg (hidT s₁.heap H) callerA [] s₁ H:=⟨rfl,hM,fun b o e=>of_hidT e,Nat.le_of_eq (hidT_size _ _),trivial,fun b hb=>absurd (show b ∈ ([]:List Addr) from hb) (by simp),hok,.of_eq hg⟩
    have hTB:∀ q ∈ tabs,CodeHd (hidT s₁.heap H) q.1 q.2∧(hidT s₁.heap H).BuiltinsAt mg q.2:=fun q hq=>by
      obtain ⟨o,vs',file,tf,flags,tg,inF,text,tt,e1,r1,r2⟩:=(hT q hq).1
      obtain ⟨bm,ob,b1,b2,b3,b4,b5,b6⟩:=hbm
      refine ⟨⟨o,vs',file,tf,flags,tg,inF,text,tt,base_of e1 (noC e1 r1 (by decide)),r1,r2⟩,bm,ob,b1,b2,fun z=>?_,fun z=>?_,base_of b3 (noC b3 b4 (by decide)),b4,b5,b6⟩
      · obtain ⟨o',es,ep,e,d,_⟩:=hns
        rw [z,e] at b3;cases b3;rw [d] at b6;cases b6
      · have e2:=(hT q hq).2
        rw [z,e2] at b3;cases b3;cases b4
    refine codeAny_mono ((F _ hKb (nsK hns) hTB).run callerA [] s₁ H ⟨[.ref a],[]⟩ [.ref a] [.ref a] _ _ hr e0 (hbind s₁ (.ref a)) (.cons rfl .nil) (hsp H hO hS hTb)) fun r s' h=>?_
    cases r with
    | error e=>exact (hCX H e s' h).elim
    | ok fl =>
      cases fl with
      | next=>exact False.elim h
      | brk=>exact False.elim h
      | cont=>exact False.elim h
      | ret u =>
        obtain ⟨v,H',os,bare,un,hok',r',q⟩:=h
        have q' : v=.bl true:=q
        subst q'
        obtain rfl:u=Value.bool true:=r'
        have kept:∀ b o,b ∉ tabs.map (·.2)→s₁.heap.get? b=some o→s'.heap.get? b=some o:=fun b o hb' e=>by
          cases q:H b with
          | none=>exact un.keep b o e q (by intro z;exact absurd (show b ∈ ([]:List Addr) from z) (by simp)) (by simp)
          | some u =>
            rcases hO b with z | ⟨ob,xs,z⟩ | ⟨z,_⟩
            · rw [q] at z;cases z
            · have z2:=un.frzs b ob _ z
              obtain ⟨e1,_⟩:=hok b _ z
              obtain ⟨e2,_⟩:=hok' b _ z2
              rw [e] at e1;cases e1
              exact e2
            · exact absurd z hb'
        have grown:∀ b ∈ tabs.map (·.2),isCodeTable s₁.heap b∧∃ more,s'.heap.get? b=some (tabObj more):=fun b hb'=>by
          obtain ⟨qq,hq,rfl⟩:=List.mem_map.mp hb'
          obtain ⟨more,e⟩:=un.tbls _ _ (hTb qq hq)
          have e2:s'.heap.get? qq.2=some (tabObj (#[] ++ more)):=hok' _ _ e
          exact ⟨((hT qq hq).1.tab (hT qq hq).2).isCodeTable,_,e2⟩
        refine ⟨rfl,⟨fun b o e=>?_,fun b o e=>?_⟩,os,bare⟩
        · by_cases hb' : b ∈ tabs.map (·.2)
          · obtain ⟨ht,more,e2⟩:=grown b hb'
            have e3:=tabE b hb'
            rw [e] at e3
            cases e3
            exact .inr (.inl ⟨ht,rfl,#[],more,rfl,by rw [Array.empty_append];exact e2⟩)
          · exact .inl (kept b o hb' e)
        · by_cases hb' : b ∈ tabs.map (·.2)
          · obtain ⟨_,more,e2⟩:=grown b hb'
            exact ⟨_,e2⟩
          · exact ⟨o,kept b o hb' e⟩
  cases hk:K.lookup a with
  | some o =>
    have e:=KX a o hk
    rw [ha] at e
    cases e
    refine core (fun b=>if b ∈ tabs.map (·.2) then some (.tbl #[]) else none) (fun b=>?_) (.inr ⟨_,vs.toArray,_,hk,rfl,rfl,rfl,by rw [List.size_toArray,lenV];exact hl,by simpa using rv⟩) (fun b u z=>?_) (fun b z=>?_) (fun z=>absurd (if_neg aT) z) fun q hq=>if_pos (List.mem_map.mpr ⟨q,hq,rfl⟩)
    · by_cases hb' : b ∈ tabs.map (·.2)
      · exact .inr (.inr ⟨hb',if_pos hb'⟩)
      · exact .inl (if_neg hb')
    · by_cases hb' : b ∈ tabs.map (·.2)
      · have z':=(if_pos hb').symm.trans z
        cases z'
        exact tabE b hb'
      · have z':=(if_neg hb').symm.trans z
        cases z'
    · by_cases hb' : b ∈ tabs.map (·.2)
      · exact .inr hb'
      · exact absurd (if_neg hb') z
  | none =>
    refine core (fun b=>if b=a then some (.frz { cls:=.type "list",data:=.seq vs.toArray } (.lst (ns.map V.int))) else if b ∈ tabs.map (·.2) then some (.tbl #[]) else none) (fun b=>?_) (.inl (.inr ⟨{ cls:=.type "list",data:=.seq vs.toArray },if_pos rfl⟩)) (fun b u z=>?_) (fun b z=>?_) (fun _=>hk) fun q hq=>?_
    · by_cases hb' : b=a
      · exact .inr (.inl ⟨_,_,if_pos hb'⟩)
      · by_cases hc:b ∈ tabs.map (·.2)
        · exact .inr (.inr ⟨hc,(if_neg hb').trans (if_pos hc)⟩)
        · exact .inl ((if_neg hb').trans (if_neg hc))
    · by_cases hb' : b=a
      · have z':=(if_pos hb').symm.trans z
        cases z'
        subst hb'
        exact ⟨ha,by rw [List.length_map];exact hl,vs,_,rv,ha⟩
      · by_cases hc:b ∈ tabs.map (·.2)
        · have z':=((if_neg hb').trans (if_pos hc)).symm.trans z
          cases z'
          exact tabE b hc
        · have z':=((if_neg hb').trans (if_neg hc)).symm.trans z
          cases z'
    · by_cases hb' : b=a
      · exact .inl hb'
      · by_cases hc:b ∈ tabs.map (·.2)
        · exact .inr hc
        · exact absurd ((if_neg hb').trans (if_neg hc)) z
    · have hm:q.2 ∈ tabs.map (·.2):=List.mem_map.mpr ⟨q,hq,rfl⟩
      have hne:q.2 ≠ a:=fun z=>aT (z ▸ hm)
      exact (if_neg hne).trans (if_pos hm)
end L2
namespace L2
open PySem PySem.Spec PyProof.Rows
section
variable {P:Program} {w:World} {K:PySem.W.Frag} {mg:Str→Option Value} {base:Heap}
def CloAt (H:Hp) (f c' : Addr) (fo:Obj) (qual:Str) (cl:List (Str × Addr)) (ws:List (Str × V)):Prop:=H f=some (.frz fo TTh)∧(∃ oc,H c'=some (.frz oc TTh)∧CodeO oc qual)∧CellsAt H cl ws
theorem CloAt.frz {H H' : Hp} {f c' : Addr} {fo:Obj} {qual:Str} {cl:List (Str × Addr)} {ws:List (Str × V)} (h:CloAt H f c' fo qual cl ws) (s:∀ b o,H b=some (.frz o TTh)→H' b=some (.frz o TTh)):CloAt H' f c' fo qual cl ws :=
  ⟨s _ _ h.1,let ⟨oc,e,q⟩:=h.2.1;⟨oc,s _ _ e,q⟩,fun c hc=>let ⟨o,v,e,d⟩:=h.2.2.1 c hc;⟨o,v,s _ _ e,d⟩,fun x v e=>let ⟨c,o,u,a,b,d,r⟩:=h.2.2.2 x v e;⟨c,o,u,a,s _ _ b,d,r⟩⟩
theorem cells_of {zs:List (Str × Nat × Addr)} {os:List Obj} {H:Hp} {σ:St} {cl:List (Str × Addr)} {ws:List (Str × V)} (hl:os.length=zs.length) (nd:(zs.map (·.2.2)).Nodup)
    (ho:∀ (j:Nat) (z:Str × Nat × Addr),zs[j]?=some z→∃ o w,os[j]?=some o∧o.data=.cell w∧∀ v,σ[z.2.1]?=some (some v)→∃ u,w=some u∧RelV v u)
    (h1:∀ c ∈ cl.map (·.2),∃ z ∈ zs,z.2.2=c) (h2:∀ (x:Str) (v:V),ws.lookup x=some v→∃ z ∈ zs,cl.lookup x=some z.2.2∧σ[z.2.1]?=some (some v)):CellsAt (frzL H ((zs.map (·.2.2)).zip os)) cl ws:=by
  have at_:∀ z ∈ zs,∃ o w,frzL H ((zs.map (·.2.2)).zip os) z.2.2=some (.frz o TTh)∧o.data=.cell w∧∀ v,σ[z.2.1]?=some (some v)→∃ u,w=some u∧RelV v u:=fun z hz=>by
    obtain ⟨j,ej⟩:=List.getElem?_of_mem hz
    obtain ⟨o,w,e1,e2,e3⟩:=ho j z ej
    have hfst:((zs.map (·.2.2)).zip os).map (·.1)=zs.map (·.2.2):=List.map_fst_zip (by rw [List.length_map];omega)
    obtain ⟨o',hm,e4⟩:=frzL_in (H:=H) (fz:=(zs.map (·.2.2)).zip os) (b:=z.2.2) (by rw [hfst];exact List.mem_map.mpr ⟨z,hz,rfl⟩)
    obtain ⟨i,ei⟩:=List.getElem?_of_mem hm
    rw [List.getElem?_zip_eq_some] at ei
    have ez:(zs.map (·.2.2))[j]?=some z.2.2:=by rw [List.getElem?_map,ej];rfl
    obtain ⟨a1,b1⟩:=List.getElem?_eq_some_iff.mp ei.1
    obtain ⟨a2,b2⟩:=List.getElem?_eq_some_iff.mp ez
    have hij:i=j:=(List.getElem_inj nd).mp (b1.trans b2.symm)
    subst hij
    have eo:o=o':=Option.some.inj (e1.symm.trans ei.2)
    subst eo
    exact ⟨o,w,e4,e2,e3⟩
  refine ⟨fun c hc=>?_,fun x v e=>?_⟩
  · obtain ⟨z,hz,rfl⟩:=h1 c hc
    obtain ⟨o,w,a,b,_⟩:=at_ z hz
    exact ⟨o,w,a,b⟩
  · obtain ⟨z,hz,e1,e2⟩:=h2 x v e
    obtain ⟨o,w,a,b,d⟩:=at_ z hz
    obtain ⟨u,rfl,r⟩:=d v e2
    exact ⟨z.2.2,o,u,e1,a,b,r⟩
end
end L2
namespace L2
open PySem PySem.Spec PyProof.Rows PySem.W
theorem has_of {sc:Scope} {cl:List (Str × Addr)} (h:(sc.names.all fun y=>match y.2 with | .free=>(cl.map (·.1)).any (y.1 == ·) | _=>true)=true):∀ y ∈ sc.names,y.2=.free→∃ c,cl.lookup y.1=some c:=fun y hy e=>by
  have:=List.all_eq_true.mp h y hy
  rw [e] at this
  obtain ⟨z,hz,ez⟩:=List.any_eq_true.mp this
  obtain ⟨p,hp,rfl⟩:=List.mem_map.mp hz
  cases q:cl.lookup y.1 with
  | some c=>exact ⟨c,rfl⟩
  | none =>
    have:=List.lookup_eq_none_iff.mp q p hp
    simp [bne,ez] at this
theorem free_of {N:List Str} {sc:Scope} {ws:List (Str × V)} (h:((ws.map (·.1)).all fun x=>match sc.names.lookup x with | some .free=>true | _=>false)=true):∀ y ∈ N,∀ v,ws.lookup y=some v→sc.names.lookup y=some .free:=fun y _ v e=>by
  have:=List.all_eq_true.mp h y (List.mem_map.mpr ⟨(y,v),PySem.mem_of_lookup e,rfl⟩)
  split at this
  · assumption
  · cases this
section
variable {zs:List (Str × Nat × Addr)} {os:List Obj} {H H2:Hp}
theorem fz_cells (hl:os.length=zs.length):((zs.map (·.2.2)).zip os).map (·.1)=zs.map (·.2.2):=List.map_fst_zip (by rw [List.length_map];omega)
theorem frz_same (hl:os.length=zs.length) (hf:∀ z ∈ zs,H z.2.2=none):Same H (frzL H ((zs.map (·.2.2)).zip os)):=fun b u e=>by
  rw [frzL_out fun m=>?_]
  · exact e
  · rw [fz_cells hl] at m
    obtain ⟨z,hz,rfl⟩:=List.mem_map.mp m
    rw [hf z hz] at e
    cases e
end
end L2
namespace L2
open PySem PySem.Spec PyProof.Rows
section
variable {X:Cx} {pins:List (Addr × Obj)} {σ:St} {H:Hp} {s:Shared}
end
section
variable {X:Cx} {k:Nat} {x:Str} {ps:List Str} {sp:Sp} {e:Expr} {es:List Expr} {t:TA} {p pos:Pos}
end
end L2
namespace L2
open PySem PySem.Spec PyProof.Rows
abbrev T3a (α:Type):=Int × Int × α
def Fm (L:Type):Nat→Type
  | 0=>L
  | n+1=>List (Int × Int × Fm L n)
def Fm.dec {L:Type} [d:DecidableEq L]:(n:Nat)→DecidableEq (Fm L n)
  | 0=>d
  | n+1=>have:=Fm.dec (L:=L) n;(inferInstance:DecidableEq (List (Int × Int × Fm L n)))
instance {L:Type} [DecidableEq L] (n:Nat):DecidableEq (Fm L n):=Fm.dec n
section
variable {α:Type}
def Ch3:List (T3a α)→Int→Int→Prop
  | [],lo,hi=>lo=hi+1
  | t :: r,lo,hi=>t.1=lo∧lo≤t.2.1∧Ch3 r (t.2.1+1) hi
def Nbx (ys:List α):Prop:=∀ (i:Nat) (a b:α),ys[i]?=some a→ys[i+1]?=some b→a ≠ b
def vAt (f:List (T3a α)) (c:Int):Option α:=(f.find? fun t=>decide (c≤t.2.1)).map (·.2.2)
structure ClOk (ts f:List (T3a α)) (lo hi:Int):Prop where
  ch:Ch3 f lo hi
  nb:Nbx (f.map (·.2.2))
  va:∀ c,vAt f c=vAt ts c
  mem:∀ t ∈ f,∃ t' ∈ ts,t'.2.2=t.2.2
  ne:ts ≠ []→f ≠ []
end
def FunT (K:PySem.W.Frag) (H:Hp):Prop:=∀ (r:Addr) (xs ys:List V),SqT K H r xs→SqT K H r ys→xs=ys
inductive DEqX (K:PySem.W.Frag) (H:Hp):Nat→V→V→Bool→Prop where
  | of {n:Nat} {x y:V} {b:Bool} (h:DEq K H n x y b):DEqX K H n x y b
  | ti {n:Nat} {a:Addr} {xs:List V} {i:Int} (h:SqT K H a xs):DEqX K H n (.ref a) (.int i) false
  | it {n:Nat} {a:Addr} {xs:List V} {i:Int} (h:SqT K H a xs):DEqX K H n (.int i) (.ref a) false
  | tup {n:Nat} {a b:Addr} {xs ys:List V} {f:Nat→Bool} (ne:a ≠ b) (ha:SqT K H a xs) (hb:SqT K H b ys) (h:∀ (j:Nat) (x y:V),xs[j]?=some x→ys[j]?=some y→DEqX K H n x y (f j)):DEqX K H (n+1) (.ref a) (.ref b) ((List.range (min xs.length ys.length)).all f && xs.length == ys.length)
theorem DEqX.mono {K:PySem.W.Frag} {H:Hp} {n m:Nat} {x y:V} {b:Bool} (e:DEqX K H n x y b) (h:n≤m):DEqX K H m x y b:=by
  induction e generalizing m with
  | of e=>exact .of (e.mono h)
  | ti e=>exact .ti e
  | it e=>exact .it e
  | tup ne ha hb _ ih =>
    obtain ⟨m,rfl⟩:∃ k,m=k+1:=⟨m - 1,by omega⟩
    exact .tup ne ha hb fun j x y e1 e2=>ih j x y e1 e2 (by omega)
section
variable {X:Cx} {pins:List (Addr × Obj)} {σ:St} {H:Hp} {s:Shared}
theorem DEqX.at {n:Nat} {x y:V} {b:Bool} (e:DEqX X.K H n x y b) (I:Inv X pins σ H s):∀ {A:Around} {u v:Value},A.units+n < cLine→RelV x u→RelV y v→SeqAt.EqAt A s u v b:=by
  induction e with
  | of e=>intro A u v hu rx ry;exact e.at I hu rx ry
  | @ti n a xs i h =>
    intro A u v hu rx ry
    cases (show u=Value.ref a from rx)
    obtain ⟨t,rfl⟩:=ry
    obtain ⟨its,r,p,_⟩:=I.tuple h
    exact SeqAt.EqAt.tuple_int i t (show s.heap.IsTuple a its.toArray from p) (by omega)
  | @it n a xs i h =>
    intro A u v hu rx ry
    obtain ⟨t,rfl⟩:=rx
    cases (show v=Value.ref a from ry)
    obtain ⟨its,r,p,_⟩:=I.tuple h
    exact SeqAt.EqAt.int_tuple i t (show s.heap.IsTuple a its.toArray from p) (by omega)
  | @tup n a b xs ys f ne ha hb h ih =>
    intro A u v hu rx ry
    cases (show u=Value.ref a from rx)
    cases (show v=Value.ref b from ry)
    obtain ⟨its,r,p,_⟩:=I.tuple ha
    obtain ⟨its',r',p',_⟩:=I.tuple hb
    have l1:=r.length
    have l2:=r'.length
    have h0:=SeqAt.RcAt.tuples (A:=A) (e:=f) (show s.heap.IsTuple a its.toArray from p) (show s.heap.IsTuple b its'.toArray from p') (by omega) (fun j h1 h2=>by
      obtain ⟨x,e1,q1⟩:=its_at r h1
      obtain ⟨y,e2,q2⟩:=its_at r' h2
      exact ih j x y e1 e2 (by show A.units+1+n < cLine;omega) q1 q2)
    rw [show its.toArray.size=xs.length by simp only [List.size_toArray];omega,show its'.toArray.size=ys.length by simp only [List.size_toArray];omega] at h0
    exact SeqAt.EqAt.of_refs ne h0
end
inductive rEqX (K:PySem.W.Frag) (neg:Bool) (x:V) (y:V) (H:Hp) (Q:VK):Prop
  | tt (a b:Addr) (xs ys:List V) (_:x=.ref a) (_:y=.ref b) (_:SqT K H a xs) (_:SqT K H b ys) (f:Nat→Bool) (_:(∀ (j:Nat) (x y:V),xs[j]?=some x→ys[j]?=some y→DEqX K H 60 x y (f j))) (_:Q (.bl (if neg then !((List.range (min xs.length ys.length)).all f && xs.length == ys.length) else (List.range (min xs.length ys.length)).all f && xs.length == ys.length)) H):rEqX K neg x y H Q
  | ti (a:Addr) (xs:List V) (i:Int) (_:x=.ref a) (_:y=.int i) (_:SqT K H a xs) (_:Q (.bl neg) H):rEqX K neg x y H Q
  | it (a:Addr) (xs:List V) (i:Int) (_:x=.int i) (_:y=.ref a) (_:SqT K H a xs) (_:Q (.bl neg) H):rEqX K neg x y H Q
section
variable {X:Cx}
theorem deepX_at {pins:List (Addr × Obj)} {σ:St} {H:Hp} {s:Shared} {A:Around} {xs ys:List V} {its its' : List Value} {f:Nat→Bool} (I:Inv X pins σ H s) (hu:A.units+60 < cLine) (r:Vals xs its) (r' : Vals ys its')
    (hf:∀ (j:Nat) (x y:V),xs[j]?=some x→ys[j]?=some y→DEqX X.K H 60 x y (f j)):∀ j (h1:j < its.toArray.size) (h2:j < its'.toArray.size),SeqAt.EqAt A s its.toArray[j] its'.toArray[j] (f j):=fun j h1 h2=>by
  obtain ⟨x,e1,q1⟩:=its_at r h1
  obtain ⟨y,e2,q2⟩:=its_at r' h2
  exact (hf j x y e1 e2).at I hu q1 q2
theorem op_eqX {k:Nat} (hr:Room k X.A):OpR X (compareOp .Eq) (rEqX X.K false):=by
  intro pins s σ H x y v u Q I rx ry h
  have hu:=hr.units
  cases h with
  | tt a b xs ys e1 e2 ha hb f hf q =>
    subst e1 e2
    cases (show v=Value.ref a from rx)
    cases (show u=Value.ref b from ry)
    obtain ⟨its,r,p,_⟩:=I.tuple ha
    obtain ⟨its',r',p',_⟩:=I.tuple hb
    have l1:=r.length
    have l2:=r'.length
    refine SeqAt.eq_tupleAt (e:=f) (show s.heap.IsTuple a its.toArray from p) (show s.heap.IsTuple b its'.toArray from p') (by omega) (deepX_at I (by show X.A.units+1+60 < cLine;omega) r r' hf) ⟨.bl _,H,I,rfl,?_⟩
    simp only [List.size_toArray]
    rw [← l1,← l2]
    exact q
  | ti a xs i e1 e2 ha q =>
    subst e1 e2
    cases (show v=Value.ref a from rx)
    obtain ⟨t,rfl⟩:=ry
    obtain ⟨its,r,p,_⟩:=I.tuple ha
    exact SeqAt.RcAt.tuple_int i t (show s.heap.IsTuple a its.toArray from p) (by omega) X.prog X.w X.xe _ ⟨.bl _,H,I,rfl,q⟩
  | it a xs i e1 e2 ha q =>
    subst e1 e2
    obtain ⟨t,rfl⟩:=rx
    cases (show u=Value.ref a from ry)
    obtain ⟨its,r,p,_⟩:=I.tuple ha
    exact SeqAt.RcAt.int_tuple i t (show s.heap.IsTuple a its.toArray from p) (by omega) X.prog X.w X.xe _ ⟨.bl _,H,I,rfl,q⟩
end
structure Lfp (K:PySem.W.Frag) (L:Type) [DecidableEq L] where
  R:Hp→L→V→Prop
  mono:∀ {H H' : Hp} {x:L} {v:V},SameT H H'→R H x v→R H' x v
  inj:∀ {H:Hp} {x y:L} {v:V},FunT K H→R H x v→R H y v→x=y
  deq:∀ {H:Hp} {x y:L} {u v:V},FunT K H→R H x u→R H y v→DEqX K H 2 u v (decide (x=y))
  eq:∀ {H:Hp} {x y:L} {u v:V} {Q:VK},FunT K H→R H x u→R H y v→Q (.bl (decide (x=y))) H→rEq u v H Q∨rEqX K false u v H Q
  ne:∀ {H:Hp} {x y:L} {u v:V} {Q:VK},FunT K H→R H x u→R H y v→Q (.bl (!decide (x=y))) H→rNe u v H Q∨rEqX K true u v H Q
section
variable {X:Cx}
end
end L2
namespace L2
open PySem PySem.Spec PyProof.Rows
theorem among_app (p:Pos) (a b:Int) (c:Value):∀ (l:List Value),TriplesOk l→codeAmong p (l ++ [rawInt a,rawInt b,c])=(codeAmong p l).or (codeAmong p [rawInt a,rawInt b,c])
  | [],_=>rfl
  | .int x t :: .int y u :: d :: rest,h=>by
    have ih:=among_app p a b c rest h
    show codeAmong p (.int x t :: .int y u :: d :: (rest ++ [rawInt a,rawInt b,c]))=_
    rw [codeAmong,codeAmong]
    split
    · rfl
    · exact ih
def TabOk (H:Hp) (P:Addr) (L:List (Pos × Str)):Prop:=∃ ps,H P=some (.tbl ps)∧TriplesOk ps.toList∧∀ p ∈ L,codeAmong p.1 ps.toList=none∨∃ (c' : Addr) (oc:Obj),codeAmong p.1 ps.toList=some (.ref c')∧H c'=some (.frz oc TTh)∧CodeO oc p.2
theorem TabOk.same {H H' : Hp} {P:Addr} {L:List (Pos × Str)} (h:TabOk H P L) (s:Same H H'):TabOk H' P L:=by
  obtain ⟨ps,h1,h2,h3⟩:=h
  exact ⟨ps,s _ _ h1,h2,fun p hp=>(h3 p hp).imp id fun ⟨c,o,a,b,d⟩=>⟨c,o,a,s _ _ b,d⟩⟩
theorem TabOk.new {H:Hp} {P:Addr} {L:List (Pos × Str)} (h:H P=some (.tbl #[])):TabOk H P L:=⟨#[],h,trivial,fun _ _=>.inl rfl⟩
section
variable {X:Cx}
def tLam (P:Addr) (pos:Pos) (qual:Str) (mk:Value→Addr→Value→Obj) (clos:List (Str × Addr)):TE:=fun _ H Q=>∃ L,(pos,qual) ∈ L∧(∀ p ∈ L,p.1.line=pos.line→p.1.col=pos.col→p.2=qual)∧TabOk H P L ∧
  ∀ (f c' : Addr) (oc:Obj) (pm ctv:Value) (H' : Hp),H f=none→(∀ b o,b ≠ P→H b=some o→H' b=some o)→H' f=some (.frz (mk pm c' ctv) TTh)→H' c'=some (.frz oc TTh)→CodeO oc qual→TabOk H' P L→(∀ x y a,clos.lookup x=some a→clos.lookup y=some a→x=y)→Q (.ref f) H'
theorem pe_lam {params:Arguments} {body:Expr} {scope:Scope} {pos:Pos} {c P:Addr} {clos:List (Str × Addr)} (hcode:X.env.code=.ref c)
    (C:PySem.W.CodeHd X.base c P) (hb:X.base.BuiltinsAt X.mg P) (hcl:closureFor scope X.env=pure clos) (hin:∀ p ∈ clos,X.env.cells.lookup p.1=some p.2) (hdef:defaultsOf params X.env=([],[]):=by rfl) :
    PE X (.Lambda params body scope pos) (tLam P pos (X.env.qual ++ "<lambda>") (fun pm c' ctv=>PySem.W.kla_obj "<lambda>" (X.env.qual ++ "<lambda>") params body scope clos pm c' ctv) clos):=by
  intro pins s σ H Q I h
  obtain ⟨L,hL,hLu,⟨ps,hP,ht,hps⟩,k⟩:=h
  have ePh:s.heap.get? P=some (PySem.W.tabObj ps):=I.hok P _ hP
  have hgs:s.heap.Ns mainGlobals X.mg:=I.mod.glob.keeps I.bk
  have hgP:mainGlobals ≠ P:=fun q=>by
    obtain ⟨o,es,ep,e,hd,_⟩:=hgs
    rw [q,ePh] at e;cases e;cases hd
  have inj:∀ x y a,clos.lookup x=some a→clos.lookup y=some a→x=y:=fun x y a h1 h2=>I.ok.inj x y a (hin _ (PySem.mem_of_lookup h1)) (hin _ (PySem.mem_of_lookup h2))
  rcases hps _ hL with hnf | ⟨c',oc,hf,hHc,hko⟩
  · refine PySem.W.kla_eval hdef (PySem.W.kla_makeFunction hcl I.ok.glob hgs hcode (C.keeps I.bk) ePh ht hnf hgP (hb.keeps I.bk) fun c' ctv h' tk hx' hge hlt hrec htb=>?_)
    obtain ⟨c₂,oc,vs,t,e2,hoc,hdd,hv⟩:=hrec
    cases e2
    have hfr:∀ b,s.heap.objs.size≤b→H b=none:=fun b hb'=>I.hok.fresh hb'
    have hPl:P < s.heap.objs.size:=Heap.lt_size ePh
    have ncP:c' ≠ P:=fun z=>by rw [z] at hge;exact absurd hPl (Nat.not_lt.mpr hge)
    have hfs:s.heap.objs.size≤h'.objs.size:=Nat.le_trans hge (Nat.le_of_lt hlt)
    have nfP:h'.objs.size ≠ P:=fun z=>by rw [z] at hfs;exact absurd hPl (Nat.not_lt.mpr hfs)
    have nfc:h'.objs.size ≠ c':=Nat.ne_of_gt hlt
    have hHf:=hfr _ hfs
    have hHc:=hfr _ hge
    have at3:∀ {b:Addr} {u:HO},b ≠ P→H b=some u→upd (upd (upd H P (.tbl (ps ++ #[rawInt pos.line,rawInt pos.col,.ref c']))) c' (.frz oc TTh)) h'.objs.size (.frz (PySem.W.kla_obj "<lambda>" (X.env.qual ++ "<lambda>") params body scope clos ((X.mg "__name__").getD .none) c' ctv) TTh) b=some u:=fun {b u} hb' e=>by
      rw [upd_ne (ne_of_none e hHf),upd_ne (ne_of_none e hHc),upd_ne hb'];exact e
    have atP:upd (upd (upd H P (.tbl (ps ++ #[rawInt pos.line,rawInt pos.col,.ref c']))) c' (.frz oc TTh)) h'.objs.size (.frz (PySem.W.kla_obj "<lambda>" (X.env.qual ++ "<lambda>") params body scope clos ((X.mg "__name__").getD .none) c' ctv) TTh) P=some (.tbl (ps ++ #[rawInt pos.line,rawInt pos.col,.ref c'])):=by
      rw [upd_ne nfP.symm,upd_ne ncP.symm,upd_same]
    have neP:∀ {b:Addr},H b=none→b ≠ P:=fun e z=>by rw [z,hP] at e;cases e
    have keep:∀ b o,b ≠ P→s.heap.get? b=some o→(h'.push (PySem.W.kla_obj "<lambda>" (X.env.qual ++ "<lambda>") params body scope clos ((X.mg "__name__").getD .none) c' ctv)).get? b=some o:=fun b o hb' e=>Heap.get?_push_of_some _ (hx' b o hb' e)
    have un:Un X.fs [] H (upd (upd (upd H P (.tbl (ps ++ #[rawInt pos.line,rawInt pos.col,.ref c']))) c' (.frz oc TTh)) h'.objs.size (.frz (PySem.W.kla_obj "<lambda>" (X.env.qual ++ "<lambda>") params body scope clos ((X.mg "__name__").getD .none) c' ctv) TTh)) s.heap (h'.push (PySem.W.kla_obj "<lambda>" (X.env.qual ++ "<lambda>") params body scope clos ((X.mg "__name__").getD .none) c' ctv)):=by
      refine ⟨fun b o e n _ _=>keep b o (neP n) e,fun b o e n _ _=>⟨o.slots,keep b o (neP n) e⟩,fun b o e n _=>?_,fun b o e _=>?_,fun b xs e=>at3 (fun z=>by rw [z,hP] at e;cases e) e,fun b o u e=>at3 (fun z=>by rw [z,hP] at e;cases e) e,fun b ps' e=>?_⟩
      · have hb':=Heap.lt_size e
        rw [upd_ne (Nat.ne_of_lt (Nat.lt_of_lt_of_le hb' hfs)),upd_ne (Nat.ne_of_lt (Nat.lt_of_lt_of_le hb' hge)),upd_ne (neP n)]
        exact n
      · by_cases hb' : b=P
        · subst hb'
          exact ⟨_,Heap.get?_push_of_some _ htb⟩
        · exact ⟨o,keep b o hb' e⟩
      · by_cases hb' : b=P
        · subst hb'
          rw [hP] at e
          cases e
          exact ⟨_,atP⟩
        · exact ⟨#[],by rw [at3 hb' e];simp⟩
    have hok:HOk X.prog X.w (upd (upd (upd H P (.tbl (ps ++ #[rawInt pos.line,rawInt pos.col,.ref c']))) c' (.frz oc TTh)) h'.objs.size (.frz (PySem.W.kla_obj "<lambda>" (X.env.qual ++ "<lambda>") params body scope clos ((X.mg "__name__").getD .none) c' ctv) TTh)) (h'.push (PySem.W.kla_obj "<lambda>" (X.env.qual ++ "<lambda>") params body scope clos ((X.mg "__name__").getD .none) c' ctv)):=fun b u e=>by
      by_cases h1:b=h'.objs.size
      · subst h1
        rw [upd_same] at e
        cases e
        exact objTT (Heap.get?_push_size _ rfl)
      rw [upd_ne h1] at e
      by_cases h2:b=c'
      · subst h2
        rw [upd_same] at e
        cases e
        exact objTT (Heap.get?_push_of_some _ hoc)
      rw [upd_ne h2] at e
      by_cases h3:b=P
      · subst h3
        rw [upd_same] at e
        cases e
        exact Heap.get?_push_of_some _ htb
      rw [upd_ne h3] at e
      refine (I.hok b u e).stay (fun d v hd q=>keep d v ?_ q) (fun d q=>at3 (fun z=>by rw [z,hP] at q;cases q) q) fun d xs q=>at3 (fun z=>by rw [z,hP] at q;cases q) q
      rcases hd with rfl | hd
      · exact h3
      · exact fun z=>by rw [z,hP] at hd;cases hd
    have I2:=I.un (t':=tk) un hok
    have hko:CodeO oc (X.env.qual ++ "<lambda>"):=⟨vs,t,hdd,hv⟩
    have ec' : upd (upd (upd H P (.tbl (ps ++ #[rawInt pos.line,rawInt pos.col,.ref c']))) c' (.frz oc TTh)) h'.objs.size (.frz (PySem.W.kla_obj "<lambda>" (X.env.qual ++ "<lambda>") params body scope clos ((X.mg "__name__").getD .none) c' ctv) TTh) c'=some (.frz oc TTh):=(upd_ne nfc.symm).trans upd_same
    refine ⟨.ref h'.objs.size,_,I2,rfl,k _ c' oc _ ctv _ hHf (fun b o hb' e=>at3 hb' e) upd_same ec' hko ⟨_,atP,?_,fun p hp=>?_⟩ inj⟩
    · rw [Array.toList_append]
      exact TriplesOk_snoc _ _ _ _ ht
    · rw [Array.toList_append]
      show codeAmong p.1 (ps.toList ++ [rawInt pos.line,rawInt pos.col,.ref c'])=none∨∃ (d:Addr) (oc:Obj),codeAmong p.1 (ps.toList ++ [rawInt pos.line,rawInt pos.col,.ref c'])=some (.ref d)∧_
      rw [among_app _ _ _ _ _ ht]
      rcases hps p hp with q | ⟨d,od,q1,q2,q3⟩
      · rw [q]
        show codeAmong p.1 [rawInt pos.line,rawInt pos.col,.ref c']=none∨∃ (d:Addr) (oc:Obj),codeAmong p.1 [rawInt pos.line,rawInt pos.col,.ref c']=some (.ref d)∧_
        by_cases e:p.1.line=pos.line∧p.1.col=pos.col
        · have e3:codeAmong p.1 [rawInt pos.line,rawInt pos.col,.ref c']=some (.ref c'):=by
            show (if ((pos.line:Int) == (p.1.line:Int) && (pos.col:Int) == (p.1.col:Int))=true then some (Value.ref c') else none)=_
            rw [e.1,e.2]
            simp
          exact .inr ⟨c',oc,e3,ec',by rw [hLu p hp e.1 e.2];exact hko⟩
        · left
          show (if ((pos.line:Int) == (p.1.line:Int) && (pos.col:Int) == (p.1.col:Int))=true then some (Value.ref c') else none)=none
          rw [if_neg fun z=>e ?_]
          rw [Bool.and_eq_true,beq_iff_eq,beq_iff_eq] at z
          omega
      · exact .inr ⟨d,od,by rw [q1];rfl,at3 (fun z=>by rw [z,hP] at q2;cases q2) q2,q3⟩
  · refine PySem.W.kla_eval hdef (PySem.W.kla_makeFunctionHit hcl I.ok.glob hgs hcode (C.keeps I.bk) ePh ht hf (hb.keeps I.bk) fun ctv h' tk kp hfs=>?_)
    have hHf:H h'.objs.size=none:=I.hok.fresh hfs
    have s' : Same H (upd H h'.objs.size (.frz (PySem.W.kla_obj "<lambda>" (X.env.qual ++ "<lambda>") params body scope clos ((X.mg "__name__").getD .none) c' ctv) TTh)):=same_new hHf _
    have keep:∀ b o,s.heap.get? b=some o→(h'.push (PySem.W.kla_obj "<lambda>" (X.env.qual ++ "<lambda>") params body scope clos ((X.mg "__name__").getD .none) c' ctv)).get? b=some o:=fun b o e=>Heap.get?_push_of_some _ (kp b o e)
    have un:Un X.fs [] H (upd H h'.objs.size (.frz (PySem.W.kla_obj "<lambda>" (X.env.qual ++ "<lambda>") params body scope clos ((X.mg "__name__").getD .none) c' ctv) TTh)) s.heap (h'.push (PySem.W.kla_obj "<lambda>" (X.env.qual ++ "<lambda>") params body scope clos ((X.mg "__name__").getD .none) c' ctv)):=by
      refine ⟨fun b o e n _ _=>keep b o e,fun b o e n _ _=>⟨o.slots,keep b o e⟩,fun b o e n _=>?_,fun b o e _=>⟨o,keep b o e⟩,fun b xs e=>s' _ _ e,fun b o u e=>s' _ _ e,fun b ps' e=>⟨#[],by rw [s' _ _ e];simp⟩⟩
      have hb':=Heap.lt_size e
      rw [upd_ne (Nat.ne_of_lt (Nat.lt_of_lt_of_le hb' hfs))]
      exact n
    have hok:HOk X.prog X.w (upd H h'.objs.size (.frz (PySem.W.kla_obj "<lambda>" (X.env.qual ++ "<lambda>") params body scope clos ((X.mg "__name__").getD .none) c' ctv) TTh)) (h'.push (PySem.W.kla_obj "<lambda>" (X.env.qual ++ "<lambda>") params body scope clos ((X.mg "__name__").getD .none) c' ctv)):=fun b u e=>by
      by_cases h1:b=h'.objs.size
      · subst h1
        rw [upd_same] at e
        cases e
        exact objTT (Heap.get?_push_size _ rfl)
      rw [upd_ne h1] at e
      exact (I.hok b u e).stay (fun d v _ q=>keep d v q) (fun d q=>s' _ _ q) fun d xs q=>s' _ _ q
    have I2:=I.un (t':=tk) un hok
    exact ⟨.ref h'.objs.size,_,I2,rfl,k _ c' oc _ ctv _ hHf (fun b o _ e=>s' _ _ e) upd_same (s' _ _ hHc) hko (TabOk.same ⟨ps,hP,ht,hps⟩ s') inj⟩
end
theorem fnl_of {CX:CXT} {P:Program} {w:World} {K:PySem.W.Frag} {mg:Str→Option Value} {base:Heap} {k:Nat} {f c' : Addr} {name qual:Str} {params:Arguments} {body:Expr} {scope:Scope} {cl:List (Str × Addr)} {pm ctv:Value} {N ps:List Str} {sp:Sp}
    (S:CScope N ps scope cl) (inj:∀ x y c,cl.lookup x=some c→cl.lookup y=some c→x=y)
    (len:∀ vs H Q E,sp vs H Q E→vs.length=ps.length)
    (hbody:∀ (A:Around) (outer:List Env) (s:Shared) (H:Hp) (vs:List V) (Q:VK) (E:XK),Room k (A.deeper (PySem.W.envX qual scope s.heap.objs.size f (.ref c') cl))→sp vs H Q E →
      (∃ oc,H f=some (.frz (PySem.W.kla_obj name qual params body scope cl pm c' ctv) TTh)∧H c'=some (.frz oc TTh)∧CodeO oc qual)∧∃ ws,CellsAt H cl ws∧(∀ x ∈ N.drop ps.length,∀ v,ws.lookup x=some v→scope.names.lookup x=some .free) ∧
      ((∀ c ∈ cl.map (·.2),base.get? c=none∧c ∉ frs outer)→∃ t:TE,PE (cxC CX P w K mg base N qual scope f (.ref c') cl A outer s H E) body t∧t (startC N ps vs ws) (hideL H (cl.map (·.2))) fun v H'=>(∀ c ∈ cl.map (·.2),H' c=none)→Q v (backL H H' (cl.map (·.2))))) :
    FnOk P w K mg base CX (k+1) f (PySem.W.kla_fn name qual params body scope cl pm (.ref c') ctv) ps sp:=by
  refine ⟨len,fun A outer s H args us vs Q E hr e0 hb r hsp=>?_⟩
  have hl:=len _ _ _ _ hsp
  obtain ⟨⟨oc,ef,ec,vs',t',hcd,hcq⟩,ws,hcell,hfree,hrest⟩:=hbody A outer s H vs Q E (hr.deeper _) hsp
  obtain ⟨t,ht,hq⟩:=hrest fun c hc=>by
    obtain ⟨o,e⟩:=hcell.fzs c hc
    refine ⟨?_,fun z=>by rw [e0.frf c z] at e;cases e⟩
    cases eb:base.get? c with
    | none=>rfl
    | some ob=>rw [(e0.bs c ob eb).2] at e;cases e
  have lim:s.heap.NoLimit:=e0.mod.nolimit.keeps fun b o e=>(e0.bs b o e).1
  have eo:s.heap.get? f=some (PySem.W.kla_obj name qual params body scope cl pm c' ctv):=(e0.hok f _ ef).1
  have eoc:s.heap.get? c'=some oc:=(e0.hok c' _ ec).1
  have hul:us.length=ps.length:=by rw [← r.length];exact hl
  have ndP:ps.Nodup:=by rw [← S.pre];exact S.nd.sublist (List.take_sublist _ _)
  have fz:=hcell.fzs
  have hcs:∀ {x:Str} {c:Addr},cl.lookup x=some c→c ∈ cl.map (·.2):=fun e=>mem_lookup_map e
  refine PySem.W.kla_callFunE hr.depth eo rfl S.co S.gen rfl ⟨c',oc,vs',t',rfl,eoc,hcd,hcq⟩ (hb _ _ _ _ ?_)
  refine wpAny_newFunctionEnv S.nocell (fun x hx=>S.par x.1 (List.of_mem_zip hx).1) (fun h₁ hns hsb=>?_) S.kind
  have hk₁:∀ b o,s.heap.get? b=some o→h₁.get? b=some o:=fun b o e=>hsb.extBut b o (Nat.ne_of_lt (Heap.lt_size e)) (Heap.get?_push_of_some _ e)
  refine ⟨lim.keeps hk₁,PySem.W.kla_codeExpr ?_⟩
  have hH0:∀ {b:Addr},H b=none→hideL H (cl.map (·.2)) b=none:=fun h=>hideL_none h
  have I:Inv (cxC CX P w K mg base N qual scope f (.ref c') cl A outer s H E) [] (startC N ps vs ws) (hideL H (cl.map (·.2))) { s with heap:=h₁,toks:=s.toks+(ps.zip us).length }:=by
    have noA:∀ b:Addr,b ∉ (cxC CX P w K mg base N qual scope f (.ref c') cl A outer s H E).ex:=fun b z=>absurd (show b ∈ ([]:List Addr) from z) (by simp)
    refine ⟨⟨e0.mod,S.kind,rfl,rfl,Nat.le_refl _,fun x y c h1 h2=>inj x y c h1 h2,fun x hx=>?_,fun x c hf=>?_,fun _=>hr.hd,Around.frames_deeper e0.frames,.inr ⟨rfl,rfl⟩,fun b z=>absurd z (noA b),fun b o e=>⟨(e0.bs b o e).1,hH0 (e0.bs b o e).2⟩,e0.bsz,fun b _ _=>noA b,fun b z=>absurd z (noA b),e0.funs,fun b hb=>hH0 (e0.frf b hb)⟩,
      rfl,e0.bare,Un.kept hk₁,⟨_,hns,fun i x v h1 h2 h3=>?_⟩,fun x c h=>?_,hH0 (e0.hok.fresh (Nat.le_refl _)),fun x c h=>hideL_in (hcs h),fun p hp=>absurd (show p ∈ ([]:List (Addr × Obj)) from hp) (by simp),(e0.hok.hideL fz).kept hk₁,?_⟩
    · have hx:scope.names.lookup x=some .cell∨scope.names.lookup x=some .free:=hx
      rcases hx with hx | hx
      · exact absurd rfl (S.nocell _ (PySem.mem_of_lookup hx))
      · exact S.has _ (PySem.mem_of_lookup hx) rfl
    · exact absurd (show false=true from hf) Bool.false_ne_true
    · have h1:N[i]?=some x:=h1
      unfold startC at h2
      by_cases hi:i < vs.length
      · rw [List.getElem?_append_left (by simpa using hi),List.getElem?_map] at h2
        have ha:vs[i]?=some v:=by
          cases e:vs[i]? with
          | none=>rw [e] at h2;cases h2
          | some a=>rw [e] at h2;cases h2;rfl
        obtain ⟨u,hu,rv⟩:=r.get ha
        have hp:ps[i]?=some x:=by rw [← S.pre,List.getElem?_take_of_lt (by omega)];exact h1
        exact ⟨u,rv,.inl ⟨S.par x (List.mem_of_getElem? hp),rev_lookup ndP hp hu hul⟩⟩
      · rw [List.getElem?_append_right (by simpa using hi),List.getElem?_map,List.length_map] at h2
        cases e:(N.drop ps.length)[i - vs.length]? with
        | none=>rw [e] at h2;cases h2
        | some y =>
          rw [e] at h2
          have h2:some (ws.lookup y)=some (some v):=h2
          have h2:=Option.some.inj h2
          have hy:y=x:=by
            rw [List.getElem?_drop,show ps.length+(i - vs.length)=i by omega,h1] at e
            exact (Option.some.inj e).symm
          subst hy
          obtain ⟨c,o,u,e1,e2,e3,rv⟩:=hcell.2 y v h2
          exact ⟨u,rv,.inr ⟨.inr (hfree y (List.mem_of_getElem? e) v h2),c,e1,o,hk₁ _ _ (e0.hok c _ e2).1,e3⟩⟩
    · obtain ⟨o,v,e,d⟩:=hcell.1 c (hcs h)
      exact ⟨v,o,hk₁ _ _ (e0.hok c _ e).1,d⟩
    · unfold startC
      show _=N.length
      have hpl:ps.length≤N.length:=by have:=congrArg List.length S.pre;rw [List.length_take] at this;omega
      rw [List.length_append,List.length_map,List.length_map,List.length_drop]
      omega
  refine wpAny_mono (ht [] _ (startC N ps vs ws) _ _ I hq) (fun u s' hs=>?_) fun e s' hs=>hs
  have fin:∀ {σ' : St} {H' : Hp} {v:V} {u:Value},Inv (cxC CX P w K mg base N qual scope f (.ref c') cl A outer s H E) [] σ' H' s'→RelV v u→((∀ c ∈ cl.map (·.2),H' c=none)→Q v (backL H H' (cl.map (·.2))))→CE outer P w H s Q u s':=fun {σ' H' v u} J rv q=>by
    have un:Un (frs outer) [] (hideL H (cl.map (·.2))) H' s.heap s'.heap:=J.base
    have nc:∀ c ∈ cl.map (·.2),H' c=none:=fun c hc=>by
      obtain ⟨⟨x,d⟩,hm,rfl⟩:=List.mem_map.mp hc
      obtain ⟨o,e⟩:=fz d hc
      exact un.free d o (e0.hok d _ e).1 (hideL_in hc) (by simp)
    refine ⟨v,backL H H' (cl.map (·.2)),J.os,J.bare,un.backL fz,J.hok.backL fz nc fun c hc o e=>?_,rv,q nc⟩
    refine un.keep c o (e0.hok c _ e).1 (hideL_in hc) (fun z=>?_) (by simp)
    rw [e0.frf c z] at e
    cases e
  obtain ⟨v,H',J,rv,q⟩:=hs
  exact fin J rv q
end L2
namespace L2
open PySem PySem.Spec PyProof.Rows
def lamA (e:Expr):Arguments:=match e with
  | .Lambda a _ _ _=>a
  | _=>defArgs (.Pass ⟨0,0,0,0⟩)
def lamB (e:Expr):Expr:=match e with
  | .Lambda _ b _ _=>b
  | e=>e
def lamS (e:Expr):Scope:=match e with
  | .Lambda _ _ s _=>s
  | _=>defScope (.Pass ⟨0,0,0,0⟩)
def lamP (e:Expr):Pos:=match e with
  | .Lambda _ _ _ p=>p
  | _=>⟨0,0,0,0⟩
section
variable {P:Program} {w:World} {K:PySem.W.Frag} {mg:Str→Option Value} {base:Heap}
theorem cll_ok {qual:Str} {ps:List Str} {e:Expr} {f c' : Addr} {cl:List (Str × Addr)} {pm ctv:Value} {N:List Str} {k:Nat} {sp:Sp} (S:CScope N ps (lamS e) cl) (inj:∀ x y c,cl.lookup x=some c→cl.lookup y=some c→x=y)
    (hb:∀ us:List Value,us.length=ps.length→bindArgs (PySem.W.kla_fn "<lambda>" qual (lamA e) (lamB e) (lamS e) cl pm (.ref c') ctv) ⟨us,[]⟩=pure (ps.zip us))
    (len:∀ vs H Q E,sp vs H Q E→vs.length=ps.length)
    (hbody:∀ (A:Around) (outer:List Env) (s:Shared) (H:Hp) (vs:List V) (Q:VK) (E:XK),Room k (A.deeper (PySem.W.envX qual (lamS e) s.heap.objs.size f (.ref c') cl))→sp vs H Q E →
      ∃ ws,CloAt H f c' (PySem.W.kla_obj "<lambda>" qual (lamA e) (lamB e) (lamS e) cl pm c' ctv) qual cl ws∧(∀ y ∈ N.drop ps.length,∀ v,ws.lookup y=some v→(lamS e).names.lookup y=some .free) ∧
      ((∀ c ∈ cl.map (·.2),base.get? c=none∧c ∉ frs outer)→∃ t:TE,PE (cxC CX0 P w K mg base N qual (lamS e) f (.ref c') cl A outer s H E).nox (lamB e) t∧t (startC N ps vs ws) (hideL H (cl.map (·.2))) fun v H'=>(∀ c ∈ cl.map (·.2),H' c=none)→Q v (backL H H' (cl.map (·.2))))) :
    HFn P w K mg base (k+1) f sp:=by
  refine ⟨_,ps,fnl_of (name := "<lambda>") (qual:=qual) (c':=c') (params:=lamA e) (body:=lamB e) (pm:=pm) (ctv:=ctv) S inj len fun A outer s H vs Q E hr hsp=>?_,.all fun us hl=>?_⟩
  · obtain ⟨ws,⟨h1,⟨oc,h2,h3⟩,h4⟩,h5,h6⟩:=hbody A outer s H vs Q E hr hsp
    refine ⟨⟨oc,h1,h2,h3⟩,ws,h4,h5,fun hc=>?_⟩
    obtain ⟨t,a,b⟩:=h6 hc
    exact ⟨t,a.nox,b⟩
  · exact hb us hl
end
section
variable {X:Cx} {k i:Nat} {x:Str} {e:Expr} {es:List Expr} {t:TA} {p pos:Pos}
end
theorem tabs_in {K:PySem.W.Frag} {x:Str} {t:Addr × Addr} (h:t ∈ (PySem.W.tabIn K x).toList):PySem.W.tabIn K x=some t:=by
  cases e:PySem.W.tabIn K x with
  | none=>rw [e] at h;cases h
  | some z=>rw [e] at h;rw [List.mem_singleton.mp h]
end L2
namespace L2
open PySem PySem.Spec PyProof.Rows
section
variable {X:Cx} {k i:Nat} {x:Str} {e:Expr} {es:List Expr} {t:TA} {p pos:Pos}
inductive tHeldK (X:Cx) (k i:Nat) (t:TA) (σ:St) (H:Hp) (Q:VK):Prop
  | h (_:tHeld X k i t σ H Q):tHeldK X k i t σ H Q
  | k (f:Addr) (sp:Sp) (_:σ[i]?=some (some (.ref f))) (_:PySem.W.keepIn X.K (.ref f)=true) (_:HFn X.prog X.w X.K X.mg X.base k f sp) (_:t σ H fun vs H1=>sp vs H1 Q E0):tHeldK X k i t σ H Q
theorem pe_heldK (hr:Room k X.A) (hN:X.N[i]?=some x) (hv:Vis X.env.scope x) (ha:PA X (e :: es) t) (hd:(x == ("__debug__" : Str))=false:=by decide) (hcd:(x == ("__classdict__" : Str))=false:=by decide)
    (he:starEach (e :: es) X.env=(false,eval e X.env) :: starEach es X.env:=by rfl) (hpl:(backTo pos (starEach es X.env)).any (·.1)=false:=by rfl):PE X (.Call (.Name x p) (e :: es) [] pos) (tHeldK X k i t):=by
  intro pins s σ H Q I h
  cases h with
  | h h=>exact pe_held hr hN hv ha hd hcd he hpl pins s σ H Q I h
  | k f sp ef kk hF h =>
    obtain ⟨fd,pn,F,hb⟩:=hF
    refine wpAny_Call_Name_kw (thn (pe_var hN hv hd hcd pins s σ H (fun v H'=>v=.ref f∧H'=H) I ⟨_,ef,rfl,rfl⟩) fun u s1 ⟨v,H1,I1,r1,q1⟩=>?_)
    obtain ⟨rfl,rfl⟩:=q1
    cases (show u=Value.ref f from r1)
    refine PySem.W.callWith_K (h₀:=X.base) I1.ok.mod.kin kk (thn (ha pos pins s1 σ H1 _ I1 h) fun us s2 ⟨vs,H2,I2,r2,q2⟩=>⟨I2.kIn,?_⟩) he hpl
    exact run_fn (E:=E0) (dvs:=[]) (ds:=[]) F hr hb .nil pass0 I2 r2 (by rw [List.append_nil];exact q2)
def tCal (X:Cx) (k:Nat) (sp:Sp):TE:=fun _ H Q=>∀ f,HFn X.prog X.w X.K X.mg X.base k f sp→PySem.W.keepIn X.K (.ref f)=true→Q (.ref f) H
theorem pe_cal {ps:List Str} {sp:Sp} (C:Callee X.prog X.w X.K X.mg X.base k x ps sp) (hg:Gl X x) (hd:(x == ("__debug__" : Str))=false:=by decide):PE X (.Name x pos) (tCal X k sp):=by
  obtain ⟨f,fd,F,b,kk,m⟩:=C
  intro pins s σ H Q I h
  exact ld_glob I hg m ⟨.ref f,H,I,rfl,h f ⟨fd,_,F,b⟩ kk⟩ hd
end
end L2
namespace L2
open PySem PySem.Spec PyProof.Rows
def retE (st:Stmt):Expr:=match st with
  | .Assign _ e _=>e
  | .Return (some e) _=>e
  | _=>.Name "" ⟨0,0,0,0⟩
def argE (e:Expr) (k:Nat):Expr:=match e with
  | .Call _ as _ _=>as.getD k (.Name "" ⟨0,0,0,0⟩)
  | e=>e
def opR (e:Expr):Expr:=match e with
  | .BinOp _ _ b _=>b
  | e=>e
structure FunV (K:PySem.W.Frag) (x qual:Str) (st:Stmt) (f:Addr) (fd:FuncData):Prop where
  ex:∃ (oc:Value) (od:Option Addr) (d:Addr) (o:Obj) (n:Nat) (kV doc pm:Value) (an:Option Addr) (cdv ct:Value) (osl:Array (Option Value)),
    fd=PySem.W.fnOf x qual (defArgs st) (defBody st) (defScope st) (.ref d) kV doc pm an cdv ct∧K.lookup f=some ⟨oc,od,.func fd,osl⟩∧PySem.W.codeIn K cdv qual=true∧K.lookup d=some o∧o.data=.seq #[.none] n
  kp:PySem.W.keepIn K (.ref f)=true
section
variable {P:Program} {w:World} {K:PySem.W.Frag} {mg:Str→Option Value} {base:Heap} {j k:Nat} {f:Addr} {fd:FuncData} {x q:Str} {N ps:List Str} {sp:Sp} {st:Stmt}
theorem funV_mk {oc:Value} {od an:Option Addr} {osl:Array (Option Value)} {kV doc pm cdv ct:Value} {d:Addr} {o:Obj} {n:Nat} (l:K.lookup f=some ⟨oc,od,.func (PySem.W.fnOf x q (defArgs st) (defBody st) (defScope st) (.ref d) kV doc pm an cdv ct),osl⟩)
    (c:PySem.W.codeIn K cdv q=true) (k:PySem.W.keepIn K (.ref f)=true) (hd:K.lookup d=some o) (ho:o.data=.seq #[.none] n):FunV K x q st f (PySem.W.fnOf x q (defArgs st) (defBody st) (defScope st) (.ref d) kV doc pm an cdv ct):=⟨⟨oc,od,d,o,n,kV,doc,pm,an,cdv,ct,osl,rfl,l,c,hd,ho⟩,k⟩
theorem FunV.okT {c:Addr} (F:FunV K x q st f fd) (hc:fd.code=.ref c) (S:FnScope N ps (defScope st)) (len:∀ vs H Q E,sp vs H Q E→vs.length=ps.length)
    (hbody:∀ (A:Around) (outer:List Env) (s:Shared) (H:Hp) (vs:List V) (Q:VK) (E:XK),Room k (A.deeper (envOfC q (defScope st) s.heap.objs.size f (.ref c)))→sp vs H Q E →
      ∃ t,PSs (cxOf CX0 P w K mg base N q (defScope st) f (.ref c) A outer s H E).nox (defBody st) t∧t { nx:=fun _ H'=>Q .non H',rt:=Q } (start N vs) H):FnOk P w K mg base CX0 (k+1) f fd ps sp:=by
  obtain ⟨oc,od,d,o,n,kV,doc,pm,an,cdv,ct,osl,rfl,lk,hcd,_,_⟩:=F.ex
  have hc:cdv=.ref c:=hc
  subst hc
  refine fn_of lk hcd S len fun A outer s H vs Q E hr hsp=>?_
  obtain ⟨t,h,q⟩:=hbody A outer s H vs Q E hr hsp
  exact ⟨t,h.nox,q⟩
theorem FunV.bindsD {ds:List Value} (F:FunV K x q st f fd)
    (h:∀ (d:Addr) (kV doc pm:Value) (an:Option Addr) (cdv ct:Value) (us:List Value),(us ++ ds).length=ps.length→∃ k,bindArgs (PySem.W.fnOf x q (defArgs st) (defBody st) (defScope st) (.ref d) kV doc pm an cdv ct) ⟨us,[]⟩=seqItems? (.ref d) >>= k∧k (some #[.none])=pure (ps.zip (us ++ ds))):Binds K fd ps ds:=by
  obtain ⟨oc,od,d,o,n,kV,doc,pm,an,cdv,ct,osl,rfl,lk,hcd,hd,ho⟩:=F.ex
  intro s us X hl
  obtain ⟨k,e1,e2⟩:=h d kV doc pm an cdv ct us hl
  exact BindsTo.of_defaults rfl (X d o hd) ho e1 e2
def CalleeV (P:Program) (w:World) (K:PySem.W.Frag) (mg:Str→Option Value) (base:Heap) (k:Nat) (x:Str) (ps:List Str) (sp:Sp):Prop :=
  ∃ f fd,FnOk P w K mg base CX0 k f fd ps sp∧Binds K fd ps []∧Binds K fd ps [.none]∧PySem.W.keepIn K (.ref f)=true∧mg x=some (.ref f)
theorem CalleeV.full (C:CalleeV P w K mg base k x ps sp):Callee P w K mg base k x ps sp:=by obtain ⟨f,fd,a,b,_,c,d⟩:=C;exact ⟨f,fd,a,b,c,d⟩
inductive TV (K:PySem.W.Frag) (x:Str) (st:Stmt):Prop
  | mk {f c t:Addr} {fd:FuncData} (a:PySem.W.nsIn K mainGlobals x=some (some (.ref f))) (F:FunV K x x st f fd) (hc:fd.code=.ref c) (ht:PySem.W.tabIn K x=some (c,t)):TV K x st
theorem mkTV {sp:Nat→Sp} (Z:Zb P w K mg base) (h:TV K x st) (hq:∀ q ∈ (PySem.W.tabIn K x).toList,PySem.W.CodeHd base q.1 q.2∧base.BuiltinsAt mg q.2) (k c n:Nat) (z:∀ {vs:List V} {H:Hp} {Q:VK} {E:XK},¬ sp 0 vs H Q E)
    (O:∀ {f cd t:Addr} {fd:FuncData} (n:Nat),FunV K x x st f fd→fd.code=.ref cd→PySem.W.tabIn K x=some (cd,t)→PySem.W.CodeHd base cd t∧base.BuiltinsAt mg t→Callee P w K mg base (k+c * n) x ps (sp n)→FnOk P w K mg base CX0 (k+c * (n+1)) f fd ps (sp (n+1)))
    (b:∀ {f:Addr} {fd:FuncData},FunV K x x st f fd→Binds K fd ps []) (b1:∀ {f:Addr} {fd:FuncData},FunV K x x st f fd→Binds K fd ps [.none]):CalleeV P w K mg base (k+c * n) x ps (sp n):=by
  cases h with | mk a F hc ht =>
  refine ⟨_,_,?_,b F,b1 F,F.kp,Z.g a⟩
  induction n with
  | zero=>exact FnOk.no fun _ _ _ _ h=>z h
  | succ n ih=>exact O n F hc ht (hq _ (by rw [ht];exact List.mem_cons_self)) ⟨_,_,ih,b F,F.kp,Z.g a⟩
theorem mkRc {sp:Nat→Sp} (Z:Zb P w K mg base) (h:GF K x q st) (k c n:Nat) (z:∀ {vs:List V} {H:Hp} {Q:VK} {E:XK},¬ sp 0 vs H Q E) (O:∀ {f:Addr} {fd:FuncData} (n:Nat),Fun K q q st f fd→Callee P w K mg base (k+c * n) x ps (sp n)→FnOk P w K mg base CX0 (k+c * (n+1)) f fd ps (sp (n+1)))
    (b:∀ {f:Addr} {fd:FuncData},Fun K q q st f fd→Binds K fd ps []):Callee P w K mg base (k+c * n) x ps (sp n):=by
  cases h with | mk a F =>
  refine ⟨_,_,?_,b F,F.kp,Z.g a⟩
  induction n with
  | zero=>exact FnOk.no fun _ _ _ _ h=>z h
  | succ n ih=>exact O n F ⟨_,_,ih,b F,F.kp,Z.g a⟩
end
section
variable {X:Cx} {k:Nat} {ps:List Str} {sp:Sp} {x:Str} {p pos:Pos} {e:Expr} {es:List Expr} {t:TA}
def tFnV (sp:Sp) (t:TA):TE:=fun σ H Q=>t σ H fun vs H1=>sp (vs ++ [.non]) H1 Q E0
theorem pe_fnV (C:CalleeV X.prog X.w X.K X.mg X.base k x ps sp) (hr:Room k X.A) (hg:Gl X x) (ha:PA X (e :: es) t) (hdb:(x == ("__debug__" : Str))=false:=by decide) (he:starEach (e :: es) X.env=(false,eval e X.env) :: starEach es X.env:=by rfl) (hpl:(backTo pos (starEach es X.env)).any (·.1)=false:=by rfl) :
    PE X (.Call (.Name x p) (e :: es) [] pos) (tFnV sp t):=by
  obtain ⟨f,fd,F,_,b,hk,hm⟩:=C
  exact pe_call F hr hg hm hk b (dvs:=[.non]) (.cons rfl .nil) (pass0) ha hdb he hpl
end
end L2
namespace L2
open PySem PySem.Spec PyProof.Rows PySem.W
theorem tabV_mk {K:Frag} {x qual:Str} {st:Stmt} {f c P d:Addr} {oc kV doc pm ct:Value} {od an:Option Addr} {osl:Array (Option Value)} {o1:Value} {o2:Option Addr} {vs:Array Value} {o3:Array (Option Value)} (a:nsIn K mainGlobals x=some (some (.ref f)))
    (l:K.lookup f=some ⟨oc,od,.func (fnOf x qual (defArgs st) (defBody st) (defScope st) (.ref d) kV doc pm an (.ref c) ct),osl⟩) (lc:K.lookup c=some ⟨o1,o2,.fields vs,o3⟩) (e:vs[11]?=some (.ref P)):tabIn K x=some (c,P):=by
  unfold tabIn
  rw [a]
  simp only [l]
  show (match K.lookup c with | some ⟨_,_,.fields vs,_⟩=>(match (vs[11]? : Option Value) with | some (.ref P)=>some (c,P) | _=>none) | _=>none)=some (c,P)
  rw [lc]
  simp only [e]
theorem tv_mk {K:Frag} {x:Str} {st:Stmt} {f c t d:Addr} {oc kV doc pm ct:Value} {od an:Option Addr} {osl:Array (Option Value)} {o1:Value} {o2:Option Addr} {vs:Array Value} {o3:Array (Option Value)} {o:Obj} {n:Nat} (a:nsIn K mainGlobals x=some (some (.ref f)))
    (l:K.lookup f=some ⟨oc,od,.func (fnOf x x (defArgs st) (defBody st) (defScope st) (.ref d) kV doc pm an (.ref c) ct),osl⟩) (cd:codeIn K (.ref c) x=true) (kp:keepIn K (.ref f)=true) (lc:K.lookup c=some ⟨o1,o2,.fields vs,o3⟩) (e:vs[11]?=some (.ref t)) (hd:K.lookup d=some o) (ho:o.data=.seq #[.none] n):TV K x st :=
  ⟨a,funV_mk l cd kp hd ho,rfl,tabV_mk a l lc e⟩
theorem tabs_hd {K:Frag} {h:Heap} {x qual:Str} {st:Stmt} {f c P d:Addr} {oc kV doc pm ct:Value} {od an:Option Addr} {osl:Array (Option Value)} {o2:Option Addr} {vs:Array Value} {o3:Array (Option Value)} {file:Str} {tf tg tt:Tok} {flags text:Int} {inF:Bool} (KX:K.In h) (a:nsIn K mainGlobals x=some (some (.ref f)))
    (l:K.lookup f=some ⟨oc,od,.func (fnOf x qual (defArgs st) (defBody st) (defScope st) (.ref d) kV doc pm an (.ref c) ct),osl⟩) (lc:K.lookup c=some ⟨.type "code",o2,.fields vs,o3⟩) (e:vs[11]?=some (.ref P)) (e11:vs.getD 11 .none=.ref P) (e18:vs.getD 18 .none=.str file tf) (e7:vs.getD 7 .none=.int flags tg) (e9:vs.getD 9 .none=.bool inF) (e10:vs.getD 10 .none=.int text tt) (ne:c ≠ P) (hP:h.get? P=some (tabObj #[])) :
    ∀ t ∈ (tabIn K x).toList,CodeHd h t.1 t.2∧h.get? t.2=some (tabObj #[]):=fun t ht=>by
  obtain rfl:=Option.some.inj ((tabs_in ht).symm.trans (tabV_mk a l lc e))
  exact ⟨⟨_,vs,file,tf,flags,tg,inF,text,tt,KX _ _ lc,rfl,rfl,e,e11,e18,e7,e9,e10,ne⟩,hP⟩
theorem walk_ofTB {l:PySem.W.OpenLaw} {n k:Nat} {q:Program} {loose:List Str} {XP:(Str→Option Value)→Heap→Prop} {YP:World→Heap→Prop} {d:DefRec} {K:Params→PySem.W.Frag} {CX:World→CXT} {sp:World→Sp} {x:Str} {tabs:Params→List (Addr × Addr)}
    (hn:l.most=some n) (hn2:n≤sizeLine) (hdf:d.params.defaults=[]) (hr:Room k callerA)
    (hY:∀ (w:World) (h:Heap),YP w h→(K w.params).In h) (hnK:∀ p:Params,noTabs (K p)=true)
    (hTb:∀ (w:World) (h:Heap),YP w h→∀ t ∈ tabs w.params,CodeHd h t.1 t.2∧h.get? t.2=some (tabObj #[]))
    (F:∀ (w:World) (mg:Str→Option Value) (fa:Addr) (h:Heap),(K w.params).In h→h.Ns mainGlobals mg→mg d.name=some (.ref fa) →
      ∃ fd:FuncData,(∀ (s:Shared) (u:Value),BindsTo s fd ⟨[u],[]⟩ [(x,u)]) ∧
        ∀ base:Heap,(K w.params).In base→base.Ns mainGlobals mg→(∀ q ∈ tabs w.params,CodeHd base q.1 q.2∧base.BuiltinsAt mg q.2)→FnOk l.prog w (K w.params) mg base (CX w) k fa fd [x] (sp w))
    (hsp:∀ (w:World) (H:Hp) (a:Addr) (ns:List Int),ns.length≤n→(∀ m ∈ ns,Builtin.Int.intBits m≤2 ^ 20)→OnlyT (tabs w.params) H→SqL (K w.params) H a (ns.map V.int)→(∀ q ∈ tabs w.params,H q.2=some (.tbl #[]))→sp w [.ref a] H (fun v _=>v=.bl true) fun _ _ _=>False)
    (hCX:∀ (w:World) (H:Hp) (s:Shared) (e:Value) (s' : Shared),CX w [] H s (fun _ _ _=>False) e s'→False) :
    PySem.W.WalkO q loose XP YP l.row.toRowW d [] (fun f vs=>PySem.call f vs):=by
  intro w s₀ s₁ mg mb G Y fa o pm cd doc dV kV ho hd hcd hD hmg hg args vals as hpre hlay hrd hwl hlo
  obtain rfl:dV=.none:=Dflts.none hD hdf
  obtain rfl:kV=.none:=Dflts.noKw hD
  obtain ⟨a,vs,ns,rfl,rfl,hobj,hints,hlen⟩:=Att.script_of hn hpre hwl
  have KX:=hY w _ Y
  obtain ⟨fd,hb,hF⟩:=F w mg fa _ KX G.T.g hmg
  refine enter_call (codeAny_mono (law_callT KX G.T.g G.T.b G.T.builtins G.T.nolimit hg hobj hints (Nat.le_trans hlen hn2) hr (tabs:=tabs w.params) (fun t ht=>?_) (hnK w.params) G.T.bmain hF hb (fun H hO hS hTb=>hsp w H a ns hlen (bits_of_lay hlay) hO hS hTb) fun H e s'=>hCX w H s₁ e s') fun r s' hq=>?_)
  · exact hTb w _ Y t ht
  obtain ⟨rfl,h2,h3,h4⟩:=hq
  exact ⟨.inl ⟨.bool true,.bool true,[],rfl,fun _=>rfl,.bool true,Att.post_true l _,fun _=>⟨List.Pairwise.nil,fun _ hm=>(nomatch hm)⟩⟩,h2,h3,h4⟩
end L2
set_option Elab.async false
set_option maxRecDepth 100000
set_option maxHeartbeats 4000000
set_option linter.all false
namespace My
open PySem L2
def top (i:Nat):Stmt:=PySem.Challenge.pw_rowjudge_k54_trees_priced.main.body.getD i (.Pass ⟨0,0,0,0⟩)
abbrev Y8:Stmt:=top 2
abbrev s_price:Stmt:=top 3
abbrev Y6:Stmt:=top 4
abbrev Y2:Stmt:=top 6
abbrev Y4:Stmt:=top 7
abbrev Y1:Stmt:=top 8
abbrev Y3:Stmt:=top 9
abbrev Y5:Stmt:=top 10
abbrev Y0:Stmt:=top 11
abbrev Y7:Expr:=argE (argE (opR (retE ((defBody s_price).getD 2 (.Pass ⟨0,0,0,0⟩)))) 0) 1
theorem Z8 {c_0:Addr} : CScope ["side", "prices"] ["side"] (lamS Y7) [("prices",c_0)]:=⟨rfl,rfl,rfl,by decide +kernel,rfl,by decide +kernel,by decide +kernel,has_of rfl⟩
theorem Z9:FnScope ["tree"] ["tree"] (defScope Y8):=fsc
theorem Z7:FnScope ["tree", "prices", "own"] ["tree", "prices"] (defScope s_price):=fsc
theorem Z6:FnScope ["tree", "tell", "below"] ["tree", "tell"] (defScope Y6):=fsc
theorem Z2:FnScope ["script", "k"] ["script", "k"] (defScope Y2):=fsc
theorem Z4:FnScope ["script", "prices", "k", "cell", "some"] ["script"] (defScope Y4):=fsc
theorem Z1:FnScope ["cell", "below", "above", "prices", "column", "tree", "deep"] ["cell", "below", "above", "prices"] (defScope Y1):=fsc
theorem Z3:FnScope ["cells", "prices", "made", "cell", "above", "below", "told", "k"] ["cells", "prices"] (defScope Y3):=fsc
theorem Z5:FnScope ["found", "due"] ["found", "due"] (defScope Y5):=fsc
theorem Z0:FnScope ["script", "prices", "made", "handed"] ["script"] (defScope Y0):=fsc
structure AD where (a:Addr)
structure Bk (K:PySem.W.Frag) (Y:AD):Prop where
  n_:True
structure Bl (K:PySem.W.Frag) (mg:Str→Option Value) (Y:AD):Prop extends Bk K Y where
  sum_:mg "sum" = none
  max_:mg "max" = none
  len_:mg "len" = none
  range_:mg "range" = none
  isinstance_:mg "isinstance" = none
  int_:mg "int" = none
  bool_:mg "bool" = none
  list_:mg "list" = none
  SAY_:∃ u,mg "SAY" = some u∧RelV (V.str "say") u
theorem p10 (n:Nat):(0:Int) < 10 ^ n:=Int.pow_pos (by decide)
theorem ret_r1 {H:Hp} {r:Addr} {o:HO} {b:Addr} {u:HO} (h:H r=some u) (n:H b=none):upd H b o r=some u:=by rw [upd_ne (ne_of_none h n)];exact h
theorem of_map {ns:List Int} {i:Nat} {x:V} (e:(ns.map V.int)[i]?=some x):∃ c,x=.int c∧ns[i]?=some c:=by
  rw [List.getElem?_map] at e
  cases q:ns[i]? with
  | none=>rw [q] at e;cases e
  | some c=>rw [q] at e;cases e;exact ⟨c,rfl,rfl⟩
def RefL {α:Type} (xs:List V) (as:List α) (P:Addr→α→Prop):Prop:=xs.length=as.length∧∀ (j:Nat) (a:α),as[j]?=some a→∃ r,xs[j]?=some (.ref r)∧P r a
theorem RefL.mono {α:Type} {xs:List V} {as:List α} {P Q:Addr→α→Prop} (h:RefL xs as P) (k:∀ r a,P r a→Q r a):RefL xs as Q:=⟨h.1,fun j a e=>let ⟨r,e1,p⟩:=h.2 j a e;⟨r,e1,k r a p⟩⟩
theorem RefL.nil {α:Type} {P:Addr→α→Prop} : RefL [] [] P:=⟨rfl,(fun j a e=>by simp at e)⟩
theorem RefL.snoc {α:Type} {xs:List V} {as:List α} {P:Addr→α→Prop} {r:Addr} {a:α} (h:RefL xs as P) (p:P r a):RefL (xs ++ [.ref r]) (as ++ [a]) P:=by
  refine ⟨by simp [h.1],fun j b e=>?_⟩
  by_cases hj:j < as.length
  · rw [List.getElem?_append_left hj] at e
    obtain ⟨r',e1,q⟩:=h.2 j b e
    exact ⟨r',by rw [List.getElem?_append_left (by rw [h.1];exact hj)];exact e1,q⟩
  · have hj2:j=as.length:=by
      have:=(List.getElem?_eq_some_iff.mp e).1
      simp at this;omega
    subst hj2
    simp at e
    subst e
    exact ⟨r,by rw [← h.1];simp,p⟩
inductive Tr where
  | say (w:Str) (n:Int):Tr
  | ask (c:Nat) (cut:Int) (x y:Tr):Tr
def Tr.dep:Tr→Nat
  | .say _ _=>0
  | .ask _ _ x y=>1+max x.dep y.dep
def Tr.q:Tr→Int
  | .say _ _=>0
  | .ask _ _ x y=>x.q+y.q+1
def mx (a b:Int):Int:=if b > a then b else a
def Tr.pr (ps:List Int):Tr→Int
  | .say _ _=>0
  | .ask c _ x y=>ps.getD c 0+mx (x.pr ps) (y.pr ps)
def Tr.ok (n:Nat):Tr→Prop
  | .say _ _=>True
  | .ask c _ x y=>c < n∧x.ok n∧y.ok n
def TrV (H:Hp):Tr→V→Prop
  | .say w n,v=>∃ (a b:Addr),v=.ref a∧H a=some (.tup [.str "say",.ref b])∧H b=some (.tup [.str w,.int n])
  | .ask c cut x y,v=>∃ (a:Addr) (vx vy:V),v=.ref a∧H a=some (.tup [.str "ask",.int (c:Int),.int cut,vx,vy])∧TrV H x vx∧TrV H y vy
theorem TrV.mono {H H' : Hp} (s:SameT H H'):∀ {T:Tr} {v:V},TrV H T v→TrV H' T v
  | .say _ _,_,⟨a,b,e,h1,h2⟩=>⟨a,b,e,s _ _ h1,s _ _ h2⟩
  | .ask _ _ _ _,_,⟨a,vx,vy,e,h1,hx,hy⟩=>⟨a,vx,vy,e,s _ _ h1,TrV.mono s hx,TrV.mono s hy⟩
structure MdV (H:Hp) (ps:List Int) (r:Addr) (T:Tr):Prop where
  ex:∃ v,H r=some (.tup [v,.int T.q,.int (T.dep:Int),.int (T.pr ps)])∧TrV H T v
  ok:T.ok ps.length
  dp:T.dep≤60
theorem MdV.mono {H H' : Hp} {ps:List Int} {r:Addr} {T:Tr} (h:MdV H ps r T) (s:SameT H H'):MdV H' ps r T:=by obtain ⟨⟨v,e,t⟩,a,b⟩:=h;exact ⟨⟨v,s _ _ e,t.mono s⟩,a,b⟩
theorem small2:2≤sizeLine:=by decide
theorem at3 (x y z:Int) {k:Int} (h0:0≤k) (h1:k < 3):∃ v:Int,atI [V.int x,.int y,.int z] k=some (.int v):=by
  have:k=0∨k=1∨k=2:=by omega
  rcases this with rfl | rfl | rfl
  · exact ⟨_,rfl⟩
  · exact ⟨_,rfl⟩
  · exact ⟨_,rfl⟩
theorem mx_cast (a b:Nat):mx (a:Int) (b:Int)=((max a b:Nat):Int):=by unfold mx;split <;> omega
def MdL (H:Hp) (ps:List Int) (zs:List V) (Ts:List Tr):Prop:=RefL zs Ts (MdV H ps)
theorem MdL.mono {H H' : Hp} {ps:List Int} {zs:List V} {Ts:List Tr} (h:MdL H ps zs Ts) (s:SameT H H'):MdL H' ps zs Ts:=RefL.mono h fun _ _ p=>p.mono s
theorem RefL.lastx {α:Type} {xs:List V} {as:List α} {P:Addr→α→Prop} (h:RefL xs as P) (hn:0 < xs.length):∃ xs' r as' a,xs=xs' ++ [.ref r]∧as=as' ++ [a]∧RefL xs' as' P∧P r a:=by
  have hl0:=h.1
  obtain ⟨as',a,rfl⟩:∃ as' a,as=as' ++ [a]:=⟨as.dropLast,as.getLast (by intro z;rw [z] at hl0;simp at hl0;rw [hl0] at hn;simp at hn),(List.dropLast_concat_getLast _).symm⟩
  obtain ⟨xs',x,rfl⟩:∃ xs' x,xs=xs' ++ [x]:=⟨xs.dropLast,xs.getLast (by intro z;rw [z] at hn;simp at hn),(List.dropLast_concat_getLast _).symm⟩
  have hl:xs'.length=as'.length:=by simpa using hl0
  obtain ⟨r,e,p⟩:=h.2 as'.length a (by simp)
  have:x=.ref r:=by rw [← hl] at e;simpa using e
  subst this
  refine ⟨xs',r,as',a,rfl,rfl,⟨hl,fun j b e=>?_⟩,p⟩
  have hj:=(List.getElem?_eq_some_iff.mp e).1
  obtain ⟨r',e',p'⟩:=h.2 j b (by rw [List.getElem?_append_left hj];exact e)
  exact ⟨r',by rw [List.getElem?_append_left (by omega)] at e';exact e',p'⟩
theorem atI_last2 (u:List V) (x y:V):atI (u ++ [x,y]) (-2)=some x:=by
  have hl:(u ++ [x,y]).length=u.length+2:=by simp
  unfold atI ixN
  rw [if_neg (by decide),if_pos (by rw [hl];omega)]
  show (u ++ [x,y])[(-2+(((u ++ [x,y]).length:Nat):Int)).toNat]?=some x
  rw [hl,show (-2+((u.length+2:Nat):Int)).toNat=u.length by omega,List.getElem?_append_right (Nat.le_refl _),Nat.sub_self]
  rfl
theorem cut_mem (ns:List Int) (lo hi:Option Int):∃ ms:List Int,cutV (ns.map V.int) lo hi=ms.map V.int∧ms.length≤ns.length∧∀ m ∈ ms,m ∈ ns:=by
  unfold cutV
  refine ⟨(ns.drop (HT.sIx (ns.map V.int).length 0 lo)).take (HT.sIx (ns.map V.int).length (ns.map V.int).length hi - HT.sIx (ns.map V.int).length 0 lo),?_,?_,fun m h=>?_⟩
  · rw [List.map_take,List.map_drop]
  · rw [List.length_take,List.length_drop];omega
  · exact List.mem_of_mem_drop (List.mem_of_mem_take h)
theorem MdL.snoc {H:Hp} {ps:List Int} {zs:List V} {Ts:List Tr} {r:Addr} {W:Tr} (h:MdL H ps zs Ts) (p:MdV H ps r W):MdL H ps (zs ++ [.ref r]) (Ts ++ [W]):=RefL.snoc h p
theorem dep_mx {T U:Tr} (h:mx (T.dep:Int) (U.dep:Int) < 60):T.dep < 60∧U.dep < 60:=by rw [mx_cast] at h;omega
theorem TrV.uniq {H:Hp} : ∀ {T U:Tr} {v:V},TrV H T v→TrV H U v→T=U
  | .say w n,.say w' n',_,⟨a,b,e,h1,h2⟩,⟨a',b',e',h1',h2'⟩=>by
    rw [e] at e';cases e'
    rw [h1] at h1';cases h1'
    rw [h2] at h2';cases h2'
    rfl
  | .say w n,.ask c' cut' x' y',_,⟨a,b,e,h1,h2⟩,⟨a',vx,vy,e',h1',_,_⟩=>by
    rw [e] at e';cases e'
    rw [h1] at h1';cases h1'
  | .ask c cut x y,.say w n,_,⟨a,vx,vy,e,h1,_,_⟩,⟨a',b,e',h1',h2⟩=>by
    rw [e] at e';cases e'
    rw [h1] at h1';cases h1'
  | .ask c cut x y,.ask c' cut' x' y',_,⟨a,vx,vy,e,h1,hx,hy⟩,⟨a',vx',vy',e',h1',hx',hy'⟩=>by
    rw [e] at e';cases e'
    rw [h1] at h1'
    injection h1' with h1'
    injection h1' with h1'
    injection h1' with _ h1'
    injection h1' with z1 h1'
    injection h1' with z2 h1'
    injection h1' with z3 h1'
    injection h1' with z4 h1'
    have z1:=V.int.inj z1
    have z2:=V.int.inj z2
    subst z3 z4
    rw [TrV.uniq hx hx',TrV.uniq hy hy',show c=c' by omega,z2]
theorem TrV.ref {H:Hp} : ∀ {T:Tr} {v:V},TrV H T v→∃ a xs,v=.ref a∧H a=some (.tup xs)
  | .say _ _,_,⟨a,_,e,h1,_⟩=>⟨a,_,e,h1⟩
  | .ask _ _ _ _,_,⟨a,_,_,e,h1,_,_⟩=>⟨a,_,e,h1⟩
theorem all_true {f:Nat→Bool} {n:Nat} (h:(List.range n).all f=true) (j:Nat) (hj:j < n):f j=true:=List.all_eq_true.mp h j (List.mem_range.mpr hj)
theorem eqV_str (a b:Str):eqV (.str a) (.str b)=true→a=b:=by unfold eqV;simp
theorem eqV_int (a b:Int):eqV (.int a) (.int b)=true→a=b:=by unfold eqV;simp
inductive EqR (K:PySem.W.Frag) (H:Hp) (m:Nat):V→V→Bool→Prop
  | same {a:Addr} : EqR K H m (.ref a) (.ref a) true
  | tup {a b:Addr} {xs ys:List V} {f:Nat→Bool} (ne:a ≠ b) (ha:SqT K H a xs) (hb:SqT K H b ys) (h:∀ (j:Nat) (x y:V),xs[j]?=some x→ys[j]?=some y→DEqX K H m x y (f j)):EqR K H m (.ref a) (.ref b) ((List.range (min xs.length ys.length)).all f && xs.length == ys.length)
theorem EqR.mono {K:PySem.W.Frag} {H:Hp} {m m' : Nat} {v u:V} {b:Bool} (h:EqR K H m v u b) (l:m≤m'):EqR K H m' v u b:=by
  cases h with
  | same=>exact .same
  | tup ne ha hb h=>exact .tup ne ha hb fun j x y e1 e2=>(h j x y e1 e2).mono l
theorem EqR.x {K:PySem.W.Frag} {H:Hp} {m:Nat} {v u:V} {b:Bool} (h:EqR K H m v u b):DEqX K H (m+1) v u b:=by
  cases h with
  | same=>exact .of (.same _)
  | tup ne ha hb h=>exact .tup ne ha hb h
theorem deqT {K:PySem.W.Frag} {H:Hp} : ∀ {T U:Tr} {v u:V},TrV H T v→TrV H U u→∃ b,EqR K H (T.dep+1) v u b∧(b=true→T=U)
  | .say w n,.say w' n',_,_,⟨a,b,rfl,h1,h2⟩,⟨a',b',rfl,h1',h2'⟩=>by
    by_cases ha:a=a'
    · subst ha
      exact ⟨true,.same,fun _=>TrV.uniq (H:=H) (v:=.ref a) ⟨a,b,rfl,h1,h2⟩ ⟨a,b',rfl,h1',h2'⟩⟩
    obtain ⟨r,hr,hr1⟩:∃ r,DEqX K H 1 (.ref b) (.ref b') r∧(r=true→w=w'∧n=n'):=by
      by_cases hb:b=b'
      · subst hb
        rw [h2] at h2';cases h2'
        exact ⟨true,.of (.same b),fun _=>⟨rfl,rfl⟩⟩
      · refine ⟨_,.tup (n:=0) (f:=fun j=>if j=0 then eqV (.str w) (.str w') else eqV (.int n) (.int n')) hb (SqT.of h2) (SqT.of h2') fun j x y e1 e2=>?_,fun z=>?_⟩
        · match j,e1,e2 with
          | 0,e1,e2=>cases e1;cases e2;exact .of (.flat rfl rfl)
          | 1,e1,e2=>cases e1;cases e2;exact .of (.flat rfl rfl)
          | j+2,e1,_=>simp at e1
        · have z:=(Bool.and_eq_true _ _).mp z |>.1
          exact ⟨eqV_str _ _ (all_true z 0 (by simp)),eqV_int _ _ (all_true z 1 (by simp))⟩
    refine ⟨_,.tup (m:=1) (f:=fun j=>if j=0 then eqV (.str "say") (.str "say") else r) ha (SqT.of h1) (SqT.of h1') fun j x y e1 e2=>?_,fun z=>?_⟩
    · match j,e1,e2 with
      | 0,e1,e2=>cases e1;cases e2;exact .of (.flat rfl rfl)
      | 1,e1,e2=>cases e1;cases e2;exact hr
      | j+2,e1,_=>simp at e1
    · have z:=(Bool.and_eq_true _ _).mp z |>.1
      obtain ⟨e1,e2⟩:=hr1 (all_true z 1 (by simp))
      rw [e1,e2]
  | .say w n,.ask c' cut' x' y',_,_,⟨a,b,rfl,h1,h2⟩,⟨a',vx,vy,rfl,h1',_,_⟩=>by
    have ha:a ≠ a':=fun z=>by subst z;rw [h1] at h1';cases h1'
    refine ⟨_,.tup (m:=1) (f:=fun j=>if j=0 then eqV (.str "say") (.str "ask") else false) ha (SqT.of h1) (SqT.of h1') fun j x y e1 e2=>?_,fun z=>?_⟩
    · match j,e1,e2 with
      | 0,e1,e2=>cases e1;cases e2;exact .of (.flat rfl rfl)
      | 1,e1,e2=>cases e1;cases e2;exact .ti (SqT.of h2)
      | j+2,e1,_=>simp at e1
    · have z:=(Bool.and_eq_true _ _).mp z |>.1
      exact absurd (all_true z 1 (by simp)) (by decide)
  | .ask c cut x y,.say w n,_,_,⟨a,vx,vy,rfl,h1,_,_⟩,⟨a',b,rfl,h1',h2⟩=>by
    have ha:a ≠ a':=fun z=>by subst z;rw [h1] at h1';cases h1'
    refine ⟨_,.tup (m:=(Tr.ask c cut x y).dep+1) (f:=fun j=>if j=0 then eqV (.str "ask") (.str "say") else false) ha (SqT.of h1) (SqT.of h1') fun j x y e1 e2=>?_,fun z=>?_⟩
    · match j,e1,e2 with
      | 0,e1,e2=>cases e1;cases e2;exact .of (.flat rfl rfl)
      | 1,e1,e2=>cases e1;cases e2;exact .it (SqT.of h2)
      | j+2,_,e2=>simp at e2
    · have z:=(Bool.and_eq_true _ _).mp z |>.1
      exact absurd (all_true z 1 (by simp)) (by decide)
  | .ask c cut x y,.ask c' cut' x' y',_,_,⟨a,vx,vy,rfl,h1,hx,hy⟩,⟨a',vx',vy',rfl,h1',hx',hy'⟩=>by
    by_cases ha:a=a'
    · subst ha
      exact ⟨true,.same,fun _=>TrV.uniq (H:=H) (v:=.ref a) ⟨a,vx,vy,rfl,h1,hx,hy⟩ ⟨a,vx',vy',rfl,h1',hx',hy'⟩⟩
    obtain ⟨b1,d1,e1⟩:=deqT (K:=K) hx hx'
    obtain ⟨b2,d2,e2⟩:=deqT (K:=K) hy hy'
    have hd:(Tr.ask c cut x y).dep=1+max x.dep y.dep:=rfl
    refine ⟨_,.tup (m:=(Tr.ask c cut x y).dep+1) (f:=fun j=>if j=0 then eqV (.str "ask") (.str "ask") else if j=1 then eqV (.int (c:Int)) (.int (c' : Int)) else if j=2 then eqV (.int cut) (.int cut') else if j=3 then b1 else b2) ha (SqT.of h1) (SqT.of h1') fun j x_ y_ g1 g2=>?_,fun z=>?_⟩
    · match j,g1,g2 with
      | 0,g1,g2=>cases g1;cases g2;exact .of (.flat rfl rfl)
      | 1,g1,g2=>cases g1;cases g2;exact .of (.flat rfl rfl)
      | 2,g1,g2=>cases g1;cases g2;exact .of (.flat rfl rfl)
      | 3,g1,g2=>cases g1;cases g2;exact d1.x.mono (by omega)
      | 4,g1,g2=>cases g1;cases g2;exact d2.x.mono (by omega)
      | j+5,g1,_=>simp at g1
    · have z:=(Bool.and_eq_true _ _).mp z |>.1
      have z1:=eqV_int _ _ (all_true z 1 (by simp))
      have z2:=eqV_int _ _ (all_true z 2 (by simp))
      have z3:=e1 (all_true z 3 (by simp))
      have z4:=e2 (all_true z 4 (by simp))
      rw [show c=c' by omega,z2,z3,z4]
theorem eqX_of {K:PySem.W.Frag} {H:Hp} {Q:VK} {v u:V} {r:Bool} {T:Tr} (h:EqR K H 60 v u r) (hv:TrV H T v) (q:Q (.bl r) H):rEqX K false v u H Q:=by
  cases h with
  | tup ne h1 h2 h3=>exact .tt _ _ _ _ rfl rfl h1 h2 _ h3 q
  | @same a =>
    obtain ⟨a',xs,e,ea,fl⟩:∃ a' xs,V.ref a=.ref a'∧H a'=some (.tup xs)∧∀ x ∈ xs,flatV x=true∨∃ c,x=.ref c:=by
      cases T with
      | say w n =>
        obtain ⟨a',b,e,h1,_⟩:=hv
        exact ⟨a',_,e,h1,fun x hx=>by rcases List.mem_cons.mp hx with rfl | hx;exact .inl rfl;rw [List.mem_singleton.mp hx];exact .inr ⟨b,rfl⟩⟩
      | ask c cut x y =>
        obtain ⟨a',vx,vy,e,h1,hx,hy⟩:=hv
        obtain ⟨ax,_,rfl,_⟩:=hx.ref
        obtain ⟨ay,_,rfl,_⟩:=hy.ref
        refine ⟨a',_,e,h1,fun z hz=>?_⟩
        simp only [List.mem_cons,List.not_mem_nil,or_false] at hz
        rcases hz with rfl | rfl | rfl | rfl | rfl
        · exact .inl rfl
        · exact .inl rfl
        · exact .inl rfl
        · exact .inr ⟨_,rfl⟩
        · exact .inr ⟨_,rfl⟩
    cases e
    refine .tt a a xs xs rfl rfl (SqT.of ea) (SqT.of ea) (fun _=>true) (fun j x y e1 e2=>?_) ?_
    · rw [e1] at e2;cases e2
      rcases fl x (List.mem_of_getElem? e1) with z | ⟨c,rfl⟩
      · have:=DEq.flat (K:=K) (H:=H) (n:=60) z z
        rw [eqV_refl z] at this
        exact .of this
      · exact .of (.same c)
    · have e:(List.range (min xs.length xs.length)).all (fun _=>true)=true:=by simp
      show Q (.bl ((List.range (min xs.length xs.length)).all (fun _=>true) && xs.length == xs.length)) H
      rw [e,beq_self_eq_true,Bool.and_true]
      exact q
def nT:HO→Prop
  | .tbl _=>False
  | _=>True
def Sq (H H' : Hp):Prop:=∀ d o,nT o→H d=some o→H' d=some o
theorem Sq.of {H H' : Hp} (s:Same H H'):Sq H H':=fun d o _ e=>s d o e
theorem Sq.trans {H H1 H2:Hp} (a:Sq H H1) (b:Sq H1 H2):Sq H H2:=fun d o p e=>b d o p (a d o p e)
theorem Sq.tups {H H' : Hp} (s:Sq H H'):SameT H H':=fun d xs e=>s d _ trivial e
theorem Sq.lst {H H' : Hp} {a:Addr} {xs:List V} (s:Sq H H') (e:H a=some (.lst xs)):H' a=some (.lst xs):=s _ _ trivial e
theorem Sq.but {H H' : Hp} {P:Addr} {ps:Array Value} (h:H P=some (.tbl ps)) (k:∀ b o,b ≠ P→H b=some o→H' b=some o):Sq H H':=fun d o p e=>k d o (fun z=>by rw [z,h] at e;cases e;exact p) e
structure TlOk (P:Program) (w:World) (K:PySem.W.Frag) (mg:Str→Option Value) (base:Heap) (k:Nat) (f:Addr) (g:Tr→Int) (D:Tr→Prop) (J:Hp→Prop):Prop where
  fn:∃ sp,HFn P w K mg base k f sp∧∀ (H:Hp) (v:V) (T:Tr) (Q:VK),J H→TrV H T v→D T→(∀ H',Sq H H'→J H'→Q (.int (g T)) H')→sp [v] H Q E0
  ob:(∀ H,J H→FnO H f)∨PySem.W.keepIn K (.ref f)=true
  st:∀ H H',J H→Same H H'→J H'
theorem sne54 {a b:Str} (h:a ≠ b):¬ V.str a=V.str b:=fun e=>h (V.str.inj e)
def Tr.pv (wt:Nat→Int):Tr→Int
  | .say _ _=>0
  | .ask c _ x y=>wt c+mx (x.pv wt) (y.pv wt)
def PrA (H:Hp) (p:V) (m:Nat) (wt:Nat→Int):Prop:=(p=.non∧wt=fun _=>1)∨∃ (l:Addr) (ps:List Int),p=.ref l∧H l=some (.lst (ps.map V.int))∧ps.length=m∧wt=fun c=>ps.getD c 0
theorem PrA.mono {H H' : Hp} {p:V} {m:Nat} {wt:Nat→Int} (h:PrA H p m wt) (s:∀ l xs,H l=some (.lst xs)→H' l=some (.lst xs)):PrA H' p m wt:=h.imp id fun ⟨l,ps,a,b,c⟩=>⟨l,ps,a,s _ _ b,c⟩
def PT (K:PySem.W.Frag) (H:Hp):Prop:=∀ z,PySem.W.tabIn K "price" = some z→TabOk H z.2 [(lamP Y7, "price.<locals>.<lambda>")]
theorem PT.same {K:PySem.W.Frag} {H H' : Hp} (h:PT K H) (s:Same H H'):PT K H':=fun z e=>(h z e).same s
theorem hid_of {H:Hp} {cs:List Addr} {d:Addr} {o:HO} (f:Fzs H cs) (n:∀ x,o ≠ .frz x TTh) (e:H d=some o):hideL H cs d=some o:=by
  rw [hideL_out fun m=>?_]
  · exact e
  · obtain ⟨x,ex⟩:=f d m
    rw [e] at ex
    cases ex
    exact n x rfl
theorem PT.hide {K:PySem.W.Frag} {H:Hp} {cl:List (Str × Addr)} {ws:List (Str × V)} (h:PT K H) (hc:CellsAt H cl ws):PT K (hideL H (cl.map (·.2))):=fun z ez=>by
  obtain ⟨ps,e,t,q⟩:=h z ez
  refine ⟨ps,hid_of hc.fzs (fun x=>by intro z;cases z) e,t,fun p hp=>(q p hp).imp id fun ⟨c',oc,a,b,d⟩=>⟨c',oc,a,?_,d⟩⟩
  rw [hideL_out fun m=>?_]
  · exact b
  · obtain ⟨o,v,e1,e2⟩:=hc.1 c' m
    rw [b] at e1
    cases e1
    obtain ⟨vs,t,e3,_⟩:=d
    rw [e2] at e3
    cases e3
theorem PT.back {K:PySem.W.Frag} {H H' : Hp} {cs:List Addr} (h:PT K H') (n:∀ c ∈ cs,H' c=none):PT K (backL H H' cs):=fun z ez=>by
  obtain ⟨ps,e,t,q⟩:=h z ez
  refine ⟨ps,(backL_out fun m=>by rw [n _ m] at e;cases e).trans e,t,fun p hp=>(q p hp).imp id fun ⟨c',oc,a,b,d⟩=>⟨c',oc,a,(backL_out fun m=>by rw [n _ m] at b;cases b).trans b,d⟩⟩
theorem Sq.back {H H' : Hp} {cs:List Addr} (s:Sq (hideL H cs) H'):Sq H (backL H H' cs):=fun b o p e=>by
  by_cases hb:b ∈ cs
  · rw [backL_in hb];exact e
  · rw [backL_out hb];exact s b o p (by rw [hideL_out hb];exact e)
theorem great2 (a b:Int) {m:Int} (h1:m ∈ [a,b]) (h2:∀ x ∈ [a,b],x≤m):m=mx a b:=by
  have ha:=h2 a List.mem_cons_self
  have hb:=h2 b (List.mem_cons_of_mem _ List.mem_cons_self)
  have:m=a∨m=b:=by simpa using h1
  unfold mx
  split <;> omega
theorem pv_pr (ps:List Int):∀ T:Tr,T.pv (fun c=>ps.getD c 0)=T.pr ps
  | .say _ _=>rfl
  | .ask c _ x y=>by
    show ps.getD c 0+mx (x.pv _) (y.pv _)=ps.getD c 0+mx (x.pr ps) (y.pr ps)
    rw [pv_pr ps x,pv_pr ps y]
theorem pv_dep:∀ T:Tr,T.pv (fun _=>1)=(T.dep:Int)
  | .say _ _=>rfl
  | .ask c _ x y=>by
    show 1+mx (x.pv _) (y.pv _)=((1+max x.dep y.dep:Nat):Int)
    rw [pv_dep x,pv_dep y,mx_cast]
    omega
theorem pv_ones (m:Nat):∀ T:Tr,T.ok m→T.pv (fun c=>(List.replicate m (1:Int)).getD c 0)=(T.dep:Int)
  | .say _ _,_=>rfl
  | .ask c _ x y,h=>by
    obtain ⟨hc,hx,hy⟩:c < m∧x.ok m∧y.ok m:=h
    show (List.replicate m (1:Int)).getD c 0+mx (x.pv _) (y.pv _)=((1+max x.dep y.dep:Nat):Int)
    rw [pv_ones m x hx,pv_ones m y hy,mx_cast,List.getD_eq_getElem?_getD,List.getElem?_replicate,if_pos hc]
    show (1:Int)+_=_
    omega
inductive sp_law_at (K:PySem.W.Frag) (vs:List V) (H:Hp) (Q:VK) (e_:XK):Prop
  | mk (a:Addr) (ns:List Int) (k:Int) (_:vs=[.ref a,.int k]) (_:SqL K H a (ns.map V.int)) (_:(∀ m ∈ ns,Builtin.Int.intBits m≤2 ^ 20)) (_:0≤k) (_:∀ r:Int,Builtin.Int.intBits r≤2 ^ 20→Q (.int r) H):sp_law_at K vs H Q e_
inductive sp_law_asked (K:PySem.W.Frag) (vs:List V) (H:Hp) (Q:VK) (e_:XK):Prop
  | mk (c:Int) (b a l:Addr) (ps:List Int) (T U:Tr) (_:vs=[.int c,.ref b,.ref a,.ref l]) (_:MdV H ps b T) (_:MdV H ps a U) (_:T.dep < 60) (_:U.dep < 60) (_:H l=some (.lst (ps.map V.int))) (_:1≤ps.length) (_:Builtin.Int.intBits c≤2 ^ 20) (_:∀ (r:Addr) (W:Tr) (H' : Hp),Same H H'→MdV H' ps r W→Q (.ref r) H'):sp_law_asked K vs H Q e_
inductive sp_law_same (K:PySem.W.Frag) (vs:List V) (H:Hp) (Q:VK) (e_:XK):Prop
  | mk (i:Int) (_:vs=[.int i,.int i]) (_:Q (.bl true) H):sp_law_same K vs H Q e_
inductive sp_law_prices (K:PySem.W.Frag) (vs:List V) (H:Hp) (Q:VK) (e_:XK):Prop
  | mk (a:Addr) (ns:List Int) (_:vs=[.ref a]) (_:SqL K H a (ns.map V.int)) (_:(∀ m ∈ ns,Builtin.Int.intBits m≤2 ^ 20)) (_:∀ (l:Addr) (ps:List Int) (H' : Hp),Same H H'→H' l=some (.lst (ps.map V.int))→1≤ps.length→ps.length≤6→Q (.ref l) H'):sp_law_prices K vs H Q e_
inductive sp_law_made (K:PySem.W.Frag) (vs:List V) (H:Hp) (Q:VK) (e_:XK):Prop
  | mk (a l:Addr) (ns ps:List Int) (_:vs=[.ref a,.ref l]) (_:H a=some (.lst (ns.map V.int))) (_:ns.length≤63) (_:(∀ m ∈ ns,Builtin.Int.intBits m≤2 ^ 20)) (_:H l=some (.lst (ps.map V.int))) (_:1≤ps.length) (_:∀ (r:Addr) (T:Tr) (H' : Hp),Same H H'→MdV H' ps r T→Q (.ref r) H'):sp_law_made K vs H Q e_
inductive sp_of_both_sides (K:PySem.W.Frag) (P:Program) (w:World) (mg:Str→Option Value) (base:Heap) (n:Nat) (vs:List V) (H:Hp) (Q:VK) (e_:XK):Prop
  | mk (a f:Addr) (c:Nat) (cut:Int) (x y:Tr) (vx vy:V) (g:Tr→Int) (D:Tr→Prop) (J:Hp→Prop) (_:vs=[.ref a,.ref f]) (_:H a=some (.tup [.str "ask",.int (c:Int),.int cut,vx,vy])) (_:TrV H x vx) (_:TrV H y vy) (_:x.dep≤59) (_:D x) (_:D y) (_:TlOk P w K mg base n f g D J) (_:J H) (_:∀ (l:Addr) (H' : Hp),Sq H H'→J H'→H' l=some (.lst [.int (g x),.int (g y)])→Q (.ref l) H'):sp_of_both_sides K P w mg base n vs H Q e_
inductive sp_questions (K:PySem.W.Frag) (n:Nat) (vs:List V) (H:Hp) (Q:VK) (e_:XK):Prop
  | mk (v:V) (T:Tr) (_:vs=[v]) (_:TrV H T v) (_:T.dep+1≤n) (_:T.dep≤60) (_:∀ H',Same H H'→Q (.int T.q) H'):sp_questions K n vs H Q e_
theorem no_questions {K:PySem.W.Frag} {vs:List V} {H:Hp} {Q:VK} {E:XK} (h:sp_questions K 0 vs H Q E):False:=by
  obtain ⟨v,T,rfl,hT,hn,h60,q⟩:=h
  omega
inductive sp_price (K:PySem.W.Frag) (n:Nat) (vs:List V) (H:Hp) (Q:VK) (e_:XK):Prop
  | mk (v p:V) (T:Tr) (m:Nat) (wt:Nat→Int) (_:vs=[v,p]) (_:TrV H T v) (_:T.dep+1≤n) (_:T.dep≤60) (_:T.ok m) (_:PrA H p m wt) (_:PT K H) (_:∀ H',Sq H H'→PT K H'→Q (.int (T.pv wt)) H'):sp_price K n vs H Q e_
theorem no_price {K:PySem.W.Frag} {vs:List V} {H:Hp} {Q:VK} {E:XK} (h:sp_price K 0 vs H Q E):False:=by
  obtain ⟨v,p,T,m,wt,rfl,hT_,hn,h60,hok,hp,hpt,q⟩:=h
  omega
def J0 (K:PySem.W.Frag):Sp:=fun vs H Q _=>∃ (a:Addr) (ns:List Int),vs=[.ref a]∧SqL K H a (ns.map V.int)∧ns.length≤63∧(∀ m ∈ ns,Builtin.Int.intBits m≤2 ^ 20)∧(∀ z,PySem.W.tabIn K "price" = some z→H z.2=some (.tbl #[]))∧∀ H',Q (.bl true) H'
inductive sp_price_lam0 (K:PySem.W.Frag) (n:Nat) (f c' c_0:Addr) (doc pm ctv:Value) (vs:List V) (H:Hp) (Q:VK) (e_:XK):Prop
  | mk (v p:V) (T:Tr) (m:Nat) (wt:Nat→Int) (_:vs=[v]) (_:CloAt H f c' (PySem.W.kla_obj "<lambda>" "price.<locals>.<lambda>" (lamA Y7) (lamB Y7) (lamS Y7) [("prices",c_0)] pm c' ctv) "price.<locals>.<lambda>" [("prices",c_0)] [("prices",p)]) (_:TrV H T v) (_:T.dep+1≤n) (_:T.dep≤60) (_:T.ok m) (_:PrA H p m wt) (_:PT K H) (_:∀ H',Sq H H'→PT K H'→Q (.int (T.pv wt)) H'):sp_price_lam0 K n f c' c_0 doc pm ctv vs H Q e_
section
variable {P:Program} {Y:AD} {w:World} {K:PySem.W.Frag} {mg:Str→Option Value} {base:Heap} {f:Addr} {fd:FuncData}
theorem O_2 (F:Fun K "_law_at" "_law_at" Y2 f fd) (bl:Bl K mg Y)  : FnOk P w K mg base CX0 1 f fd ["script", "k"] (sp_law_at K):=by
  refine F.okA Z2 fun cdv A outer s H vs Q E hr h=>?_
  obtain ⟨a,ns,k,rfl,hS,hB,h0,q⟩:=h
  refine ⟨_,(pss_cons (ps_if (pt_cmpR op_lt (pv 1) (pe_callB call_len_seq rfl bl.len_ PySem.boot_len (pa_cons (pv 0) pa_nil)) (nomark _))
     (pss_one (ps_ret (pe_ix ix_list (pv 0) (pv 1) (fun _ _=>rfl))))
     pss_nil)
     (pss_one (ps_ret pe_int))),?_⟩
  refine ⟨_,rfl,_,rfl,a,_,rfl,.inl hS,_,_,rfl,rfl,_,rfl,?_⟩
  refine ite2 (fun c=>?_) (fun c=>?_)
  · have c' : k < (((ns.map V.int).length:Nat):Int):=dec_t c
    rw [List.length_map] at c'
    have hk:k.toNat < ns.length:=by omega
    have hv:atI (ns.map V.int) k=some (.int ns[k.toNat]):=by
      have z:atI (ns.map V.int) ((k.toNat:Nat):Int)=some (.int ns[k.toNat]):=atI_nat (by rw [List.getElem?_map,List.getElem?_eq_getElem hk];rfl)
      rw [show ((k.toNat:Nat):Int)=k by omega] at z
      exact z
    exact ⟨_,rfl,_,rfl,a,_,_,_,rfl,rfl,hS,hv,q _ (hB _ (List.getElem_mem hk))⟩
  · exact q 0 (by decide +kernel)
theorem O_1 (F:Fun K "_law_asked" "_law_asked" Y1 f fd) (bl:Bl K mg Y)  : FnOk P w K mg base CX0 1 f fd ["cell", "below", "above", "prices"] (sp_law_asked K):=by
  refine F.okA Z1 fun cdv A outer s H vs Q E hr h=>?_
  obtain ⟨c,b,a,l,ps,T,U,rfl,⟨⟨v,eb,hv⟩,okT,_⟩,⟨⟨u,ea,hu⟩,okU,_⟩,dT,dU,el,h1,hb,q⟩:=h
  refine ⟨_,(pss_cut (ps_set (i:=4) Z1.nd rfl (Or.inl rfl) (pe_op op_mod (pe_op op_mod (pe_op op_mul (pe_op op_mod (pv 0) pe_int) pe_int) pe_int) (pe_callB call_len_seq rfl bl.len_ PySem.boot_len (pa_cons (pv 3) pa_nil))))
     (pss_cut (ps_set (i:=5) Z1.nd rfl (Or.inl rfl) (pe_tup (pa_cons pe_str (pa_cons (pv 4) (pa_cons (pe_op op_sub (pe_op op_mod (pe_op op_mulO (pv 0) (pe_op op_pow pe_int pe_int)) (pe_op op_pow pe_int pe_int)) (pe_op op_pow pe_int pe_int)) (pa_cons (pe_ix ix_tup (pv 1) pe_int (fun _ _=>rfl)) (pa_cons (pe_ix ix_tup (pv 2) pe_int (fun _ _=>rfl)) pa_nil)))))))
     (pss_cut (ps_set (i:=6) Z1.nd rfl (Or.inl rfl) (pe_op op_add pe_int (pe_callB (call_max2 rfl) rfl bl.max_ PyProof.Rows.boot_max (pa_cons (pe_ix ix_tup (pv 1) pe_int (fun _ _=>rfl)) (pa_cons (pe_ix ix_tup (pv 2) pe_int (fun _ _=>rfl)) pa_nil)))))
     (pss_one (ps_ret (pe_tup (pa_cons (pv 5) (pa_cons (pe_op op_add (pe_op op_add (pe_ix ix_tup (pv 1) pe_int (fun _ _=>rfl)) (pe_ix ix_tup (pv 2) pe_int (fun _ _=>rfl))) pe_int) (pa_cons (pv 6) (pa_cons (pe_op op_add (pe_ix ix_list (pv 3) (pv 4) (fun _ _=>rfl)) (pe_callB (call_max2 rfl) rfl bl.max_ PyProof.Rows.boot_max (pa_cons (pe_ix ix_tup (pv 1) pe_int (fun _ _=>rfl)) (pa_cons (pe_ix ix_tup (pv 2) pe_int (fun _ _=>rfl)) pa_nil)))) pa_nil)))))))))),?_⟩
  have hpl:(ps.map V.int).length=ps.length:=List.length_map _
  have hpos:(0:Int) < (((ps.map V.int).length:Nat):Int):=by omega
  have k0:=Int.emod_nonneg (c % 10061 * 641 % 10061) (Int.ne_of_gt hpos)
  have k1:=Int.emod_lt_of_pos (c % 10061 * 641 % 10061) hpos
  refine ⟨fun σ' H'=>H'=H∧∃ n:Nat,n < ps.length∧σ'=[some (.int c),some (.ref b),some (.ref a),some (.ref l),some (.int (n:Int)),none,none],⟨_,rfl,_,_,rfl,rfl,(by show (0:Int) < 10061;decide),_,_,rfl,rfl,.inr ⟨by decide,by decide⟩,_,_,rfl,rfl,(by show (0:Int) < 10061;decide),_,rfl,l,_,rfl,.inl (SqL.of el),_,_,rfl,rfl,hpos,rfl,(c % 10061 * 641 % 10061 % (((ps.map V.int).length:Nat):Int)).toNat,by omega,by rw [Int.toNat_of_nonneg k0];rfl⟩,?_⟩
  clear k0 k1
  rintro σ0 H0 ⟨rfl,n,hn,rfl⟩
  refine ⟨fun σ' H'=>Same H0 H'∧∃ (t:Addr) (cut:Int),H' t=some (.tup [.str "ask",.int (n:Int),.int cut,v,u])∧σ'=[some (.int c),some (.ref b),some (.ref a),some (.ref l),some (.int (n:Int)),some (.ref t),none],?_,?_⟩
  · exact ⟨_,rfl,_,rfl,_,_,rfl,rfl,⟨by decide,by decide,by decide⟩,_,_,rfl,rfl,PySem.IntMulOk.of_bits hb (by decide +kernel),_,_,rfl,rfl,⟨by decide,by decide,by decide⟩,_,_,rfl,rfl,p10 _,_,_,rfl,rfl,⟨by decide,by decide,by decide⟩,_,_,rfl,rfl,_,rfl,b,_,_,_,rfl,rfl,SqT.of eb,rfl,_,rfl,a,_,_,_,rfl,rfl,SqT.of ea,rfl,(by show 5≤sizeLine;decide),fun t ht=>⟨same_new ht _,t,_,upd_same,rfl⟩⟩
  rintro σ1 H1 ⟨s1,t,cut,et,rfl⟩
  have eb1:=s1 _ _ eb
  have ea1:=s1 _ _ ea
  have el1:=s1 _ _ el
  refine ⟨fun σ' H'=>H'=H1∧σ'=[some (.int c),some (.ref b),some (.ref a),some (.ref l),some (.int (n:Int)),some (.ref t),some (.int (1+mx (T.dep:Int) (U.dep:Int)))],?_,?_⟩
  · exact ⟨_,rfl,b,_,_,_,rfl,rfl,SqT.of eb1,rfl,_,rfl,a,_,_,_,rfl,rfl,SqT.of ea1,rfl,_,_,rfl,_,_,rfl,rfl,rfl,rfl⟩
  rintro σ2 H2 ⟨rfl,rfl⟩
  have eP:atI (ps.map V.int) (n:Int)=some (.int (ps.getD n 0)):=atI_nat (by rw [List.getElem?_map,List.getElem?_eq_getElem hn,List.getD_eq_getElem?_getD,List.getElem?_eq_getElem hn];rfl)
  refine ⟨_,rfl,_,rfl,b,_,_,_,rfl,rfl,SqT.of eb1,rfl,_,rfl,a,_,_,_,rfl,rfl,SqT.of ea1,rfl,_,_,rfl,rfl,_,_,rfl,rfl,_,rfl,_,rfl,_,rfl,l,_,_,_,rfl,rfl,SqL.of el1,eP,_,rfl,b,_,_,_,rfl,rfl,SqT.of eb1,rfl,_,rfl,a,_,_,_,rfl,rfl,SqT.of ea1,rfl,_,_,rfl,_,_,rfl,rfl,(by show 4≤sizeLine;decide),fun r hr_=>?_⟩
  have u2:=same_new hr_ (.tup [.ref t,.int (T.q+U.q+1),.int (1+mx (T.dep:Int) (U.dep:Int)),.int (ps.getD n 0+mx (T.pr ps) (U.pr ps))])
  refine q r (.ask n cut T U) _ (s1.trans u2) ⟨⟨.ref t,?_,t,v,u,rfl,u2 _ _ et,(hv.mono s1.tups).mono u2.tups,(hu.mono s1.tups).mono u2.tups⟩,⟨hn,okT,okU⟩,?_⟩
  · rw [mx_cast]
    exact upd_same
  · show 1+max T.dep U.dep≤60
    omega
theorem O_5 (F:Fun K "_law_same" "_law_same" Y5 f fd) (bl:Bl K mg Y)  : FnOk P w K mg base CX0 1 f fd ["found", "due"] (sp_law_same K):=by
  refine F.okA Z5 fun cdv A outer s H vs Q E hr h=>?_
  obtain ⟨i,rfl,q⟩:=h
  refine ⟨_,(pss_one (ps_ret (pe_and (pe_callB call_isinst rfl bl.isinstance_ PyProof.Rows.boot_isinstance (pa_cons (pv 0) (pa_cons (pe_bltn (v:=.ty "int") rfl bl.int_ PyProof.Rows.boot_int rfl) pa_nil))) (pe_and (pe_not (pe_callB call_isinst rfl bl.isinstance_ PyProof.Rows.boot_isinstance (pa_cons (pv 0) (pa_cons (pe_bltn (v:=.ty "bool") rfl bl.bool_ PyProof.Rows.boot_bool rfl) pa_nil)))) (pe_one (pe_cmpR op_eq (pv 0) (pv 1) (nomark _))))))),?_⟩
  refine ⟨_,rfl,_, "int",_,true,rfl,.int _,(by first | rfl | with_unfolding_all rfl | decide +kernel),_,rfl,iteT ⟨_,rfl,_, "bool",_,false,rfl,.int _,(by first | rfl | with_unfolding_all rfl | decide +kernel),_,rfl,true,rfl,iteT ⟨_,rfl,_,rfl,rfl,?_⟩⟩⟩
  rw [decide_eq_true rfl]
  exact q
theorem O_4 (F:Fun K "_law_prices" "_law_prices" Y4 f fd) (bl:Bl K mg Y) (c__law_at:Callee P w K mg base 1 "_law_at" ["script", "k"] (sp_law_at K)):FnOk P w K mg base CX0 2 f fd ["script"] (sp_law_prices K):=by
  refine F.okA Z4 fun cdv A outer s H vs Q E hr h=>?_
  obtain ⟨a,ns,rfl,hS,hB,q⟩:=h
  refine ⟨_,(pss_cons (ps_set (i:=1) Z4.nd rfl (Or.inl rfl) (pe_lst pa_nil))
     (pss_cons (ps_for PassesOwn.never rfl (pi_range1 rfl bl.range_ (pa_cons (pe_op op_add pe_int (pe_op op_mod (pe_fn c__law_at hr rfl (pa_cons (pv 0) (pa_cons pe_int pa_nil))) pe_int)) pa_nil)) (pg_name (i:=2) Z4.nd rfl (Or.inl rfl))
     (pss_cut (ps_set (i:=3) Z4.nd rfl (Or.inl rfl) (pe_fn c__law_at hr rfl (pa_cons (pv 0) (pa_cons (pe_op op_add pe_int (pv 2)) pa_nil))))
     (pss_cut (ps_set (i:=4) Z4.nd rfl (Or.inl rfl) (pe_lst (pa_cons (pe_op op_mod (pv 3) pe_int) (pa_cons (pe_op op_mod (pv 3) (pe_op op_sub (pe_op op_pow pe_int pe_int) pe_int)) (pa_cons (pe_op op_mod (pe_op op_mulO (pv 3) (pe_op op_pow pe_int pe_int)) (pe_op op_sub (pe_op op_pow pe_int pe_int) pe_int)) pa_nil)))))
     (pss_one (ps_expr (pe_bm PySem.F.plainAttrs_list PySem.F.slot_list_append PySem.F.type_list_append mt_append (pv 1) (pa_cons (pe_op op_add pe_int (pe_ix ix_list (pv 4) (pe_op op_mod (pe_op op_mod (pe_op op_mul (pe_op op_mod (pv 3) pe_int) pe_int) pe_int) pe_int) (fun _ _=>rfl))) pa_nil)))))))
     (pss_one (ps_ret (pv 1))))),?_⟩
  refine ⟨(by show 0≤sizeLine;decide),fun l hl=>?_⟩
  have s0:Same H (upd H l (.lst ([].map V.int))):=same_new hl _
  have e0:upd H l (.lst ([].map V.int)) l=some (.lst ([].map V.int)):=upd_same
  have ee:upd H l (.lst [])=upd H l (.lst ([].map V.int)):=rfl
  rw [ee]
  clear ee
  generalize upd H l (.lst ([].map V.int))=H0 at s0 e0 ⊢
  refine ⟨_,rfl,a,ns,0,rfl,s0.seq hS,hB,by decide,fun r0 _=>?_⟩
  have r1:=Int.emod_nonneg r0 (show (6:Int) ≠ 0 by decide)
  have r2:=Int.emod_lt_of_pos r0 (show (0:Int) < 6 by decide)
  refine ⟨_,_,rfl,rfl,(by show (0:Int) < 6;decide),_,_,rfl,rfl,?_⟩
  generalize r0 % 6=n at r1 r2 ⊢
  refine ⟨_,rfl,(by show -(2 ^ 62)≤1+n;omega),(by show 1+n < 2 ^ 62;omega),for_range (fun i σ H'=>Same H H'∧∃ (ps:List Int) (c2 c3 c4:Option V),H' l=some (.lst (ps.map V.int))∧ps.length=i∧σ=[some (.ref a),some (.ref l),c2,c3,c4]) ⟨s0,[],_,_,_,e0,rfl,rfl⟩ (fun i σ H' hi h=>?_) (fun σ H' h=>?_)⟩
  · obtain ⟨sm,ps,c2,c3,c4,el,hlen,rfl⟩:=h
    have hi6:i < 6:=by omega
    refine ⟨fun σ' H2=>H2=H'∧∃ c:Int,Builtin.Int.intBits c≤2 ^ 20∧σ'=[some (.ref a),some (.ref l),some (.int (0+(i:Int))),some (.int c),c4],?_,?_⟩
    · exact ⟨_,rfl,_,rfl,_,_,rfl,rfl,a,ns,_,rfl,sm.seq hS,hB,(by omega),fun r hb=>⟨rfl,r,hb,rfl⟩⟩
    rintro σa Ha ⟨rfl,c,hb,rfl⟩
    have pp:(0:Int) < 10 ^ (60:Int).toNat - 1:=by decide
    refine ⟨fun σ' H2=>Same Ha H2∧H2 l=some (.lst (ps.map V.int))∧∃ (p:Addr) (x y z:Int),H2 p=some (.lst [.int x,.int y,.int z])∧σ'=[some (.ref a),some (.ref l),some (.int (0+(i:Int))),some (.int c),some (.ref p)],?_,?_⟩
    · exact ⟨_,rfl,_,_,rfl,rfl,(by show (0:Int) < 9;decide),_,rfl,_,_,rfl,rfl,⟨by decide,by decide,by decide⟩,_,_,rfl,rfl,_,_,rfl,rfl,pp,_,rfl,_,_,rfl,rfl,⟨by decide,by decide,by decide⟩,_,_,rfl,rfl,PySem.IntMulOk.of_bits hb (by decide +kernel),_,_,rfl,rfl,⟨by decide,by decide,by decide⟩,_,_,rfl,rfl,_,_,rfl,rfl,pp,(by show 3≤sizeLine;decide),fun p hp=>⟨same_new hp _,ret_r1 el hp,p,_,_,_,upd_same,rfl⟩⟩
    rintro σb Hb ⟨sb,eb,p,x,y,z,ep,rfl⟩
    obtain ⟨v,hv⟩:=at3 x y z (k:=c % 10007 * 613 % 10007 % 3) (Int.emod_nonneg _ (by decide)) (Int.emod_lt_of_pos _ (by decide))
    have hpl:(ps.map V.int).length=i:=by rw [List.length_map,hlen]
    refine ⟨_,rfl,.inl ⟨rfl,_,SqL.of eb⟩,_,rfl,_,rfl,_,_,rfl,rfl,(by show (0:Int) < 10007;decide),_,_,rfl,rfl,.inr ⟨by decide,by decide⟩,_,_,rfl,rfl,(by show (0:Int) < 10007;decide),_,_,rfl,rfl,(by show (0:Int) < 3;decide),p,_,_,_,rfl,rfl,SqL.of ep,hv,_,_,rfl,rfl,l,_,_,rfl,rfl,eb,small1000 (by omega),(sm.trans sb).upd hl,ps ++ [1+v],_,_,_,?_,by simp [hlen],rfl⟩
    rw [upd_same,List.map_append];rfl
  · obtain ⟨sm,ps,c2,c3,c4,el,hlen,rfl⟩:=h
    exact ⟨_,rfl,q l ps H' sm el (by omega) (by omega)⟩
theorem O_3 (F:Fun K "_law_made" "_law_made" Y3 f fd) (bl:Bl K mg Y) (c__law_asked:Callee P w K mg base 1 "_law_asked" ["cell", "below", "above", "prices"] (sp_law_asked K)):FnOk P w K mg base CX0 2 f fd ["cells", "prices"] (sp_law_made K):=by
  refine F.okA Z3 fun cdv A outer s H vs Q E hr h=>?_
  obtain ⟨a,l,ns,ps,rfl,ea,h63,hB,el,hp1,q⟩:=h
  refine ⟨_,(pss_cons (ps_set (i:=2) Z3.nd rfl (Or.inl rfl) (pe_lst pa_nil))
     (pss_cut (ps_for PassesOwn.never rfl (pi_list (pv 0)) (pg_name (i:=3) Z3.nd rfl (Or.inl rfl))
     (pss_one (ps_if (PW.pt (pw_and (pt_cmpR op_gt (pe_callB call_len_seq rfl bl.len_ PySem.boot_len (pa_cons (pv 2) pa_nil)) pe_int (nomark _)) (pw_and (pt_cmpR op_gt (pe_op op_mod (pe_op op_mod (pe_op op_mul (pe_op op_mod (pv 3) pe_int) pe_int) pe_int) pe_int) pe_int (nomark _)) (pw_and1 (pt_cmpR op_lt (pe_callB (call_max2 rfl) rfl bl.max_ PyProof.Rows.boot_max (pa_cons (pe_ix ix_tup (pe_ix ix_list (pv 2) (pe_un un_neg pe_int) (fun _ _=>rfl)) pe_int (fun _ _=>rfl)) (pa_cons (pe_ix ix_tup (pe_ix ix_list (pv 2) (pe_un un_neg pe_int) (fun _ _=>rfl)) pe_int (fun _ _=>rfl)) pa_nil))) pe_int (nomark _))))))
     (pss_cut (ps_set (i:=4) Z3.nd rfl (Or.inl rfl) (pe_bm0 PySem.F.plainAttrs_list PySem.F.slot_list_pop PySem.F.type_list_pop mt_pop (pv 2)))
     (pss_cut (ps_set (i:=5) Z3.nd rfl (Or.inl rfl) (pe_bm0 PySem.F.plainAttrs_list PySem.F.slot_list_pop PySem.F.type_list_pop mt_pop (pv 2)))
     (pss_one (ps_expr (pe_bm PySem.F.plainAttrs_list PySem.F.slot_list_append PySem.F.type_list_append mt_append (pv 2) (pa_cons (pe_fn c__law_asked hr rfl (pa_cons (pv 3) (pa_cons (pv 5) (pa_cons (pv 4) (pa_cons (pv 1) pa_nil))))) pa_nil))))))
     (pss_one (ps_expr (pe_bm PySem.F.plainAttrs_list PySem.F.slot_list_append PySem.F.type_list_append mt_append (pv 2) (pa_cons (pe_tup (pa_cons (pe_tup (pa_cons pe_str (pa_cons (pe_tup (pa_cons pe_str (pa_cons (pe_op op_mod (pv 3) (pe_op op_pow pe_int pe_int)) pa_nil))) pa_nil))) (pa_cons pe_int (pa_cons pe_int (pa_cons pe_int pa_nil))))) pa_nil)))))))
     (pss_cut (ps_set (i:=6) Z3.nd rfl (Or.inl rfl) (pe_tup (pa_cons (pe_tup (pa_cons pe_str (pa_cons (pe_tup (pa_cons pe_str (pa_cons pe_int pa_nil))) pa_nil))) (pa_cons pe_int (pa_cons pe_int (pa_cons pe_int pa_nil))))))
     (pss_cons (ps_for PassesOwn.never rfl (pi_range1 rfl bl.range_ (pa_cons (pe_callB call_len_seq rfl bl.len_ PySem.boot_len (pa_cons (pv 2) pa_nil)) pa_nil)) (pg_name (i:=7) Z3.nd rfl (Or.inl rfl))
     (pss_one (ps_if (pt_cmpR op_lt (pe_callB (call_max2 rfl) rfl bl.max_ PyProof.Rows.boot_max (pa_cons (pe_ix ix_tup (pv 6) pe_int (fun _ _=>rfl)) (pa_cons (pe_ix ix_tup (pe_ix ix_list (pv 2) (pv 7) (fun _ _=>rfl)) pe_int (fun _ _=>rfl)) pa_nil))) pe_int (nomark _))
     (pss_one (ps_set (i:=6) Z3.nd rfl (Or.inl rfl) (pe_fn c__law_asked hr rfl (pa_cons (pe_ix ix_list (pv 0) (pv 7) (fun _ _=>rfl)) (pa_cons (pv 6) (pa_cons (pe_ix ix_list (pv 2) (pv 7) (fun _ _=>rfl)) (pa_cons (pv 1) pa_nil)))))))
     pss_nil)))
     (pss_one (ps_ret (pv 6))))))),?_⟩
  refine ⟨(by show 0≤sizeLine;decide),fun md hmd=>?_⟩
  have s1:Same H (upd H md (.lst [])):=same_new hmd _
  have e1:upd H md (.lst []) md=some (.lst []):=upd_same
  generalize upd H md (.lst [])=H1 at s1 e1 ⊢
  refine ⟨fun σ' H'=>Same H H'∧∃ (zs:List V) (Ts:List Tr) (c3 c4 c5:Option V),H' md=some (.lst zs)∧MdL H' ps zs Ts∧zs.length≤ns.length∧σ'=[some (.ref a),some (.ref l),some (.ref md),c3,c4,c5,none,none],?_,?_⟩
  · refine ⟨_,rfl,a,rfl,⟨_,SqL.of (s1 _ _ ea)⟩,for_list (xs:=ns.map V.int) (fun i σ H'=>Same H H'∧∃ (zs:List V) (Ts:List Tr) (c3 c4 c5:Option V),H' md=some (.lst zs)∧MdL H' ps zs Ts∧zs.length≤i∧σ=[some (.ref a),some (.ref l),some (.ref md),c3,c4,c5,none,none]) ⟨s1,[],[],_,_,_,e1,RefL.nil,Nat.le_refl _,rfl⟩ (fun i σ H' _ h=>SqL.of (h.1 _ _ ea)) (fun i y σ H' e h=>?_) (fun σ H' h=>?_)⟩
    rotate_left
    · obtain ⟨sm,zs,Ts,c3,c4,c5,h1,h2,h3,h4⟩:=h
      rw [List.length_map] at h3
      exact ⟨sm,zs,Ts,c3,c4,c5,h1,h2,h3,h4⟩
    obtain ⟨sm,zs,Ts,c3,c4,c5,h1,h2,h3,rfl⟩:=h
    obtain ⟨c,rfl,ec⟩:=of_map e
    have hb:=hB c (List.mem_of_getElem? ec)
    have hi:i < ns.length:=(List.getElem?_eq_some_iff.mp ec).1
    refine ⟨_,rfl,md,_,rfl,.inl (SqL.of h1),_,_,rfl,rfl,_,rfl,?_⟩
    refine ite2 (fun g1=>?_) (fun _=>iteF ?e1)
    have g1' : (1:Int) < ((zs.length:Nat):Int):=dec_t g1
    refine ⟨_,rfl,_,_,rfl,rfl,(by show (0:Int) < 10039;decide),_,_,rfl,rfl,.inr ⟨by decide,by decide⟩,_,_,rfl,rfl,(by show (0:Int) < 10039;decide),_,_,rfl,rfl,(by show (0:Int) < 5;decide),_,_,rfl,rfl,_,rfl,?_⟩
    refine ite2 (fun _=>?_) (fun _=>iteF ?e2)
    obtain ⟨zs1,ra,Ts1,U,ez1,eT1,h2a,hU⟩:=RefL.lastx h2 (by omega)
    have hz1:zs.length=zs1.length+1:=by rw [ez1];simp
    obtain ⟨zs2,rb,Ts2,T,ez2,eT2,h2b,hT⟩:=RefL.lastx h2a (by omega)
    have hz2:zs1.length=zs2.length+1:=by rw [ez2];simp
    obtain ⟨⟨u,ea_,_⟩,_,_⟩:=id hU
    obtain ⟨⟨v,eb_,_⟩,_,_⟩:=id hT
    have il:atI zs (-1)=some (.ref ra):=by rw [ez1];exact atI_last _ _
    have il2:atI zs (-2)=some (.ref rb):=by rw [ez1,ez2,List.append_assoc];exact atI_last2 _ _ _
    refine ⟨_,rfl,_,rfl,md,_,_,_,rfl,rfl,SqL.of h1,il,ra,_,_,_,rfl,rfl,SqT.of ea_,rfl,_,rfl,_,rfl,md,_,_,_,rfl,rfl,SqL.of h1,il2,rb,_,_,_,rfl,rfl,SqT.of eb_,rfl,_,_,rfl,_,_,rfl,rfl,_,rfl,?_⟩
    refine ite2 (fun g3=>?_) (fun _=>?e3)
    have g3' : mx (U.dep:Int) (T.dep:Int) < 60:=dec_t g3
    obtain ⟨dU,dT⟩:=dep_mx g3'
    subst ez2
    subst ez1
    refine ⟨fun σ' H3=>H3=upd H' md (.lst (zs2 ++ [.ref rb]))∧σ'=[some (.ref a),some (.ref l),some (.ref md),some (.int c),some (.ref ra),c5,none,none],?_,?_⟩
    · refine ⟨_,rfl,.inl ⟨rfl,_,SqL.of h1⟩,md,_,.ref ra,rfl,rfl,h1,by simp,?_,rfl⟩
      rw [List.dropLast_concat]
    rintro σa Ha ⟨rfl,rfl⟩
    have st1:SameT H' (upd H' md (.lst (zs2 ++ [.ref rb]))):=sameT_lst h1
    have sm1:Same H (upd H' md (.lst (zs2 ++ [.ref rb]))):=sm.upd hmd
    have h1a:upd H' md (.lst (zs2 ++ [.ref rb])) md=some (.lst (zs2 ++ [.ref rb])):=upd_same
    generalize upd H' md (.lst (zs2 ++ [.ref rb]))=Ha at st1 sm1 h1a ⊢
    refine ⟨fun σ' H3=>H3=upd Ha md (.lst zs2)∧σ'=[some (.ref a),some (.ref l),some (.ref md),some (.int c),some (.ref ra),some (.ref rb),none,none],?_,?_⟩
    · refine ⟨_,rfl,.inl ⟨rfl,_,SqL.of h1a⟩,md,_,.ref rb,rfl,rfl,h1a,by simp,?_,rfl⟩
      rw [List.dropLast_concat]
    rintro σb Hb ⟨rfl,rfl⟩
    have st2:=st1.trans (sameT_lst h1a (o:=.lst zs2))
    have sm2:Same H (upd Ha md (.lst zs2)):=sm1.upd hmd
    have h1b:upd Ha md (.lst zs2) md=some (.lst zs2):=upd_same
    generalize upd Ha md (.lst zs2)=Hb at st2 sm2 h1b ⊢
    refine ⟨_,rfl,.inl ⟨rfl,_,SqL.of h1b⟩,_,rfl,_,rfl,_,rfl,_,rfl,c,rb,ra,l,ps,T,U,rfl,hT.mono st2,hU.mono st2,dT,dU,sm2 _ _ el,hp1,hb,fun r W H3 s3 hW=>?_⟩
    have h1c:=s3 _ _ h1b
    have st3:SameT H3 (upd H3 md (.lst (zs2 ++ [.ref r]))):=sameT_lst h1c
    refine ⟨md,_,_,rfl,rfl,h1c,small1000 (by omega),(sm2.trans s3).upd hmd,zs2 ++ [.ref r],Ts2 ++ [W],_,_,_,upd_same,MdL.snoc (MdL.mono h2b ((st2.trans s3.tups).trans st3)) (hW.mono st3),by rw [List.length_append,List.length_singleton];omega,rfl⟩
    all_goals
      refine ⟨_,rfl,.inl ⟨rfl,_,SqL.of h1⟩,_,rfl,_,_,rfl,rfl,⟨by decide,by decide,by decide⟩,_,_,rfl,rfl,p10 _,small2,fun b hb_=>?_⟩
      have t1:=same_new hb_ (.tup [.str "say",.int (c % 10 ^ (59:Int).toNat)])
      have eb:upd H' b (.tup [.str "say",.int (c % 10 ^ (59:Int).toNat)]) b=some (.tup [.str "say",.int (c % 10 ^ (59:Int).toNat)]):=upd_same
      generalize upd H' b (.tup [.str "say",.int (c % 10 ^ (59:Int).toNat)])=H2 at t1 eb ⊢
      refine ⟨small2,fun t ht=>?_⟩
      have t2:=same_new ht (.tup [.str "say",.ref b])
      have et:upd H2 t (.tup [.str "say",.ref b]) t=some (.tup [.str "say",.ref b]):=upd_same
      generalize upd H2 t (.tup [.str "say",.ref b])=H3 at t2 et ⊢
      refine ⟨(by show 4≤sizeLine;decide),fun r hr_=>?_⟩
      have t3:=same_new hr_ (.tup [.ref t,.int 0,.int 0,.int 0])
      have er:upd H3 r (.tup [.ref t,.int 0,.int 0,.int 0]) r=some (.tup [.ref t,.int 0,.int 0,.int 0]):=upd_same
      generalize upd H3 r (.tup [.ref t,.int 0,.int 0,.int 0])=H4 at t3 er ⊢
      have t14:=(t1.trans t2).trans t3
      have h1c:=t14 _ _ h1
      have st3:SameT H4 (upd H4 md (.lst (zs ++ [.ref r]))):=sameT_lst h1c
      have hW:MdV H4 ps r (.say "say" (c % 10 ^ (59:Int).toNat)):=⟨⟨.ref t,er,t,b,rfl,t3 _ _ et,t3 _ _ (t2 _ _ eb)⟩,trivial,Nat.zero_le _⟩
      exact ⟨md,_,_,rfl,rfl,h1c,small1000 (by omega),(sm.trans t14).upd hmd,zs ++ [.ref r],Ts ++ [.say "say" (c % 10 ^ (59:Int).toNat)],_,_,_,upd_same,MdL.snoc (MdL.mono h2 (t14.tups.trans st3)) (hW.mono st3),by rw [List.length_append,List.length_singleton];omega,rfl⟩
  rintro σ9 H9 ⟨s9,zs,Ts,c3,c4,c5,h1,h2,h3,rfl⟩
  refine ⟨fun σ' H'=>Same H9 H'∧∃ r:Addr,MdV H' ps r (.say "none" 0)∧σ'=[some (.ref a),some (.ref l),some (.ref md),c3,c4,c5,some (.ref r),none],?_,?_⟩
  · refine ⟨small2,fun b hb_=>?_⟩
    have t1:=same_new hb_ (.tup [.str "none",.int 0])
    have eb:upd H9 b (.tup [.str "none",.int 0]) b=some (.tup [.str "none",.int 0]):=upd_same
    generalize upd H9 b (.tup [.str "none",.int 0])=H2 at t1 eb ⊢
    refine ⟨small2,fun t ht=>?_⟩
    have t2:=same_new ht (.tup [.str "say",.ref b])
    have et:upd H2 t (.tup [.str "say",.ref b]) t=some (.tup [.str "say",.ref b]):=upd_same
    generalize upd H2 t (.tup [.str "say",.ref b])=H3 at t2 et ⊢
    refine ⟨(by show 4≤sizeLine;decide),fun r hr_=>?_⟩
    have t3:=same_new hr_ (.tup [.ref t,.int 0,.int 0,.int 0])
    exact ⟨(t1.trans t2).trans t3,r,⟨⟨.ref t,upd_same,t,b,rfl,t3 _ _ et,t3 _ _ (t2 _ _ eb)⟩,trivial,Nat.zero_le _⟩,rfl⟩
  rintro σa Ha ⟨sa,r0,hr0,rfl⟩
  have sb:=s9.trans sa
  have h1:=sa _ _ h1
  have h2:=MdL.mono h2 sa.tups
  have hzT:zs.length=Ts.length:=h2.1
  refine ⟨_,rfl,md,_,rfl,.inl (SqL.of h1),_,rfl,(by show -(2 ^ 62)≤((zs.length:Nat):Int);omega),(by show ((zs.length:Nat):Int) < 2 ^ 62;omega),for_range (fun i σ H'=>Same Ha H'∧∃ (r:Addr) (T:Tr) (c7:Option V),MdV H' ps r T∧σ=[some (.ref a),some (.ref l),some (.ref md),c3,c4,c5,some (.ref r),c7]) ⟨Same.refl _,r0,_,_,hr0,rfl⟩ (fun i σ H' hi h=>?_) (fun σ H' h=>?_)⟩
  · obtain ⟨sm,r,T,c7,hT,rfl⟩:=h
    have hiz:i < Ts.length:=by omega
    obtain ⟨ru,eu,hU⟩:=h2.2 i _ (List.getElem?_eq_getElem hiz)
    have hU:=hU.mono sm.tups
    obtain ⟨⟨u,ea_,_⟩,_,_⟩:=id hU
    obtain ⟨⟨v,eb_,_⟩,_,_⟩:=id hT
    have hmx:atI zs (0+(i:Int))=some (.ref ru):=by rw [Int.zero_add];exact atI_nat eu
    refine ⟨_,rfl,r,_,_,_,rfl,rfl,SqT.of eb_,rfl,_,rfl,_,rfl,md,_,_,_,rfl,rfl,SqL.of (sm _ _ h1),hmx,ru,_,_,_,rfl,rfl,SqT.of ea_,rfl,_,_,rfl,_,_,rfl,rfl,_,rfl,?_⟩
    refine ite2 (fun g=>?_) (fun _=>⟨sm,r,T,_,hT,rfl⟩)
    have g' : mx (T.dep:Int) (Ts[i].dep:Int) < 60:=dec_t g
    obtain ⟨dT,dU⟩:=dep_mx g'
    have hin:i < ns.length:=by omega
    have hcx:atI (ns.map V.int) (0+(i:Int))=some (.int ns[i]):=by rw [Int.zero_add];exact atI_nat (by rw [List.getElem?_map,List.getElem?_eq_getElem hin];rfl)
    exact ⟨_,rfl,_,rfl,a,_,_,_,rfl,rfl,SqL.of ((sb.trans sm) _ _ ea),hcx,_,rfl,_,rfl,_,rfl,md,_,_,_,rfl,rfl,SqL.of (sm _ _ h1),hmx,_,rfl,ns[i],r,ru,l,ps,T,Ts[i],rfl,hT,hU,dT,dU,(sb.trans sm) _ _ el,hp1,hB _ (List.getElem_mem hin),fun r' W H3 s3 hW=>⟨sm.trans s3,r',W,_,hW,rfl⟩⟩
  · obtain ⟨sm,r,T,c7,hT,rfl⟩:=h
    exact ⟨_,rfl,q r T H' (sb.trans sm) hT⟩
theorem O_6 {k:Nat} (F:Fun K "of_both_sides" "of_both_sides" Y6 f fd) (bl:Bl K mg Y):FnOk P w K mg base CX0 (k+1) f fd ["tree", "tell"] (sp_of_both_sides K P w mg base k):=by
  refine F.okA Z6 fun cdv A outer s H vs Q E hr h=>?_
  obtain ⟨a,f_,c,cut,x,y,vx,vy,g,D,J,rfl,ha,hx,hy,hd,hDx,hDy,hL,hJ,q⟩:=h
  refine ⟨_,(pss_cut (ps_set (i:=2) Z6.nd rfl (Or.inl rfl) (pe_heldK (k:=k) (i:=1) hr rfl (Or.inl rfl) (pa_cons (pe_ix ix_tup (pv 0) pe_int (fun _ _=>rfl)) pa_nil)))
     (pss_one (ps_ret (pe_lst (pa_cons (pv 2) (pa_cons (pe_ifExp (pt_cmpR (op_eqX hr) (pe_ix ix_tup (pv 0) pe_int (fun _ _=>rfl)) (pe_ix ix_tup (pv 0) pe_int (fun _ _=>rfl)) (nomark _)) (pv 2) (pe_heldK (k:=k) (i:=1) hr rfl (Or.inl rfl) (pa_cons (pe_ix ix_tup (pv 0) pe_int (fun _ _=>rfl)) pa_nil))) pa_nil)))))),?_⟩
  obtain ⟨sp,hF,hsp⟩:=hL.fn
  refine ⟨fun σ' H'=>Sq H H'∧J H'∧σ'=[some (.ref a),some (.ref f_),some (.int (g x))],?_,?_⟩
  · rcases hL.ob with ob | kk
    · exact .h ⟨f_,sp,rfl,ob H hJ,hF,_,rfl,a,_,_,_,rfl,rfl,SqT.of ha,rfl,ob H hJ,hsp H vx x _ hJ hx hDx fun H' so j=>⟨so,j,rfl⟩⟩
    · exact .k f_ sp rfl kk hF ⟨_,rfl,a,_,_,_,rfl,rfl,SqT.of ha,rfl,hsp H vx x _ hJ hx hDx fun H' so j=>⟨so,j,rfl⟩⟩
  rintro σ1 H1 ⟨so1,j1,rfl⟩
  have ha1:=so1.tups _ _ ha
  have hx1:=hx.mono so1.tups
  have hy1:=hy.mono so1.tups
  obtain ⟨b,he,hb⟩:=deqT (K:=K) hx1 hy1
  refine ⟨_,rfl,_,rfl,a,_,_,_,rfl,rfl,SqT.of ha1,rfl,_,rfl,a,_,_,_,rfl,rfl,SqT.of ha1,rfl,eqX_of (he.mono (by omega)) hx1 ⟨_,rfl,?_⟩⟩
  cases b with
  | true =>
    have e:=hb rfl
    subst e
    exact iteT ⟨_,rfl,(by show 2≤sizeLine;decide),fun l hl=>q l _ (so1.trans (Sq.of (same_new hl _))) (hL.st _ _ j1 (same_new hl _)) upd_same⟩
  | false =>
    refine iteF ?_
    have fin:∀ H2,Sq H1 H2→J H2→∀ l,H2 l=none→Q (.ref l) (upd H2 l (.lst [.int (g x),.int (g y)])):=fun H2 so2 j2 l hl=>q l _ ((so1.trans so2).trans (Sq.of (same_new hl _))) (hL.st _ _ j2 (same_new hl _)) upd_same
    rcases hL.ob with ob | kk
    · exact .h ⟨f_,sp,rfl,ob H1 j1,hF,_,rfl,a,_,_,_,rfl,rfl,SqT.of ha1,rfl,ob H1 j1,hsp H1 vy y _ j1 hy1 hDy fun H2 so2 j2=>⟨(by show 2≤sizeLine;decide),fun l hl=>fin H2 so2 j2 l hl⟩⟩
    · exact .k f_ sp rfl kk hF ⟨_,rfl,a,_,_,_,rfl,rfl,SqT.of ha1,rfl,hsp H1 vy y _ j1 hy1 hDy fun H2 so2 j2=>⟨(by show 2≤sizeLine;decide),fun l hl=>fin H2 so2 j2 l hl⟩⟩
theorem O_8 {k n:Nat} (F:Fun K "questions" "questions" Y8 f fd) (bl:Bl K mg Y) (c_of_both_sides:Callee P w K mg base (k+1) "of_both_sides" ["tree", "tell"] (sp_of_both_sides K P w mg base k)) (v_questions:Callee P w K mg base k "questions" ["tree"] (sp_questions K n)):FnOk P w K mg base CX0 (k+2) f fd ["tree"] (sp_questions K (n+1)):=by
  refine F.okA Z9 fun cdv A outer s H vs Q E hr h=>?_
  obtain ⟨v,T,rfl,hT,hn,h60,q⟩:=h
  refine ⟨_,(pss_cons (ps_if (pt_cmpR op_eq (pe_ix ix_tup (pv 0) pe_int (fun _ _=>rfl)) (pe_gl rfl bl.SAY_) (nomark _))
     (pss_one (ps_ret pe_int))
     pss_nil)
     (pss_one (ps_ret (pe_op op_add pe_int (pe_callB (call_sum_ints rfl) rfl bl.sum_ PyProof.Rows.boot_sum (pa_cons (pe_fn c_of_both_sides hr rfl (pa_cons (pv 0) (pa_cons (pe_cal v_questions rfl) pa_nil))) pa_nil)))))),?_⟩
  cases T with
  | say w_ m =>
    obtain ⟨a,b,rfl,h1,h2⟩:=hT
    exact ⟨_,rfl,a,_,_,_,rfl,rfl,SqT.of h1,rfl,rfl,_,rfl,iteTS rfl (q H (Same.refl _))⟩
  | ask c cut x y =>
    obtain ⟨a,vx,vy,rfl,h1,hx,hy⟩:=hT
    have hd:(Tr.ask c cut x y).dep=1+max x.dep y.dep:=rfl
    refine ⟨_,rfl,a,_,_,_,rfl,rfl,SqT.of h1,rfl,rfl,_,rfl,iteFS (sne54 (by decide)) ?_⟩
    refine ⟨_,rfl,fun f_ hF kk=>⟨a,f_,c,cut,x,y,vx,vy,Tr.q,(fun T=>T.dep+1≤n∧T.dep≤60),(fun H0=>Same H H0),rfl,h1,hx,hy,by omega,⟨by omega,by omega⟩,⟨by omega,by omega⟩,⟨⟨_,hF,fun H' v T Q' hj hT hD k=>⟨v,T,rfl,hT,hD.1,hD.2,fun H2 so=>k H2 (Sq.of so) (hj.trans so)⟩⟩,.inr kk,fun _ _ hj s=>hj.trans s⟩,Same.refl _,fun l H' _ so el=>?_⟩⟩
    refine ⟨l,[x.q,y.q],rfl,SqL.of el,_,_,rfl,rfl,?_⟩
    have e:(Tr.ask c cut x y).q=1 + [x.q,y.q].sum:=by show x.q+y.q+1=1+(x.q+(y.q+0));omega
    rw [← e]
    exact q H' so
theorem clo_price_lam0 {k n:Nat} {c' c_0:Addr} {doc pm ctv:Value} (bl:Bl K mg Y) (c_price:Callee P w K mg base k "price" ["tree", "prices"] (sp_price K n)) (inj:∀ x y c,([("prices",c_0)]:List (Str × Addr)).lookup x=some c→([("prices",c_0)]:List (Str × Addr)).lookup y=some c→x=y):HFn P w K mg base (k+1) f (sp_price_lam0 K n f c' c_0 doc pm ctv):=by
  have Z8:=@Z8 c_0
  refine cll_ok (qual := "price.<locals>.<lambda>") (e:=Y7) (c':=c') (cl:=[("prices",c_0)]) (pm:=pm) (ctv:=ctv) Z8 inj (fun us hu=>match us,hu with | [u0],_=>rfl) (fun vs H Q E h=>?_) (fun A outer s H vs Q E hr h=>?_)
  · obtain ⟨v,p,T,m,wt,rfl,hclo,hT,hn,h60,hok,hp,hpt,q⟩:=h
    rfl
  obtain ⟨v,p,T,m,wt,rfl,hclo,hT,hn,h60,hok,hp,hpt,q⟩:=h
  refine ⟨_,hclo,free_of rfl,fun hcs=>⟨_,(pe_fn c_price hr rfl (pa_cons (pv 0) (pa_cons (pv 1) pa_nil))),?_⟩⟩
  have fz:=hclo.2.2.fzs
  exact ⟨_,rfl,_,rfl,v,p,T,m,wt,rfl,hT.mono (fun d xs e=>hid_of fz (fun x=>by intro z;cases z) e),hn,h60,hok,hp.mono (fun l xs e=>hid_of fz (fun x=>by intro z;cases z) e),hpt.hide hclo.2.2,fun H' s' pt' nc=>q _ (Sq.back s') (PT.back pt' nc)⟩
theorem O_7 {k n:Nat} (F:FunV K "price" "price" s_price f fd) (bl:Bl K mg Y) (c_of_both_sides:Callee P w K mg base (k+2) "of_both_sides" ["tree", "tell"] (sp_of_both_sides K P w mg base (k+1))) (c_price:Callee P w K mg base k "price" ["tree", "prices"] (sp_price K n)) {cL tP:Addr} (hcd:fd.code=.ref cL) (ht:PySem.W.tabIn K "price" = some (cL,tP)) (hT:PySem.W.CodeHd base cL tP∧base.BuiltinsAt mg tP):FnOk P w K mg base CX0 (k+3) f fd ["tree", "prices"] (sp_price K (n+1)):=by
  refine F.okT hcd Z7 (fun vs H Q E h=>?_) (fun A outer s H vs Q E hr h=>?_)
  · obtain ⟨v,p,T,m,wt,rfl,hT_,hn,h60,hok,hp,hpt,q⟩:=h
    rfl
  obtain ⟨v,p,T,m,wt,rfl,hT_,hn,h60,hok,hp,hpt,q⟩:=h
  refine ⟨_,(pss_cons (ps_if (pt_cmpR op_eq (pe_ix ix_tup (pv 0) pe_int (fun _ _=>rfl)) (pe_gl rfl bl.SAY_) (nomark _))
     (pss_one (ps_ret pe_int))
     pss_nil)
     (pss_cut (ps_set (i:=2) Z7.nd rfl (Or.inl rfl) (pe_ifExp (pt_cmpR op_isN (pv 1) pe_non (nomark _)) pe_int (pe_ix ix_list (pv 1) (pe_ix ix_tup (pv 0) pe_int (fun _ _=>rfl)) (fun _ _=>rfl))))
     (pss_one (ps_ret (pe_op op_add (pv 2) (pe_callB (call_max_list rfl) rfl bl.max_ PyProof.Rows.boot_max (pa_cons (pe_fnZ (zs:=[("prices",1,s.heap.objs.size+1)]) c_of_both_sides hr rfl (pa_cons (pv 0) (pa_cons (pe_lam (clos:=[("prices",s.heap.objs.size+1)]) rfl hT.1 hT.2 rfl (List.forall_mem_cons.mpr ⟨rfl,List.forall_mem_nil _⟩)) pa_nil)) (List.forall_mem_cons.mpr ⟨⟨rfl,Or.inl rfl,rfl,Or.inl rfl⟩,List.forall_mem_nil _⟩)) pa_nil))))))),?_⟩
  cases T with
  | say w_ i =>
    obtain ⟨a,b,rfl,h1,h2⟩:=hT_
    exact ⟨_,rfl,a,_,_,_,rfl,rfl,SqT.of h1,rfl,rfl,_,rfl,iteTS rfl (q H (Sq.of (Same.refl _)) hpt)⟩
  | ask c cut x y =>
  obtain ⟨a,vx,vy,rfl,h1,hx,hy⟩:=hT_
  have hd:(Tr.ask c cut x y).dep=1+max x.dep y.dep:=rfl
  obtain ⟨hcm,okx,oky⟩:c < m∧x.ok m∧y.ok m:=hok
  refine ⟨_,rfl,a,_,_,_,rfl,rfl,SqT.of h1,rfl,rfl,_,rfl,iteFS (sne54 (by decide)) ?_⟩
  refine ⟨fun σ' H'=>H'=H∧σ'=[some (.ref a),some p,some (.int (wt c))],?_,?_⟩
  · rcases hp with ⟨rfl,rfl⟩ | ⟨l,ps,rfl,hl,rfl,rfl⟩
    · exact ⟨_,rfl,rfl,_,rfl,iteT ⟨rfl,rfl⟩⟩
    · have eP:atI (ps.map V.int) (c:Int)=some (.int (ps.getD c 0)):=atI_nat (by rw [List.getElem?_map,List.getElem?_eq_getElem hcm,List.getD_eq_getElem?_getD,List.getElem?_eq_getElem hcm];rfl)
      exact ⟨_,rfl,rfl,_,rfl,iteF ⟨_,rfl,_,rfl,a,_,_,_,rfl,rfl,SqT.of h1,rfl,l,_,_,_,rfl,rfl,SqL.of hl,eP,rfl,rfl⟩⟩
  rintro σ1 H1 ⟨rfl,rfl⟩
  have htb:=hpt _ ht
  obtain ⟨pst,etP,_⟩:=id htb
  refine ⟨_,rfl,_,rfl,[(lamP Y7, "price.<locals>.<lambda>")],List.mem_cons_self,?_,htb,fun f_ c' oc pm ctv H3 hf kp ef ec hco htab inj=>?_⟩
  · intro p hp _ _
    rw [List.mem_singleton.mp hp];rfl
  have so1:Sq H1 H3:=Sq.but etP kp
  refine fun os hos hz ho=>?_
  have hfz:=frz_same hos hz
  have fzc:∃ o,frzL H3 ((([("prices",1,s.heap.objs.size+1)]:List (Str × Nat × Addr)).map (·.2.2)).zip os) (s.heap.objs.size+1)=some (.frz o TTh):=by
    obtain ⟨o,_,e⟩:=frzL_in (H:=H3) (fz:=(([("prices",1,s.heap.objs.size+1)]:List (Str × Nat × Addr)).map (·.2.2)).zip os) (b:=s.heap.objs.size+1) (by rw [fz_cells hos];exact List.mem_cons_self)
    exact ⟨o,e⟩
  have hcl:=cells_of (H:=H3) (cl:=[("prices",s.heap.objs.size+1)]) (ws:=[("prices",p)]) hos (by simp) ho (fun c hc=>by
    simp only [List.map_cons,List.map_nil,List.mem_cons,List.not_mem_nil,or_false] at hc
    exact ⟨_,List.mem_cons_self,hc.symm⟩) (fun x v e=>by
    unfold List.lookup at e
    split at e
    · rename_i hx
      cases e
      rw [eq_of_beq hx]
      exact ⟨_,List.mem_cons_self,rfl,rfl⟩
    · cases e)
  have hclo:CloAt (frzL H3 ((([("prices",1,s.heap.objs.size+1)]:List (Str × Nat × Addr)).map (·.2.2)).zip os)) f_ c' (PySem.W.kla_obj "<lambda>" "price.<locals>.<lambda>" (lamA Y7) (lamB Y7) (lamS Y7) [("prices",s.heap.objs.size+1)] pm c' ctv) "price.<locals>.<lambda>" [("prices",s.heap.objs.size+1)] [("prices",p)]:=⟨hfz _ _ ef,⟨oc,hfz _ _ ec,hco⟩,hcl⟩
  have ptz:PT K (frzL H3 ((([("prices",1,s.heap.objs.size+1)]:List (Str × Nat × Addr)).map (·.2.2)).zip os)):=fun z ez=>by
    rw [ht] at ez
    cases ez
    exact htab.same hfz
  have hpz:PrA (frzL H3 ((([("prices",1,s.heap.objs.size+1)]:List (Str × Nat × Addr)).map (·.2.2)).zip os)) p m wt:=hp.mono fun l xs e=>hfz _ _ (so1.lst e)
  obtain ⟨Hz,hHz⟩:∃ Hz,Hz=frzL H3 ((([("prices",1,s.heap.objs.size+1)]:List (Str × Nat × Addr)).map (·.2.2)).zip os):=⟨_,rfl⟩
  rw [← hHz] at hclo ptz hpz fzc ⊢
  have hN:TlOk P w K mg base (k+1) f_ (Tr.pv wt) (fun T=>T.dep+1≤n∧T.dep≤60∧T.ok m) (fun H0=>Sq Hz H0∧PT K H0) :=
    ⟨⟨_,clo_price_lam0 (doc:=.none) (pm:=pm) (ctv:=ctv) (c':=c') (c_0:=s.heap.objs.size+1) bl c_price inj,fun H0 v T Q0 hj hT hD kk=>⟨v,p,T,m,wt,rfl,hclo.frz (fun b o e=>hj.1 _ _ trivial e),hT,hD.1,hD.2.1,hD.2.2,hpz.mono (fun l xs e=>hj.1.lst e),hj.2,fun H0' s0 pt0=>kk _ s0 ⟨hj.1.trans s0,pt0⟩⟩⟩,.inl fun H0 hj=>⟨_,_,hj.1 _ _ trivial hclo.1,rfl⟩,fun H0 H0' hj s0=>⟨hj.1.trans (Sq.of s0),hj.2.same s0⟩⟩
  have sz:Sq H1 Hz:=by rw [hHz];exact so1.trans (Sq.of hfz)
  refine ⟨a,f_,c,cut,x,y,vx,vy,Tr.pv wt,_,_,rfl,sz.tups _ _ h1,hx.mono sz.tups,hy.mono sz.tups,by omega,⟨by omega,by omega,okx⟩,⟨by omega,by omega,oky⟩,hN,⟨Sq.of (Same.refl _),ptz⟩,fun l H4 s4 hj4 el=>?_⟩
  obtain ⟨o2,eo2⟩:=fzc
  have fz2:Fzs H4 [s.heap.objs.size+1]:=fun d hd=>by rw [List.mem_singleton.mp hd];exact ⟨o2,s4 _ _ trivial eo2⟩
  have hs:Sq H3 (hideL H4 [s.heap.objs.size+1]):=fun b o p e=>by
    rw [hideL_out fun m=>?_]
    · exact s4 _ _ p (by rw [hHz];exact hfz _ _ e)
    · have:=hz ("prices",1,s.heap.objs.size+1) List.mem_cons_self
      rw [List.mem_singleton.mp m,this] at e
      cases e
  have ptf:PT K (hideL H4 [s.heap.objs.size+1]):=PT.hide hj4.2 (hclo.frz (fun b o e=>hj4.1 _ _ trivial e)).2.2
  refine ⟨l,[x.pv wt,y.pv wt],rfl,SqL.of (hid_of fz2 (fun x=>by intro z;cases z) el),Nat.succ_pos _,fun m' g1 g2=>⟨_,_,rfl,rfl,?_⟩⟩
  rw [great2 _ _ g1 g2]
  exact q _ (so1.trans hs) ptf
theorem O_0 (F:Fun K "law" "law" Y0 f fd) (bl:Bl K mg Y) (c__law_prices:Callee P w K mg base 187 "_law_prices" ["script"] (sp_law_prices K)) (c__law_made:Callee P w K mg base 187 "_law_made" ["cells", "prices"] (sp_law_made K)) (c__law_same:Callee P w K mg base 187 "_law_same" ["found", "due"] (sp_law_same K)) (c_price:CalleeV P w K mg base 183 "price" ["tree", "prices"] (sp_price K 61)) (c_questions:Callee P w K mg base 187 "questions" ["tree"] (sp_questions K 61)):FnOk P w K mg base CX0 188 f fd ["script"] (J0 K):=by
  refine F.ok Z0 (fun vs H Q E h=>?_) (fun cdv A outer s H vs Q E hr h=>?_)
  · obtain ⟨a,ns,rfl,hS,h63,hB,htb,q⟩:=h
    rfl
  obtain ⟨a,ns,rfl,hS,h63,hB,htb,q⟩:=h
  refine ⟨_,(pss_cut (ps_set (i:=1) Z0.nd rfl (Or.inl rfl) (pe_fn c__law_prices hr rfl (pa_cons (pv 0) pa_nil)))
     (pss_cut (ps_set (i:=2) Z0.nd rfl (Or.inl rfl) (pe_fn c__law_made hr rfl (pa_cons (pe_slice sl_list (pv 0) (po_some pe_int) po_none) (pa_cons (pv 1) pa_nil))))
     (pss_cut (ps_set (i:=3) Z0.nd rfl (Or.inl rfl) (pe_callTy call_list_of rfl bl.list_ PyProof.Rows.boot_list (pa_cons (pv 1) pa_nil)))
     (pss_cut (ps_if (PW.pt (pw_or (pt_not (pt_val (pe_fn c__law_same hr rfl (pa_cons (pe_fn c_questions hr rfl (pa_cons (pe_ix ix_tup (pv 2) pe_int (fun _ _=>rfl)) pa_nil)) (pa_cons (pe_ix ix_tup (pv 2) pe_int (fun _ _=>rfl)) pa_nil))))) (pw_or1 (pt_not (pt_val (pe_fn c__law_same hr rfl (pa_cons (pe_fn c_price.full (hr.mono (by decide)) rfl (pa_cons (pe_ix ix_tup (pv 2) pe_int (fun _ _=>rfl)) (pa_cons (pv 3) pa_nil))) (pa_cons (pe_ix ix_tup (pv 2) pe_int (fun _ _=>rfl)) pa_nil))))))))
     (pss_one (ps_ret pe_bl))
     pss_nil)
     (pss_cut (ps_if (PW.pt (pw_or (pt_cmpR (op_neL hr) (pv 3) (pv 1) (nomark _)) (pw_or1 (pt_not (pt_val (pe_fn c__law_same hr rfl (pa_cons (pe_fnV c_price (hr.mono (by decide)) rfl (pa_cons (pe_ix ix_tup (pv 2) pe_int (fun _ _=>rfl)) pa_nil)) (pa_cons (pe_ix ix_tup (pv 2) pe_int (fun _ _=>rfl)) pa_nil))))))))
     (pss_one (ps_ret pe_bl))
     pss_nil)
     (pss_one (ps_ret (pe_and (pe_fn c__law_same hr rfl (pa_cons (pe_fn c_price.full (hr.mono (by decide)) rfl (pa_cons (pe_ix ix_tup (pv 2) pe_int (fun _ _=>rfl)) (pa_cons pe_non pa_nil))) (pa_cons (pe_ix ix_tup (pv 2) pe_int (fun _ _=>rfl)) pa_nil))) (pe_one (pe_fn c__law_same hr rfl (pa_cons (pe_fn c_price.full (hr.mono (by decide)) rfl (pa_cons (pe_ix ix_tup (pv 2) pe_int (fun _ _=>rfl)) (pa_cons (pe_comp (pi_list (pv 1)) (cmpOk_plain rfl (by decide +kernel) (by decide +kernel) (by decide +kernel) rfl) rfl (fun _ _ _ _=>pif_nil) (fun _ _ _ _=>pe_int)) pa_nil))) (pa_cons (pe_ix ix_tup (pv 2) pe_int (fun _ _=>rfl)) pa_nil)))))))))))),?_⟩
  refine ⟨fun σ' H'=>Same H H'∧∃ (l:Addr) (ps:List Int),H' l=some (.lst (ps.map V.int))∧1≤ps.length∧ps.length≤6∧σ'=[some (.ref a),some (.ref l),none,none],⟨_,rfl,a,ns,rfl,hS,hB,fun l ps H' s' el h1 h6=>⟨s',l,ps,el,h1,h6,rfl⟩⟩,?_⟩
  rintro σ1 H1 ⟨s1,l,ps,el,hp1,hp6,rfl⟩
  refine ⟨fun σ' H'=>Same H1 H'∧∃ (r:Addr) (T:Tr),MdV H' ps r T∧σ'=[some (.ref a),some (.ref l),some (.ref r),none],?_,?_⟩
  · obtain ⟨ms,em,lm,hm⟩:=cut_mem ns (some 7) none
    refine ⟨_,rfl,_,rfl,a,_,rfl,s1.seq hS,fun c1 hc1=>?_⟩
    rw [em]
    have u1:=same_new hc1 (.lst (ms.map V.int))
    have e1:upd H1 c1 (.lst (ms.map V.int)) c1=some (.lst (ms.map V.int)):=upd_same
    generalize upd H1 c1 (.lst (ms.map V.int))=H2 at u1 e1 ⊢
    exact ⟨_,rfl,c1,l,ms,ps,rfl,e1,by omega,(fun m hm'=>hB m (hm m hm')),u1 _ _ el,hp1,fun r T H' s' hM=>⟨u1.trans s',r,T,hM,rfl⟩⟩
  rintro σ2 H2 ⟨t2,r,T,hM,rfl⟩
  have el2:=t2 _ _ el
  refine ⟨fun σ' H'=>Same H2 H'∧∃ hl:Addr,H' hl=some (.lst (ps.map V.int))∧σ'=[some (.ref a),some (.ref l),some (.ref r),some (.ref hl)],⟨_,rfl,l,_,rfl,.inl (SqL.of el2),fun hl hhl=>⟨same_new hhl _,hl,upd_same,rfl⟩⟩,?_⟩
  rintro σ3 H3 ⟨t3,hl,ehl,rfl⟩
  have el3:=t3 _ _ el2
  obtain ⟨⟨v,er,hT⟩,ok,dp⟩:=hM.mono t3.tups
  have pt3:PT K H3:=fun z e=>(TabOk.new (htb z e)).same ((s1.trans t2).trans t3)
  refine ⟨fun σ' H'=>Sq H3 H'∧PT K H'∧σ'=[some (.ref a),some (.ref l),some (.ref r),some (.ref hl)],?_,?_⟩
  · refine ⟨_,rfl,r,_,_,_,rfl,rfl,SqT.of er,rfl,v,T,rfl,hT,by omega,dp,fun H4 s4=>?_⟩
    have er4:=s4 _ _ er
    refine ⟨_,rfl,r,_,_,_,rfl,rfl,SqT.of er4,rfl,T.q,rfl,_,rfl,iteF ?_⟩
    refine ⟨_,rfl,r,_,_,_,rfl,rfl,SqT.of er4,rfl,_,rfl,v,.ref hl,T,ps.length,_,rfl,hT.mono s4.tups,by omega,dp,ok,.inr ⟨hl,ps,rfl,s4 _ _ ehl,rfl,rfl⟩,pt3.same s4,fun H5 s5 pt5=>?_⟩
    rw [pv_pr]
    exact ⟨_,rfl,r,_,_,_,rfl,rfl,SqT.of (s5.tups _ _ er4),rfl,T.pr ps,rfl,_,rfl,iteF ⟨(Sq.of s4).trans s5,pt5,rfl⟩⟩
  rintro σ4 H4 ⟨s4,pt4,rfl⟩
  have er4:=s4.tups _ _ er
  refine ⟨fun σ' H'=>Sq H4 H'∧PT K H'∧σ'=[some (.ref a),some (.ref l),some (.ref r),some (.ref hl)],?_,?_⟩
  · refine ⟨_,rfl,_,rfl,rNeL_same (SqL.of (s4.lst ehl)) (SqL.of (s4.lst el3)) (fun x hx=>?_) ⟨_,rfl,iteF ?_⟩⟩
    · obtain ⟨i,_,rfl⟩:=List.mem_map.mp hx
      exact .inl rfl
    refine ⟨_,rfl,r,_,_,_,rfl,rfl,SqT.of er4,rfl,v,.non,T,ps.length,_,rfl,hT.mono s4.tups,by omega,dp,ok,.inl ⟨rfl,rfl⟩,pt4,fun H5 s5 pt5=>?_⟩
    rw [pv_dep]
    exact ⟨_,rfl,r,_,_,_,rfl,rfl,SqT.of (s5.tups _ _ er4),rfl,(T.dep:Int),rfl,_,rfl,iteF ⟨s5,pt5,rfl⟩⟩
  rintro σ5 H5 ⟨t5,pt5,rfl⟩
  have s5:=s4.trans t5
  have er5:=s5.tups _ _ er
  refine ⟨_,rfl,r,_,_,_,rfl,rfl,SqT.of er5,rfl,v,.non,T,ps.length,_,rfl,hT.mono s5.tups,by omega,dp,ok,.inl ⟨rfl,rfl⟩,pt5,fun H6 t6 pt6=>?_⟩
  rw [pv_dep]
  have s6:=s5.trans t6
  have er6:=s6.tups _ _ er
  refine ⟨_,rfl,r,_,_,_,rfl,rfl,SqT.of er6,rfl,(T.dep:Int),rfl,true,rfl,iteT ?_⟩
  have el6:=s6.lst el3
  have hpl:(ps.map V.int).length=ps.length:=List.length_map _
  refine ⟨_,rfl,r,_,_,_,rfl,rfl,SqT.of er6,rfl,_,rfl,l,rfl,⟨_,SqL.of el6⟩,comp_list (xs:=ps.map V.int) (fun D j ys H'=>Same H6 H'∧H' D=some (.lst ys)∧ys=(List.replicate j (1:Int)).map V.int) (fun D hD=>⟨same_new hD _,upd_same,rfl⟩) (fun D j ys H' hD _ hh=>SqL.of (hh.1 _ _ el6)) (fun D j y ys H' hD e hh=>?_) (fun D ys H' hD hh=>?_)⟩
  · obtain ⟨sm,eD,rfl⟩:=hh
    have hj:j < (ps.map V.int).length:=(List.getElem?_eq_some_iff.mp e).1
    refine CYes.mk hj eD (small1000 (by rw [List.length_map,List.length_replicate];omega)) ⟨sm.upd hD,upd_same,?_⟩
    rw [List.replicate_succ',List.map_append];rfl
  · obtain ⟨sm,eD,rfl⟩:=hh
    rw [hpl] at eD
    refine ⟨v,.ref D,T,ps.length,_,rfl,hT.mono (s6.trans (Sq.of sm)).tups,by omega,dp,ok,.inr ⟨D,List.replicate ps.length 1,rfl,eD,List.length_replicate,rfl⟩,pt6.same sm,fun H8 t8 pt8=>?_⟩
    rw [pv_ones _ T ok]
    exact ⟨_,rfl,r,_,_,_,rfl,rfl,SqT.of (t8.tups _ _ (sm.tups _ _ er6)),rfl,(T.dep:Int),rfl,q _⟩
end
structure FF (K:PySem.W.Frag) (Y:AD):Prop where
  (h0:GF K "questions" "questions" Y8)
  (h2:GF K "of_both_sides" "of_both_sides" Y6)
  (h3:GF K "_law_at" "_law_at" Y2)
  (h4:GF K "_law_prices" "_law_prices" Y4)
  (h5:GF K "_law_asked" "_law_asked" Y1)
  (h6:GF K "_law_made" "_law_made" Y3)
  (h7:GF K "_law_same" "_law_same" Y5)
  (h8:GF K "law" "law" Y0)
  (t1:TV K "price" s_price)
  (z0:PySem.W.nsIn K mainGlobals "sum" = some none)
  (z1:PySem.W.nsIn K mainGlobals "max" = some none)
  (z2:PySem.W.nsIn K mainGlobals "len" = some none)
  (z3:PySem.W.nsIn K mainGlobals "range" = some none)
  (z4:PySem.W.nsIn K mainGlobals "isinstance" = some none)
  (z5:PySem.W.nsIn K mainGlobals "int" = some none)
  (z6:PySem.W.nsIn K mainGlobals "bool" = some none)
  (z7:PySem.W.nsIn K mainGlobals "list" = some none)
  (y0:∃ u,PySem.W.nsIn K mainGlobals "SAY" = some (some u)∧RelV (V.str "say") u)
theorem all_mk {l:W.OpenLaw} {w:World} {K:W.Frag} {h:Heap} {mg:Str→Option Value} {fa:Addr} {Y:AD} (X:K.In h) (G:h.Ns mainGlobals mg) (hfa:mg "law" = some (.ref fa)) (b:Bk K Y) (u:FF K Y)
    : ∃ fd:FuncData,(∀ (s:Shared) (v:Value),BindsTo s fd ⟨[v],[]⟩ [("script",v)])∧∀ base:Heap,K.In base→base.Ns mainGlobals mg→(∀ q ∈ (W.tabIn K "price").toList,W.CodeHd base q.1 q.2∧base.BuiltinsAt mg q.2)→FnOk l.prog w K mg base CX0 188 fa fd ["script"] (J0 K):=by
  cases u.h8 with | @mk _ fd a F =>
  cases hfa.symm.trans (W.mg_of X G a)
  have bl:Bl K mg Y:=⟨b,W.mg_none_of X G u.z0,W.mg_none_of X G u.z1,W.mg_none_of X G u.z2,W.mg_none_of X G u.z3,W.mg_none_of X G u.z4,W.mg_none_of X G u.z5,W.mg_none_of X G u.z6,W.mg_none_of X G u.z7,(let ⟨_,y,x⟩:=u.y0;⟨_,W.mg_of X G y,x⟩)⟩
  refine ⟨fd,fun s v=>by obtain ⟨_,_,_,_,_,_,_,_,_,e,_,_⟩:=F.ex;rw [e];exact .of_eq rfl,fun base _ _ hq=>?_⟩
  have z:Zb l.prog w K mg base:=⟨X,G⟩
  have C_law_at:=mkC z u.h3 fun F=>O_2 F bl
  have C_law_asked:=mkC z u.h5 fun F=>O_1 F bl
  have C_law_same:=mkC z u.h7 fun F=>O_5 F bl
  have C_law_prices:=mkC z u.h4 fun F=>O_4 F bl C_law_at.up
  have C_law_made:=mkC z u.h6 fun F=>O_3 F bl C_law_asked.up
  have C_of:∀ k,Callee l.prog w K mg base (k+1) "of_both_sides" ["tree", "tell"] (sp_of_both_sides K l.prog w mg base k):=fun k=>mkC z u.h2 fun F=>O_6 F bl
  have C_questions:=mkRc z u.h0 0 2 61 no_questions (fun n F c=>O_8 F bl (C_of _) c) (fun F=>F.binds fun _ _ _ _ _ _=>L2.lb1 fun _=>rfl)
  have C_price:=mkTV z u.t1 hq 0 3 61 no_price (fun n F h1 h2 h3 c=>O_7 F bl (C_of _) c h1 h2 h3) (fun F=>F.bindsD (ds:=[]) fun d _ _ _ _ _ _ us hl=>by rcases us with _ | ⟨u0,_ | ⟨u1,_ | ⟨u2,us⟩⟩⟩ <;> first | exact ⟨_,rfl,rfl⟩ | simp at hl) (fun F=>F.bindsD (ds:=[.none]) fun d _ _ _ _ _ _ us hl=>by rcases us with _ | ⟨u0,_ | ⟨u1,us⟩⟩ <;> first | exact ⟨_,rfl,rfl⟩ | simp at hl)
  exact O_0 F bl C_law_prices.up C_law_made.up C_law_same.up C_price C_questions.up
theorem walk {l:W.OpenLaw} {q:Program} {loose:List Str} {XP:(Str→Option Value)→Heap→Prop} {YP:World→Heap→Prop} {d:DefRec} {K:Params→W.Frag} (hn:l.most=some 63) (hdf:d.params.defaults=[])
    (hY:∀ (w:World) (h:Heap),YP w h→(K w.params).In h) (hnK:∀ p:Params,W.noTabs (K p)=true) (hTb:∀ (w:World) (h:Heap),YP w h→∀ t ∈ (W.tabIn (K w.params) "price").toList,W.CodeHd h t.1 t.2∧h.get? t.2=some (W.tabObj #[]))
    (F:∀ (w:World) (mg:Str→Option Value) (fa:Addr) (h:Heap),(K w.params).In h→h.Ns mainGlobals mg→mg d.name=some (.ref fa) →
      ∃ fd:FuncData,(∀ (s:Shared) (u:Value),BindsTo s fd ⟨[u],[]⟩ [("script",u)])∧∀ base:Heap,(K w.params).In base→base.Ns mainGlobals mg→(∀ q ∈ (W.tabIn (K w.params) "price").toList,W.CodeHd base q.1 q.2∧base.BuiltinsAt mg q.2)→FnOk l.prog w (K w.params) mg base CX0 188 fa fd ["script"] (J0 (K w.params))) :
    W.WalkO q loose XP YP l.row.toRowW d [] (fun f vs=>PySem.call f vs) :=
  L2.walk_ofTB (n:=63) (k:=188) (x := "script") (CX:=fun _=>CX0) (sp:=fun w=>J0 (K w.params)) (tabs:=fun p=>(W.tabIn (K p) "price").toList) hn (by decide) hdf ⟨rfl,by decide,by decide⟩ hY hnK hTb F
    (fun w H a ns hl hb _ hS hq=>⟨a,ns,rfl,hS,hl,hb,fun z e=>hq z (by rw [e];exact List.mem_cons_self),fun _=>rfl⟩) fun _ _ _ _ _ z=>z
end My
namespace PySem.W.Fast
def tw6981747998062834576:=()
def tw4894203810720025338:=()
def tw11497954419681577471:=()
def tw9694978020851287556:=()
def tw5103410461583655987:=()
def tw4227845923064698208:=()
def tw3953334898169250649:=()
def tw17346239492133158124:=()
def tw7728104420665950456:=()
def tw14590857412455781377:=()
def tw11272685048422284717:=()
def tw18441880062034311706:=()
def tw16334874617818139568:=()
def tw14368054515146644427:=()
def tw9425235223155648214:=()
def tw1510257739611196625:=()
def tw2634180832479126823:=()
def tw5580673825030782870:=()
def tw17767355071830168925:=()
def tw8056742549954664534:=()
def tw9304259528066721942:=()
def tw15818856457101717451:=()
def tw15031686342195618134:=()
def tw7590267682242332839:=()
def tw6233157952690695612:=()
def tw6747774472433981803:=()
def tw2315215886026328981:=()
def tw9931295922177903007:=()
def tw7857819776596165328:=()
def tw883469118896625898:=()
def tw2381582722680556054:=()
def tw1141701463750264541:=()
def tw1717279759601534089:=()
def tw10626661926824307737:=()
def tw11111257084676007790:=()
def tw13798644367293508561:=()
def tw18014685304151127133:=()
def tw11719025214250358201:=()
def tw7357879586921929419:=()
def tw6204025976929680151:=()
def tw10121968298991784207:=()
def tw6317406348252843676:=()
def tw15060781623777460841:=()
def tw8973147853781248792:=()
def tw9046226518501932273:=()
def tw10030264374666889512:=()
def tw16615138743718189960:=()
def tw10612628076665611808:=()
def tw7201231239161603707:=()
def tw7283671087683754246:=()
def tw5987811179159436932:=()
def tw17828435229748090179:=()
def tw16770286679461630024:=()
def tw15245058584924354165:=()
def tw1732926877063978227:=()
def tw12289147987235180494:=()
def tw6831506027484747973:=()
def tw13677737622810333961:=()
def tw15101447857700231497:=()
def tw6303660921067912406:=()
def tw14458409844344715998:=()
def tw17444621641010017574:=()
def tw2810231955517413236:=()
def tw1818335335707008073:=()
def tw2995724984339364253:=()
def tw742527384258573104:=()
def tw7447401024252438989:=()
def tw16886981876484362392:=()
def tw6880649530935126508:=()
def tw15230310756498235130:=()
def tw6640573779040556091:=()
def tw8341837840857596149:=()
def tw527127270404051165:=()
def tw3809585358192163153:=()
def tw9590096622521998513:=()
def tw8223709692713658276:=()
end PySem.W.Fast
open PySem PySem.W PyProof.Rows
set_option maxRecDepth 100000 in
set_option maxHeartbeats 0 in
theorem PySem.Challenge.cw_rowjudge_k54_trees_priced_holds : PySem.Challenge.rw_rowjudge_k54_trees_priced.Holds := by
  w_on;o_law;k_head;(case hw=>w_witness2)
  k_fill
  refine My.walk (l:=PySem.Challenge.rw_rowjudge_k54_trees_priced) rfl rfl (fun w h Y=>PySem.W.km_in_of Y) ?hnK ?hTb ?F
  case hnK=>intro p;first | rfl | decide +kernel | with_unfolding_all rfl
  case hTb =>
    intro w h Y
    refine' L2.tabs_hd (st:=My.s_price) (qual := "price") (PySem.W.km_in_of Y) ?a1 ?l1 ?c1 ?e1 ?e11 ?e18 ?e7 ?e9 ?e10 ?ne ?hP
    case a1=>k_is
    case l1=>k_is
    case c1=>k_is
    case e1=>rfl
    case e11=>rfl
    case e18=>rfl
    case e7=>rfl
    case e9=>rfl
    case e10=>rfl
    case ne=>decide
    case hP=>exact Y.2 _ (by decide)
  case F =>
    intro w mg fa h KX G hmg
    refine' My.all_mk (Y:=.mk 0) KX G hmg ?b ?u
    case b=>exact ⟨trivial⟩
    case u =>
      constructor
      all_goals try dsimp only
      iterate 8 (refine' L2.GF.mk ?a1 (L2.fun_mk ?l ?c ?k);(case a1=>k_is);(case l=>k_is);(case c=>k_is);(case k=>k_is))
      iterate 1 (refine' L2.tv_mk ?l1 ?l2 ?l3 ?l4 ?l5 ?l6 ?l7 ?l8;(case l1=>k_is);(case l2=>k_is);(case l3=>k_is);(case l4=>k_is);(case l5=>k_is);(case l6=>rfl);(case l7=>k_is);(case l8=>rfl))
      iterate 8 (k_is)
      iterate 1 (refine' L2.gv_mk ?a1 ?a2;(case a1=>k_is);(case a2=>exact ⟨_,rfl⟩))
