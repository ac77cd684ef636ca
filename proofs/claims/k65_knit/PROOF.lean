import PyProof.Rows.All
import Wide.All
import OpenK.AllK
import Wide.FinOn
import Lean
import PyProof.EqAt
import PyProof.EqKinds
import PyProof.TupleCall
import KE.KIntText
import KE.KTryMore
import KE.KIsAll
import PyProof.ZipIter
import KE.KRevIter
import PySem.Challenge.RW_rowjudge_k65_knit
set_option Elab.async false
set_option linter.all false
set_option maxRecDepth 100000
namespace L2
open PySem PySem.Spec PyProof.Rows
abbrev Key:=Sum Int Str
def keyIs:Key→Value→Bool
  | .inl k,v=>Value.isInt k v
  | .inr x,v=>Value.isStrOf x v
def keyH (w:World):Key→Int
  | .inl k=>hashInt k
  | .inr x=>hashStr w x
theorem keyIs_shape:∀ {k:Key} {v:Value},keyIs k v=true→(∃ i t,k=Sum.inl i∧v=Value.int i t)∨(∃ x t,k=Sum.inr x∧v=Value.str x t)
  | .inl i,v,h=>by
    obtain ⟨t,e⟩:=Value.isInt_shape (k:=i) (v:=v) h
    exact .inl ⟨i,t,rfl,e⟩
  | .inr x,v,h=>by
    obtain ⟨t,e⟩:=Value.isStrOf_shape (x:=x) (v:=v) h
    exact .inr ⟨x,t,rfl,e⟩
theorem key_ll (a b:Int):decide ((Sum.inl a:Key)=Sum.inl b)=(a == b):=by
  by_cases e:a=b
  · subst e;simp
  · have h:¬ (Sum.inl a:Key)=Sum.inl b:=fun q=>e (Sum.inl.inj q)
    rw [decide_eq_false h]
    exact (beq_eq_false_iff_ne.mpr e).symm
theorem key_rr (a b:Str):decide ((Sum.inr a:Key)=Sum.inr b)=decide (a=b):=by
  by_cases e:a=b
  · subst e;simp
  · have h:¬ (Sum.inr a:Key)=Sum.inr b:=fun q=>e (Sum.inr.inj q)
    rw [decide_eq_false h,decide_eq_false e]
theorem key_lr (a:Int) (b:Str):decide ((Sum.inl a:Key)=Sum.inr b)=false:=decide_eq_false (fun q=>nomatch q)
theorem key_rl (a:Str) (b:Int):decide ((Sum.inr a:Key)=Sum.inl b)=false:=decide_eq_false (fun q=>nomatch q)
def mixKind (prog:Program) (w:World):PySem.KeyKind prog w Key where
  is:=keyIs
  hash:=keyH w
  inj:=fun v a b ha hb=>by
    rcases keyIs_shape ha with ⟨i,t,rfl,rfl⟩ | ⟨x,t,rfl,rfl⟩
    · rcases keyIs_shape hb with ⟨j,u,rfl,e⟩ | ⟨y,u,rfl,e⟩
      · injection e with e1 _;rw [e1]
      · exact nomatch e
    · rcases keyIs_shape hb with ⟨j,u,rfl,e⟩ | ⟨y,u,rfl,e⟩
      · exact nomatch e
      · injection e with e1 _;rw [e1]
  byValue:=fun k v h=>by
    rcases keyIs_shape h with ⟨i,t,rfl,rfl⟩ | ⟨x,t,rfl,rfl⟩ <;> rfl
  pyHash:=fun hv h=>by
    rcases keyIs_shape hv with ⟨i,t,rfl,rfl⟩ | ⟨x,t,rfl,rfl⟩
    · exact wpAny_pyHash_int h
    · exact wpAny_pyHash_str h
  eqBool:=fun hu hv h=>by
    rcases keyIs_shape hu with ⟨i,t,rfl,rfl⟩ | ⟨x,t,rfl,rfl⟩
    · rcases keyIs_shape hv with ⟨j,u,rfl,rfl⟩ | ⟨y,u,rfl,rfl⟩
      · rw [key_ll] at h;exact wpAny_eqBool_int h
      · rw [key_lr] at h;exact SeqAt.EqAt.int_str i t y u _ _ _ _ h
    · rcases keyIs_shape hv with ⟨j,u,rfl,rfl⟩ | ⟨y,u,rfl,rfl⟩
      · rw [key_rl] at h;exact SeqAt.EqAt.str_int x t j u _ _ _ _ h
      · rw [key_rr] at h;exact wpAny_eqBool_str h
  «strs»:=fun k x t v h=>by
    rcases keyIs_shape h with ⟨i,u,rfl,e⟩ | ⟨y,u,rfl,e⟩
    · exact nomatch e
    · injection e with e1 _
      subst e1
      cases v <;> rfl
end L2
namespace L2
open PySem PySem.Spec PyProof.Rows
inductive V where
  | non | bl (b:Bool) | int (i:Int) | str (x:Str) | byt (b:Array UInt8) | flt (b:UInt64) | ref (a:Addr) | ty (n:String)
  deriving DecidableEq
def RelV:V→Value→Prop
  | .non,u=>u=Value.none
  | .bl b,u=>u=Value.bool b
  | .int i,u=>∃ t,u=Value.int i t
  | .str x,u=>∃ t,u=Value.str x t
  | .byt b,u=>∃ t,u=Value.bytes b t
  | .flt b,u=>∃ t,u=Value.float b t
  | .ref a,u=>u=Value.ref a
  | .ty n,u=>u=Value.type n
abbrev Vals:List V→List Value→Prop:=Paired RelV
theorem Vals.length {xs:List V} {us:List Value} (r:Vals xs us):xs.length=us.length:=Paired.length r
theorem Vals.get:∀ {xs:List V} {us:List Value} {i:Nat} {x:V},Vals xs us→xs[i]?=some x→∃ u,us[i]?=some u∧RelV x u
  | _,_,_,_,.nil,e=>by simp at e
  | _,_,0,_,.cons r _,e=>by simp at e;subst e;exact ⟨_,rfl,r⟩
  | _,_,i+1,x,.cons _ t,e=>by
    obtain ⟨u,h1,h2⟩:=Vals.get (i:=i) (x:=x) t (by simpa using e)
    exact ⟨u,by simpa using h1,h2⟩
theorem Vals.set {x:V} {u:Value} (r:RelV x u):∀ {xs:List V} {us:List Value} (i:Nat),Vals xs us→Vals (xs.set i x) (us.set i u)
  | _,_,_,.nil=>.nil
  | _,_,0,.cons _ t=>.cons r t
  | _,_,i+1,.cons q t=>.cons q (Vals.set r i t)
theorem Vals.append:∀ {xs ys:List V} {us ws:List Value},Vals xs us→Vals ys ws→Vals (xs ++ ys) (us ++ ws)
  | _,_,_,_,.nil,s=>s
  | _,_,_,_,.cons r t,s=>.cons r (Vals.append t s)
theorem Vals.take:∀ {xs:List V} {us:List Value} (n:Nat),Vals xs us→Vals (xs.take n) (us.take n)
  | _,_,0,_=>.nil
  | _,_,_+1,.nil=>.nil
  | _,_,n+1,.cons r t=>.cons r (Vals.take n t)
theorem Vals.drop:∀ {xs:List V} {us:List Value} (n:Nat),Vals xs us→Vals (xs.drop n) (us.drop n)
  | _,_,0,r=>r
  | _,_,_+1,.nil=>.nil
  | _,_,n+1,.cons _ t=>Vals.drop n t
def RelO:Option V→Option Value→Prop
  | some v,some u=>RelV v u
  | none,none=>True
  | _,_=>False
def KV {κ:Type} : List (κ × V)→List (κ × Value)→Prop:=Paired fun (p:κ × V) (q:κ × Value)=>p.1=q.1∧RelV p.2 q.2
def kV:Key→V
  | .inl i=>.int i
  | .inr x=>.str x
inductive HO where
  | lst (xs:List V)
  | tup (xs:List V)
  | dK (kvs:List (Key × V)) | dT (kvs:List (List Key × V))
  | set (S:Int→Bool) (n:Nat)
  | ins (C dx:Addr) (fs:List (Str × V))
  | own (x:Addr)
  | xd (fs:List (Str × V))
  | met (f x:Addr)
  | rng (lo hi:Int)
  | frz (o:Obj) (u:HO)
  | tbl (ps:Array Value)
  | ext (φ:Heap→Prop)
abbrev Hp:=Addr→Option HO
def upd (H:Hp) (a:Addr) (o:HO):Hp:=fun b=>if b=a then some o else H b
theorem upd_same {H:Hp} {a:Addr} {o:HO} : upd H a o a=some o:=by unfold upd;rw [if_pos rfl]
theorem upd_ne {H:Hp} {a b:Addr} {o:HO} (h:b ≠ a):upd H a o b=H b:=by unfold upd;rw [if_neg h]
theorem ne_of {H:Hp} {a b:Addr} {o u:HO} (h:H a=some o) (h' : H b=some u) (d:o ≠ u):a ≠ b:=by
  intro e;subst e;rw [h] at h';exact d (Option.some.inj h')
theorem ne_of_none {H:Hp} {a b:Addr} {o:HO} (h:H a=some o) (h' : H b=none):a ≠ b:=by
  intro e;subst e;rw [h] at h';cases h'
section
variable (P:Program) (w:World)
def ObjOk (H:Hp) (h:Heap) (a:Addr):HO→Prop
  | .lst xs=>xs.length≤sizeLine∧∃ (its:List Value) (n:Nat),Vals xs its∧h.get? a=some { cls:=.type "list",data:=.seq its.toArray n }
  | .tup xs=>xs.length≤sizeLine∧∃ its:List Value,Vals xs its∧IsTup h a its.toArray
  | .dK kvs=>kvs.length≤sizeLine∧(a == sysModules)=false∧∃ vs,KV kvs vs∧h.DictOf (mixKind P w) a vs
  | .dT kvs=>kvs.length≤sizeLine∧(a == sysModules)=false∧∃ xs:List (List Key × Addr × Value),
      Paired (fun (p:List Key × V) (q:List Key × Addr × Value)=>p.1=q.1∧H q.2.1=some (.tup (p.1.map kV))∧RelV p.2 q.2.2) kvs xs ∧
      ∃ o es ep,h.get? a=some o∧o.ExactDict∧o.data=.dict es ep∧es.toList=xs.map (entryOfKey (tupleKind (mixKind P w)))∧(xs.map (·.1)).Nodup
  | .set S n=>h.SetOf (intKind P w) a S n
  | .ins C dx fs=>H dx=some (.own a)∧fs.length≤1000∧dx ≠ a∧h.get? a=some (PySem.W.instObj C dx) ∧
      ∃ mA,h.Ns1 dx mA∧(∀ f,RelO (fs.lookup f) (mA f))∧PySem.Within mA (fs.map (·.1))
  | .own _=>∃ o,h.get? a=some o
  | .xd fs=>∃ mA,h.Ns1 a mA∧∀ f,RelO (fs.lookup f) (mA f)
  | .rng lo hi=>∃ t u v,h.get? a=some { cls:=.type "range",data:=.fields #[.int lo t,.int hi u,.int 1 v] }
  | .frz o u=>h.get? a=some o∧ObjOk H h a u
  | .tbl ps=>h.get? a=some { cls:=.none,data:=.fields ps }
  | .met f x=>h.get? a=some (PySem.W.methodObj (.ref f) (.ref x))
  | .ext φ=>φ h∧(∃ o,h.get? a=some o)∧∀ h1 h2:Heap,φ h1→(∀ o,h1.get? a=some o→h2.get? a=some o)→φ h2
def HOk (H:Hp) (h:Heap):Prop:=∀ a o,H a=some o→ObjOk P w H h a o
end
section
variable {P:Program} {w:World} {H H' : Hp} {h h' : Heap} {a:Addr} {o:HO}
theorem ObjOk.lt (x:ObjOk P w H h a o):a < h.objs.size:=by
  cases o with
  | lst xs=>obtain ⟨_,_,_,_,e⟩:=x;exact Heap.lt_size e
  | tup xs=>obtain ⟨_,_,_,p⟩:=x;exact p.lt
  | dK kvs=>obtain ⟨_,_,_,_,o,_,_,e,_⟩:=x;exact Heap.lt_size e
  | dT kvs=>obtain ⟨_,_,_,_,o,_,_,e,_⟩:=x;exact Heap.lt_size e
  | set S n=>obtain ⟨o,_,_,_,e,_⟩:=x;exact Heap.lt_size e
  | ins C dx fs=>obtain ⟨_,_,_,e,_⟩:=x;exact Heap.lt_size e
  | own y=>obtain ⟨_,e⟩:=x;exact Heap.lt_size e
  | xd fs=>obtain ⟨_,⟨_,_,_,e,_⟩,_⟩:=x;exact Heap.lt_size e
  | rng lo hi=>obtain ⟨_,_,_,e⟩:=x;exact Heap.lt_size e
  | frz ob u=>obtain ⟨e,_⟩:=x;exact Heap.lt_size e
  | tbl ps=>exact Heap.lt_size (show h.get? a=some _ from x)
  | met f y=>exact Heap.lt_size (show h.get? a=some _ from x)
  | ext φ=>obtain ⟨_,⟨_,e⟩,_⟩:=x;exact Heap.lt_size e
theorem Paired.mapP {α β:Type} {F G:α→β→Prop} : ∀ {l₁:List α} {l₂:List β},Paired F l₁ l₂→(∀ a b,F a b→G a b)→Paired G l₁ l₂
  | _,_,.nil,_=>.nil
  | _,_,.cons r t,f=>.cons (f _ _ r) (Paired.mapP t f)
theorem ObjOk.stay (x:ObjOk P w H h a o) (k:∀ b u,(b=a∨H b=some (.own a))→h.get? b=some u→h'.get? b=some u)
    (ho:∀ b,H b=some (.own a)→H' b=some (.own a)) (ht:∀ b xs,H b=some (.tup xs)→H' b=some (.tup xs)):ObjOk P w H' h' a o:=by
  induction o with
  | lst xs=>obtain ⟨z,its,n,r,e⟩:=x;exact ⟨z,its,n,r,k _ _ (.inl rfl) e⟩
  | tup xs=>obtain ⟨z,its,r,ob,e,c⟩:=x;exact ⟨z,its,r,ob,k _ _ (.inl rfl) e,c⟩
  | dK kvs=>obtain ⟨z,y,vs,r,ob,es,ep,e,c⟩:=x;exact ⟨z,y,vs,r,ob,es,ep,k _ _ (.inl rfl) e,c⟩
  | dT kvs =>
    obtain ⟨z,y,xs,r,ob,es,ep,e,c⟩:=x
    exact ⟨z,y,xs,Paired.mapP r fun p q z=>⟨z.1,ht _ _ z.2.1,z.2.2⟩,ob,es,ep,k _ _ (.inl rfl) e,c⟩
  | set S n=>obtain ⟨ob,es,ep,t,e,c⟩:=x;exact ⟨ob,es,ep,t,k _ _ (.inl rfl) e,c⟩
  | ins C dx fs =>
    obtain ⟨d,z,ne,e,mA,⟨od,es,ep,e2,c⟩,r⟩:=x
    exact ⟨ho _ d,z,ne,k _ _ (.inl rfl) e,mA,⟨od,es,ep,k _ _ (.inr d) e2,c⟩,r⟩
  | own y=>obtain ⟨ob,e⟩:=x;exact ⟨ob,k _ _ (.inl rfl) e⟩
  | xd fs=>obtain ⟨mA,⟨od,es,ep,e,c⟩,r⟩:=x;exact ⟨mA,⟨od,es,ep,k _ _ (.inl rfl) e,c⟩,r⟩
  | rng lo hi=>obtain ⟨t,u,v,e⟩:=x;exact ⟨t,u,v,k _ _ (.inl rfl) e⟩
  | frz ob u ih=>obtain ⟨e,q⟩:=x;exact ⟨k _ _ (.inl rfl) e,ih q⟩
  | tbl ps =>
    have e:h.get? a=some { cls:=.none,data:=.fields ps }:=x
    show h'.get? a=some { cls:=.none,data:=.fields ps }
    exact k a _ (.inl rfl) e
  | met f y =>
    have e:h.get? a=some (PySem.W.methodObj (.ref f) (.ref y)):=x
    show h'.get? a=some (PySem.W.methodObj (.ref f) (.ref y))
    exact k a _ (.inl rfl) e
  | ext φ=>obtain ⟨p,⟨o,e⟩,st⟩:=x;exact ⟨st _ _ p fun o q=>k _ _ (.inl rfl) q,⟨o,k _ _ (.inl rfl) e⟩,st⟩
theorem HOk.lt (x:HOk P w H h) (e:H a=some o):a < h.objs.size:=(x a o e).lt
theorem HOk.fresh (x:HOk P w H h) (e:h.objs.size≤a):H a=none:=by
  cases q:H a with
  | none=>rfl
  | some u=>exact absurd (Nat.lt_of_lt_of_le (x.lt q) e) (Nat.lt_irrefl _)
theorem HOk.kept (x:HOk P w H h) (k:∀ b u,h.get? b=some u→h'.get? b=some u):HOk P w H h':=fun a o e =>
  (x a o e).stay (fun b u _ q=>k b u q) (fun _ q=>q) fun _ _ q=>q
theorem HOk.laid (x:HOk P w H h) (k:∀ b u,h.get? b=some u→h'.get? b=some u) (hp:h.objs.size≤a) (new:ObjOk P w (upd H a o) h' a o):HOk P w (upd H a o) h':=fun b u e=>by
  have hn:=x.fresh hp
  by_cases hb:b=a
  · subst hb;rw [upd_same] at e;cases e;exact new
  · rw [upd_ne hb] at e
    exact (x b u e).stay (fun c v _ q=>k c v q) (fun c q=>by rw [upd_ne (ne_of_none q hn)];exact q) fun c xs q=>by rw [upd_ne (ne_of_none q hn)];exact q
end
def Rd (H:Hp) (a:Addr) (u:HO):Prop:=H a=some u∨∃ o,H a=some (.frz o u)
theorem Rd.ok {P:Program} {w:World} {H:Hp} {h:Heap} {a:Addr} {u:HO} (r:Rd H a u) (x:HOk P w H h):ObjOk P w H h a u:=by
  rcases r with r | ⟨o,r⟩
  · exact x a u r
  · obtain ⟨_,q⟩:=x a _ r
    exact q
def Mut:Option HO→Prop
  | some (.lst _)=>True
  | some (.dK _)=>True
  | some (.dT _)=>True
  | some (.set _ _)=>True
  | some (.ins _ _ _)=>True
  | some (.ext _)=>True
  | _=>False
section
variable {P:Program} {w:World} {H:Hp} {h h' : Heap} {x e:Addr} {o' : HO}
theorem HOk.write (ok:HOk P w H h) (mu:Mut (H x)) (he:e=x∨H e=some (.own x)) (k:∀ b u,b ≠ e→h.get? b=some u→h'.get? b=some u) (heo:∃ u,h'.get? e=some u)
    (new:ObjOk P w (upd H x o') h' x o'):HOk P w (upd H x o') h':=fun b u q=>by
  have nown:∀ c y,H c=some (.own y)→c ≠ x:=fun c y r z=>by subst z;rw [r] at mu;exact mu
  have ntup:∀ c xs,H c=some (.tup xs)→c ≠ x:=fun c xs r z=>by subst z;rw [r] at mu;exact mu
  by_cases hb:b=x
  · subst hb;rw [upd_same] at q;cases q;exact new
  · rw [upd_ne hb] at q
    by_cases hbe:b=e
    · have q' : H b=some (.own x):=by
        rcases he with z | z
        · exact absurd (hbe.trans z) hb
        · rw [hbe];exact z
      rw [q] at q';cases q'
      obtain ⟨v,hv⟩:=heo
      exact ⟨v,by rw [hbe];exact hv⟩
    · refine (ok b u q).stay (fun c v hc r=>k c v ?_ r) (fun c r=>by rw [upd_ne (nown c b r)];exact r) fun c xs r=>by rw [upd_ne (ntup c xs r)];exact r
      rcases hc with rfl | hc
      · exact hbe
      · rintro rfl
        rcases he with z | z
        · exact nown c b hc z
        · rw [hc] at z;cases z;exact hb rfl
end
structure Un (fs ex:List Addr) (H H' : Hp) (h h' : Heap):Prop where
  keep:∀ b o,h.get? b=some o→H b=none→b ∉ fs→b ∉ ex→h'.get? b=some o
  slot:∀ b o,h.get? b=some o→H b=none→b ∈ fs→b ∉ ex→∃ sl,h'.get? b=some { o with slots:=sl }
  free:∀ b o,h.get? b=some o→H b=none→b ∉ ex→H' b=none
  there:∀ b o,h.get? b=some o→b ∉ ex→∃ o',h'.get? b=some o'
  tups:∀ b xs,H b=some (.tup xs)→H' b=some (.tup xs)
  frzs:∀ b o u,H b=some (.frz o u)→H' b=some (.frz o u)
  tbls:∀ b ps,H b=some (.tbl ps)→∃ more,H' b=some (.tbl (ps ++ more))
section
variable {fs fs' ex ex' : List Addr} {H H1 H2:Hp} {h h1 h2 h' : Heap} {a x e:Addr} {o:HO}
theorem Un.any (u:Un fs ex H H1 h h1) {b:Addr} {ob:Obj} (q:h.get? b=some ob) (n:H b=none) (hx:b ∉ ex):∃ sl,h1.get? b=some { ob with slots:=sl }:=by
  by_cases hb:b ∈ fs
  · exact u.slot b ob q n hb hx
  · exact ⟨ob.slots,u.keep b ob q n hb hx⟩
theorem Un.kept (k:∀ b u,h.get? b=some u→h'.get? b=some u):Un fs ex H H h h' :=
  ⟨fun b ob q _ _ _=>k b ob q,fun b ob q _ _ _=>⟨ob.slots,k b ob q⟩,fun _ _ _ n _=>n,fun b ob q _=>⟨ob,k b ob q⟩,fun _ _ q=>q,fun _ _ _ q=>q,fun _ ps q=>⟨#[],by rw [q];simp⟩⟩
theorem Un.refl:Un fs ex H H h h:=Un.kept fun _ _ q=>q
theorem Un.laid (k:∀ b u,h.get? b=some u→h'.get? b=some u) (hp:h.objs.size≤a) (hn:H a=none):Un fs ex H (upd H a o) h h' where
  keep:=fun b u q _ _ _=>k b u q
  slot:=fun b u q _ _ _=>⟨u.slots,k b u q⟩
  free:=fun b u q n _=>by rw [upd_ne (Nat.ne_of_lt (Nat.lt_of_lt_of_le (Heap.lt_size q) hp))];exact n
  there:=fun b u q _=>⟨u,k b u q⟩
  tups:=fun b xs q=>by rw [upd_ne (ne_of_none q hn)];exact q
  frzs:=fun b u xs q=>by rw [upd_ne (ne_of_none q hn)];exact q
  tbls:=fun b ps q=>⟨#[],by rw [upd_ne (ne_of_none q hn),q];simp⟩
theorem Un.write (mu:Mut (H x)) (he:e=x∨H e=some (.own x)) (k:∀ b u,b ≠ e→h.get? b=some u→h'.get? b=some u) (heo:∃ u,h'.get? e=some u):Un fs ex H (upd H x o) h h':=by
  have hx:∀ b,H b=none→b ≠ x:=fun b n z=>by subst z;rw [n] at mu;exact mu
  have hb:∀ b,H b=none→b ≠ e:=fun b n z=>by
    subst z
    rcases he with r | r
    · exact hx b n r
    · rw [n] at r;cases r
  have hm:∀ b u,H b=some u→¬ Mut (some u)→b ≠ x:=fun b u q nm z=>by subst z;rw [q] at mu;exact nm mu
  refine ⟨fun b u q n _ _=>k b u (hb b n) q,fun b u q n _ _=>⟨u.slots,k b u (hb b n) q⟩,fun b u q n _=>by rw [upd_ne (hx b n)];exact n,fun b u q _=>?_,
    fun b xs q=>by rw [upd_ne (hm b _ q fun z=>z)];exact q,fun b u xs q=>by rw [upd_ne (hm b _ q fun z=>z)];exact q,fun b ps q=>⟨#[],by rw [upd_ne (hm b _ q fun z=>z),q];simp⟩⟩
  by_cases hbe:b=e
  · subst hbe;exact heo
  · exact ⟨u,k b u hbe q⟩
end
def trk (h:Heap) (H:Hp):List Addr:=(List.range h.objs.size).filter fun a=>(H a).isSome
def hidT (h:Heap) (H:Hp):Heap:=PySem.W.hideAll h (trk h H)
theorem hidT_size (h:Heap) (H:Hp):(hidT h H).objs.size=h.objs.size:=PySem.W.hideAll_size _ _
theorem hidT_get {h:Heap} {H:Hp} {b:Addr} {o:Obj} (e:h.get? b=some o) (n:H b=none):(hidT h H).get? b=some o :=
  PySem.W.hideAll_get _ e fun hm=>by
    have q:(H b).isSome=true:=(List.mem_filter.mp hm).2
    rw [n] at q;simp at q
theorem of_hidT {h:Heap} {H:Hp} {b:Addr} {o:Obj} (e:(hidT h H).get? b=some o):h.get? b=some o∧H b=none:=by
  have e' : h.get? b=some o:=PySem.W.of_hideAll (trk h H) e
  refine ⟨e',?_⟩
  cases q:H b with
  | none=>rfl
  | some x =>
    have hm:b ∈ trk h H:=List.mem_filter.mpr ⟨List.mem_range.mpr (Heap.lt_size e'),by simp [q]⟩
    have z:(hidT h H).get? b=none:=PySem.W.hideAll_none (trk h H) hm
    rw [z] at e;cases e
def allNews (g h:Heap) (L:Addr):List (Addr × Obj):=(List.range h.objs.size).filterMap fun a=>if a=L∨(g.get? a).isSome=true then none else (h.get? a).map fun o=>(a,o)
def rest (g h:Heap) (L d:Addr):List (Addr × Obj):=(allNews g h L).filter fun p=>decide (p.1 ≠ d)
end L2
namespace L2
open PySem PySem.Spec PyProof.Rows
structure Mod (K:PySem.W.Frag) (mg:Str→Option Value) (base:Heap):Prop where
  kin:K.In base
  glob:base.Ns mainGlobals mg
  blt:∃ mb,base.Ns builtinsNs mb∧∀ x:Str,x ≠ "__name__" → mb x=bootBuiltins x
  nolimit:base.NoLimit
structure Cx where
  prog:Program
  w:World
  K:PySem.W.Frag
  mg:Str→Option Value
  base:Heap
  A:Around
  N:List Str
  s₀:Shared
  H₀:Hp
  env:Env
  outer:List Env
  stack:List Env
  ex:List Addr
  fn:Str→Bool
  calm:Bool
  pn:List (Addr × Obj)
  xe:Value→Shared→Prop
def frs (l:List Env):List Addr:=l.filterMap (·.frame)
abbrev Cx.fs (X:Cx):List Addr:=frs X.outer
def Vis (sc:Scope) (x:Str):Prop:=sc.names.lookup x=some .local∨sc.names.lookup x=some .cell∨sc.names.lookup x=some .free
def Loc (sc:Scope) (x:Str):Prop:=sc.names.lookup x=some .local∨sc.names.lookup x=some .cell
def Look (env:Env) (h:Heap) (m:Str→Option Value) (x:Str) (u:Value):Prop :=
  (env.kindOf x=some .local∧m x=some u)∨((env.kindOf x=some .cell∨env.kindOf x=some .free)∧∃ c,env.cells.lookup x=some c∧h.IsCell c (some u))
structure Cx.Ok (X:Cx):Prop where
  mod:Mod X.K X.mg X.base
  kind:X.env.scope.kind=.function
  glob:X.env.globals=mainGlobals
  blt:X.env.builtins=builtinsNs
  above:X.s₀.heap.objs.size≤X.env.locals
  inj:∀ x y c,X.env.cells.lookup x=some c→X.env.cells.lookup y=some c→x=y
  has:∀ x,(X.env.kindOf x=some .cell∨X.env.kindOf x=some .free)→∃ c,X.env.cells.lookup x=some c
  cab:∀ x c,X.fn x=true→X.env.cells.lookup x=some c→X.s₀.heap.objs.size≤c
  hd:X.calm=true→X.A.handled=none
  frames:X.A.frames=some X.stack
  stk:X.stack=X.outer∨(X.stack=X.env :: X.outer∧X.env.frame=some X.env.locals)
  exf:∀ b ∈ X.ex,b ≠ X.env.locals∧∀ x c,X.env.cells.lookup x=some c→c ≠ b
  bs:∀ b o,X.base.get? b=some o→X.s₀.heap.get? b=some o∧X.H₀ b=none
  bsz:X.base.objs.size≤X.s₀.heap.objs.size
  noex:∀ b o,X.base.get? b=some o→b ∉ X.ex
  exfs:∀ b ∈ X.ex,b ∉ X.fs
  funs:X.s₀.heap.FunFrames X.base X.outer
  frf:∀ b ∈ X.fs,X.H₀ b=none
structure Inv (X:Cx) (pins:List (Addr × Obj)) (σ:List (Option V)) (H:Hp) (s:Shared):Prop where
  ok:X.Ok
  os:s.os=X.s₀.os
  bare:AllBare s.gens
  base:Un X.fs X.ex X.H₀ H X.s₀.heap s.heap
  loc:∃ m,s.heap.Ns X.env.locals m∧∀ (i:Nat) (x:Str) (v:V),X.N[i]?=some x→σ[i]?=some (some v)→Vis X.env.scope x→∃ u,RelV v u∧Look X.env s.heap m x u
  cell:∀ x c,X.env.cells.lookup x=some c→∃ v,s.heap.IsCell c v
  free:H X.env.locals=none
  freeC:∀ x c,X.env.cells.lookup x=some c→H c=none
  pin:∀ p ∈ X.pn ++ pins,s.heap.get? p.1=some p.2∧H p.1=none∧p.1 ≠ X.env.locals∧p.1 ∉ X.fs∧∀ v,p.2.data ≠ .cell v
  hok:HOk X.prog X.w H s.heap
  len:σ.length=X.N.length
section
variable {X:Cx} {pins:List (Addr × Obj)} {σ:List (Option V)} {H H' : Hp} {s:Shared} {h' : Heap}
theorem Cx.Ok.nofr (ok:X.Ok) {b:Addr} {o:Obj} (e:X.base.get? b=some o):b ∉ X.fs:=fun hb=>by
  have:=(ok.funs.mem hb).1
  rw [e] at this;cases this
theorem Inv.bs (I:Inv X pins σ H s):∀ b o,X.base.get? b=some o→s.heap.get? b=some o∧H b=none:=fun b o e =>
  ⟨I.base.keep b o (I.ok.bs b o e).1 (I.ok.bs b o e).2 (I.ok.nofr e) (I.ok.noex b o e),I.base.free b o (I.ok.bs b o e).1 (I.ok.bs b o e).2 (I.ok.noex b o e)⟩
theorem Inv.bk (I:Inv X pins σ H s):∀ b o,X.base.get? b=some o→s.heap.get? b=some o:=fun b o e=>(I.bs b o e).1
theorem Inv.mod (I:Inv X pins σ H s):Mod X.K X.mg X.base:=I.ok.mod
theorem Inv.kIn (I:Inv X pins σ H s):X.K.In s.heap:=I.ok.mod.kin.keeps I.bk
theorem Inv.lt (I:Inv X pins σ H s):X.env.locals < s.heap.objs.size:=let ⟨_,hn,_⟩:=I.loc;hn.lt
theorem Inv.sz (I:Inv X pins σ H s):X.s₀.heap.objs.size≤s.heap.objs.size:=Nat.le_trans I.ok.above (Nat.le_of_lt I.lt)
theorem Inv.nofs (I:Inv X pins σ H s) {a:Addr} (h:s.heap.objs.size≤a):a ∉ X.fs:=fun hb=>by
  obtain ⟨_,o,ho,_⟩:=I.ok.funs.mem hb
  exact absurd (Nat.lt_of_lt_of_le (Heap.lt_size ho) (Nat.le_trans I.sz h)) (Nat.lt_irrefl _)
theorem Inv.cne (I:Inv X pins σ H s):∀ x c,X.env.cells.lookup x=some c→c ≠ X.env.locals:=fun x c e z=>by
  obtain ⟨v,o,ho,hd⟩:=I.cell x c e
  obtain ⟨m,⟨o',es,ep,ho',hd',_⟩,_⟩:=I.loc
  rw [z,ho'] at ho;cases ho;rw [hd'] at hd;cases hd
theorem Inv.funs (I:Inv X pins σ H s):s.heap.FunFrames X.base X.outer:=by
  have all:∀ (l:List Env),(∀ b ∈ frs l,b ∈ X.fs)→X.s₀.heap.FunFrames X.base l→s.heap.FunFrames X.base l:=by
    intro l
    induction l with
    | nil=>intro _ _;trivial
    | cons env r ih =>
      intro hs hl
      obtain ⟨hk,⟨L,o,hf,hn,ho,hd⟩,hr⟩:=hl
      have hL:L ∈ X.fs:=hs L (by unfold frs;rw [List.filterMap_cons,hf];exact List.mem_cons_self)
      obtain ⟨sl,e⟩:=I.base.slot L o ho (I.ok.frf L hL) hL fun z=>I.ok.exfs L z hL
      exact ⟨hk,⟨L,_,hf,hn,e,hd⟩,ih (fun b hb=>hs b (by unfold frs;rw [List.filterMap_cons,hf];exact List.mem_cons_of_mem _ hb)) hr⟩
  exact all X.outer (fun _ hb=>hb) I.ok.funs
theorem Inv.stack (I:Inv X pins σ H s):s.heap.FunFrames X.base X.stack:=by
  rcases I.ok.stk with e | ⟨e,hf⟩
  · rw [e];exact I.funs
  · rw [e]
    obtain ⟨m,hn,_⟩:=I.loc
    refine .cons (by rw [I.ok.kind];decide) hf hn ?_ I.funs
    exact Heap.get?_none_of_le (Nat.le_trans I.ok.bsz I.ok.above)
theorem Inv.stkSub (I:Inv X pins σ H s):∀ b ∈ frs X.stack,b ∈ X.env.locals :: X.fs:=fun b hb=>by
  rcases I.ok.stk with e | ⟨e,hf⟩
  · rw [e] at hb;exact List.mem_cons_of_mem _ hb
  · rw [e] at hb
    unfold frs at hb
    rw [List.filterMap_cons,hf] at hb
    exact hb
theorem Inv.stkFree (I:Inv X pins σ H s):∀ b ∈ frs X.stack,H b=none:=fun b hb=>by
  rcases List.mem_cons.mp (I.stkSub b hb) with e | hb
  · rw [e];exact I.free
  · obtain ⟨_,o,ho,_⟩:=I.ok.funs.mem hb
    exact I.base.free b o ho (I.ok.frf b hb) fun z=>I.ok.exfs b z hb
theorem Inv.step {g' : Array GenState} {t' : Nat} {d' : Drawn} {ch:List Addr} (I:Inv X pins σ H s)
    (hch:∀ b ∈ ch,(b ∈ X.ex∨X.s₀.heap.objs.size≤b)∧b ≠ X.env.locals∧(∀ x c,X.env.cells.lookup x=some c→c ≠ b)∧∀ p ∈ X.pn ++ pins,p.1 ≠ b)
    (keep:∀ b o,b ≠ X.env.locals→b ∉ X.fs→b ∉ ch→s.heap.get? b=some o→H b=none→h'.get? b=some o)
    (slot:∀ b o,b ≠ X.env.locals→b ∈ X.fs→b ∉ ch→s.heap.get? b=some o→H b=none→∃ sl,h'.get? b=some { o with slots:=sl }) (free:∀ b o,b ∉ ch→s.heap.get? b=some o→H b=none→H' b=none)
    (there:∀ b o,b ∉ ch→s.heap.get? b=some o→∃ o',h'.get? b=some o')
    (tups:∀ b xs,H b=some (.tup xs)→H' b=some (.tup xs)) (frzs:∀ b o u,H b=some (.frz o u)→H' b=some (.frz o u)) (tbls:∀ b ps,H b=some (.tbl ps)→∃ more,H' b=some (.tbl (ps ++ more)))
    (ns:∀ m,s.heap.Ns X.env.locals m→h'.Ns X.env.locals m) (hok:HOk X.prog X.w H' h') (hg:AllBare g') :
    Inv X pins σ H' { s with heap:=h',gens:=g',drawn:=d',toks:=t' }:=by
  have neL:∀ b o,X.s₀.heap.get? b=some o→b ≠ X.env.locals:=fun b o e=>Nat.ne_of_lt (Nat.lt_of_lt_of_le (Heap.lt_size e) I.ok.above)
  have neC:∀ b o,X.s₀.heap.get? b=some o→b ∉ X.ex→b ∉ ch:=fun b o e hx hb=>by
    rcases (hch b hb).1 with z | z
    · exact hx z
    · exact absurd (Nat.lt_of_lt_of_le (Heap.lt_size e) z) (Nat.lt_irrefl _)
  have cellK:∀ x c,X.env.cells.lookup x=some c→∀ v,s.heap.IsCell c v→h'.IsCell c v:=fun x c e v ⟨o,ho,hd⟩=>by
    have nch:c ∉ ch:=fun z=>(hch c z).2.2.1 x c e rfl
    by_cases hc:c ∈ X.fs
    · obtain ⟨sl,q⟩:=slot c o (I.cne x c e) hc nch ho (I.freeC x c e)
      exact ⟨_,q,hd⟩
    · exact ⟨o,keep c o (I.cne x c e) hc nch ho (I.freeC x c e),hd⟩
  refine ⟨I.ok,I.os,hg,⟨fun b o e n hb hx=>?_,fun b o e n hb hx=>?_,fun b o e n hx=>?_,fun b o e hx=>?_,fun b xs e=>tups b xs (I.base.tups b xs e),fun b o xs e=>frzs b o xs (I.base.frzs b o xs e),fun b ps e=>?_⟩,?_,fun x c e=>?_,?_,fun x c e=>?_,fun p hp=>?_,hok,I.len⟩
  · exact keep b o (neL b o e) hb (neC b o e hx) (I.base.keep b o e n hb hx) (I.base.free b o e n hx)
  · obtain ⟨sl,e1⟩:=I.base.slot b o e n hb hx
    obtain ⟨sl',e2⟩:=slot b _ (neL b o e) hb (neC b o e hx) e1 (I.base.free b o e n hx)
    exact ⟨sl',e2⟩
  · obtain ⟨o',e1⟩:=I.base.there b o e hx
    exact free b o' (neC b o e hx) e1 (I.base.free b o e n hx)
  · obtain ⟨o',e1⟩:=I.base.there b o e hx
    exact there b o' (neC b o e hx) e1
  · obtain ⟨m1,e1⟩:=I.base.tbls b ps e
    obtain ⟨m2,e2⟩:=tbls b _ e1
    exact ⟨m1 ++ m2,by rw [e2,Array.append_assoc]⟩
  · obtain ⟨m,hn,hl⟩:=I.loc
    refine ⟨m,ns m hn,fun i x v e1 e2 e3=>?_⟩
    obtain ⟨u,r,l⟩:=hl i x v e1 e2 e3
    refine ⟨u,r,?_⟩
    rcases l with l | ⟨k,c,e,z⟩
    · exact .inl l
    · exact .inr ⟨k,c,e,cellK x c e _ z⟩
  · obtain ⟨v,z⟩:=I.cell x c e
    exact ⟨v,cellK x c e v z⟩
  · obtain ⟨m,⟨o,_,_,ho,_⟩,_⟩:=I.loc
    exact free _ o (fun z=>(hch _ z).2.1 rfl) ho I.free
  · obtain ⟨v,o,ho,hd⟩:=I.cell x c e
    exact free c o (fun z=>(hch c z).2.2.1 x c e rfl) ho (I.freeC x c e)
  · obtain ⟨e,n,ne,nf,d⟩:=I.pin p hp
    have nch:p.1 ∉ ch:=fun z=>(hch p.1 z).2.2.2 p hp rfl
    exact ⟨keep p.1 p.2 ne nf nch e n,free p.1 p.2 nch e n,ne,nf,d⟩
theorem Inv.un {t' : Nat} (I:Inv X pins σ H s) (u:Un X.fs [] H H' s.heap h') (hok:HOk X.prog X.w H' h'):Inv X pins σ H' { s with heap:=h',toks:=t' }:=by
  obtain ⟨m,⟨o,es,ep,ho,r⟩,_⟩:=id I.loc
  obtain ⟨sl,hL⟩:=u.any ho I.free (by simp)
  exact I.step (g':=s.gens) (d':=s.drawn) (ch:=[]) (fun _ z=>nomatch z) (fun b o _ hb _ e n=>u.keep b o e n hb (by simp)) (fun b o _ hb _ e n=>u.slot b o e n hb (by simp)) (fun b o _ e n=>u.free b o e n (by simp)) (fun b o _ e=>u.there b o e (by simp)) u.tups u.frzs u.tbls (fun m' hm=>by
    obtain ⟨o',es',ep',ho',r'⟩:=hm
    rw [ho] at ho';cases ho'
    exact ⟨_,es',ep',hL,r'⟩) hok I.bare
theorem Inv.call {g' : Array GenState} {t' : Nat} {d' : Drawn} {ch:List Addr} (I:Inv X pins σ H s) (u:Un (frs X.stack) ch H H' s.heap h') (hok:HOk X.prog X.w H' h') (hg:AllBare g')
    (hch:∀ b ∈ ch,(b ∈ X.ex∨X.s₀.heap.objs.size≤b)∧b ≠ X.env.locals∧(∀ x c,X.env.cells.lookup x=some c→c ≠ b)∧∀ p ∈ X.pn ++ pins,p.1 ≠ b) :
    Inv X pins σ H' { s with heap:=h',gens:=g',drawn:=d',toks:=t' }:=by
  obtain ⟨m,⟨o,es,ep,ho,r⟩,_⟩:=id I.loc
  obtain ⟨sl,hL⟩:=u.any ho I.free fun z=>(hch _ z).2.1 rfl
  exact I.step (ch:=ch) hch (fun b o hL hb hc e n=>u.keep b o e n (fun z=>(List.mem_cons.mp (I.stkSub b z)).elim hL hb) hc) (fun b o _ _ hc e n=>u.any e n hc) (fun b o hc e n=>u.free b o e n hc) (fun b o hc e=>u.there b o e hc) u.tups u.frzs u.tbls (fun m' hm=>by
    obtain ⟨o',es',ep',ho',r'⟩:=hm
    rw [ho] at ho';cases ho'
    exact ⟨_,es',ep',hL,r'⟩) hok hg
theorem Inv.turned {t' : Nat} {it:Addr} (I:Inv X pins σ H s) (k:∀ b o,b ≠ it→s.heap.get? b=some o→h'.get? b=some o) (hn:H it=none) (hL:it ≠ X.env.locals)
    (h1:it ∈ X.ex∨X.s₀.heap.objs.size≤it) (h2:∀ x c,X.env.cells.lookup x=some c→c ≠ it) (h3:∀ p ∈ X.pn ++ pins,p.1 ≠ it):Inv X pins σ H { s with heap:=h',toks:=t' }:=by
  have nit:∀ b u,H b=some u→b ≠ it:=fun b u e z=>by rw [z,hn] at e;cases e
  refine I.step (g':=s.gens) (d':=s.drawn) (ch:=[it]) (fun b hb=>?_) (fun b o _ _ hc e _=>k b o (fun z=>hc (by simp [z])) e) (fun b o _ _ hc e _=>⟨o.slots,k b o (fun z=>hc (by simp [z])) e⟩) (fun _ _ _ _ n=>n)
    (fun b o hc e=>⟨o,k b o (fun z=>hc (by simp [z])) e⟩) (fun _ _ e=>e) (fun _ _ _ e=>e) (fun b ps e=>⟨#[],by rw [e];simp⟩) (fun m hm=>?_) (fun b u e=>?_) I.bare
  · have e:b=it:=by simpa using hb
    subst e
    exact ⟨h1,hL,h2,h3⟩
  · obtain ⟨o,es,ep,ho,r⟩:=hm
    exact ⟨o,es,ep,k _ o (Ne.symm hL) ho,r⟩
  · refine (I.hok b u e).stay (fun c v hc q=>k c v ?_ q) (fun _ q=>q) fun _ _ q=>q
    rcases hc with z | z
    · rw [z];exact nit b u e
    · exact nit c _ z
theorem Inv.tok (I:Inv X pins σ H s) (t:Nat):Inv X pins σ H { s with toks:=t }:=I.un (h':=s.heap) (t':=t) Un.refl I.hok
theorem Inv.kept {t' : Nat} (I:Inv X pins σ H s) (k:∀ b u,s.heap.get? b=some u→h'.get? b=some u):Inv X pins σ H { s with heap:=h',toks:=t' }:=I.un (Un.kept k) (I.hok.kept k)
theorem Inv.laid {a:Addr} {o:HO} {t' : Nat} (I:Inv X pins σ H s) (k:∀ b u,s.heap.get? b=some u→h'.get? b=some u) (hp:s.heap.objs.size≤a) (new:ObjOk X.prog X.w (upd H a o) h' a o) :
    Inv X pins σ (upd H a o) { s with heap:=h',toks:=t' }:=I.un (Un.laid k hp (I.hok.fresh hp)) (I.hok.laid k hp new)
theorem Inv.write {x e:Addr} {o:HO} {t' : Nat} (I:Inv X pins σ H s) (mu:Mut (H x)) (he:e=x∨H e=some (.own x)) (k:∀ b u,b ≠ e→s.heap.get? b=some u→h'.get? b=some u) (heo:∃ u,h'.get? e=some u)
    (new:ObjOk X.prog X.w (upd H x o) h' x o):Inv X pins σ (upd H x o) { s with heap:=h',toks:=t' }:=I.un (Un.write mu he k heo) (I.hok.write mu he k heo new)
theorem Inv.pins_of {pins' : List (Addr × Obj)} (I:Inv X pins σ H s) (h:∀ p ∈ pins',s.heap.get? p.1=some p.2∧H p.1=none∧p.1 ≠ X.env.locals∧p.1 ∉ X.fs∧∀ v,p.2.data ≠ .cell v):Inv X pins' σ H s :=
  ⟨I.ok,I.os,I.bare,I.base,I.loc,I.cell,I.free,I.freeC,fun p hp=>(List.mem_append.mp hp).elim (fun z=>I.pin p (List.mem_append_left _ z)) (h p),I.hok,I.len⟩
theorem nodup_ix {N:List Str} (hN:N.Nodup) {i j:Nat} {x:Str} (a:N[i]?=some x) (b:N[j]?=some x):i=j:=by
  obtain ⟨h1,e1⟩:=List.getElem?_eq_some_iff.mp a
  obtain ⟨h2,e2⟩:=List.getElem?_eq_some_iff.mp b
  exact (List.getElem_inj hN).mp (e1.trans e2.symm)
theorem store_ok2 {M:Model} {A:Around} {E:Value→Shared→Prop} {i:Nat} {x:Str} {v:V} {u:Value} {Q:Unit→Shared→Prop} (I:Inv X pins σ H s) (hN:X.N.Nodup) (hi:X.N[i]?=some x) (hx:Loc X.env.scope x) (r:RelV v u)
    (h:∀ s',Inv X pins (σ.set i (some v)) H s'→(∃ a,Heap.SameBut a s.heap s'.heap∧(a=X.env.locals∨X.env.cells.lookup x=some a))→Q () s') (hf:X.fn x=true∨X.env.scope.names.lookup x=some .local:=by first | exact .inl rfl | exact .inr rfl | assumption):wpAny M A (storeName X.env x u) Q E s:=by
  obtain ⟨m,hn,hl⟩:=id I.loc
  have hcls:(X.env.scope.kind == .class || (X.env.scope.kind == .module && X.env.locals != X.env.globals))=false:=by rw [I.ok.kind];rfl
  have hiσ:i < σ.length:=by rw [I.len];exact (List.getElem?_eq_some_iff.mp hi).1
  have cne:=I.cne
  have tracked:∀ {a:Addr} {h' : Heap},(∃ o,s.heap.get? a=some o∧H a=none)→Heap.SameBut a s.heap h'→HOk X.prog X.w H h':=fun {a h'} ha hs b ob e=>by
    obtain ⟨_,_,hfree⟩:=ha
    refine (I.hok b ob e).stay (fun c w' hc q=>(hs.2 c ?_).trans q) (fun _ q=>q) fun _ _ q=>q
    rintro rfl
    rcases hc with rfl | hc
    · rw [hfree] at e;cases e
    · rw [hfree] at hc;cases hc
  rcases hx with hk | hk
  · refine wpAny_storeName_local hk hn (fun h' hn' hs=>?_) hcls
    obtain ⟨oL,_,_,hoL,_⟩:=id hn
    refine h _ ⟨I.ok,I.os,I.bare,⟨fun b o e n hb hx=>?_,fun b o e n hb hx=>?_,I.base.free,fun b o e hx=>?_,I.base.tups,I.base.frzs,I.base.tbls⟩,⟨_,hn',fun j y v' e1 e2 e3=>?_⟩,fun y c e=>?_,I.free,I.freeC,fun p hp=>?_,tracked ⟨oL,hoL,I.free⟩ hs,by simpa using I.len⟩ ⟨_,hs,.inl rfl⟩
    · exact (hs.2 b (Nat.ne_of_lt (Nat.lt_of_lt_of_le (Heap.lt_size e) I.ok.above))).trans (I.base.keep b o e n hb hx)
    · obtain ⟨sl,e1⟩:=I.base.slot b o e n hb hx
      exact ⟨sl,(hs.2 b (Nat.ne_of_lt (Nat.lt_of_lt_of_le (Heap.lt_size e) I.ok.above))).trans e1⟩
    · obtain ⟨o',e1⟩:=I.base.there b o e hx
      exact ⟨o',(hs.2 b (Nat.ne_of_lt (Nat.lt_of_lt_of_le (Heap.lt_size e) I.ok.above))).trans e1⟩
    · by_cases hj:j=i
      · subst hj
        rw [hi] at e1;cases e1
        rw [List.getElem?_set_self hiσ] at e2
        cases e2
        exact ⟨u,r,.inl ⟨hk,by simp⟩⟩
      · rw [List.getElem?_set_ne (Ne.symm hj)] at e2
        obtain ⟨u',r',q⟩:=hl j y v' e1 e2 e3
        refine ⟨u',r',?_⟩
        rcases q with ⟨k,e⟩ | ⟨k,c,e,z⟩
        · refine .inl ⟨k,?_⟩
          have:y ≠ x:=fun e=>hj (nodup_ix hN e1 (e ▸ hi))
          simp [this,e]
        · exact .inr ⟨k,c,e,z.sameBut hs (cne y c e)⟩
    · obtain ⟨w',z⟩:=I.cell y c e
      exact ⟨w',z.sameBut hs (cne y c e)⟩
    · obtain ⟨e,n,ne,nf,d⟩:=I.pin p hp
      exact ⟨(hs.2 p.1 ne).trans e,n,ne,nf,d⟩
  · have hfn:X.fn x=true:=by
      rcases hf with z | z
      · exact z
      · rw [z] at hk;cases hk
    obtain ⟨c,hc⟩:=I.ok.has x (.inl hk)
    obtain ⟨w',z⟩:=I.cell x c hc
    refine wpAny_storeName_cell I.ok.kind hk hc z (fun h' hc' hs=>?_)
    obtain ⟨oc,hoc,hocd⟩:=id z
    refine h { s with heap:=h' } ⟨I.ok,I.os,I.bare,⟨fun b o e n hb hx=>?_,fun b o e n hb hx=>?_,I.base.free,fun b o e hx=>?_,I.base.tups,I.base.frzs,I.base.tbls⟩,⟨m,hn.sameBut hs (Ne.symm (cne x c hc)),fun j y v' e1 e2 e3=>?_⟩,fun y c' e=>?_,I.free,I.freeC,fun p hp=>?_,tracked ⟨oc,hoc,I.freeC x c hc⟩ hs,by simpa using I.len⟩ ⟨c,hs,.inr hc⟩
    · exact (hs.2 b (Nat.ne_of_lt (Nat.lt_of_lt_of_le (Heap.lt_size e) (I.ok.cab x c hfn hc)))).trans (I.base.keep b o e n hb hx)
    · obtain ⟨sl,e1⟩:=I.base.slot b o e n hb hx
      exact ⟨sl,(hs.2 b (Nat.ne_of_lt (Nat.lt_of_lt_of_le (Heap.lt_size e) (I.ok.cab x c hfn hc)))).trans e1⟩
    · obtain ⟨o',e1⟩:=I.base.there b o e hx
      exact ⟨o',(hs.2 b (Nat.ne_of_lt (Nat.lt_of_lt_of_le (Heap.lt_size e) (I.ok.cab x c hfn hc)))).trans e1⟩
    · by_cases hj:j=i
      · subst hj
        rw [hi] at e1;cases e1
        rw [List.getElem?_set_self hiσ] at e2
        cases e2
        exact ⟨u,r,.inr ⟨.inl hk,c,hc,hc'⟩⟩
      · rw [List.getElem?_set_ne (Ne.symm hj)] at e2
        obtain ⟨u',r',q⟩:=hl j y v' e1 e2 e3
        refine ⟨u',r',?_⟩
        rcases q with q | ⟨k,c',e,z'⟩
        · exact .inl q
        · refine .inr ⟨k,c',e,z'.sameBut hs ?_⟩
          rintro rfl
          exact hj (nodup_ix hN e1 (I.ok.inj _ _ _ e hc ▸ hi))
    · by_cases hcc:c'=c
      · subst hcc;exact ⟨_,hc'⟩
      · obtain ⟨w2,z2⟩:=I.cell y c' e
        exact ⟨w2,z2.sameBut hs hcc⟩
    · obtain ⟨e,n,ne,nf,d⟩:=I.pin p hp
      refine ⟨(hs.2 p.1 ?_).trans e,n,ne,nf,d⟩
      intro q
      rw [q,hoc] at e
      have q' : oc=p.2:=Option.some.inj e
      exact d w' (by rw [← q'];exact hocd)
theorem store_ok {M:Model} {A:Around} {E:Value→Shared→Prop} {i:Nat} {x:Str} {v:V} {u:Value} {Q:Unit→Shared→Prop} (I:Inv X pins σ H s) (hN:X.N.Nodup) (hi:X.N[i]?=some x) (hx:Loc X.env.scope x) (r:RelV v u)
    (h:∀ s',Inv X pins (σ.set i (some v)) H s'→Q () s') (hf:X.fn x=true∨X.env.scope.names.lookup x=some .local:=by first | exact .inl rfl | exact .inr rfl | assumption):wpAny M A (storeName X.env x u) Q E s :=
  store_ok2 I hN hi hx r (fun s' I' _=>h s' I') hf
theorem Inv.call' {s' : Shared} {ch:List Addr} (I:Inv X pins σ H s) (ho:s'.os=s.os) (u:Un (frs X.stack) ch H H' s.heap s'.heap) (hok:HOk X.prog X.w H' s'.heap) (hg:AllBare s'.gens)
    (hch:∀ b ∈ ch,(b ∈ X.ex∨X.s₀.heap.objs.size≤b)∧b ≠ X.env.locals∧(∀ x c,X.env.cells.lookup x=some c→c ≠ b)∧∀ p ∈ X.pn ++ pins,p.1 ≠ b):Inv X pins σ H' s':=by
  obtain ⟨h',g',d',t',o'⟩:=s'
  have e:o'=s.os:=ho
  subst e
  exact I.call (g':=g') (t':=t') (d':=d') u hok hg hch
end
abbrev XK:=Value→Option Addr→Hp→Prop
abbrev St:=List (Option V)
abbrev VK:=V→Hp→Prop
abbrev TE:=St→Hp→VK→Prop
abbrev TT:=St→Hp→(Bool→Hp→Prop)→Prop
abbrev TA:=St→Hp→(List V→Hp→Prop)→Prop
structure Ends where
  nx:St→Hp→Prop
  rt:VK
  bk:St→Hp→Prop:=fun _ _=>False
  ct:St→Hp→Prop:=fun _ _=>False
abbrev TS:=Ends→St→Hp→Prop
def EP (X:Cx) (pins:List (Addr × Obj)) (σ:St) (Q:VK) (u:Value) (s' : Shared):Prop:=∃ v H',Inv X pins σ H' s'∧RelV v u∧Q v H'
def TP (X:Cx) (pins:List (Addr × Obj)) (σ:St) (Q:Bool→Hp→Prop) (b:Bool) (s' : Shared):Prop:=∃ H',Inv X pins σ H' s'∧Q b H'
def AP (X:Cx) (pins:List (Addr × Obj)) (σ:St) (Q:List V→Hp→Prop) (us:List Value) (s' : Shared):Prop:=∃ vs H',Inv X pins σ H' s'∧Vals vs us∧Q vs H'
def SP (X:Cx) (pins:List (Addr × Obj)) (D:Ends) (f:Flow) (s' : Shared):Prop :=
  match f with
  | .next=>∃ σ' H',Inv X pins σ' H' s'∧D.nx σ' H'
  | .brk=>∃ σ' H',Inv X pins σ' H' s'∧D.bk σ' H'
  | .cont=>∃ σ' H',Inv X pins σ' H' s'∧D.ct σ' H'
  | .ret u=>∃ v σ' H',Inv X pins σ' H' s'∧RelV v u∧D.rt v H'
def PE (X:Cx) (e:Expr) (t:TE):Prop :=
  ∀ (pins:List (Addr × Obj)) (s:Shared) (σ:St) (H:Hp) (Q:VK),Inv X pins σ H s→t σ H Q→wpAny (model X.prog X.w) X.A (eval e X.env) (EP X pins σ Q) X.xe s
def PT (X:Cx) (e:Expr) (t:TT):Prop :=
  ∀ (pins:List (Addr × Obj)) (s:Shared) (σ:St) (H:Hp) (Q:Bool→Hp→Prop),Inv X pins σ H s→t σ H Q→wpAny (model X.prog X.w) X.A (isTrue e X.env (eval e X.env)) (TP X pins σ Q) X.xe s
def PW (X:Cx) (e:Expr) (t:TT):Prop :=
  ∀ (whole:Sem Value) (pins:List (Addr × Obj)) (s:Shared) (σ:St) (H:Hp) (Q:Bool→Hp→Prop),Inv X pins σ H s→t σ H Q→wpAny (model X.prog X.w) X.A (isTrue e X.env whole) (TP X pins σ Q) X.xe s
theorem PW.pt {X:Cx} {e:Expr} {t:TT} (h:PW X e t):PT X e t:=h _
def PA (X:Cx) (es:List Expr) (t:TA):Prop :=
  ∀ (pos:Pos) (pins:List (Addr × Obj)) (s:Shared) (σ:St) (H:Hp) (Q:List V→Hp→Prop),Inv X pins σ H s→t σ H Q→wpAny (model X.prog X.w) X.A (spliced (backTo pos (starEach es X.env))) (AP X pins σ Q) X.xe s
def PS (X:Cx) (st:Stmt) (t:TS):Prop :=
  ∀ (pins:List (Addr × Obj)) (s:Shared) (σ:St) (H:Hp) (D:Ends),Inv X pins σ H s→t D σ H→wpAny (model X.prog X.w) X.A (exec st X.env) (SP X pins D) X.xe s
def PSs (X:Cx) (st:List Stmt) (t:TS):Prop :=
  ∀ (pins:List (Addr × Obj)) (s:Shared) (σ:St) (H:Hp) (D:Ends),Inv X pins σ H s→t D σ H→wpAny (model X.prog X.w) X.A (execs st X.env) (SP X pins D) X.xe s
theorem thn {α:Type} {t:Sem α} {Q Q' : α→Shared→Prop} {M:Model} {A:Around} {E:Value→Shared→Prop} {s:Shared} (h:wpAny M A t Q E s) (hQ:∀ a s,Q a s→Q' a s):wpAny M A t Q' E s:=wpAny_mono h hQ fun _ _ x=>x
end L2
namespace L2
open PySem PySem.Spec PyProof.Rows
section
variable {X:Cx}
def tVar (i:Nat):TE:=fun σ H Q=>∃ v,σ[i]?=some (some v)∧Q v H
def tC (v:V):TE:=fun _ H Q=>Q v H
theorem pe_var {i:Nat} {x:Str} {pos:Pos} (hN:X.N[i]?=some x) (hv:Vis X.env.scope x) (hd:(x == ("__debug__" : Str))=false:=by decide) (hcd:(x == ("__classdict__" : Str))=false:=by decide):PE X (.Name x pos) (tVar i):=by
  intro pins s σ H Q I h
  obtain ⟨v,e,h⟩:=h
  obtain ⟨m,hn,hl⟩:=I.loc
  obtain ⟨u,r,l⟩:=hl i x v hN e hv
  have fin:EP X pins σ Q u s:=⟨v,H,I,r,h⟩
  rcases l with ⟨hk,hm⟩ | ⟨hk,c,hc,hcell⟩
  · exact wpAny_Name (wpAny_loadName_local I.ok.kind hk hn hm fin) hd
  · rcases hk with hk | hk
    · exact wpAny_Name (wpAny_loadName_cell I.ok.kind hk hc hcell fin) hd
    · exact wpAny_Name (wpAny_loadName_free I.ok.kind hk hc hcell fin hcd) hd
theorem pe_int {i j pos} : PE X (.Constant (.int i) j pos) (tC (.int i)):=fun _ _ _ H _ I h=>wpAny_Constant_int ⟨.int i,H,I.tok _,⟨_,rfl⟩,h⟩
theorem pe_bl {b j pos} : PE X (.Constant (.bool b) j pos) (tC (.bl b)):=fun _ _ _ H _ I h=>Constant_bool ⟨.bl b,H,I,rfl,h⟩
theorem pe_non {j pos} : PE X (.Constant .none j pos) (tC .non):=fun _ _ _ H _ I h=>Constant_none ⟨.non,H,I,rfl,h⟩
theorem pe_str {x j pos} : PE X (.Constant (.str x) j pos) (tC (.str x)):=fun _ _ _ H _ I h=>Calls.Constant_str ⟨.str x,H,I.tok _,⟨_,rfl⟩,h⟩
def Gl (X:Cx) (x:Str):Prop:=X.env.kindOf x=some .globalImplicit
theorem ld_glob {E:Value→Shared→Prop} {pins:List (Addr × Obj)} {s:Shared} {σ:St} {H:Hp} {x:Str} {u:Value} {pos:Pos} {Q:Value→Shared→Prop} (I:Inv X pins σ H s) (hg:Gl X x) (hm:X.mg x=some u) (h:Q u s)
    (hd:(x == ("__debug__" : Str))=false:=by decide):wpAny (model X.prog X.w) X.A (eval (.Name x pos) X.env) Q E s :=
  Calls.Name_function_global I.ok.kind hg (Calls.loadGlobal_global (by rw [I.ok.glob];exact I.mod.glob.keeps I.bk) hm h) hd
theorem ld_blt {E:Value→Shared→Prop} {pins:List (Addr × Obj)} {s:Shared} {σ:St} {H:Hp} {x:Str} {u:Value} {pos:Pos} {Q:Value→Shared→Prop} (I:Inv X pins σ H s) (hg:Gl X x) (hm:X.mg x=none) (hv:bootBuiltins x=some u) (h:Q u s)
    (hn:x ≠ "__name__" := by decide) (hd:(x == ("__debug__" : Str))=false:=by decide):wpAny (model X.prog X.w) X.A (eval (.Name x pos) X.env) Q E s:=by
  obtain ⟨mb,h1,h2⟩:=I.mod.blt
  exact Calls.Name_function_global I.ok.kind hg (Calls.loadGlobal_builtin (by rw [I.ok.glob];exact I.mod.glob.keeps I.bk) hm (by rw [I.ok.blt];exact h1.keeps I.bk) ((h2 x hn).trans hv) h) hd
theorem pe_glob {x:Str} {v:V} {u:Value} {pos:Pos} (hg:Gl X x) (hm:X.mg x=some u) (r:RelV v u) (hd:(x == ("__debug__" : Str))=false:=by decide):PE X (.Name x pos) (tC v) :=
  fun _ _ _ H _ I h=>ld_glob I hg hm ⟨v,H,I,r,h⟩ hd
theorem pe_bltn {x:Str} {v:V} {u:Value} {pos:Pos} (hg:Gl X x) (hm:X.mg x=none) (hv:bootBuiltins x=some u) (r:RelV v u) (hn:x ≠ "__name__" := by decide) (hd:(x == ("__debug__" : Str))=false:=by decide):PE X (.Name x pos) (tC v) :=
  fun _ _ _ H _ I h=>ld_blt I hg hm hv ⟨v,H,I,r,h⟩ hn hd
def t2I (ta tb:TE) (k:Int→Int→Hp→Prop):St→Hp→Prop:=fun σ H=>ta σ H fun x H1=>tb σ H1 fun y H2=>∃ i j,x=.int i∧y=.int j∧k i j H2
def tAdd (ta tb:TE):TE:=fun σ H Q=>t2I ta tb (fun i j H2=>Q (.int (i+j)) H2) σ H
def tSub (ta tb:TE):TE:=fun σ H Q=>t2I ta tb (fun i j H2=>Q (.int (i - j)) H2) σ H
def tMul (ta tb:TE):TE:=fun σ H Q=>t2I ta tb (fun i j H2=>(-(2 ^ 64) < i∧i < 2 ^ 64)∧Q (.int (i * j)) H2) σ H
variable {a b:Expr} {ta tb:TE} {pos:Pos}
def PC (X:Cx) (op:CmpOp) (a b:Expr) (t:TE):Prop :=
  ∀ (pins:List (Addr × Obj)) (s:Shared) (σ:St) (H:Hp) (Q:VK),Inv X pins σ H s→t σ H Q →
    wpAny (model X.prog X.w) X.A (eval a X.env) (fun v s₁=>wpAny (model X.prog X.w) X.A (eval b X.env) (fun u s₂=>wpAny (model X.prog X.w) X.A (compareOp op v u) (EP X pins σ Q) X.xe s₂) X.xe s₁) X.xe s
def tCmp (p:Int→Int→Bool) (ta tb:TE):TE:=fun σ H Q=>t2I ta tb (fun i j H2=>Q (.bl (p i j)) H2) σ H
abbrev tLt:TE→TE→TE:=tCmp fun i j=>decide (i < j)
abbrev tLe:TE→TE→TE:=tCmp fun i j=>decide (i≤j)
abbrev tGt:TE→TE→TE:=tCmp fun i j=>decide (j < i)
abbrev tGe:TE→TE→TE:=tCmp fun i j=>decide (j≤i)
abbrev tEqI:TE→TE→TE:=tCmp fun i j=>decide (i=j)
abbrev tNeI:TE→TE→TE:=tCmp fun i j=>!decide (i=j)
def tIsN (ta:TE):TE:=fun σ H Q=>ta σ H fun x H1=>Q (.bl (decide (x=.non))) H1
def tNotN (ta:TE):TE:=fun σ H Q=>ta σ H fun x H1=>Q (.bl (!decide (x=.non))) H1
def tB (t:TE):TT:=fun σ H Q=>t σ H fun x H1=>∃ c,x=.bl c∧Q c H1
theorem pt_val {e:Expr} {t:TE} (h:PE X e t) (he:∀ whole,isTrue e X.env whole=(do let v ← whole;standAt e.pos;holding [v] (truthy v)):=by intro _;rfl):PT X e (tB t):=by
  intro pins s σ H Q I hw
  refine isTrue_plain (thn (h pins s σ H _ I hw) fun v s1 ⟨x,H1,I1,r1,q1⟩=>?_) (he _)
  obtain ⟨d,rfl,q⟩:=q1
  cases r1
  exact wpAny_truthy_bool ⟨H1,I1,q⟩
variable {tA tB' : TT} {rest:List Expr}
def tAnd (t u:TT):TT:=fun σ H Q=>t σ H fun c H1=>if c=true then u σ H1 Q else Q false H1
def tOr (t u:TT):TT:=fun σ H Q=>t σ H fun c H1=>if c=true then Q true H1 else u σ H1 Q
def tNot (t:TT):TT:=fun σ H Q=>t σ H fun c H1=>Q (!c) H1
theorem pw_and1 (ha:PT X a tA):PW X (.BoolOp .And [a] pos) tA:=by
  intro wh pins s σ H Q I h
  refine isTrue_and (thn (ha pins s σ H Q I h) fun c s1 e=>?_)
  cases c with
  | true=>exact isTrue_and_nil e
  | false=>exact e
theorem pw_or1 (ha:PT X a tA):PW X (.BoolOp .Or [a] pos) tA:=by
  intro wh pins s σ H Q I h
  refine isTrue_or (thn (ha pins s σ H Q I h) fun c s1 e=>?_)
  cases c with
  | false=>exact isTrue_or_nil e
  | true=>exact e
theorem pw_and (ha:PT X a tA) (hb:PW X (.BoolOp .And (b :: rest) pos) tB'):PW X (.BoolOp .And (a :: b :: rest) pos) (tAnd tA tB'):=by
  intro wh pins s σ H Q I h
  refine isTrue_and (thn (ha pins s σ H _ I h) fun c s1 ⟨H1,I1,q1⟩=>?_)
  cases c with
  | true=>exact hb wh pins s1 σ H1 Q I1 q1
  | false=>exact ⟨H1,I1,q1⟩
theorem pw_or (ha:PT X a tA) (hb:PW X (.BoolOp .Or (b :: rest) pos) tB'):PW X (.BoolOp .Or (a :: b :: rest) pos) (tOr tA tB'):=by
  intro wh pins s σ H Q I h
  refine isTrue_or (thn (ha pins s σ H _ I h) fun c s1 ⟨H1,I1,q1⟩=>?_)
  cases c with
  | true=>exact ⟨H1,I1,q1⟩
  | false=>exact hb wh pins s1 σ H1 Q I1 q1
theorem pt_not (ha:PT X a tA):PT X (.UnaryOp .Not a pos) (tNot tA):=by
  intro pins s σ H Q I h
  exact isTrue_not (ha pins s σ H (fun c H1=>Q (!c) H1) I h)
def tAndV (ta tb:TE):TE:=fun σ H Q=>ta σ H fun x H1=>∃ c,x=.bl c∧if c=true then tb σ H1 Q else Q (.bl false) H1
def tOrV (ta tb:TE):TE:=fun σ H Q=>ta σ H fun x H1=>∃ c,x=.bl c∧if c=true then Q (.bl true) H1 else tb σ H1 Q
def tNotV (ta:TE):TE:=fun σ H Q=>ta σ H fun x H1=>∃ c,x=.bl c∧Q (.bl (!c)) H1
theorem pe_one {op} {t:TE} (h:PE X a t):PE X (.BoolOp op [a] pos) t:=fun pins s σ H Q I hw=>BoolOp_one (h pins s σ H Q I hw)
theorem pe_and (ha:PE X a ta) (hb:PE X (.BoolOp .And (b :: rest) pos) tb):PE X (.BoolOp .And (a :: b :: rest) pos) (tAndV ta tb):=by
  intro pins s σ H Q I h
  refine BoolOp_and (thn (ha pins s σ H _ I h) fun v s1 ⟨x,H1,I1,r1,q1⟩=>?_)
  obtain ⟨c,rfl,q1⟩:=q1
  cases r1
  refine wpAny_truthy_bool ?_
  cases c with
  | true=>exact hb pins s1 σ H1 Q I1 q1
  | false=>exact ⟨.bl false,H1,I1,rfl,q1⟩
theorem pe_or (ha:PE X a ta) (hb:PE X (.BoolOp .Or (b :: rest) pos) tb):PE X (.BoolOp .Or (a :: b :: rest) pos) (tOrV ta tb):=by
  intro pins s σ H Q I h
  refine BoolOp_or (thn (ha pins s σ H _ I h) fun v s1 ⟨x,H1,I1,r1,q1⟩=>?_)
  obtain ⟨c,rfl,q1⟩:=q1
  cases r1
  refine wpAny_truthy_bool ?_
  cases c with
  | false=>exact hb pins s1 σ H1 Q I1 q1
  | true=>exact ⟨.bl true,H1,I1,rfl,q1⟩
theorem pe_not (ha:PE X a ta):PE X (.UnaryOp .Not a pos) (tNotV ta):=by
  intro pins s σ H Q I h
  refine UnaryOp_ (thn (ha pins s σ H _ I h) fun v s1 ⟨x,H1,I1,r1,q1⟩=>?_)
  obtain ⟨c,rfl,q1⟩:=q1
  cases r1
  exact not_of (wpAny_truthy_bool ⟨.bl (!c),H1,I1,rfl,q1⟩)
def tIf (t:TT) (ta tb:TE):TE:=fun σ H Q=>t σ H fun c H1=>if c=true then ta σ H1 Q else tb σ H1 Q
theorem pe_ifExp {c:Expr} (hc:PT X c tA) (ha:PE X a ta) (hb:PE X b tb):PE X (.IfExp c a b pos) (tIf tA ta tb):=by
  intro pins s σ H Q I h
  refine wpAny_IfExp (thn (hc pins s σ H _ I h) fun d s1 ⟨H1,I1,q1⟩=>?_)
  cases d with
  | true=>exact ha pins s1 σ H1 Q I1 q1
  | false=>exact hb pins s1 σ H1 Q I1 q1
end
end L2
namespace L2
open PySem PySem.Spec PyProof.Rows
def SqL (K:PySem.W.Frag) (H:Hp) (a:Addr) (xs:List V):Prop :=
  Rd H a (.lst xs) ∨
    ∃ (o:Obj) (its:Array Value) (n:Nat),K.lookup a=some o∧o.cls=.type "list" ∧ o.dict=none∧o.data=.seq its n∧its.size≤sizeLine∧Vals xs its.toList
def SqT (K:PySem.W.Frag) (H:Hp) (a:Addr) (xs:List V):Prop :=
  Rd H a (.tup xs) ∨
    ∃ (o:Obj) (its:Array Value) (n:Nat),K.lookup a=some o∧o.cls=.type "tuple" ∧ o.data=.seq its n∧its.size≤sizeLine∧Vals xs its.toList
def absV:Value→Option V
  | .none=>some .non
  | .bool b=>some (.bl b)
  | .int i _=>some (.int i)
  | .str x _=>some (.str x)
  | .bytes b _=>some (.byt b)
  | .float b _=>some (.flt b)
  | .ref a=>some (.ref a)
  | .type n=>some (.ty n)
  | _=>none
theorem RelV.abs {x:V} {u:Value} (r:RelV x u):absV u=some x:=by
  cases x with
  | non=>cases r;rfl
  | bl _=>cases r;rfl
  | int _=>obtain ⟨t,rfl⟩:=r;rfl
  | str _=>obtain ⟨t,rfl⟩:=r;rfl
  | byt _=>obtain ⟨t,rfl⟩:=r;rfl
  | flt _=>obtain ⟨t,rfl⟩:=r;rfl
  | ref _=>cases r;rfl
  | ty _=>cases r;rfl
theorem RelV.inj {x y:V} {u:Value} (r:RelV x u) (q:RelV y u):x=y:=Option.some.inj (r.abs.symm.trans q.abs)
theorem Vals.inj:∀ {xs ys:List V} {us:List Value},Vals xs us→Vals ys us→xs=ys
  | _,_,_,.nil,.nil=>rfl
  | _,_,_,.cons r t,.cons r' t'=>by rw [r.inj r',Vals.inj t t']
section
variable {X:Cx} {pins:List (Addr × Obj)} {σ:St} {H:Hp} {s:Shared} {a:Addr} {xs ys:List V}
theorem SqL.of {K:PySem.W.Frag} (h:H a=some (.lst xs)):SqL K H a xs:=.inl (.inl h)
theorem SqT.of {K:PySem.W.Frag} (h:H a=some (.tup xs)):SqT K H a xs:=.inl (.inl h)
theorem Inv.list (I:Inv X pins σ H s) (h:SqL X.K H a xs):∃ its:List Value,Vals xs its∧PlainL s.heap a its.toArray∧xs.length≤sizeLine:=by
  rcases h with h | ⟨o,its,n,hk,hc,hd,hs,hz,r⟩
  · obtain ⟨z,its,n,r,e⟩:=h.ok I.hok
    exact ⟨its,r,⟨_,n,e,rfl,rfl,rfl⟩,z⟩
  · refine ⟨its.toList,r,⟨o,n,I.kIn a o hk,hc,hd,by simpa using hs⟩,?_⟩
    have e:=r.length
    simp only [Array.length_toList] at e
    omega
theorem Inv.tuple (I:Inv X pins σ H s) (h:SqT X.K H a xs):∃ its:List Value,Vals xs its∧IsTup s.heap a its.toArray∧xs.length≤sizeLine:=by
  rcases h with h | ⟨o,its,n,hk,hc,hs,hz,r⟩
  · obtain ⟨z,its,r,p⟩:=h.ok I.hok
    exact ⟨its,r,p,z⟩
  · refine ⟨its.toList,r,⟨o,I.kIn a o hk,hc,n,by simpa using hs⟩,?_⟩
    have e:=r.length
    simp only [Array.length_toList] at e
    omega
theorem Inv.list_inj (I:Inv X pins σ H s) (h:SqL X.K H a xs) (h' : SqL X.K H a ys):xs=ys:=by
  obtain ⟨its,r,⟨o,n,e,_,_,d⟩,_⟩:=I.list h
  obtain ⟨its',r',⟨o',n',e',_,_,d'⟩,_⟩:=I.list h'
  rw [e] at e';cases e'
  rw [d] at d'
  injection d' with d1 _
  have:its=its':=by simpa using congrArg Array.toList d1
  subst this
  exact r.inj r'
theorem Inv.tuple_inj (I:Inv X pins σ H s) (h:SqT X.K H a xs) (h' : SqT X.K H a ys):xs=ys:=by
  obtain ⟨its,r,⟨o,e,_,n,d⟩,_⟩:=I.tuple h
  obtain ⟨its',r',⟨o',e',_,n',d'⟩,_⟩:=I.tuple h'
  rw [e] at e';cases e'
  rw [d] at d'
  injection d' with d1 _
  have:its=its':=by simpa using congrArg Array.toList d1
  subst this
  exact r.inj r'
end
abbrev Cx.wish (X:Cx) (E:Value→Shared→Prop):Cx:={ X with xe:=E }
abbrev Cx.nox (X:Cx):Cx:=X.wish fun _ _=>False
theorem Cx.Ok.wish {X:Cx} (ok:X.Ok) (E:Value→Shared→Prop):(X.wish E).Ok :=
  ⟨ok.mod,ok.kind,ok.glob,ok.blt,ok.above,ok.inj,ok.has,ok.cab,ok.hd,ok.frames,ok.stk,ok.exf,ok.bs,ok.bsz,ok.noex,ok.exfs,ok.funs,ok.frf⟩
theorem Cx.Ok.unwish {X:Cx} {E:Value→Shared→Prop} (ok:(X.wish E).Ok):X.Ok :=
  ⟨ok.mod,ok.kind,ok.glob,ok.blt,ok.above,ok.inj,ok.has,ok.cab,ok.hd,ok.frames,ok.stk,ok.exf,ok.bs,ok.bsz,ok.noex,ok.exfs,ok.funs,ok.frf⟩
section
variable {X:Cx} {pins:List (Addr × Obj)} {σ:St} {H:Hp} {s:Shared} {E:Value→Shared→Prop}
theorem Inv.wish (I:Inv X pins σ H s) (E:Value→Shared→Prop):Inv (X.wish E) pins σ H s:=⟨I.ok.wish E,I.os,I.bare,I.base,I.loc,I.cell,I.free,I.freeC,I.pin,I.hok,I.len⟩
theorem Inv.unwish (I:Inv (X.wish E) pins σ H s):Inv X pins σ H s:=⟨I.ok.unwish,I.os,I.bare,I.base,I.loc,I.cell,I.free,I.freeC,I.pin,I.hok,I.len⟩
theorem SP.unwish {D:Ends} {f:Flow} {s' : Shared} (h:SP (X.wish E) pins D f s'):SP X pins D f s':=by
  cases f with
  | next=>obtain ⟨σ',H',I,q⟩:=h;exact ⟨σ',H',I.unwish,q⟩
  | brk=>obtain ⟨σ',H',I,q⟩:=h;exact ⟨σ',H',I.unwish,q⟩
  | cont=>obtain ⟨σ',H',I,q⟩:=h;exact ⟨σ',H',I.unwish,q⟩
  | ret u=>obtain ⟨v,σ',H',I,r,q⟩:=h;exact ⟨v,σ',H',I.unwish,r,q⟩
theorem PSs.nox {st:List Stmt} {t:TS} (h:PSs X.nox st t):PSs X st t:=fun pins s σ H D I hw =>
  wpAny_mono (h pins s σ H D (I.wish _) hw) (fun _ _ q=>q.unwish) fun _ _ z=>False.elim z
end
section
variable {X:Cx} {st:Stmt} {rest:List Stmt} {t u:TS} {e:Expr} {te:TE} {pos:Pos}
def tNext:TS:=fun D σ H=>D.nx σ H
def tSeq (t u:TS):TS:=fun D σ H=>t { D with nx:=u D } σ H
theorem pss_nil:PSs X [] tNext:=fun _ _ σ H _ I h=>wpAny_execs_nil ⟨σ,H,I,h⟩
theorem pss_cons (h1:PS X st t) (h2:PSs X rest u):PSs X (st :: rest) (tSeq t u):=by
  intro pins s σ H D I h
  refine wpAny_execs_cons (thn (h1 pins s σ H { D with nx:=u D } I h) fun f s1 q=>?_)
  cases f with
  | next =>
    obtain ⟨σ',H',I',q⟩:=q
    exact h2 pins s1 σ' H' D I' q
  | ret v=>exact q
  | brk=>exact q
  | cont=>exact q
theorem pss_one (h1:PS X st t):PSs X [st] t:=by
  intro pins s σ H D I h
  refine wpAny_execs_cons (thn (h1 pins s σ H D I h) fun f s1 q=>?_)
  cases f with
  | next=>exact wpAny_execs_nil q
  | ret v=>exact q
  | brk=>exact q
  | cont=>exact q
def tBreak:TS:=fun D σ H=>D.bk σ H
def tCont:TS:=fun D σ H=>D.ct σ H
theorem ps_continue:PS X (.Continue pos) tCont:=fun _ _ σ H _ I h=>wpAny_Continue ⟨σ,H,I,h⟩
theorem Inv.quiet {pins:List (Addr × Obj)} {σ:St} {H:Hp} {s:Shared} (I:Inv X pins σ H s):interactive X.env=false:=by simp [interactive,I.ok.kind]
def tDrop (te:TE):TS:=fun D σ H=>te σ H fun _ H1=>D.nx σ H1
theorem ps_expr (he:PE X e te) (hs:swapsWith e none pos.line X.env=pure false:=by rfl):PS X (.Expr e pos) (tDrop te):=by
  intro pins s σ H D I h
  exact wpAny_Expr_any (thn (he pins s σ H _ I h) fun v s1 ⟨x,H1,I1,r1,q1⟩=>⟨σ,H1,I1,q1⟩) I.quiet hs
def tRet (te:TE):TS:=fun D σ H=>te σ H D.rt
theorem ps_ret (he:PE X e te):PS X (.Return (some e) pos) (tRet te):=by
  intro pins s σ H D I h
  exact wpAny_Return_some (thn (he pins s σ H _ I h) fun v s1 ⟨x,H1,I1,r1,q1⟩=>⟨x,σ,H1,I1,r1,q1⟩)
def tRetN:TS:=fun D _ H=>D.rt .non H
def tIfS (c:TT) (t u:TS):TS:=fun D σ H=>c σ H fun b H1=>if b=true then t D σ H1 else u D σ H1
theorem ps_if {c:Expr} {a b:List Stmt} {tc:TT} (hc:PT X c tc) (ha:PSs X a t) (hb:PSs X b u):PS X (.If c a b pos) (tIfS tc t u):=by
  intro pins s σ H D I h
  refine wpAny_If (thn (hc pins s σ H _ I h) fun d s1 ⟨H1,I1,q1⟩=>?_)
  cases d with
  | true=>exact ha pins s1 σ H1 D I1 q1
  | false=>exact hb pins s1 σ H1 D I1 q1
def tNever:TS:=fun _ _ _=>False
theorem ps_never:PS X st tNever:=fun _ _ _ _ _ _ h=>h.elim
end
abbrev TG:=V→St→Hp→(St→Hp→Prop)→Prop
abbrev TGs:=List V→St→Hp→(St→Hp→Prop)→Prop
def PG (X:Cx) (target:Expr) (t:TG):Prop :=
  ∀ (pins:List (Addr × Obj)) (s:Shared) (σ:St) (H:Hp) (v:V) (u:Value) (Q:St→Hp→Prop),Inv X pins σ H s→RelV v u→t v σ H Q →
    wpAny (model X.prog X.w) X.A (assign target X.env u) (fun _ s'=>∃ σ' H',Inv X pins σ' H' s'∧Q σ' H') X.xe s
def PGs (X:Cx) (ts:List Expr) (t:TGs):Prop :=
  ∀ (pins:List (Addr × Obj)) (s:Shared) (σ:St) (H:Hp) (vs:List V) (us:List Value) (Q:St→Hp→Prop),Inv X pins σ H s→Vals vs us→t vs σ H Q →
    wpAny (model X.prog X.w) X.A (assignInOrder ((assignEach ts X.env).map (·.2)) us) (fun _ s'=>∃ σ' H',Inv X pins σ' H' s'∧Q σ' H') X.xe s
abbrev TSet:=V→V→V→Hp→(Hp→Prop)→Prop
def PSet (X:Cx) (t:TSet):Prop :=
  ∀ (pins:List (Addr × Obj)) (s:Shared) (σ:St) (H:Hp) (o i v:V) (ov iv u:Value) (Q:Hp→Prop),Inv X pins σ H s→RelV o ov→RelV i iv→RelV v u→t o i v H Q →
    wpAny (model X.prog X.w) X.A (setItem ov iv u) (fun _ s'=>∃ H',Inv X pins σ H' s'∧Q H') X.xe s
abbrev TIp:=V→V→Hp→VK→Prop
def PIp (X:Cx) (op:Operator) (t:TIp):Prop :=
  ∀ (pins:List (Addr × Obj)) (s:Shared) (σ:St) (H:Hp) (x y:V) (v u:Value) (Q:VK),Inv X pins σ H s→RelV x v→RelV y u→t x y H Q →
    wpAny (model X.prog X.w) X.A (inplaceOp op v u) (EP X pins σ Q) X.xe s
section
variable {X:Cx} {pos:Pos}
def gName (i:Nat):TG:=fun v σ H Q=>Q (σ.set i (some v)) H
theorem pg_name {i:Nat} {x:Str} (hN:X.N.Nodup) (hi:X.N[i]?=some x) (hx:Loc X.env.scope x) (hf:X.fn x=true∨X.env.scope.names.lookup x=some .local:=by first | exact .inl rfl | exact .inr rfl | assumption):PG X (.Name x pos) (gName i):=by
  intro pins s σ H v u Q I r h
  exact wpAny_assign_Name (store_ok I hN hi hx r (fun s' I'=>⟨_,H,I',h⟩) hf)
def gNil:TGs:=fun vs σ H Q=>vs=[]∧Q σ H
def gCons (t:TG) (u:TGs):TGs:=fun vs σ H Q=>∃ v r,vs=v :: r∧t v σ H fun σ' H'=>u r σ' H' Q
theorem pgs_nil:PGs X [] gNil:=by
  intro pins s σ H vs us Q I r h
  obtain ⟨e,h⟩:=h
  subst e
  cases r
  exact assignInOrder_nil ⟨σ,H,I,h⟩
theorem pgs_cons {e:Expr} {es:List Expr} {t:TG} {u:TGs} (h1:PG X e t) (h2:PGs X es u)
    (hs:(assignEach (e :: es) X.env).map (·.2)=assign e X.env :: (assignEach es X.env).map (·.2):=by rfl):PGs X (e :: es) (gCons t u):=by
  intro pins s σ H vs us Q I r h
  obtain ⟨v,vr,e1,h⟩:=h
  subst e1
  cases r with
  | cons r rr =>
    rw [hs]
    refine assignInOrder_cons (thn (h1 pins s σ H _ _ _ I r h) fun _ s1 ⟨σ1,H1,I1,q1⟩=>?_)
    exact h2 pins s1 σ1 H1 _ _ Q I1 rr q1
def gTup (K:PySem.W.Frag) (n:Nat) (t:TGs):TG:=fun v σ H Q=>∃ a xs,v=.ref a∧SqT K H a xs∧xs.length=n∧t xs σ H Q
theorem pg_tup {es:List Expr} {k:Nat} {t:TGs} {n:Nat} (hc:X.calm=true) (h:PGs X es t)
    (hn:(assignEach es X.env).length=n:=by rfl) (hst:(assignEach es X.env).findIdx? (·.1)=none:=by rfl):PG X (.Tuple es k pos) (gTup X.K n t):=by
  intro pins s σ H v u Q I r hw
  obtain ⟨a,xs,e1,hq,hl,hw⟩:=hw
  subst e1
  cases r
  obtain ⟨its,rv,ht,hz⟩:=I.tuple hq
  refine assign_Tuple_tuple (I.ok.hd hc) ht (by simp [hn,← hl,rv.length]) hst fun h' hx=>?_
  have I1:Inv X pins σ H { s with heap:=h' }:=I.kept (t':=s.toks) fun b o e=>hx b o (Nat.ne_of_lt (Heap.lt_size e)) e
  exact h pins _ σ H xs _ Q I1 (by simpa using rv) hw
def gSub (to ti:TE) (t:TSet):TG:=fun v σ H Q=>to σ H fun o H1=>ti σ H1 fun i H2=>t o i v H2 fun H3=>Q σ H3
theorem pg_sub {o i:Expr} {to ti:TE} {t:TSet} (ho:PE X o to) (hi:PE X i ti) (hs:PSet X t)
    (ha:∀ v,assign (.Subscript o i pos) X.env v=(do
      let ov ← holding [v] (eval o X.env)
      let iv ← holding [v,ov] (eval i X.env)
      standAt pos
      holding [v,ov,iv] (setItem ov iv v)
      release [v,ov,iv] []):=by intro _;rfl):PG X (.Subscript o i pos) (gSub to ti t):=by
  intro pins s σ H v u Q I r h
  rw [ha]
  refine wpAny_bind (wpAny_holding (thn (ho pins s σ H _ I h) fun ov s1 ⟨x,H1,I1,r1,q1⟩=>?_))
  refine wpAny_bind (wpAny_holding (thn (hi pins s1 σ H1 _ I1 q1) fun iv s2 ⟨y,H2,I2,r2,q2⟩=>?_))
  refine wpAny_bind (wpAny_standAt (wpAny_bind (wpAny_holding (thn (hs pins s2 σ H2 x y v ov iv u _ I2 r1 r2 r q2) fun _ s3 ⟨H3,I3,q3⟩=>?_))))
  exact wpAny_release ⟨σ,H3,I3,q3⟩
def tAsg (te:TE) (g:TG):TS:=fun D σ H=>te σ H fun x H1=>g x σ H1 D.nx
theorem ps_asg {tg e:Expr} {te:TE} {g:TG} (he:PE X e te) (hg:PG X tg g) (hs:swapsWithSole [tg] e pos.line X.env=pure false:=by rfl) (hw:swappedStores [tg] e X.env=pure none:=by rfl)
    (h1:(assignEach [tg] X.env).map (·.2)=[assign tg X.env]:=by rfl):PS X (.Assign [tg] e pos) (tAsg te g):=by
  intro pins s σ H D I h
  refine wpAny_Assign_stores (thn (he pins s σ H _ I h) fun v s1 ⟨x,H1,I1,r1,q1⟩=>?_) hs hw
  rw [h1]
  exact thn (hg pins s1 σ H1 x v _ I1 r1 q1) fun _ s2 q=>q
theorem ps_set {i:Nat} {x:Str} {e:Expr} {te:TE} {pos' : Pos} (hN:X.N.Nodup) (hi:X.N[i]?=some x) (hx:Loc X.env.scope x) (he:PE X e te) (hs:swapsWith e (some (.Name x pos')) pos.line X.env=pure false:=by rfl) (hf:X.fn x=true∨X.env.scope.names.lookup x=some .local:=by first | exact .inl rfl | exact .inr rfl | assumption) :
    PS X (.Assign [.Name x pos'] e pos) (tAsg te (gName i)):=by
  intro pins s σ H D I h
  refine wpAny_Assign_Name (thn (he pins s σ H _ I h) fun v s1 ⟨y,H1,I1,r1,q1⟩=>?_) hs
  exact store_ok I1 hN hi hx r1 (fun s2 I2=>⟨_,H1,I2,q1⟩) hf
def tPar (i j:Nat) (ta:TA):TS:=fun D σ H=>ta σ H fun vs H1=>∃ v w,vs=[v,w]∧D.nx ((σ.set i (some v)).set j (some w)) H1
def tAug (i:Nat) (te:TE) (ti:TIp):TS:=fun D σ H=>∃ x,σ[i]?=some (some x)∧te σ H fun y H1=>ti x y H1 fun z H2=>D.nx (σ.set i (some z)) H2
theorem ps_aug {i:Nat} {x:Str} {e:Expr} {te:TE} {op:Operator} {ti:TIp} {pos' : Pos} (hN:X.N.Nodup) (hi:X.N[i]?=some x) (hx:Loc X.env.scope x) (he:PE X e te) (ho:PIp X op ti) (hf:X.fn x=true∨X.env.scope.names.lookup x=some .local:=by first | exact .inl rfl | exact .inr rfl | assumption) :
    PS X (.AugAssign (.Name x pos') op e pos) (tAug i te ti):=by
  intro pins s σ H D I h
  obtain ⟨v,e1,h⟩:=h
  obtain ⟨m,hn,hl⟩:=I.loc
  have vis:Vis X.env.scope x:=by rcases hx with k | k;exact .inl k;exact .inr (.inl k)
  obtain ⟨u,r,l⟩:=hl i x v hi e1 vis
  refine wpAny_AugAssign_Name ?_
  have go:wpAny (model X.prog X.w) X.A (eval e X.env) (fun w s₂=>wpAny (model X.prog X.w) X.A (inplaceOp op u w) (fun r s₃=>wpAny (model X.prog X.w) X.A (storeName X.env x r) (fun _=>SP X pins D .next) X.xe s₃) X.xe s₂) X.xe s:=by
    refine thn (he pins s σ H _ I h) fun w s1 ⟨y,H1,I1,r1,q1⟩=>?_
    refine thn (ho pins s1 σ H1 v y u w _ I1 r r1 q1) fun z s2 ⟨zv,H2,I2,r2,q2⟩=>?_
    exact store_ok I2 hN hi hx r2 (fun s3 I3=>⟨_,H2,I3,q2⟩) hf
  rcases l with ⟨hk,hm⟩ | ⟨hk,c,hc,hcell⟩
  · exact wpAny_loadName_local I.ok.kind hk hn hm go
  · rcases hk with hk | hk
    · exact wpAny_loadName_cell I.ok.kind hk hc hcell go
    · rcases hx with k | k
      · have:X.env.scope.names.lookup x=some .free:=hk
        rw [k] at this;cases this
      · have:X.env.scope.names.lookup x=some .free:=hk
        rw [k] at this;cases this
def tAugS (to ti te:TE) (tget:V→V→Hp→VK→Prop) (tip:TIp) (tset:TSet):TS:=fun D σ H=>to σ H fun o H1=>ti σ H1 fun i H2=>tget o i H2 fun x H3=>te σ H3 fun y H4=>tip x y H4 fun z H5=>tset o i z H5 fun H6=>D.nx σ H6
def PGet (X:Cx) (t:V→V→Hp→VK→Prop):Prop :=
  ∀ (pins:List (Addr × Obj)) (s:Shared) (σ:St) (H:Hp) (o i:V) (ov iv:Value) (Q:VK),Inv X pins σ H s→RelV o ov→RelV i iv→t o i H Q →
    wpAny (model X.prog X.w) X.A (getItem ov iv) (EP X pins σ Q) X.xe s
def ipI (f:Int→Int→Int):TIp:=fun x y H Q=>∃ i j,x=.int i∧y=.int j∧Q (.int (f i j)) H
theorem ip_add:PIp X .Add (ipI fun i j=>i+j):=by
  intro pins s σ H x y v u Q I r1 r2 h
  obtain ⟨i,j,e1,e2,q⟩:=h
  subst e1;subst e2
  obtain ⟨t,rfl⟩:=r1
  obtain ⟨t',rfl⟩:=r2
  exact iadd_int ⟨.int _,H,I.tok _,⟨_,rfl⟩,q⟩
end
section
variable {X:Cx} {pos:Pos}
def tWhile (c:TT) (tb:TS):TS:=fun D σ H=>∃ W:Nat→St→Hp→Prop,(∃ m,W m σ H)∧∀ m σ H,W m σ H →
  c σ H fun b H1=>if b=true then ∃ N:St→Hp→Prop,(∀ σ' H',N σ' H'→∃ m',m' < m∧W m' σ' H')∧tb { D with nx:=N,ct:=N,bk:=D.nx } σ H1 else D.nx σ H1
theorem ps_while {c:Expr} {body:List Stmt} {tc:TT} {tb:TS} (hp:PassesOwn (model X.prog X.w) X.A X.env X.xe) (hc:PT X c tc) (hb:PSs X body tb):PS X (.While c body [] pos) (tWhile tc tb):=by
  intro pins s σ H D I h
  obtain ⟨W,⟨m0,w0⟩,turn⟩:=h
  refine wpAny_While (codeAny_whileLoop (fun n s'=>∃ σ' H',Inv X pins σ' H' s'∧W n σ' H') ?_ m0 ⟨σ,H,I,w0⟩)
  rintro n s1 ⟨σ1,H1,I1,w1⟩
  refine wpAny_passesOwn hp (thn (hc pins s1 σ1 H1 _ I1 (turn n σ1 H1 w1)) fun b s2 ⟨H2,I2,q2⟩=>?_)
  cases b with
  | true =>
    obtain ⟨N,hN,q2⟩:=q2
    rw [if_pos rfl]
    refine wpAny_passesOwn hp (thn (hb pins s2 σ1 H2 _ I2 q2) fun f s3 q3=>?_)
    cases f with
    | next =>
      obtain ⟨σ3,H3,I3,n3⟩:=q3
      obtain ⟨m',hm,w3⟩:=hN σ3 H3 n3
      exact ⟨m',hm,σ3,H3,I3,w3⟩
    | cont =>
      obtain ⟨σ3,H3,I3,n3⟩:=q3
      obtain ⟨m',hm,w3⟩:=hN σ3 H3 n3
      exact ⟨m',hm,σ3,H3,I3,w3⟩
    | brk=>exact q3
    | ret v=>exact q3
  | false =>
    rw [if_neg Bool.false_ne_true]
    exact wpAny_execs_nil ⟨σ1,H2,I2,q2⟩
end
structure It where
  go:Nat→Hp→Prop
  yld:Nat→Hp→V→Hp→Prop
  stop:Nat→Hp→Prop
def FpOk (X:Cx) (pins:List (Addr × Obj)) (H:Hp) (b:Addr):Prop :=
  H b=none∧b ≠ X.env.locals∧b ∉ X.fs∧(b ∈ X.ex∨X.s₀.heap.objs.size≤b)∧(∀ x c,X.env.cells.lookup x=some c→c ≠ b)∧∀ p ∈ X.pn ++ pins,p.1 ≠ b
theorem Inv.fpOk {X:Cx} {pins:List (Addr × Obj)} {σ:St} {H H' : Hp} {s:Shared} {b:Addr} (I:Inv X pins σ H s) (hb:s.heap.objs.size≤b) (hn:H' b=none):FpOk X pins H' b:=by
  refine ⟨hn,Nat.ne_of_gt (Nat.lt_of_lt_of_le I.lt hb),I.nofs hb,.inr (Nat.le_trans I.sz hb),fun x c e z=>?_,fun p hp z=>?_⟩
  · obtain ⟨v,q⟩:=I.cell x c e
    exact absurd (Nat.lt_of_lt_of_le q.lt (by rw [z];exact hb)) (Nat.lt_irrefl _)
  · exact absurd (Nat.lt_of_lt_of_le (Heap.lt_size (I.pin p hp).1) (by rw [z];exact hb)) (Nat.lt_irrefl _)
structure Turn (P:Program) (w:World) (K:PySem.W.Frag) (tg:Expr) (J:It) (fp:List Addr) (it:Addr) (tn:Nat→Heap→Prop):Prop where
  mem:it ∈ fp
  obj:∀ i h,tn i h→∀ b ∈ fp,∃ o,h.get? b=some o∧∀ v,o.data ≠ .cell v
  keep:∀ i h h',tn i h→(∀ b ∈ fp,∀ o,h.get? b=some o→h'.get? b=some o)→tn i h'
  item:∀ (X:Cx),X.prog=P→X.w=w→X.K=K→X.calm=true→∀ (i:Nat) (pins:List (Addr × Obj)) (s:Shared) (σ:St) (H:Hp) (E:Value→Shared→Prop),Inv X pins σ H s→(∀ b ∈ fp,FpOk X pins H b)→tn i s.heap→J.go i H →
    wpAny (model P w) X.A (pyNext (.ref it)) (fun r s1=>∃ u,r=some u ∧
      wpAny (model P w) X.A (letOwnedTupleGo tg (.ref it) u) (fun _ s2=>∃ x H',Inv X pins σ H' s2∧RelV x u∧J.yld i H x H'∧tn (i+1) s2.heap∧∀ b ∈ fp,H' b=none) E s1) E s
  done:∀ (X:Cx),X.prog=P→X.w=w→X.K=K→X.calm=true→∀ (i:Nat) (pins:List (Addr × Obj)) (s:Shared) (σ:St) (H:Hp) (E:Value→Shared→Prop),Inv X pins σ H s→(∀ b ∈ fp,FpOk X pins H b)→tn i s.heap→J.stop i H →
    wpAny (model P w) X.A (pyNext (.ref it)) (fun r s1=>r=none∧Inv X pins σ H s1) E s
  self:∀ (A:Around) (i:Nat) (s:Shared) (Q:Value→Shared→Prop) (E:Value→Shared→Prop),tn i s.heap→Q (.ref it) s→wpAny (model P w) A (pyIter (.ref it)) Q E s
abbrev TI:=St→Hp→(It→Hp→Prop)→Prop
def PIE (X:Cx) (pins:List (Addr × Obj)) (σ:St) (tg:Expr) (R:It→Hp→Prop) (itv:Value) (s2:Shared):Prop :=
  ∃ (it:Addr) (fp:List Addr) (tn:Nat→Heap→Prop) (J:It) (H' : Hp),itv=.ref it∧Inv X pins σ H' s2∧Turn X.prog X.w X.K tg J fp it tn∧tn 0 s2.heap∧(∀ b ∈ fp,FpOk X pins H' b)∧R J H'
def PI (X:Cx) (tg iter:Expr) (wi:TI):Prop :=
  ∀ (pins:List (Addr × Obj)) (s:Shared) (σ:St) (H:Hp) (R:It→Hp→Prop),Inv X pins σ H s→wi σ H R →
    wpAny (model X.prog X.w) X.A (eval iter X.env) (fun v s1=>wpAny (model X.prog X.w) X.A (pyIter v) (PIE X pins σ tg R) X.xe s1) X.xe s
theorem go_of {M:Model} {A:Around} {E:Value→Shared→Prop} {s:Shared} {tg:Expr} {it:Addr} {u:Value} {o:Obj} {n:String} {vs:Array Value} {Q:Unit→Shared→Prop} (ho:s.heap.get? it=some o) (hc:o.cls=.type n) (hd:o.data=.fields vs)
    (hn:["enumerate", "zip", "dict_itemiterator", "dict_reverseitemiterator", "odict_iterator", "itertools.zip_longest", "itertools.pairwise"].contains n=false) (hQ:Q () s):wpAny M A (letOwnedTupleGo tg (.ref it) u) Q E s:=by
  unfold letOwnedTupleGo
  cases tg <;> first
    | exact wpAny_pure hQ
    | (cases u <;> first
        | exact wpAny_pure hQ
        | (refine wpAny_bind (wpAny_load ho ?_)
           rw [hc,hd]
           show wpAny M A (if (["enumerate", "zip", "dict_itemiterator", "dict_reverseitemiterator", "odict_iterator", "itertools.zip_longest", "itertools.pairwise"].contains n && vs[0]? == some (rawInt _))=true then _ else _) Q E s
           rw [if_neg (by intro h;rw [hn,Bool.false_and] at h;cases h)]
           exact wpAny_pure hQ))
def Itl (K:PySem.W.Frag) (a:Addr):It :=
  ⟨fun i H=>∃ xs x,SqL K H a xs∧xs[i]?=some x,fun i H x H'=>H'=H∧∀ xs,SqL K H a xs→xs[i]?=some x,fun i H=>∃ xs,SqL K H a xs∧xs.length≤i⟩
def Itt (K:PySem.W.Frag) (a:Addr):It :=
  ⟨fun i H=>∃ xs x,SqT K H a xs∧xs[i]?=some x,fun i H x H'=>H'=H∧∀ xs,SqT K H a xs→xs[i]?=some x,fun i H=>∃ xs,SqT K H a xs∧xs.length≤i⟩
def Itr (lo:Int) (n:Nat):It:=⟨fun i _=>i < n,fun i H x H'=>H'=H∧x=.int (lo+i),fun i _=>n≤i⟩
theorem turn_list {P:Program} {w:World} {K:PySem.W.Frag} {tg:Expr} (a it:Addr):Turn P w K tg (Itl K a) [it] it (fun i h=>h.IsListIter it a i) where
  mem:=by simp
  obj:=fun i h st b hb=>by
    have e:b=it:=by simpa using hb
    subst e
    obtain ⟨o,e,c,d⟩:=st
    exact ⟨o,e,fun v z=>by rw [d] at z;cases z⟩
  keep:=fun i h h' st k=>st.at fun o e=>k it (by simp) o e
  item:=by
    intro X hP hw hK hc i pins s σ H E I hf st hg
    subst hP hw hK
    obtain ⟨xs,x,hq,hx⟩:=hg
    obtain ⟨its,rv,p,hz⟩:=I.list hq
    obtain ⟨u,hu,ru⟩:=rv.get hx
    obtain ⟨f0,f1,f2,f3,f4,f5⟩:=hf it (by simp)
    refine wpAny_pyNext_list_item st p.isList (x:=u) (by simpa using hu) fun h' st' sb=>?_
    have I1:Inv X pins σ H { s with heap:=h' }:=I.turned (t':=s.toks) (fun b o hb e=>(sb.2 b hb).trans e) f0 f1 f3 f4 f5
    obtain ⟨o,e,c,d⟩:=id st'
    exact ⟨u,rfl,go_of (s:={ s with heap:=h' }) e c d (by decide) ⟨x,H,I1,ru,⟨rfl,fun ys hy=>by rw [I.list_inj hy hq];exact hx⟩,st',fun b hb=>(hf b hb).1⟩⟩
  done:=by
    intro X hP hw hK hc i pins s σ H E I hf st hg
    subst hP hw hK
    obtain ⟨xs,hq,hx⟩:=hg
    obtain ⟨its,rv,p,hz⟩:=I.list hq
    obtain ⟨f0,f1,f2,f3,f4,f5⟩:=hf it (by simp)
    have hl:=rv.length
    exact wpAny_pyNext_list_end (I.ok.hd hc) st p.isList (by simp;omega) fun h' eb=>⟨rfl,I.turned (t':=s.toks) (fun b o hb e=>eb b o hb e) f0 f1 f3 f4 f5⟩
  self:=fun _ _ _ _ _ st h=>wpAny_pyIter_listiter st h
theorem turn_range {P:Program} {w:World} {K:PySem.W.Frag} {tg:Expr} (it:Addr) (lo:Int) (n:Nat):Turn P w K tg (Itr lo n) [it] it (fun i h=>IsRangeIter h it (lo+(i:Nat) * 1) ((n:Int) - (i:Nat)) 1) where
  mem:=by simp
  obj:=fun i h st b hb=>by
    have e:b=it:=by simpa using hb
    subst e
    exact ⟨_,st,fun v z=>by
      have z' : Data.fields _=Data.cell v:=z
      cases z'⟩
  keep:=fun i h h' st k=>k it (by simp) _ st
  item:=by
    intro X hP hw hK hc i pins s σ H E I hf st hg
    subst hP hw hK
    obtain ⟨f0,f1,f2,f3,f4,f5⟩:=hf it (by simp)
    have W:=Walks.range (prog:=X.prog) (w:=X.w) (I.ok.hd hc) it lo 1 n
    refine W.item i s _ _ hg st fun v h' tk hv st' kk=>?_
    obtain ⟨t,rfl⟩:=hv
    have I1:Inv X pins σ H { s with heap:=h',toks:=tk }:=I.turned (fun b o hb e=>kk b o (by simpa using hb) e) f0 f1 f3 f4 f5
    refine ⟨_,rfl,go_of (s:={ s with heap:=h',toks:=tk }) (n := "range_iterator") st' rfl rfl (by decide) ⟨.int (lo+i),H,I1,⟨t,?_⟩,⟨rfl,rfl⟩,st',fun b hb=>(hf b hb).1⟩⟩
    rw [Int.mul_one]
  done:=by
    intro X hP hw hK hc i pins s σ H E I hf st hg
    subst hP hw hK
    obtain ⟨f0,f1,f2,f3,f4,f5⟩:=hf it (by simp)
    exact wpAny_pyNext_range_end (I.ok.hd hc) st (by have:n≤i:=hg;omega) fun h' eb=>⟨rfl,I.turned (t':=s.toks) (fun b o hb e=>eb b o hb e) f0 f1 f3 f4 f5⟩
  self:=fun _ _ _ _ _ st h=>wpAny_pyIter_rangeiter st h
end L2
namespace L2
open PySem PySem.Spec PyProof.Rows
section
variable {X:Cx} {tg:Expr}
def iList (K:PySem.W.Frag) (tl:TE):TI:=fun σ H R=>tl σ H fun x H1=>∃ a,x=.ref a∧(∃ xs,SqL K H1 a xs)∧R (Itl K a) H1
def iTup (K:PySem.W.Frag) (tl:TE):TI:=fun σ H R=>tl σ H fun x H1=>∃ a,x=.ref a∧(∃ xs,SqT K H1 a xs)∧R (Itt K a) H1
theorem pi_list {l:Expr} {tl:TE} (hl:PE X l tl):PI X tg l (iList X.K tl):=by
  intro pins s σ H R I h
  refine thn (hl pins s σ H _ I h) fun v s1 ⟨x,H1,I1,r1,q1⟩=>?_
  obtain ⟨a,e,⟨xs,hq⟩,q⟩:=q1
  subst e
  cases r1
  obtain ⟨its,rv,p,hz⟩:=I1.list hq
  refine wpAny_pyIter_list p.isList ?_
  refine ⟨s1.heap.objs.size,[s1.heap.objs.size],_,_,H1,rfl,I1.kept (t':=s1.toks) fun b o e=>Heap.get?_push_of_some _ e,turn_list a _,⟨_,Heap.get?_push_size _ rfl,rfl,rfl⟩,fun b hb=>?_,q⟩
  have e:b=s1.heap.objs.size:=by simpa using hb
  subst e
  exact I1.fpOk (Nat.le_refl _) (I1.hok.fresh (Nat.le_refl _))
theorem range_it {pins:List (Addr × Obj)} {σ:St} {H:Hp} {s:Shared} {R:It→Hp→Prop} {E:Value→Shared→Prop} {lo hi:Int} {t u v:Tok} {tk:Nat} (I:Inv X pins σ H s) (h1 : -(2 ^ 62)≤lo) (h2:lo < 2 ^ 62) (h3 : -(2 ^ 62)≤hi) (h4:hi < 2 ^ 62)
    (q:R (Itr lo (hi - lo).toNat) H):wpAny (model X.prog X.w) X.A (pyIter (.ref s.heap.objs.size)) (PIE X pins σ tg R) E { s with heap:=s.heap.push { cls:=.type "range",data:=.fields #[.int lo t,.int hi u,.int 1 v] },toks:=tk }:=by
  refine wpAny_pyIter_range (IsRange.new ..) (small_one h1 h2 h3 h4) ?_
  have I1:Inv X pins σ H { s with heap:=s.heap.push { cls:=.type "range",data:=.fields #[.int lo t,.int hi u,.int 1 v] },toks:=tk }:=I.kept fun b o e=>Heap.get?_push_of_some _ e
  refine ⟨(s.heap.push { cls:=.type "range",data:=.fields #[.int lo t,.int hi u,.int 1 v] }).objs.size,[(s.heap.push { cls:=.type "range",data:=.fields #[.int lo t,.int hi u,.int 1 v] }).objs.size],_,_,H,rfl,
    I1.kept (t':=tk) fun b o e=>Heap.get?_push_of_some _ e,turn_range _ lo (hi - lo).toNat,?_,fun b hb=>?_,q⟩
  · have e1:lo+((0:Nat):Int) * 1=lo:=by simp
    have e2:(((hi - lo).toNat:Nat):Int) - ((0:Nat):Int)=Builtin.Range.rangeSize lo hi 1:=by rw [rangeSize_one];split <;> omega
    show IsRangeIter _ _ (lo+((0:Nat):Int) * 1) ((((hi - lo).toNat:Nat):Int) - ((0:Nat):Int)) 1
    rw [e1,e2]
    exact Heap.get?_push_size _ rfl
  · have e:b=(s.heap.push { cls:=.type "range",data:=.fields #[.int lo t,.int hi u,.int 1 v] }).objs.size:=by simpa using hb
    subst e
    exact I1.fpOk (Nat.le_refl _) (I1.hok.fresh (Nat.le_refl _))
def iRng1 (ta:TA):TI:=fun σ H R=>ta σ H fun vs H1=>∃ j:Int,vs=[.int j]∧-(2 ^ 62)≤j∧j < 2 ^ 62∧R (Itr 0 j.toNat) H1
def iRng2 (ta:TA):TI:=fun σ H R=>ta σ H fun vs H1=>∃ i j:Int,vs=[.int i,.int j]∧(-(2 ^ 62)≤i∧i < 2 ^ 62∧-(2 ^ 62)≤j∧j < 2 ^ 62)∧R (Itr i (j - i).toNat) H1
theorem pi_range1 {a:Expr} {ta:TA} {p pos:Pos} (hg:Gl X "range") (hm:X.mg "range" = none) (ha:PA X [a] ta) (hs:starEach [a] X.env=[(false,eval a X.env)]:=by rfl):PI X tg (.Call (.Name "range" p) [a] [] pos) (iRng1 ta):=by
  intro pins s σ H R I h
  refine Call_ (ld_blt I hg hm boot_range (PyProof.Rows.callWith_type1 (thn (ha pos pins s σ H _ I h) fun us s1 ⟨vs,H1,I1,r1,q1⟩=>?_) hs rfl))
  obtain ⟨j,e,q1,q2,q⟩:=q1
  subst e
  cases r1 with
  | cons r rr =>
    cases rr
    obtain ⟨t,rfl⟩:=r
    exact call_range_1 (range_it I1 (by omega) (by omega) q1 q2 (by simpa using q))
def tFor (wi:TI) (g:TG) (tb:TS):TS:=fun D σ H=>wi σ H fun J H1=>∃ W:Nat→Nat→St→Hp→Prop,(∃ m,W 0 m σ H1)∧∀ i m σ H,W i m σ H →
  (J.stop i H∧D.nx σ H)∨(J.go i H∧∃ N:St→Hp→Prop,(∀ σ' H',N σ' H'→∃ m',m' < m∧W (i+1) m' σ' H')∧∀ x H',J.yld i H x H'→g x σ H' fun σ2 H2=>tb { D with nx:=N,ct:=N,bk:=D.nx } σ2 H2)
def pinsAt (fp:List Addr) (h:Heap):List (Addr × Obj):=fp.filterMap fun b=>(h.get? b).map fun o=>(b,o)
theorem mem_pinsAt {fp:List Addr} {h:Heap} {b:Addr} {o:Obj} (hb:b ∈ fp) (e:h.get? b=some o):(b,o) ∈ pinsAt fp h:=List.mem_filterMap.mpr ⟨b,hb,by rw [e];rfl⟩
theorem of_pinsAt {fp:List Addr} {h:Heap} {p:Addr × Obj} (hp:p ∈ pinsAt fp h):p.1 ∈ fp∧h.get? p.1=some p.2:=by
  obtain ⟨b,hb,e⟩:=List.mem_filterMap.mp hp
  cases q:h.get? b with
  | none=>rw [q] at e;cases e
  | some o =>
    rw [q] at e
    have e' : (b,o)=p:=Option.some.inj e
    subst e'
    exact ⟨hb,q⟩
theorem Inv.pinned {pins:List (Addr × Obj)} {σ:St} {H:Hp} {s:Shared} {fp:List Addr} (I:Inv X pins σ H s) (hf:∀ b ∈ fp,FpOk X pins H b) (ho:∀ b ∈ fp,∃ o,s.heap.get? b=some o∧∀ v,o.data ≠ .cell v):Inv X (pins ++ pinsAt fp s.heap) σ H s :=
  I.pins_of fun p hp=>(List.mem_append.mp hp).elim (fun z=>I.pin p (List.mem_append_right _ z)) fun z=>by
    obtain ⟨hb,e⟩:=of_pinsAt z
    obtain ⟨f0,f1,f2,_⟩:=hf p.1 hb
    obtain ⟨o,e',d⟩:=ho p.1 hb
    rw [e] at e';cases e'
    exact ⟨e,f0,f1,f2,d⟩
theorem Inv.unpinned {pins pl:List (Addr × Obj)} {σ:St} {H:Hp} {s:Shared} (I:Inv X (pins ++ pl) σ H s):Inv X pins σ H s:=I.pins_of fun p hp=>I.pin p (List.mem_append_right _ (List.mem_append_left _ hp))
theorem ps_for {iter:Expr} {body:List Stmt} {wi:TI} {g:TG} {tb:TS} {pos:Pos} (hp:PassesOwn (model X.prog X.w) X.A X.env X.xe) (hc:X.calm=true) (hi:PI X tg iter wi) (hg:PG X tg g) (hb:PSs X body tb)
    (hs:∀ x,foldedSetIterable iter X.env x=pure x:=by intro _;rfl):PS X (.For tg iter body [] pos) (tFor wi g tb):=by
  intro pins s σ H D I h
  refine wpAny_For (thn (hi pins s σ H _ I h) fun v s1 h1=>thn h1 fun itv s2 h2=>?_) hs
  obtain ⟨it,fp,tn,J,H2,e,I2,T,st2,f2,W,⟨m0,w0⟩,turn⟩:=h2
  subst e
  have stat:∀ {H' : Hp},(∀ b ∈ fp,H' b=none)→∀ b ∈ fp,FpOk X pins H' b:=fun hn b hb=>⟨hn b hb,(f2 b hb).2⟩
  refine codeAny_forLoop_any (fun n s'=>∃ i σ' H',Inv X pins σ' H' s'∧tn i s'.heap∧(∀ b ∈ fp,H' b=none)∧W i n σ' H') ?_ m0 ⟨0,σ,H2,I2,st2,fun b hb=>(f2 b hb).1,w0⟩
  rintro n s3 ⟨i,σ3,H3,I3,st3,fr3,w3⟩
  rcases turn i n σ3 H3 w3 with ⟨stop,qn⟩ | ⟨go,N,hN,step⟩
  · refine wpAny_passesOwn hp (thn (T.done X rfl rfl rfl hc i pins s3 σ3 H3 X.xe I3 (stat fr3) st3 stop) fun r s4 ⟨hr,I4⟩=>?_)
    subst hr
    exact wpAny_execs_nil ⟨σ3,H3,I4,qn⟩
  · refine wpAny_passesOwn hp (thn (T.item X rfl rfl rfl hc i pins s3 σ3 H3 X.xe I3 (stat fr3) st3 go) fun r s4 ⟨u,hr,h4⟩=>?_)
    subst hr
    refine wpAny_passesOwn hp (thn h4 fun _ s5 ⟨x,H5,I5,r5,y5,st5,fr5⟩=>?_)
    have I5':=I5.pinned (stat fr5) (T.obj _ _ st5)
    refine wpAny_passesOwn hp (thn (hg _ s5 σ3 H5 x u _ I5' r5 (step x H5 y5)) fun _ s6 ⟨σ6,H6,I6,q6⟩=>?_)
    refine wpAny_passesOwn hp (thn (hb _ s6 σ6 H6 _ I6 q6) fun f s7 q7=>?_)
    have again:∀ {σ7:St} {H7:Hp},Inv X (pins ++ pinsAt fp s5.heap) σ7 H7 s7→N σ7 H7→∃ m,m < n∧∃ i σ' H',Inv X pins σ' H' s7∧tn i s7.heap∧(∀ b ∈ fp,H' b=none)∧W i m σ' H':=fun {σ7 H7} I7 n7=>by
      obtain ⟨m',hm,w7⟩:=hN σ7 H7 n7
      refine ⟨m',hm,i+1,σ7,H7,I7.unpinned,T.keep _ _ _ st5 fun b hb o e=>(I7.pin (b,o) (List.mem_append_right _ (List.mem_append_right _ (mem_pinsAt hb e)))).1,fun b hb=>?_,w7⟩
      obtain ⟨o,e,d⟩:=T.obj _ _ st5 b hb
      exact (I7.pin (b,o) (List.mem_append_right _ (List.mem_append_right _ (mem_pinsAt hb e)))).2.1
    cases f with
    | next=>obtain ⟨σ7,H7,I7,n7⟩:=q7;exact again I7 n7
    | cont=>obtain ⟨σ7,H7,I7,n7⟩:=q7;exact again I7 n7
    | brk=>obtain ⟨σ7,H7,I7,q7⟩:=q7;exact ⟨σ7,H7,I7.unpinned,q7⟩
    | ret v=>obtain ⟨x7,σ7,H7,I7,r7,q7⟩:=q7;exact ⟨x7,σ7,H7,I7.unpinned,r7,q7⟩
end
theorem for_list {K:PySem.W.Frag} {a:Addr} {xs:List V} {g:TG} {tb:TS} {D:Ends} {σ:St} {H:Hp} (Pv:Nat→St→Hp→Prop) (h0:Pv 0 σ H) (hl:∀ i σ H,i≤xs.length→Pv i σ H→SqL K H a xs)
    (hs:∀ i x σ H,xs[i]?=some x→Pv i σ H→g x σ H fun σ2 H2=>tb { D with nx:=Pv (i+1),ct:=Pv (i+1),bk:=D.nx } σ2 H2) (hd:∀ σ H,Pv xs.length σ H→D.nx σ H) :
    ∃ W:Nat→Nat→St→Hp→Prop,(∃ m,W 0 m σ H)∧∀ i m σ H,W i m σ H →
      ((Itl K a).stop i H∧D.nx σ H)∨((Itl K a).go i H∧∃ N:St→Hp→Prop,(∀ σ' H',N σ' H'→∃ m',m' < m∧W (i+1) m' σ' H')∧∀ x H',(Itl K a).yld i H x H'→g x σ H' fun σ2 H2=>tb { D with nx:=N,ct:=N,bk:=D.nx } σ2 H2):=by
  refine ⟨fun i m σ H=>m=xs.length - i∧i≤xs.length∧Pv i σ H,⟨xs.length,by simp,Nat.zero_le _,h0⟩,?_⟩
  rintro i m σ H ⟨rfl,hi,p⟩
  have q:=hl i σ H hi p
  by_cases hlt:i < xs.length
  · refine .inr ⟨⟨xs,xs[i],q,by simp [hlt]⟩,Pv (i+1),fun σ' H' p'=>⟨xs.length - (i+1),by omega,rfl,hlt,p'⟩,fun x H' y=>?_⟩
    obtain ⟨e,y⟩:=y
    subst e
    exact hs i x σ _ (y xs q) p
  · have e:i=xs.length:=by omega
    subst e
    exact .inl ⟨⟨xs,q,Nat.le_refl _⟩,hd σ H p⟩
theorem for_range {lo:Int} {n:Nat} {g:TG} {tb:TS} {D:Ends} {σ:St} {H:Hp} (Pv:Nat→St→Hp→Prop) (h0:Pv 0 σ H)
    (hs:∀ i σ H,i < n→Pv i σ H→g (.int (lo+i)) σ H fun σ2 H2=>tb { D with nx:=Pv (i+1),ct:=Pv (i+1),bk:=D.nx } σ2 H2) (hd:∀ σ H,Pv n σ H→D.nx σ H) :
    ∃ W:Nat→Nat→St→Hp→Prop,(∃ m,W 0 m σ H)∧∀ i m σ H,W i m σ H →
      ((Itr lo n).stop i H∧D.nx σ H)∨((Itr lo n).go i H∧∃ N:St→Hp→Prop,(∀ σ' H',N σ' H'→∃ m',m' < m∧W (i+1) m' σ' H')∧∀ x H',(Itr lo n).yld i H x H'→g x σ H' fun σ2 H2=>tb { D with nx:=N,ct:=N,bk:=D.nx } σ2 H2):=by
  refine ⟨fun i m σ H=>m=n - i∧i≤n∧Pv i σ H,⟨n,by simp,Nat.zero_le _,h0⟩,?_⟩
  rintro i m σ H ⟨rfl,hi,p⟩
  by_cases hlt:i < n
  · refine .inr ⟨hlt,Pv (i+1),fun σ' H' p'=>⟨n - (i+1),by omega,rfl,hlt,p'⟩,fun x H' y=>?_⟩
    obtain ⟨e,y⟩:=y
    subst e y
    exact hs i σ _ hlt p
  · have e:i=n:=by omega
    subst e
    exact .inl ⟨Nat.le_refl _,hd σ H p⟩
end L2
namespace L2
open PySem PySem.Spec PyProof.Rows
abbrev R2:=V→V→Hp→VK→Prop
def OpR (X:Cx) (f:Value→Value→Sem Value) (r:R2):Prop :=
  ∀ (pins:List (Addr × Obj)) (s:Shared) (σ:St) (H:Hp) (x y:V) (v u:Value) (Q:VK),Inv X pins σ H s→RelV x v→RelV y u→r x y H Q →
    wpAny (model X.prog X.w) X.A (f v u) (EP X pins σ Q) X.xe s
def UnR (X:Cx) (f:Value→Sem Value) (r:V→Hp→VK→Prop):Prop :=
  ∀ (pins:List (Addr × Obj)) (s:Shared) (σ:St) (H:Hp) (x:V) (v:Value) (Q:VK),Inv X pins σ H s→RelV x v→r x H Q →
    wpAny (model X.prog X.w) X.A (f v) (EP X pins σ Q) X.xe s
def CallR (X:Cx) (f:Value) (r:List V→Hp→VK→Prop):Prop :=
  ∀ (pins:List (Addr × Obj)) (s:Shared) (σ:St) (H:Hp) (xs:List V) (us:List Value) (Q:VK),Inv X pins σ H s→Vals xs us→r xs H Q →
    wpAny (model X.prog X.w) X.A (call f us) (EP X pins σ Q) X.xe s
def TruR (X:Cx) (r:V→Hp→(Bool→Hp→Prop)→Prop):Prop :=
  ∀ (pins:List (Addr × Obj)) (s:Shared) (σ:St) (H:Hp) (x:V) (v:Value) (Q:Bool→Hp→Prop),Inv X pins σ H s→RelV x v→r x H Q →
    wpAny (model X.prog X.w) X.A (truthy v) (TP X pins σ Q) X.xe s
def tOp (r:R2) (ta tb:TE):TE:=fun σ H Q=>ta σ H fun x H1=>tb σ H1 fun y H2=>r x y H2 Q
def tUn (r:V→Hp→VK→Prop) (ta:TE):TE:=fun σ H Q=>ta σ H fun x H1=>r x H1 Q
def rI (C:Int→Int→Prop) (g:Int→Int→V):R2:=fun x y H Q=>∃ i j,x=.int i∧y=.int j∧C i j∧Q (g i j) H
def rI0 (g:Int→Int→V):R2:=fun x y H Q=>∃ i j,x=.int i∧y=.int j∧Q (g i j) H
def rU (g:Int→V):V→Hp→VK→Prop:=fun x H Q=>∃ i,x=.int i∧Q (g i) H
section
variable {X:Cx} {a b c:Expr} {ta tb tc:TE} {pos:Pos}
theorem binT (ha:PE X a ta) (hb:PE X b tb) {pins:List (Addr × Obj)} {s:Shared} {σ:St} {H:Hp} {R:V→V→Hp→Prop} (I:Inv X pins σ H s)
    (h:ta σ H fun x H1=>tb σ H1 fun y H2=>R x y H2) {Q:Value→Shared→Prop} {f:Value→Value→Sem Value}
    (hf:∀ v u s2 x y H2,Inv X pins σ H2 s2→RelV x v→RelV y u→R x y H2→wpAny (model X.prog X.w) X.A (f v u) Q X.xe s2) :
    wpAny (model X.prog X.w) X.A (eval a X.env) (fun v s₁=>wpAny (model X.prog X.w) X.A (eval b X.env) (fun u s₂=>wpAny (model X.prog X.w) X.A (f v u) Q X.xe s₂) X.xe s₁) X.xe s:=by
  refine thn (ha pins s σ H _ I h) fun v s1 ⟨x,H1,I1,r1,q1⟩=>?_
  refine thn (hb pins s1 σ H1 _ I1 q1) fun u s2 ⟨y,H2,I2,r2,q2⟩=>?_
  exact hf v u s2 x y H2 I2 r1 r2 q2
theorem pe_op {op:Operator} {r:R2} (ho:OpR X (binaryOp op) r) (ha:PE X a ta) (hb:PE X b tb):PE X (.BinOp a op b pos) (tOp r ta tb):=by
  intro pins s σ H Q I h
  exact wpAny_BinOp (binT ha hb I h fun v u s2 x y H2 I2 rx ry q=>ho pins s2 σ H2 x y v u Q I2 rx ry q)
theorem pe_un {op:UnaryOp} {r:V→Hp→VK→Prop} (ho:UnR X (unaryOp op) r) (ha:PE X a ta):PE X (.UnaryOp op a pos) (tUn r ta):=by
  intro pins s σ H Q I h
  exact UnaryOp_ (thn (ha pins s σ H _ I h) fun v s1 ⟨x,H1,I1,r1,q1⟩=>ho pins s1 σ H1 x v Q I1 r1 q1)
theorem opI {f:Value→Value→Sem Value} {C:Int→Int→Prop} {g:Int→Int→Int}
    (rule:∀ (i j:Int) (t u:Tok) (s:Shared) (Q:Value→Shared→Prop) (E:Value→Shared→Prop),C i j→Q (.int (g i j) s.toks) { s with toks:=s.toks+1 }→wpAny (model X.prog X.w) X.A (f (.int i t) (.int j u)) Q E s) :
    OpR X f (rI C fun i j=>.int (g i j)):=by
  intro pins s σ H x y v u Q I rx ry h
  obtain ⟨i,j,rfl,rfl,hc,q⟩:=h
  obtain ⟨t,rfl⟩:=rx
  obtain ⟨t',rfl⟩:=ry
  exact rule i j t t' s _ _ hc ⟨.int (g i j),H,I.tok _,⟨_,rfl⟩,q⟩
theorem opI0 {f:Value→Value→Sem Value} {g:Int→Int→Int}
    (rule:∀ (i j:Int) (t u:Tok) (s:Shared) (Q:Value→Shared→Prop) (E:Value→Shared→Prop),Q (.int (g i j) s.toks) { s with toks:=s.toks+1 }→wpAny (model X.prog X.w) X.A (f (.int i t) (.int j u)) Q E s) :
    OpR X f (rI0 fun i j=>.int (g i j)):=by
  intro pins s σ H x y v u Q I rx ry h
  obtain ⟨i,j,rfl,rfl,q⟩:=h
  obtain ⟨t,rfl⟩:=rx
  obtain ⟨t',rfl⟩:=ry
  exact rule i j t t' s _ _ ⟨.int (g i j),H,I.tok _,⟨_,rfl⟩,q⟩
theorem opB0 {f:Value→Value→Sem Value} {g:Int→Int→Bool}
    (rule:∀ (i j:Int) (t u:Tok) (s:Shared) (Q:Value→Shared→Prop) (E:Value→Shared→Prop),Q (.bool (g i j)) s→wpAny (model X.prog X.w) X.A (f (.int i t) (.int j u)) Q E s) :
    OpR X f (rI0 fun i j=>.bl (g i j)):=by
  intro pins s σ H x y v u Q I rx ry h
  obtain ⟨i,j,rfl,rfl,q⟩:=h
  obtain ⟨t,rfl⟩:=rx
  obtain ⟨t',rfl⟩:=ry
  exact rule i j t t' s _ _ ⟨.bl (g i j),H,I,rfl,q⟩
def CDiv (i j:Int):Prop:=0 < j∧j < 1073741824
def CDivN (i j:Int):Prop:=j ≠ 0∧j.natAbs < 1073741824
def CPow (i j:Int):Prop:=0≤j∧j≤1000000∧i.natAbs < 2 ^ 64
def CMul (i j:Int):Prop:=(-(2 ^ 64) < i∧i < 2 ^ 64)∨(-(2 ^ 64) < j∧j < 2 ^ 64)
theorem CMul.ok {i j:Int} (h:CMul i j):IntMulOk i j:=by
  rcases h with ⟨h1,h2⟩ | ⟨h1,h2⟩
  · exact .of_left (intBits_le_64 h1 h2)
  · exact .of_right (intBits_le_64 h1 h2)
theorem two_pow_nn (k:Nat):(0:Int)≤2 ^ k:=by
  rw [two_pow_cast]
  exact Int.natCast_nonneg _
theorem op_add:OpR X (binaryOp .Add) (rI0 fun i j=>.int (i+j)):=opI0 fun _ _ _ _ _ _ _ q=>add_int q
theorem op_sub:OpR X (binaryOp .Sub) (rI0 fun i j=>.int (i - j)):=opI0 fun _ _ _ _ _ _ _ q=>sub_int q
theorem op_mul:OpR X (binaryOp .Mult) (rI CMul fun i j=>.int (i * j)):=opI fun _ _ _ _ _ _ _ hc q=>mul_int q hc.ok
theorem op_fdiv:OpR X (binaryOp .FloorDiv) (rI CDiv fun i j=>.int (i / j)):=opI fun i j _ _ _ _ _ hc q=>by
  have h1:(0:Int) < j:=hc.1
  have h2:j < 1073741824:=hc.2
  exact floordiv_int (by omega) (by rw [Int.fdiv_eq_ediv_of_nonneg i (by omega)];exact q) (.inl (PyProof.noPylong_small (by omega)))
theorem op_mod:OpR X (binaryOp .Mod) (rI (fun _ j=>0 < j) fun i j=>.int (i % j)):=opI fun i j _ _ _ _ _ hc q=>by
  have h1:(0:Int) < j:=hc
  exact mod_int' (by omega) (by rw [Int.fmod_eq_emod_of_nonneg i (by omega)];exact q)
theorem op_pow:OpR X (binaryOp .Pow) (rI CPow fun i j=>.int (i ^ j.toNat)):=opI fun _ _ _ _ _ _ _ hc q=>pow_int_small hc.1 hc.2.1 hc.2.2 q
theorem op_shl:OpR X (binaryOp .LShift) (rI CPow fun i j=>.int (i * 2 ^ j.toNat)):=opI fun _ _ _ _ _ _ _ hc q=>lshift_int_small hc.1 hc.2.1 hc.2.2 q
theorem op_shr:OpR X (binaryOp .RShift) (rI (fun _ j=>0≤j) fun i j=>.int (i / 2 ^ j.toNat)):=opI fun i j _ _ _ _ _ hc q =>
  rshift_int hc (by rw [Int.fdiv_eq_ediv_of_nonneg i (two_pow_nn _)];exact q)
theorem op_and:OpR X (binaryOp .BitAnd) (rI0 fun i j=>.int (Builtin.bitAnd i j)):=opI0 fun _ _ _ _ _ _ _ q=>and_int q
theorem op_or:OpR X (binaryOp .BitOr) (rI0 fun i j=>.int (Builtin.bitOr i j)):=opI0 fun _ _ _ _ _ _ _ q=>or_int q
theorem unI {f:Value→Sem Value} {g:Int→Int}
    (rule:∀ (i:Int) (t:Tok) (s:Shared) (Q:Value→Shared→Prop) (E:Value→Shared→Prop),Q (.int (g i) s.toks) { s with toks:=s.toks+1 }→wpAny (model X.prog X.w) X.A (f (.int i t)) Q E s) :
    UnR X f (rU fun i=>.int (g i)):=by
  intro pins s σ H x v Q I rx h
  obtain ⟨i,rfl,q⟩:=h
  obtain ⟨t,rfl⟩:=rx
  exact rule i t s _ _ ⟨.int (g i),H,I.tok _,⟨_,rfl⟩,q⟩
theorem un_neg:UnR X (unaryOp .USub) (rU fun i=>.int (-i)):=unI fun _ _ _ _ _ q=>neg_int q
end
def scal:V→V→Bool
  | .non,.non=>true | .non,.int _=>true | .int _,.non=>true | .non,.bl _=>true | .bl _,.non=>true | .non,.str _=>true | .str _,.non=>true
  | .int _,.int _=>true | .bl _,.bl _=>true | .str _,.str _=>true | .byt _,.byt _=>true
  | .int _,.str _=>true | .str _,.int _=>true | .bl _,.str _=>true | .str _,.bl _=>true
  | _,_=>false
def rEq:R2:=fun x y H Q=>scal x y=true∧Q (.bl (decide (x=y))) H
def rNe:R2:=fun x y H Q=>scal x y=true∧Q (.bl (!decide (x=y))) H
theorem dec_int {i j:Int} : decide (V.int i=V.int j)=(i == j):=by
  rw [Bool.eq_iff_iff]
  simp
theorem dec_bl {i j:Bool} : decide (V.bl i=V.bl j)=(i == j):=by
  rw [Bool.eq_iff_iff]
  simp
theorem dec_str {i j:Str} : decide (V.str i=V.str j)=(i == j):=by
  rw [Bool.eq_iff_iff]
  simp
theorem dec_byt {i j:Array UInt8} : decide (V.byt i=V.byt j)=(i.toList == j.toList):=by
  rw [Bool.eq_iff_iff]
  cases i
  cases j
  simp
section
variable {X:Cx} {a b c:Expr} {ta tb tc:TE} {pos:Pos}
theorem fin_bl {pins:List (Addr × Obj)} {σ:St} {H:Hp} {s:Shared} {Q:VK} {k k' : Bool} (I:Inv X pins σ H s) (q:Q (.bl k) H) (e:k=k'):EP X pins σ Q (.bool k') s:=by
  subst e
  exact ⟨.bl k,H,I,rfl,q⟩
theorem op_eq:OpR X (compareOp .Eq) rEq:=by
  intro pins s σ H x y v u Q I rx ry h
  obtain ⟨hs,q⟩:=h
  cases x with
  | non =>
    cases rx
    cases y with
    | non=>cases ry;exact PySem.EqNone.eq_none_none (fin_bl I q (by simp))
    | bl j=>cases ry;exact PySem.EqNone.eq_none_bool (fin_bl I q (by simp))
    | int j=>obtain ⟨t',rfl⟩:=ry;exact PySem.EqNone.eq_none_int (fin_bl I q (by simp))
    | str j=>obtain ⟨t',rfl⟩:=ry;exact PySem.EqNone.eq_none_str (fin_bl I q (by simp))
    | _=>exact absurd (show false=true from hs) Bool.false_ne_true
  | bl i =>
    cases rx
    cases y with
    | non=>cases ry;exact PySem.EqNone.eq_bool_none (fin_bl I q (by simp))
    | bl j=>cases ry;exact eq_bool (fin_bl I q dec_bl)
    | str j=>obtain ⟨t',rfl⟩:=ry;exact PySem.EqMixed.eq_bool_str (fin_bl I q (by simp))
    | _=>exact absurd (show false=true from hs) Bool.false_ne_true
  | int i =>
    obtain ⟨t,rfl⟩:=rx
    cases y with
    | non=>cases ry;exact PySem.EqNone.eq_int_none (fin_bl I q (by simp))
    | int j=>obtain ⟨t',rfl⟩:=ry;exact eq_int (fin_bl I q dec_int)
    | str j=>obtain ⟨t',rfl⟩:=ry;exact PySem.EqMixed.eq_int_str (fin_bl I q (by simp))
    | _=>exact absurd (show false=true from hs) Bool.false_ne_true
  | str i =>
    obtain ⟨t,rfl⟩:=rx
    cases y with
    | non=>cases ry;exact PySem.EqNone.eq_str_none (fin_bl I q (by simp))
    | bl j=>cases ry;exact PySem.EqMixed.eq_str_bool (fin_bl I q (by simp))
    | int j=>obtain ⟨t',rfl⟩:=ry;exact PySem.EqMixed.eq_str_int (fin_bl I q (by simp))
    | str j=>obtain ⟨t',rfl⟩:=ry;exact eq_str (fin_bl I q dec_str)
    | _=>exact absurd (show false=true from hs) Bool.false_ne_true
  | byt i =>
    obtain ⟨t,rfl⟩:=rx
    cases y with
    | byt j=>obtain ⟨t',rfl⟩:=ry;exact PySem.W.eq_bytes (fin_bl I q dec_byt)
    | _=>exact absurd (show false=true from hs) Bool.false_ne_true
  | _=>cases y <;> exact absurd (show false=true from hs) Bool.false_ne_true
theorem op_ne:OpR X (compareOp .NotEq) rNe:=by
  intro pins s σ H x y v u Q I rx ry h
  obtain ⟨hs,q⟩:=h
  cases x with
  | non =>
    cases rx
    cases y with
    | non=>cases ry;exact PySem.EqNone.ne_none_none (fin_bl I q (by simp))
    | bl j=>cases ry;exact PySem.EqNone.ne_none_bool (fin_bl I q (by simp))
    | int j=>obtain ⟨t',rfl⟩:=ry;exact PySem.EqNone.ne_none_int (fin_bl I q (by simp))
    | str j=>obtain ⟨t',rfl⟩:=ry;exact PySem.EqNone.ne_none_str (fin_bl I q (by simp))
    | _=>exact absurd (show false=true from hs) Bool.false_ne_true
  | bl i =>
    cases rx
    cases y with
    | non=>cases ry;exact PySem.EqNone.ne_bool_none (fin_bl I q (by simp))
    | bl j=>cases ry;exact ne_bool (fin_bl I q (congrArg not dec_bl))
    | str j=>obtain ⟨t',rfl⟩:=ry;exact PySem.EqMixed.ne_bool_str (fin_bl I q (by simp))
    | _=>exact absurd (show false=true from hs) Bool.false_ne_true
  | int i =>
    obtain ⟨t,rfl⟩:=rx
    cases y with
    | non=>cases ry;exact PySem.EqNone.ne_int_none (fin_bl I q (by simp))
    | int j=>obtain ⟨t',rfl⟩:=ry;exact ne_int (fin_bl I q (congrArg not dec_int))
    | str j=>obtain ⟨t',rfl⟩:=ry;exact PySem.EqMixed.ne_int_str (fin_bl I q (by simp))
    | _=>exact absurd (show false=true from hs) Bool.false_ne_true
  | str i =>
    obtain ⟨t,rfl⟩:=rx
    cases y with
    | non=>cases ry;exact PySem.EqNone.ne_str_none (fin_bl I q (by simp))
    | bl j=>cases ry;exact PySem.EqMixed.ne_str_bool (fin_bl I q (by simp))
    | int j=>obtain ⟨t',rfl⟩:=ry;exact PySem.EqMixed.ne_str_int (fin_bl I q (by simp))
    | str j=>obtain ⟨t',rfl⟩:=ry;exact ne_str (fin_bl I q (congrArg not dec_str))
    | _=>exact absurd (show false=true from hs) Bool.false_ne_true
  | byt i =>
    obtain ⟨t,rfl⟩:=rx
    cases y with
    | byt j=>obtain ⟨t',rfl⟩:=ry;exact PySem.W.ne_bytes (fin_bl I q (congrArg not dec_byt))
    | _=>exact absurd (show false=true from hs) Bool.false_ne_true
  | _=>cases y <;> exact absurd (show false=true from hs) Bool.false_ne_true
theorem op_lt:OpR X (compareOp .Lt) (rI0 fun i j=>.bl (decide (i < j))):=opB0 fun _ _ _ _ _ _ _ q=>lt_int q
theorem op_le:OpR X (compareOp .LtE) (rI0 fun i j=>.bl (decide (i≤j))):=opB0 fun _ _ _ _ _ _ _ q=>le_int q
theorem op_gt:OpR X (compareOp .Gt) (rI0 fun i j=>.bl (decide (j < i))):=opB0 fun _ _ _ _ _ _ _ q=>gt_int q
theorem op_notN:OpR X (compareOp .IsNot) (fun x y H Q=>y=.non∧Q (.bl (!decide (x=.non))) H):=by
  intro pins s σ H x y v u Q I rx ry h
  obtain ⟨rfl,q⟩:=h
  cases ry
  refine isnot_none_gen (fin_bl I q ?_)
  cases x <;> first
    | (cases rx;rfl)
    | (obtain ⟨t,rfl⟩:=rx;rfl)
theorem op_notin_str:OpR X (compareOp .NotIn) (fun x y H Q=>∃ i j,x=.str i∧y=.str j∧Q (.bl (!(!(Builtin.Str.occurrences j i 0 j.length 1).isEmpty))) H):=by
  intro pins s σ H x y v u Q I rx ry h
  obtain ⟨i,j,rfl,rfl,q⟩:=h
  obtain ⟨t,rfl⟩:=rx
  obtain ⟨t',rfl⟩:=ry
  exact notIn_str (fin_bl I q rfl)
def isObj:HO→Bool
  | .lst _=>true
  | .ins _ _ _=>true
  | _=>false
theorem nomark (b:Expr) {op:CmpOp} (h:op ≠ .In:=by decide) (h2:op ≠ .NotIn:=by decide):behindInMarks op b=false:=by
  have e1:(op == CmpOp.In)=false:=by cases op <;> first | rfl | exact absurd rfl h
  have e2:(op == CmpOp.NotIn)=false:=by cases op <;> first | rfl | exact absurd rfl h2
  cases b <;> simp [behindInMarks,e1,e2]
theorem pe_cmpR {op:CmpOp} {r:R2} (ho:OpR X (compareOp op) r) (ha:PE X a ta) (hb:PE X b tb) (hm:behindInMarks op b=false):PE X (.Compare a [op] [b] pos) (tOp r ta tb):=by
  intro pins s σ H Q I h
  exact wpAny_Compare1 (binT ha hb I h fun v u s2 x y H2 I2 rx ry q=>ho pins s2 σ H2 x y v u Q I2 rx ry q) hm
def tTest (t:TE):TT:=fun σ H Q=>t σ H fun x H'=>∃ k,x=.bl k∧Q k H'
theorem pt_cmpR {op:CmpOp} {r:R2} (ho:OpR X (compareOp op) r) (ha:PE X a ta) (hb:PE X b tb) (hm:behindInMarks op b=false):PT X (.Compare a [op] [b] pos) (tTest (tOp r ta tb)):=by
  intro pins s σ H Q I h
  refine wpAny_isTrue_Compare1 (thn (ha pins s σ H _ I h) fun v s1 ⟨x,H1,I1,r1,q1⟩=>thn (hb pins s1 σ H1 _ I1 q1) fun u s2 ⟨y,H2,I2,r2,q2⟩ =>
    thn (ho pins s2 σ H2 x y v u _ I2 r1 r2 q2) fun c s3 ⟨z,H3,I3,r3,k,e,q3⟩=>?_) hm
  subst e
  cases r3
  exact wpAny_truthy_bool ⟨H3,I3,q3⟩
def tChain (r r' : R2) (ta tb tc:TE):TE:=fun σ H Q=>ta σ H fun x H1=>tb σ H1 fun y H2=>r x y H2 fun z H3=>∃ k,z=.bl k ∧
  (if k=true then tc σ H3 fun w' H4=>r' y w' H4 Q else Q (.bl false) H3)
theorem pe_chain {op op' : CmpOp} {r r' : R2} (ho:OpR X (compareOp op) r) (ho' : OpR X (compareOp op') r') (ha:PE X a ta) (hb:PE X b tb) (hc:PE X c tc)
    (hm:lastMarks [op,op'] [b,c]=false:=by with_unfolding_all rfl):PE X (.Compare a [op,op'] [b,c] pos) (tChain r r' ta tb tc):=by
  intro pins s σ H Q I h
  refine Compare_chain (thn (ha pins s σ H _ I h) fun v s1 ⟨x,H1,I1,r1,q1⟩=>chain_link (thn (hb pins s1 σ H1 _ I1 q1) fun u s2 ⟨y,H2,I2,r2,q2⟩ =>
    thn (ho pins s2 σ H2 x y v u _ I2 r1 r2 q2) fun d s3 ⟨z,H3,I3,r3,k,e,q3⟩=>?_)) hm
  subst e
  cases r3
  refine wpAny_truthy_bool ?_
  cases k with
  | false=>exact ite_ff ⟨.bl false,H3,I3,rfl,q3⟩
  | true=>exact ite_tt (chain_last (thn (hc pins s3 σ H3 _ I3 q3) fun w' s4 ⟨z',H4,I4,r4,q4⟩=>ho' pins s4 σ H4 y z' u w' Q I4 r2 r4 q4))
theorem pt_chain {op op' : CmpOp} {r r' : R2} (ho:OpR X (compareOp op) r) (ho' : OpR X (compareOp op') r') (ha:PE X a ta) (hb:PE X b tb) (hc:PE X c tc)
    (hm:lastMarks [op,op'] [b,c]=false:=by with_unfolding_all rfl):PT X (.Compare a [op,op'] [b,c] pos) (tTest (tChain r r' ta tb tc)):=by
  intro pins s σ H Q I h
  refine isTrue_chain (thn (ha pins s σ H _ I h) fun v s1 ⟨x,H1,I1,r1,q1⟩=>test_link (thn (hb pins s1 σ H1 _ I1 q1) fun u s2 ⟨y,H2,I2,r2,q2⟩ =>
    thn (ho pins s2 σ H2 x y v u _ I2 r1 r2 q2) fun d s3 ⟨z,H3,I3,r3,k,e,q3⟩=>?_)) hm
  subst e
  cases r3
  refine wpAny_truthy_bool ?_
  cases k with
  | false =>
    obtain ⟨k',e',q'⟩:=q3
    cases e'
    exact ite_ff ⟨H3,I3,q'⟩
  | true =>
    refine ite_tt (test_last (thn (hc pins s3 σ H3 _ I3 q3) fun w' s4 ⟨z',H4,I4,r4,q4⟩=>thn (ho' pins s4 σ H4 y z' u w' _ I4 r2 r4 q4) fun d' s5 ⟨z2,H5,I5,r5,k2,e2,q5⟩=>?_))
    subst e2
    cases r5
    exact wpAny_truthy_bool ⟨H5,I5,q5⟩
def TruV (K:PySem.W.Frag) (x:V) (H:Hp) (k:Bool):Prop :=
  match x with
  | .non=>k=false
  | .bl b=>k=b
  | .int i=>k=(i != 0)
  | .str y=>y.length≤sizeLine∧k=((y.length:Int) != 0)
  | .byt y=>y.size≤sizeLine∧k=((y.size:Int) != 0)
  | .ref p=>(∃ xs,SqL K H p xs∧k = !xs.isEmpty)∨(∃ xs,SqT K H p xs∧k = !xs.isEmpty)∨∃ kvs,H p=some (.dK kvs)∧k = !kvs.isEmpty
  | _=>False
theorem isEmpty_kv {κ:Type} {kvs:List (κ × V)} {vs:List (κ × Value)} (r:KV kvs vs):(!vs.isEmpty) = !kvs.isEmpty:=by
  cases r <;> rfl
theorem isEmpty_of {xs:List V} {its:List Value} (r:Vals xs its):(!its.toArray.isEmpty) = !xs.isEmpty:=by
  cases r <;> simp
theorem line63:(sizeLine:Nat) < 2 ^ 63:=by rw [sizeLine_eq];decide
theorem tru_ok:TruR X (fun x H Q=>∃ k,TruV X.K x H k∧Q k H):=by
  intro pins s σ H x v Q I rx h
  obtain ⟨k,e,q⟩:=h
  have hl:=line63
  have hs:sizeLine=16777216:=sizeLine_eq
  cases x with
  | non =>
    cases rx
    have e' : k=false:=e
    subst e'
    exact truthy_none ⟨H,I,q⟩
  | bl b =>
    cases rx
    have e' : k=b:=e
    subst e'
    exact wpAny_truthy_bool ⟨H,I,q⟩
  | int i =>
    obtain ⟨t,rfl⟩:=rx
    have e' : k=(i != 0):=e
    subst e'
    exact PySem.P.truthy_int ⟨H,I,q⟩
  | str y =>
    obtain ⟨t,rfl⟩:=rx
    obtain ⟨hy,e'⟩:y.length≤sizeLine∧k=((y.length:Int) != 0):=e
    subst e'
    exact PySem.P.truthy_str (by omega) ⟨H,I.tok _,q⟩
  | byt y =>
    obtain ⟨t,rfl⟩:=rx
    obtain ⟨hy,e'⟩:y.size≤sizeLine∧k=((y.size:Int) != 0):=e
    subst e'
    exact PySem.W.truthy_bytes (by omega) ⟨H,I.tok _,q⟩
  | ref p =>
    cases rx
    have e' : (∃ xs,SqL X.K H p xs∧k = !xs.isEmpty)∨(∃ xs,SqT X.K H p xs∧k = !xs.isEmpty)∨∃ kvs,H p=some (.dK kvs)∧k = !kvs.isEmpty:=e
    rcases e' with ⟨xs,hx,e'⟩ | ⟨xs,hx,e'⟩ | ⟨kvs,hx,e'⟩
    · subst e'
      obtain ⟨its,r,pl,hz⟩:=I.list hx
      have hlen:=r.length
      exact wpAny_truthy_list pl.isList (by simp only [List.size_toArray];omega) ⟨H,I.tok _,by rw [isEmpty_of r];exact q⟩
    · subst e'
      obtain ⟨its,r,pl,hz⟩:=I.tuple hx
      have hlen:=r.length
      exact truthy_tuple pl (by simp only [List.size_toArray];omega) ⟨H,I.tok _,by rw [isEmpty_of r];exact q⟩
    · subst e'
      obtain ⟨hz,hS,vs,r,m⟩:kvs.length≤sizeLine∧(p == sysModules)=false∧∃ vs,KV kvs vs∧s.heap.DictOf (mixKind X.prog X.w) p vs:=I.hok p _ hx
      have hlen:kvs.length=vs.length:=Paired.length r
      exact wpAny_truthy_dict hS m (by omega) ⟨H,I.tok _,by rw [isEmpty_kv r];exact q⟩
  | _=>exact (show False from e).elim
theorem pt_truth (ha:PE X a ta) (he:∀ whole,isTrue a X.env whole=(do let v ← whole;standAt a.pos;holding [v] (truthy v))) :
    PT X a (fun σ H Q=>ta σ H fun x H'=>∃ k,TruV X.K x H' k∧Q k H'):=by
  intro pins s σ H Q I h
  exact isTrue_plain (thn (ha pins s σ H _ I h) fun v s1 ⟨x,H1,I1,r1,q1⟩=>tru_ok pins s1 σ H1 x v Q I1 r1 q1) (he _)
theorem op_add_str:OpR X (binaryOp .Add) (fun x y H Q=>∃ i j,x=.str i∧y=.str j∧i.length+j.length≤sizeLine∧Q (.str (i ++ j)) H):=by
  intro pins s σ H x y v u Q I rx ry h
  obtain ⟨i,j,rfl,rfl,hz,q⟩:=h
  obtain ⟨t,rfl⟩:=rx
  obtain ⟨t',rfl⟩:=ry
  exact add_str (fun t' tk=>⟨.str (i ++ j),H,I.tok _,⟨_,rfl⟩,q⟩) hz
theorem op_add_byt:OpR X (binaryOp .Add) (fun x y H Q=>∃ i j,x=.byt i∧y=.byt j∧i.size+j.size≤16777216∧Q (.byt (i ++ j)) H):=by
  intro pins s σ H x y v u Q I rx ry h
  obtain ⟨i,j,rfl,rfl,hz,q⟩:=h
  obtain ⟨t,rfl⟩:=rx
  obtain ⟨t',rfl⟩:=ry
  exact PySem.W.KBy.add_bytes hz (fun t' tk=>⟨.byt (i ++ j),H,I.tok _,⟨_,rfl⟩,q⟩)
def PlainIxT (b:Expr):Prop:=∀ o i,subscripted b false o i=operate [o,i] (getItem o i)
theorem vals1 {x:V} {us:List Value} (r:Vals [x] us):∃ u,us=[u]∧RelV x u:=by
  cases r with
  | cons r1 r2=>cases r2;exact ⟨_,rfl,r1⟩
theorem vals2 {x y:V} {us:List Value} (r:Vals [x,y] us):∃ u w',us=[u,w']∧RelV x u∧RelV y w':=by
  cases r with
  | cons r1 r2 =>
    cases r2 with
    | cons r3 r4=>cases r4;exact ⟨_,_,rfl,r1,r3⟩
theorem call_max2 (hc:X.calm=true):CallR X (.builtin "max") (fun xs H Q=>∃ i j,xs=[.int i,.int j]∧Q (.int (if j > i then j else i)) H):=by
  intro pins s σ H xs us Q I r h
  obtain ⟨i,j,rfl,q⟩:=h
  obtain ⟨u,w',rfl,⟨t,rfl⟩,⟨t',rfl⟩⟩:=vals2 r
  refine max_two_ints (I.ok.hd hc) fun h' tk k=>⟨_,H,I.kept k,?_,q⟩
  by_cases hj:j > i
  · rw [if_pos hj,if_pos hj];exact ⟨_,rfl⟩
  · rw [if_neg hj,if_neg hj];exact ⟨_,rfl⟩
theorem call_min2 (hc:X.calm=true):CallR X (.builtin "min") (fun xs H Q=>∃ i j,xs=[.int i,.int j]∧Q (.int (if j < i then j else i)) H):=by
  intro pins s σ H xs us Q I r h
  obtain ⟨i,j,rfl,q⟩:=h
  obtain ⟨u,w',rfl,⟨t,rfl⟩,⟨t',rfl⟩⟩:=vals2 r
  refine min_two_ints (I.ok.hd hc) fun h' tk k=>⟨_,H,I.kept k,?_,q⟩
  by_cases hj:j < i
  · rw [if_pos hj,if_pos hj];exact ⟨_,rfl⟩
  · rw [if_neg hj,if_neg hj];exact ⟨_,rfl⟩
def LenV (K:PySem.W.Frag) (x:V) (H:Hp) (n:Nat):Prop :=
  match x with
  | .str y=>y.length≤sizeLine∧n=y.length
  | .byt y=>y.size≤sizeLine∧n=y.size
  | .ref p=>(∃ xs,SqL K H p xs∧n=xs.length)∨∃ xs,SqT K H p xs∧n=xs.length
  | _=>False
end
end L2
namespace L2
open PySem PySem.Spec PyProof.Rows
structure ObjM (h:Heap) (x dx C:Addr) (mA:Str→Option Value):Prop where
  obj:h.get? x=some (PySem.W.instObj C dx)
  ns:h.Ns1 dx mA
  ne:dx ≠ x
theorem lookIn_ns {h:Heap} {dx:Addr} {mA:Str→Option Value} (n:h.Ns1 dx mA):∃ od,h.get? dx=some od∧∀ name,PySem.W.lookIn name od=some (mA name):=by
  obtain ⟨o,es,ep,ho,hd,hk,_,hm⟩:=n
  refine ⟨o,ho,fun name=>?_⟩
  have e:=hm name
  unfold nsFind findBy at e
  rw [← Array.find?_toList] at e
  unfold PySem.W.lookIn
  rw [hd]
  dsimp only
  split
  · rename_i y q
    rw [q] at e
    exact congrArg some e
  · rename_i q
    rw [q] at e
    have a:es.toList.any (·.refKey)=false:=by
      rw [List.any_eq_false]
      intro y hy
      obtain ⟨z,t,hkey⟩:=hk y (Array.mem_toList_iff.mp hy)
      simp [DictEntry.refKey,hkey]
    have a' : ¬ es.toList.any (·.refKey)=true:=by rw [a];exact Bool.false_ne_true
    rw [if_neg a']
    exact congrArg some e
theorem ObjM.look {h:Heap} {x dx C:Addr} {mA:Str→Option Value} (I:ObjM h x dx C mA):∃ od,PySem.W.InstAt h x (PySem.W.instObj C dx) C (some od)∧∀ name,PySem.W.lookIn name od=some (mA name) :=
  let ⟨od,ho,hl⟩:=lookIn_ns I.ns
  ⟨od,⟨I.obj,rfl,rfl,ho⟩,hl⟩
section
variable {prog:Program} {w:World} {A:Around} {E:Value→Shared→Prop} {s:Shared} {K:PySem.W.Frag} {x dx C f:Addr} {mA:Str→Option Value} {name:Str} {v:Value}
theorem get_map {expr:Bool} {Q:Value→Shared→Prop} (X:K.In s.heap) (I:ObjM s.heap x dx C mA) (hg:PySem.W.plainGet K C name=true) (hh:PySem.W.hasDictIn K C=true)
    (ha:PySem.W.findIn K (.ref C) name=some none) (hv:mA name=some v) (hv' : PySem.W.handedIn v=true) (h:Q v { s with toks:=s.toks+1 }) :
    wpAny (model prog w) A (getAttr (.ref x) name expr) Q E s:=by
  obtain ⟨od,J,hl⟩:=I.look
  exact PySem.W.get_value X J (PySem.W.plainGet_of hg).1 (PySem.W.findObj_own hh ha rfl (by rw [hl,hv])) hv' h
theorem get_meth {pl:Sem Bool} {Q:Value × List Value→Shared→Prop} (X:K.In s.heap) (I:ObjM s.heap x dx C mA) (hg:PySem.W.plainGet K C name=true)
    (hf:PySem.W.findIn K (.ref C) name=some (some (.ref f))) (ht:PySem.W.isFn K (.ref f)=true) (hv:mA name=none) (h:Q (.ref f,[.ref x]) s) :
    wpAny (model prog w) A (getMethod (.ref x) name pl) Q E s:=by
  obtain ⟨od,J,hl⟩:=I.look
  exact PySem.W.method_fn X J (PySem.W.plainGet_of hg).1 (PySem.W.plainGet_of hg).2 hf (beq_iff_eq.mp ht) (by show (PySem.W.lookIn name od).map (·.isSome)=some false;rw [hl,hv];rfl) h
theorem set_map {ns:List Str} {Q:Unit→Shared→Prop} (X:K.In s.heap) (I:ObjM s.heap x dx C mA)
    (hs:PySem.W.findIn K (.ref C) "__setattr__" = some (some (.builtin "object.__setattr__"))) (hp:PySem.W.plainOver K C=true) (ht:PySem.W.takerIn K C name=some none) (hh:PySem.W.hasDictIn K C=true)
    (hw:PySem.Within mA ns) (hsz:ns.length≤sizeLine)
    (h:∀ h',ObjM h' x dx C (fun y=>if y=name then some v else mA y)→Heap.SameBut dx s.heap h'→Q () { s with heap:=h',toks:=s.toks+2 }) :
    wpAny (model prog w) A (setAttr (.ref x) name v) Q E s:=by
  obtain ⟨od,J,hl⟩:=I.look
  refine PySem.W.set_plain X J hs (PySem.W.osa_open (s:={ s with toks:=s.toks+1 }) (r:=none) X J hp ht fun b=>?_)
  obtain ⟨cd,hc,hd'⟩:=PySem.W.any_some hh
  have hx:s.heap.get? x=some ⟨.ref C,some dx,.plain,#[]⟩:=I.obj
  refine wpAny_bind (wpAny_pure (wpAny_bind (wpAny_bind (wpAny_loadPart hx (wpAny_bind (PySem.W.Looks.here (s:={ s with toks:=s.toks+1 }) (PySem.W.looks_clsIn X hc) ?_))))))
  rw [hd']
  refine wpAny_pure (a:=some dx) (wpAny_bind (wpAny_pure (wpAny_bind ?_)))
  refine wpAny_nsSet1 (s:={ s with toks:=s.toks+1 }) I.ns fun h' hn2 hs2=>?_
  obtain ⟨oD,esD,epD,hoD,hdD,hcD⟩:=hn2.count (PySem.Within.cons name v hw)
  refine wpAny_bind (wpAny_lookBehind hoD (by rw [hdD];exact pastItsLine_dict (Nat.le_trans hcD (by rw [List.length_cons];omega))) ?_)
  exact wpAny_pure (h _ ⟨(hs2.2 _ (Ne.symm I.ne)).trans I.obj,hn2,I.ne⟩ hs2)
theorem make_map {R:Result→Shared→Prop} {vs:List Value} {kw:List (Str × Value)} (X:K.In s.heap) (hm:PySem.W.makesIn K C=true)
    (hi:PySem.W.findIn K (.ref C) "__init__" = some (some (.ref f))) (hf:PySem.W.typeIn K (.ref f)=some (.type "function"))
    (h:codeAny (model prog w) (A.under (.builtin "type.__call__" ⟨.ref C :: vs,kw⟩)) (.call (.ref f) ⟨.ref (s.heap.objs.size+1) :: vs,kw⟩) (PySem.W.InitBack (s.heap.objs.size+1) R)
      { s with heap:=(s.heap.push PySem.W.emptyDict).push (PySem.W.instObj C s.heap.objs.size) }) :
    codeAny (model prog w) A (.call (.ref C) ⟨vs,kw⟩) R s:=by
  obtain ⟨hh,g,d,t,os⟩:=s
  exact PySem.W.make_core (PySem.W.makes_of X hm) (PySem.W.looks_findIn X hi) (fun self=>PySem.W.bind_fn X self hf) (.inl rfl) h
end
def putF (f:Str) (v:V):List (Str × V)→List (Str × V)
  | []=>[(f,v)]
  | (g,x) :: r=>if g=f then (g,v) :: r else (g,x) :: putF f v r
theorem lookup_putF (f g:Str) (v:V):∀ fs:List (Str × V),(putF f v fs).lookup g=if g=f then some v else fs.lookup g
  | []=>by
    show List.lookup g [(f,v)]=_
    by_cases h:g=f
    · have hb:(g == f)=true:=beq_iff_eq.mpr h
      simp only [List.lookup,hb,if_pos h]
    · have hb:(g == f)=false:=beq_eq_false_iff_ne.mpr h
      simp only [List.lookup,hb,if_neg h]
  | (k,x) :: r=>by
    have ih:=lookup_putF f g v r
    rw [show putF f v ((k,x) :: r)=(if k=f then (k,v) :: r else (k,x) :: putF f v r) from rfl]
    by_cases hk:k=f
    · rw [if_pos hk]
      by_cases h:g=k
      · have hb:(g == k)=true:=beq_iff_eq.mpr h
        simp only [List.lookup,hb,if_pos (h.trans hk)]
      · have hb:(g == k)=false:=beq_eq_false_iff_ne.mpr h
        simp only [List.lookup,hb,if_neg (fun e:g=f=>h (e.trans hk.symm))]
    · rw [if_neg hk]
      by_cases h:g=k
      · have hb:(g == k)=true:=beq_iff_eq.mpr h
        simp only [List.lookup,hb,if_neg (fun e:g=f=>hk (h.symm.trans e))]
      · have hb:(g == k)=false:=beq_eq_false_iff_ne.mpr h
        simp only [List.lookup,hb]
        exact ih
theorem keys_putF (f:Str) (v:V):∀ fs:List (Str × V),f ∈ (putF f v fs).map (·.1)∧∀ g,g ∈ fs.map (·.1)→g ∈ (putF f v fs).map (·.1)
  | []=>⟨by simp [putF],fun g h=>by simp at h⟩
  | (k,x) :: r=>by
    obtain ⟨i1,i2⟩:=keys_putF f v r
    rw [show putF f v ((k,x) :: r)=(if k=f then (k,v) :: r else (k,x) :: putF f v r) from rfl]
    by_cases hk:k=f
    · rw [if_pos hk]
      subst hk
      exact ⟨by simp,fun g h=>by simpa using h⟩
    · rw [if_neg hk]
      refine ⟨?_,fun g h=>?_⟩
      · rw [List.map_cons]
        exact List.mem_cons_of_mem _ i1
      · rw [List.map_cons] at h ⊢
        rcases List.mem_cons.mp h with e | e
        · exact List.mem_cons.mpr (.inl e)
        · exact List.mem_cons_of_mem _ (i2 g e)
theorem length_putF (f:Str) (v:V):∀ fs:List (Str × V),(putF f v fs).length≤fs.length+1
  | []=>by simp [putF]
  | (k,x) :: r=>by
    have ih:=length_putF f v r
    rw [show putF f v ((k,x) :: r)=(if k=f then (k,v) :: r else (k,x) :: putF f v r) from rfl]
    by_cases hk:k=f
    · rw [if_pos hk,List.length_cons,List.length_cons];omega
    · rw [if_neg hk,List.length_cons,List.length_cons];omega
theorem RelO.some_of {v:V} {o:Option Value} (r:RelO (some v) o):∃ u,o=some u∧RelV v u:=by
  cases o with
  | none=>exact (show False from r).elim
  | some u=>exact ⟨u,rfl,r⟩
theorem RelO.none_of {o:Option Value} (r:RelO none o):o=none:=by
  cases o with
  | none=>rfl
  | some u=>exact (show False from r).elim
theorem handed_of {v:V} {u:Value} (r:RelV v u):PySem.W.handedIn u=true:=by
  cases v with
  | non=>cases (show u=Value.none from r);rfl
  | bl b=>cases (show u=Value.bool b from r);rfl
  | int i=>obtain ⟨t,e⟩:=(show ∃ t,u=Value.int i t from r);cases e;rfl
  | str x=>obtain ⟨t,e⟩:=(show ∃ t,u=Value.str x t from r);cases e;rfl
  | byt b=>obtain ⟨t,e⟩:=(show ∃ t,u=Value.bytes b t from r);cases e;rfl
  | flt b=>obtain ⟨t,e⟩:=(show ∃ t,u=Value.float b t from r);cases e;rfl
  | ref a=>cases (show u=Value.ref a from r);rfl
  | ty n=>cases (show u=Value.type n from r);rfl
section
variable {P:Program} {w:World} {H H' : Hp} {h h' : Heap} {a C dx:Addr} {fs fs' : List (Str × V)}
theorem ins_get (hok:HOk P w H h) (e:H a=some (.ins C dx fs)):∃ mA,ObjM h a dx C mA∧(∀ f,RelO (fs.lookup f) (mA f))∧PySem.Within mA (fs.map (·.1))∧fs.length≤1000∧H dx=some (.own a):=by
  obtain ⟨d,z,ne,ob,mA,n,r,q⟩:=(show ObjOk P w H h a (.ins C dx fs) from hok a _ e)
  exact ⟨mA,⟨ob,n,ne⟩,r,q,z,d⟩
end
structure Cls (K:PySem.W.Frag) (C:Addr):Prop where
  pg:PySem.W.plainGet K C Str.empty=true
  hd:PySem.W.hasDictIn K C=true
  po:PySem.W.plainOver K C=true
  sa:PySem.W.findIn K (.ref C) "__setattr__" = some (some (.builtin "object.__setattr__"))
theorem Cls.get {K:PySem.W.Frag} {C:Addr} (c:Cls K C) (f:Str):PySem.W.plainGet K C f=true:=c.pg
def NoAttr (K:PySem.W.Frag) (C:Addr) (f:Str):Prop:=PySem.W.findIn K (.ref C) f=some none
theorem NoAttr.taker {K:PySem.W.Frag} {C:Addr} {f:Str} (n:NoAttr K C f):PySem.W.takerIn K C f=some none:=by
  unfold PySem.W.takerIn
  rw [show PySem.W.findIn K (.ref C) f=some none from n]
  rfl
structure Con (K:PySem.W.Frag) (C:Addr) (f:Str) (v:V) (u:Value):Prop where
  at_:PySem.W.findIn K (.ref C) f=some (some u)
  rel:RelV v u
  get:PySem.W.specialIn K u "__get__" = some none
  cp:PySem.W.copiedNames.contains f=false
structure Meth (K:PySem.W.Frag) (C:Addr) (m:Str) (f:Addr):Prop where
  at_:PySem.W.findIn K (.ref C) m=some (some (.ref f))
  fn:PySem.W.isFn K (.ref f)=true
  kp:PySem.W.keepIn K (.ref f)=true
section
variable {X:Cx} {pins:List (Addr × Obj)} {σ:St} {H:Hp} {s:Shared} {a C dx:Addr} {fs:List (Str × V)} {f:Str} {v:V} {A:Around} {E:Value→Shared→Prop}
theorem getattr_ok {b:Bool} {Q:Value→Shared→Prop} (I:Inv X pins σ H s) (e:H a=some (.ins C dx fs)) (c:Cls X.K C) (n:NoAttr X.K C f) (l:fs.lookup f=some v)
    (h:∀ u s',Inv X pins σ H s'→RelV v u→Q u s'):wpAny (model X.prog X.w) A (getAttr (.ref a) f b) Q E s:=by
  obtain ⟨mA,O,r,_,_,_⟩:=ins_get I.hok e
  obtain ⟨u,hu,ru⟩:=RelO.some_of (v:=v) (o:=mA f) (by rw [← l];exact r f)
  exact get_map I.kIn O (c.get f) c.hd n hu (handed_of ru) (h u _ (I.tok _) ru)
theorem getmeth_ok {m:Str} {g:Addr} {pl:Sem Bool} {Q:Value × List Value→Shared→Prop} (I:Inv X pins σ H s) (e:H a=some (.ins C dx fs)) (c:Cls X.K C) (k:Meth X.K C m g) (l:fs.lookup m=none)
    (h:Q (.ref g,[.ref a]) s):wpAny (model X.prog X.w) A (getMethod (.ref a) m pl) Q E s:=by
  obtain ⟨mA,O,r,_,_,_⟩:=ins_get I.hok e
  have hn:mA m=none:=RelO.none_of (by rw [← l];exact r m)
  exact get_meth I.kIn O (c.get m) k.at_ k.fn hn h
theorem setattr_ok {y:V} {u:Value} {Q:Unit→Shared→Prop} (I:Inv X pins σ H s) (e:H a=some (.ins C dx fs)) (c:Cls X.K C) (n:NoAttr X.K C f) (hl:fs.length < 1000) (ry:RelV y u)
    (h:∀ s',Inv X pins σ (upd H a (.ins C dx (putF f y fs))) s'→Q () s'):wpAny (model X.prog X.w) A (setAttr (.ref a) f u) Q E s:=by
  obtain ⟨mA,O,r,wi,_,ho⟩:=ins_get I.hok e
  have hz:(fs.map (·.1)).length≤sizeLine:=by rw [List.length_map,sizeLine_eq];omega
  refine set_map I.kIn O c.sa c.po n.taker c.hd wi hz fun h' O' sb=>h _ ?_
  have hd:∃ o,h'.get? dx=some o:=let ⟨o,_,_,e',_⟩:=O'.ns;⟨o,e'⟩
  refine I.write (x:=a) (e:=dx) (by rw [e];exact True.intro) (.inr ho) (fun b q hb z=>(sb.2 b hb).trans z) hd ?_
  refine ⟨by rw [upd_ne O.ne];exact ho,?_,O.ne,O'.obj,_,O'.ns,fun g=>?_,fun g hg=>?_⟩
  · have:=length_putF f y fs;omega
  · show RelO ((putF f y fs).lookup g) (if g=f then some u else mA g)
    rw [lookup_putF]
    by_cases q:g=f
    · rw [if_pos q,if_pos q];exact ry
    · rw [if_neg q,if_neg q];exact r g
  · by_cases q:g=f
    · rw [q];exact (keys_putF f y fs).1
    · refine (keys_putF f y fs).2 g (wi g fun z=>hg ?_)
      show (if g=f then some u else mA g)=none
      rw [if_neg q];exact z
theorem Inv.made (I:Inv X pins σ H s):Inv X pins σ (upd (upd H s.heap.objs.size (.own (s.heap.objs.size+1))) (s.heap.objs.size+1) (.ins C s.heap.objs.size []))
    { s with heap:=(s.heap.push PySem.W.emptyDict).push (PySem.W.instObj C s.heap.objs.size) }:=by
  have e1:(s.heap.push PySem.W.emptyDict).get? s.heap.objs.size=some PySem.W.emptyDict:=Heap.get?_push_size s.heap rfl
  have e2:((s.heap.push PySem.W.emptyDict).push (PySem.W.instObj C s.heap.objs.size)).get? (s.heap.objs.size+1)=some (PySem.W.instObj C s.heap.objs.size):=by
    have:=Heap.get?_push_size (s.heap.push PySem.W.emptyDict) (o:=PySem.W.instObj C s.heap.objs.size) rfl
    rwa [Heap.size_push] at this
  have e3:(s.heap.push PySem.W.emptyDict).Ns s.heap.objs.size (fun _=>none):=⟨PySem.W.emptyDict,#[],_,e1,rfl,(fun e he=>absurd he (by simp)),fun _=>rfl⟩
  have I1:=I.laid (a:=s.heap.objs.size) (o:=.own (s.heap.objs.size+1)) (h':=s.heap.push PySem.W.emptyDict) (t':=s.toks) (fun b u q=>Heap.get?_push_of_some _ q) (Nat.le_refl _) ⟨_,e1⟩
  refine I1.laid (a:=s.heap.objs.size+1) (o:=.ins C s.heap.objs.size []) (t':=s.toks) (fun b u q=>Heap.get?_push_of_some _ q) (Nat.le_of_eq (Heap.size_push _ _)) ?_
  have ne:s.heap.objs.size ≠ s.heap.objs.size+1:=Nat.ne_of_lt (Nat.lt_succ_self _)
  refine ⟨by rw [upd_ne ne,upd_same],Nat.zero_le _,ne,e2,fun _=>none,(Heap.Ns1.of_empty e3).at fun o q=>Heap.get?_push_of_some _ q,fun _=>True.intro,fun y hy=>absurd rfl hy⟩
theorem attr_of {prog:Program} {w:World} {env:Env} {e:Expr} {f:Str} {pos:Pos} {s:Shared} {Q:Value→Shared→Prop} (hb:attributeBase e f env (eval e env)=eval e env)
    (h:wpAny (model prog w) A (eval e env) (fun o s₁=>wpAny (model prog w) A (getAttr o f true) Q E s₁) E s):wpAny (model prog w) A (eval (.Attribute e f pos) env) Q E s :=
  Attribute_any_ h (by rw [arm_eval_Attribute,hb])
end
def tFld (K:PySem.W.Frag) (ta:TE) (f:Str):TE:=fun σ H Q=>ta σ H fun x H1=>∃ a C dx fs v,x=.ref a∧H1 a=some (.ins C dx fs)∧Cls K C∧NoAttr K C f∧fs.lookup f=some v∧Q v H1
def tCon (K:PySem.W.Frag) (ta:TE) (f:Str):TE:=fun σ H Q=>ta σ H fun x H1=>∃ a C dx fs v u,x=.ref a∧H1 a=some (.ins C dx fs)∧Cls K C∧Con K C f v u∧fs.lookup f=none∧Q v H1
def sFld (K:PySem.W.Frag) (ta tv:TE) (f:Str):TS:=fun D σ H=>tv σ H fun y H1=>ta σ H1 fun x H2=>∃ a C dx fs,x=.ref a∧H2 a=some (.ins C dx fs)∧Cls K C∧NoAttr K C f∧fs.length < 1000 ∧
  D.nx σ (upd H2 a (.ins C dx (putF f y fs)))
def InOp (X:Cx) (op:Operator) (rd:V→V→Hp→VK→Prop):Prop :=
  ∀ (pins:List (Addr × Obj)) (s:Shared) (σ:St) (H:Hp) (x y:V) (u v:Value) (Q:VK),Inv X pins σ H s→RelV x u→RelV y v→rd x y H Q→wpAny (model X.prog X.w) X.A (inplaceOp op u v) (EP X pins σ Q) X.xe s
def sFldAug (K:PySem.W.Frag) (ta tv:TE) (rd:V→V→Hp→VK→Prop) (f:Str):TS:=fun D σ H=>ta σ H fun x H1=>∃ a C dx fs v,x=.ref a∧H1 a=some (.ins C dx fs)∧Cls K C∧NoAttr K C f∧fs.lookup f=some v ∧
  tv σ H1 fun y H2=>rd v y H2 fun z H3=>∃ dx' fs',H3 a=some (.ins C dx' fs')∧fs'.length < 1000∧D.nx σ (upd H3 a (.ins C dx' (putF f z fs')))
section
variable {X:Cx} {o e value:Expr} {f:Str} {pos pos' tpos:Pos} {ta tv:TE}
theorem pe_fld (he:PE X e ta) (hb:attributeBase e f X.env (eval e X.env)=eval e X.env):PE X (.Attribute e f pos) (tFld X.K ta f):=by
  intro pins s σ H Q I h
  refine attr_of hb (thn (he pins s σ H _ I h) fun u s1 ⟨x,H1,I1,rx,a,C,dx,fs,v,ex,ea,c,n,l,q⟩=>?_)
  subst ex
  obtain rfl:u=Value.ref a:=rx
  exact getattr_ok I1 ea c n l fun u' s2 I2 ru=>⟨v,H1,I2,ru,q⟩
theorem ps_fld (ha:PE X o ta) (hv:PE X value tv) (hs:swapsWith value (some (.Attribute o f pos')) pos.line X.env=pure false):PS X (.Assign [.Attribute o f pos'] value pos) (sFld X.K ta tv f):=by
  intro pins s σ H D I h
  refine plainObj_wpAny_Assign_Attribute (thn (hv pins s σ H _ I h) fun u s1 ⟨y,H1,I1,ry,q⟩=>thn (ha pins s1 σ H1 _ I1 q) fun ov s2 ⟨x,H2,I2,rx,a,C,dx,fs,ex,ea,c,n,l,q2⟩=>?_) hs
  subst ex
  obtain rfl:ov=Value.ref a:=rx
  exact setattr_ok I2 ea c n l ry fun s3 I3=>⟨σ,_,I3,q2⟩
def rAdd:V→V→Hp→VK→Prop:=fun x y H Q=>∃ i j,x=.int i∧y=.int j∧Q (.int (i+j)) H
def rSub:V→V→Hp→VK→Prop:=fun x y H Q=>∃ i j,x=.int i∧y=.int j∧Q (.int (i - j)) H
end
section
variable {X:Cx} {pins:List (Addr × Obj)} {σ:St} {H:Hp} {s:Shared} {A:Around} {E:Value→Shared→Prop} {Q:Value→Shared→Prop} {c:Value} {b:Bool}
inductive TyOf (K:PySem.W.Frag) (H:Hp):V→Value→Prop where
  | non:TyOf K H .non (.type "NoneType")
  | bl (x:Bool):TyOf K H (.bl x) (.type "bool")
  | int (i:Int):TyOf K H (.int i) (.type "int")
  | str (x:Str):TyOf K H (.str x) (.type "str")
  | flt (x:UInt64):TyOf K H (.flt x) (.type "float")
  | lst {a:Addr} {xs:List V} (e:H a=some (.lst xs)):TyOf K H (.ref a) (.type "list")
  | frz {a:Addr} {o:Obj} {xs:List V} (e:H a=some (.frz o (.lst xs))):TyOf K H (.ref a) (.type "list")
  | tup {a:Addr} {xs:List V} (e:H a=some (.tup xs)):TyOf K H (.ref a) (.type "tuple")
  | dK {a:Addr} {kvs:List (Key × V)} (e:H a=some (.dK kvs)):TyOf K H (.ref a) (.type "dict")
  | dT {a:Addr} {kvs:List (List Key × V)} (e:H a=some (.dT kvs)):TyOf K H (.ref a) (.type "dict")
  | ins {a C dx:Addr} {fs:List (Str × V)} (e:H a=some (.ins C dx fs)) (cl:Cls K C) (ha:PySem.W.findIn K (.ref C) "__class__" = some (some (.builtin "object.__class__")))
      (hn:PySem.W.specialIn K (.builtin "object.__class__") "__get__" = some (some (.builtin "getset_descriptor.__get__"))) (htk:PySem.W.takesIn K (.builtin "object.__class__")=some true)
      (hm:PySem.W.mroIn K C (.type "object")=some true):TyOf K H (.ref a) (.ref C)
theorem isinst_ok {x:V} {u t:Value} (I:Inv X pins σ H s) (rx:RelV x u) (ty:TyOf X.K H x t) (e:PySem.W.kitOne X.K t c=some b) (h:∀ tk,Q (.bool b) { s with toks:=tk }) :
    wpAny (model X.prog X.w) A (call (.builtin "isinstance") [u,c]) Q E s:=by
  cases ty with
  | non=>cases (show u=Value.none from rx);exact PySem.W.kia_one PySem.W.kitx_none I.kIn True.intro e (fun z=>nomatch z) h
  | bl y=>cases (show u=Value.bool y from rx);exact PySem.W.kia_one PySem.W.kitx_bool I.kIn True.intro e (fun z=>nomatch z) h
  | int i=>obtain ⟨t,q⟩:=(show ∃ t,u=Value.int i t from rx);cases q;exact PySem.W.kia_one PySem.W.kitx_int I.kIn True.intro e (fun z=>nomatch z) h
  | str y=>obtain ⟨t,q⟩:=(show ∃ t,u=Value.str y t from rx);cases q;exact PySem.W.kia_one PySem.W.kitx_str I.kIn True.intro e (fun z=>nomatch z) h
  | flt y=>obtain ⟨t,q⟩:=(show ∃ t,u=Value.float y t from rx);cases q;exact PySem.W.kia_one PySem.W.kitx_float I.kIn True.intro e (fun z=>nomatch z) h
  | @lst a xs ea =>
    cases (show u=Value.ref a from rx)
    obtain ⟨_,_,n,_,h1⟩:=(show ObjOk X.prog X.w H s.heap a (.lst xs) from I.hok a _ ea)
    exact PySem.W.kia_one PySem.W.kitx_list I.kIn ⟨_,h1,rfl⟩ e (fun z=>nomatch z) h
  | @frz a ob xs ea =>
    cases (show u=Value.ref a from rx)
    obtain ⟨_,_,_,n,_,h1⟩:=(show ObjOk X.prog X.w H s.heap a (.frz ob (.lst xs)) from I.hok a _ ea)
    exact PySem.W.kia_one PySem.W.kitx_list I.kIn ⟨_,h1,rfl⟩ e (fun z=>nomatch z) h
  | @tup a xs ea =>
    cases (show u=Value.ref a from rx)
    obtain ⟨_,_,_,p⟩:=(show ObjOk X.prog X.w H s.heap a (.tup xs) from I.hok a _ ea)
    obtain ⟨o,h1,h2,_⟩:=p
    exact PySem.W.kia_one PySem.W.kitx_tuple I.kIn ⟨o,h1,h2⟩ e (fun z=>nomatch z) h
  | @dK a kvs ea =>
    cases (show u=Value.ref a from rx)
    obtain ⟨_,_,vs,_,p⟩:=(show ObjOk X.prog X.w H s.heap a (.dK kvs) from I.hok a _ ea)
    obtain ⟨o,es,ep,h1,h2,_⟩:=p
    exact PySem.W.kia_one PySem.W.kitx_dict I.kIn ⟨o,h1,h2.1⟩ e (fun z=>nomatch z) h
  | @dT a kvs ea =>
    cases (show u=Value.ref a from rx)
    obtain ⟨_,_,xs,_,o,es,ep,h1,h2,_⟩:=(show ObjOk X.prog X.w H s.heap a (.dT kvs) from I.hok a _ ea)
    exact PySem.W.kia_one PySem.W.kitx_dict I.kIn ⟨o,h1,h2.1⟩ e (fun z=>nomatch z) h
  | @ins a C dx fs ea cl ha hn htk hm =>
    cases (show u=Value.ref a from rx)
    obtain ⟨mA,O,_⟩:=ins_get I.hok ea
    obtain ⟨od,J,_⟩:=O.look
    exact PySem.W.kia_one (PySem.W.kitx_own (cl.get _) cl.hd ha hn htk hm) I.kIn J e (fun z=>nomatch z) h
end
end L2
namespace L2
open PySem PySem.Spec PyProof.Rows
structure Room (k:Nat) (A:Around):Prop where
  hd:A.handled=none
  dp:A.depth+3 * k+5 < recursionLimit
  un:A.units+16 * k+200 < cLine
theorem Room.mono {j k:Nat} {A:Around} (r:Room k A) (h:j≤k):Room j A:=⟨r.hd,by have:=r.dp;omega,by have:=r.un;omega⟩
theorem Room.deeper {k:Nat} {A:Around} (r:Room (k+1) A) (env:Env):Room k (A.deeper env) :=
  ⟨r.hd,by have:=r.dp;show A.depth+1+3 * k+5 < _;omega,by have:=r.un;show A.units+3+16 * k+200 < _;omega⟩
theorem make_depth {A:Around} {C:Addr} {us:List Value} {kw:List (Str × Value)} : (A.under (.builtin "type.__call__" ⟨.ref C :: us,kw⟩)).depth=A.depth+1:=by
  first | rfl | simp [Around.under,Code.weight,Code.isCreation,Code.isGuard,Code.isCaller,Code.frames,Code.isFrame,guardIds]
theorem make_units {A:Around} {C:Addr} {us:List Value} {kw:List (Str × Value)} : (A.under (.builtin "type.__call__" ⟨.ref C :: us,kw⟩)).units=A.units+1:=by
  first | rfl | simp [Around.under,Code.cUnits,Code.frames,Code.isFrame]
theorem Room.make {k:Nat} {A:Around} (r:Room (k+1) A) (C:Addr) (us:List Value) (kw:List (Str × Value)):Room k (A.under (.builtin "type.__call__" ⟨.ref C :: us,kw⟩)) :=
  ⟨r.hd,by have:=r.dp;rw [make_depth];omega,by have:=r.un;rw [make_units];omega⟩
theorem Room.depth {k:Nat} {A:Around} (r:Room k A):A.depth < recursionLimit:=by have:=r.dp;omega
theorem Room.units {k:Nat} {A:Around} (r:Room k A):A.units+64 < cLine:=by have:=r.un;omega
def tNil:TA:=fun _ H Q=>Q [] H
def tCons (ta:TE) (tr:TA):TA:=fun σ H Q=>ta σ H fun x H1=>tr σ H1 fun xs H2=>Q (x :: xs) H2
section
variable {X:Cx} {e:Expr} {es:List Expr} {te:TE} {t:TA} {pos:Pos}
theorem pa_nil:PA X [] tNil:=fun _ _ _ _ H Q I h=>Calls.spliced_nil ⟨[],H,I,.nil,h⟩
theorem pa_cons (ha:PE X e te) (hr:PA X es t) (hs:starEach (e :: es) X.env=(false,eval e X.env) :: starEach es X.env:=by rfl):PA X (e :: es) (tCons te t):=by
  intro pos pins s σ H Q I h
  rw [hs]
  show wpAny _ _ (spliced ((false,eval e X.env) :: backTo pos (starEach es X.env))) _ _ s
  refine Calls.spliced_cons (thn (ha pins s σ H _ I h) fun u s1 ⟨x,H1,I1,r1,q1⟩=>?_)
  exact thn (hr pos pins s1 σ H1 _ I1 q1) fun us s2 ⟨xs,H2,I2,r2,q2⟩=>⟨x :: xs,H2,I2,.cons r1 r2,q2⟩
def tTup (t:TA):TE:=fun σ H Q=>t σ H fun xs H1=>xs.length≤sizeLine∧∀ p,H1 p=none→Q (.ref p) (upd H1 p (.tup xs))
def tLst (t:TA):TE:=fun σ H Q=>t σ H fun xs H1=>xs.length≤sizeLine∧∀ p,H1 p=none→Q (.ref p) (upd H1 p (.lst xs))
theorem pe_tup {x1} (h:PA X es t):PE X (.Tuple es x1 pos) (tTup t):=by
  intro pins s σ H Q I hq
  refine wpAny_Tuple_spliced (thn (h pos pins s σ H _ I hq) fun us s1 ⟨xs,H1,I1,r,z,q⟩=>⟨by rw [← r.length];exact z,?_⟩)
  have hf:H1 s1.heap.objs.size=none:=I1.hok.fresh (Nat.le_refl _)
  refine ⟨.ref s1.heap.objs.size,upd H1 s1.heap.objs.size (.tup xs),I1.laid (t':=s1.toks) (fun b u e=>Heap.get?_push_of_some _ e) (Nat.le_refl _) ?_,rfl,q _ hf⟩
  exact ⟨z,us,r,⟨_,Heap.get?_push_size _ rfl,rfl,_,rfl⟩⟩
theorem pe_lst (h:PA X es t):PE X (.List es pos) (tLst t):=by
  intro pins s σ H Q I hq
  refine wpAny_List_spliced (thn (h pos pins s σ H _ I hq) fun us s1 ⟨xs,H1,I1,r,z,q⟩=>⟨by rw [← r.length];exact z,?_⟩)
  have hf:H1 s1.heap.objs.size=none:=I1.hok.fresh (Nat.le_refl _)
  refine ⟨.ref s1.heap.objs.size,upd H1 s1.heap.objs.size (.lst xs),I1.laid (t':=s1.toks) (fun b u e=>Heap.get?_push_of_some _ e) (Nat.le_refl _) ?_,rfl,q _ hf⟩
  exact ⟨z,us,0,r,Heap.get?_push_size _ rfl⟩
end
abbrev Sp:=List V→Hp→VK→XK→Prop
abbrev CXT:=List Env→Hp→Shared→XK→Value→Shared→Prop
structure Env0 (P:Program) (w:World) (K:PySem.W.Frag) (mg:Str→Option Value) (base:Heap) (A:Around) (outer:List Env) (s:Shared) (H:Hp):Prop where
  frames:A.frames=some outer
  mod:Mod K mg base
  bs:∀ b o,base.get? b=some o→s.heap.get? b=some o∧H b=none
  bsz:base.objs.size≤s.heap.objs.size
  funs:s.heap.FunFrames base outer
  frf:∀ b ∈ frs outer,H b=none
  hok:HOk P w H s.heap
  bare:AllBare s.gens
def CE (outer:List Env) (P:Program) (w:World) (H:Hp) (s:Shared) (Q:VK) (u:Value) (s' : Shared):Prop :=
  ∃ v H',s'.os=s.os∧AllBare s'.gens∧Un (frs outer) [] H H' s.heap s'.heap∧HOk P w H' s'.heap∧RelV v u∧Q v H'
def CR (CX:CXT) (outer:List Env) (P:Program) (w:World) (H:Hp) (s:Shared) (Q:VK) (E:XK) (r:Result) (s' : Shared):Prop :=
  match r with
  | .ok (.ret u)=>CE outer P w H s Q u s'
  | .ok _=>False
  | .error e=>CX outer H s E e s'
structure FnOk (P:Program) (w:World) (K:PySem.W.Frag) (mg:Str→Option Value) (base:Heap) (CX:CXT) (k:Nat) (f:Addr) (fd:FuncData) (ps:List Str) (sp:Sp):Prop where
  len:∀ vs H Q E,sp vs H Q E→vs.length=ps.length
  run:∀ (A:Around) (outer:List Env) (s:Shared) (H:Hp) (args:Args) (us:List Value) (vs:List V) (Q:VK) (E:XK),Room k A→Env0 P w K mg base A outer s H→BindsTo s fd args (ps.zip us)→Vals vs us→sp vs H Q E →
    codeAny (model P w) A (.call (.ref f) args) (CR CX outer P w H s Q E) s
theorem FnOk.mono {P:Program} {w:World} {K:PySem.W.Frag} {mg:Str→Option Value} {base:Heap} {CX:CXT} {j k:Nat} {f:Addr} {fd:FuncData} {ps:List Str} {sp:Sp} (F:FnOk P w K mg base CX j f fd ps sp) (h:j≤k) :
    FnOk P w K mg base CX k f fd ps sp:=⟨F.len,fun A outer s H args us vs Q E hr=>F.run A outer s H args us vs Q E (hr.mono h)⟩
theorem Env0.make {P:Program} {w:World} {K:PySem.W.Frag} {mg:Str→Option Value} {base:Heap} {A:Around} {outer:List Env} {s:Shared} {H:Hp} (e:Env0 P w K mg base A outer s H) (C:Addr) (us:List Value) (kw:List (Str × Value)) :
    Env0 P w K mg base (A.under (.builtin "type.__call__" ⟨.ref C :: us,kw⟩)) outer s H:=⟨by first | exact e.frames | (simpa [Around.under,Code.envs,Code.isFrame,pushEnvs] using e.frames),e.mod,e.bs,e.bsz,e.funs,e.frf,e.hok,e.bare⟩
section
variable {X:Cx} {pins:List (Addr × Obj)} {σ:St} {H:Hp} {s s' : Shared}
theorem Inv.env0 (I:Inv X pins σ H s):Env0 X.prog X.w X.K X.mg X.base X.A X.stack s H :=
  ⟨I.ok.frames,I.ok.mod,I.bs,Nat.le_trans I.ok.bsz I.sz,I.stack,I.stkFree,I.hok,I.bare⟩
theorem Inv.after {Q:VK} {u:Value} (I:Inv X pins σ H s) (h:CE X.stack X.prog X.w H s Q u s'):EP X pins σ Q u s':=by
  obtain ⟨v,H',os,bare,un,hok,r,q⟩:=h
  obtain ⟨hh,g,d,t,os'⟩:=s'
  obtain rfl:os'=s.os:=os
  exact ⟨v,H',I.call (h':=hh) (g':=g) (d':=d) (t':=t) (ch:=[]) un hok bare (fun b z=>absurd z (by simp)),r,q⟩
end
def tCall (sp:Sp) (dvs:List V) (E:XK) (t:TA):TE:=fun σ H Q=>t σ H fun vs H1=>sp (vs ++ dvs) H1 Q E
def tMeth (C:Addr) (m:Str) (sp:Sp) (dvs:List V) (E:XK) (ta:TE) (t:TA):TE:=fun σ H Q=>ta σ H fun x H1=>∃ a dx fs,x=.ref a∧H1 a=some (.ins C dx fs)∧fs.lookup m=none ∧
  t σ H1 fun vs H2=>sp (x :: (vs ++ dvs)) H2 Q E
def tMake (C:Addr) (sp:Sp) (dvs:List V) (E:XK) (t:TA):TE:=fun σ H Q=>t σ H fun vs H1=>∀ x dx,H1 x=none→H1 dx=none→dx ≠ x →
  sp (.ref x :: (vs ++ dvs)) (upd (upd H1 dx (.own x)) x (.ins C dx [])) (fun v H2=>v=.non∧Q (.ref x) H2) E
def Binds (K:PySem.W.Frag) (fd:FuncData) (ps:List Str) (ds:List Value):Prop :=
  ∀ (s:Shared) (us:List Value),K.In s.heap→(us ++ ds).length=ps.length→BindsTo s fd ⟨us,[]⟩ (ps.zip (us ++ ds))
theorem Binds.all {K:PySem.W.Frag} {fd:FuncData} {ps:List Str} (h:∀ us:List Value,us.length=ps.length→bindArgs fd ⟨us,[]⟩=pure (ps.zip us)):Binds K fd ps []:=fun s us _ hl=>by
  rw [List.append_nil] at hl ⊢
  exact .of_eq (h us hl)
def Passes (CX:CXT) (X:Cx) (E:XK):Prop:=∀ (pins:List (Addr × Obj)) (σ:St) (H:Hp) (s:Shared) (e:Value) (s' : Shared),Inv X pins σ H s→CX X.stack H s E e s'→X.xe e s'
section
variable {X:Cx} {CX:CXT} {k:Nat} {f C:Addr} {fd:FuncData} {ps:List Str} {sp:Sp} {dvs:List V} {ds:List Value} {E:XK} {x m:Str} {p pos apos:Pos} {e o:Expr} {es:List Expr} {ta:TE} {t:TA}
theorem run_fn {pins:List (Addr × Obj)} {σ:St} {H:Hp} {s:Shared} {Q:VK} {us:List Value} {vs:List V} (F:FnOk X.prog X.w X.K X.mg X.base CX k f fd ps sp) (hr:Room k X.A) (hb:Binds X.K fd ps ds) (hd:Vals dvs ds) (hx:Passes CX X E)
    (I:Inv X pins σ H s) (r:Vals vs us) (h:sp (vs ++ dvs) H Q E):wpAny (model X.prog X.w) X.A (call (.ref f) us) (EP X pins σ Q) X.xe s:=by
  have r2:Vals (vs ++ dvs) (us ++ ds):=r.append hd
  have hl:(us ++ ds).length=ps.length:=by rw [← r2.length];exact F.len _ _ _ _ h
  refine wpAny_call (codeAny_mono (F.run X.A X.stack s H ⟨us,[]⟩ (us ++ ds) (vs ++ dvs) Q E hr I.env0 (hb s us I.kIn hl) r2 h) fun r s' hq=>?_)
  cases r with
  | error e=>exact hx pins σ H s e s' I hq
  | ok fl =>
    cases fl with
    | ret u=>exact I.after hq
    | next=>exact False.elim hq
    | brk=>exact False.elim hq
    | cont=>exact False.elim hq
theorem pe_call (F:FnOk X.prog X.w X.K X.mg X.base CX k f fd ps sp) (hr:Room k X.A) (hg:Gl X x) (hm:X.mg x=some (.ref f)) (hk:PySem.W.keepIn X.K (.ref f)=true) (hb:Binds X.K fd ps ds) (hd:Vals dvs ds) (hx:Passes CX X E)
    (ha:PA X (e :: es) t) (hdb:(x == ("__debug__" : Str))=false:=by decide) (he:starEach (e :: es) X.env=(false,eval e X.env) :: starEach es X.env:=by rfl) (hpl:(backTo pos (starEach es X.env)).any (·.1)=false:=by rfl) :
    PE X (.Call (.Name x p) (e :: es) [] pos) (tCall sp dvs E t):=by
  intro pins s σ H Q I h
  refine wpAny_Call_Name_kw (ld_glob I hg hm ?_ hdb)
  refine PySem.W.callWith_K (h₀:=X.base) I.ok.mod.kin hk (thn (ha pos pins s σ H _ I h) fun us s1 ⟨vs,H1,I1,r,q⟩=>⟨I1.kIn,?_⟩) he hpl
  exact run_fn F hr hb hd hx I1 r q
structure Mk (K:PySem.W.Frag) (C f:Addr):Prop where
  makes:PySem.W.makesIn K C=true
  init:PySem.W.findIn K (.ref C) "__init__" = some (some (.ref f))
  fn:PySem.W.isFn K (.ref f)=true
  kp:PySem.W.keepIn K (.ref C)=true
theorem run_make {pins:List (Addr × Obj)} {σ:St} {H:Hp} {s:Shared} {Q:VK} {us:List Value} {vs:List V} (M:Mk X.K C f) (F:FnOk X.prog X.w X.K X.mg X.base CX k f fd ps sp) (hr:Room (k+1) X.A) (hb:Binds X.K fd ps ds) (hd:Vals dvs ds)
    (hx:Passes CX X E) (I:Inv X pins σ H s) (r:Vals vs us)
    (h:∀ x dx,H x=none→H dx=none→dx ≠ x→sp (.ref x :: (vs ++ dvs)) (upd (upd H dx (.own x)) x (.ins C dx [])) (fun v H2=>v=.non∧Q (.ref x) H2) E) :
    wpAny (model X.prog X.w) X.A (call (.ref C) us) (EP X pins σ Q) X.xe s:=by
  have hq:=h (s.heap.objs.size+1) s.heap.objs.size (I.hok.fresh (Nat.le_succ _)) (I.hok.fresh (Nat.le_refl _)) (Nat.ne_of_lt (Nat.lt_succ_self _))
  have I2:=Inv.made (C:=C) I
  have r2:Vals (V.ref (s.heap.objs.size+1) :: (vs ++ dvs)) (Value.ref (s.heap.objs.size+1) :: (us ++ ds)):=.cons rfl (r.append hd)
  have hl:(Value.ref (s.heap.objs.size+1) :: us ++ ds).length=ps.length:=by
    have e:=r2.length
    rw [F.len _ _ _ _ hq] at e
    exact e.symm
  refine wpAny_call (make_map (f:=f) I.kIn M.makes M.init (beq_iff_eq.mp M.fn) (codeAny_mono (F.run _ X.stack _ _ ⟨Value.ref (s.heap.objs.size+1) :: us,[]⟩ (Value.ref (s.heap.objs.size+1) :: (us ++ ds)) _ _ E (hr.make C us [])
    (I2.env0.make C us []) (hb _ (Value.ref (s.heap.objs.size+1) :: us) I2.kIn hl) r2 hq) fun r s' hq'=>?_))
  cases r with
  | error e=>exact hx pins σ _ _ e s' I2 hq'
  | ok fl =>
    cases fl with
    | ret u =>
      obtain ⟨v,H',I3,rv,ev,q3⟩:=I2.after hq'
      subst ev
      exact ⟨rv,⟨V.ref (s.heap.objs.size+1),H',I3,rfl,q3⟩⟩
    | next=>exact False.elim hq'
    | brk=>exact False.elim hq'
    | cont=>exact False.elim hq'
theorem pe_make (M:Mk X.K C f) (F:FnOk X.prog X.w X.K X.mg X.base CX k f fd ps sp) (hr:Room (k+1) X.A) (hg:Gl X x) (hm:X.mg x=some (.ref C)) (hb:Binds X.K fd ps ds) (hd:Vals dvs ds) (hx:Passes CX X E)
    (ha:PA X (e :: es) t) (hdb:(x == ("__debug__" : Str))=false:=by decide) (he:starEach (e :: es) X.env=(false,eval e X.env) :: starEach es X.env:=by rfl) (hpl:(backTo pos (starEach es X.env)).any (·.1)=false:=by rfl) :
    PE X (.Call (.Name x p) (e :: es) [] pos) (tMake C sp dvs E t):=by
  intro pins s σ H Q I h
  refine wpAny_Call_Name_kw (ld_glob I hg hm ?_ hdb)
  refine PySem.W.callWith_K (h₀:=X.base) I.ok.mod.kin M.kp (thn (ha pos pins s σ H _ I h) fun us s1 ⟨vs,H1,I1,r,q⟩=>⟨I1.kIn,?_⟩) he hpl
  exact run_make M F hr hb hd hx I1 r q
theorem pe_make0 (M:Mk X.K C f) (F:FnOk X.prog X.w X.K X.mg X.base CX k f fd ps sp) (hr:Room (k+1) X.A) (hg:Gl X x) (hm:X.mg x=some (.ref C)) (hb:Binds X.K fd ps ds) (hd:Vals dvs ds) (hx:Passes CX X E)
    (hdb:(x == ("__debug__" : Str))=false:=by decide):PE X (.Call (.Name x p) [] [] pos) (tMake C sp dvs E tNil):=by
  intro pins s σ H Q I h
  refine wpAny_Call_Name_kw (ld_glob I hg hm ?_ hdb)
  exact PySem.W.callWith_K0 I.kIn M.kp (run_make (us:=[]) M F hr hb hd hx I .nil h)
end
def PK (X:Cx) (kws:List Keyword) (t:TA):Prop :=
  ∀ (pos:Pos) (pins:List (Addr × Obj)) (s:Shared) (σ:St) (H:Hp) (Q:List V→Hp→Prop),Inv X pins σ H s→t σ H Q→wpAny (model X.prog X.w) X.A (evalAll ((backToKw pos (keywordEach kws X.env)).map (·.2))) (AP X pins σ Q) X.xe s
section
variable {X:Cx} {CX:CXT} {k:Nat} {f C:Addr} {fd:FuncData} {ps ks:List Str} {sp:Sp} {E:XK} {x m:Str} {p pos apos kpos:Pos} {e o:Expr} {es:List Expr} {kws:List Keyword} {te ta:TE} {t tk:TA} {nm:Option Str}
structure KBinds (K:PySem.W.Frag) (fd:FuncData) (ps ks:List Str) (g:List Value→List Value→List Value) (gV:List V→List V→List V):Prop where
  to:∀ (s:Shared) (us ws:List Value),K.In s.heap→(g us ws).length=ps.length→BindsTo s fd ⟨us,ks.zip ws⟩ (ps.zip (g us ws))
  rel:∀ {vs:List V} {us:List Value} {zs:List V} {ws:List Value},Vals vs us→Vals zs ws→Vals (gV vs zs) (g us ws)
def tCallK (sp:Sp) (gV:List V→List V→List V) (E:XK) (t tk:TA):TE:=fun σ H Q=>t σ H fun vs H1=>tk σ H1 fun zs H2=>sp (gV vs zs) H2 Q E
variable {g:List Value→List Value→List Value} {gV:List V→List V→List V}
end
structure FnScope (N P:List Str) (sc:Scope):Prop where
  kind:sc.kind=.function
  co:sc.isCoroutine=false
  gen:sc.isGenerator=false
  nd:N.Nodup
  pre:N.take P.length=P
  par:∀ x ∈ P,sc.names.lookup x=some .local∨sc.names.lookup x=some .cell
  nofree:∀ y ∈ sc.names,y.2 ≠ .free
theorem bindL_out {kindOf:Str→Option NameKind} {x:Str} : ∀ {binds:List (Str × Value)} {m:Str→Option Value},(∀ v,(x,v) ∉ binds)→bindL kindOf binds m x=m x
  | [],_,_=>rfl
  | (n,v) :: r,m,h=>by
    unfold bindL
    rw [bindL_out fun w hw=>h w (List.mem_cons_of_mem _ hw)]
    split
    · have:x ≠ n:=by rintro rfl;exact h v List.mem_cons_self
      simp [this]
    · rfl
theorem bindC_out {kindOf:Str→Option NameKind} {x:Str} : ∀ {binds:List (Str × Value)} {m:Str→Option Value},(∀ v,(x,v) ∉ binds)→bindC kindOf binds m x=m x
  | [],_,_=>rfl
  | (n,v) :: r,m,h=>by
    unfold bindC
    rw [bindC_out fun w hw=>h w (List.mem_cons_of_mem _ hw)]
    split
    · rfl
    · have:x ≠ n:=by rintro rfl;exact h v List.mem_cons_self
      simp [this]
theorem bindL_get {kindOf:Str→Option NameKind} {x:Str} {v:Value} : ∀ {P:List Str} {vs:List Value} {i:Nat} {m:Str→Option Value},P.Nodup→P[i]?=some x→vs[i]?=some v→kindOf x=some .local →
    bindL kindOf (P.zip vs) m x=some v
  | [],_,_,_,_,h,_,_=>by simp at h
  | _ :: _,[],_,_,_,_,h,_=>by simp at h
  | p :: P,w :: vs,0,m,nd,h1,h2,hk=>by
    simp at h1 h2;subst h1;subst h2
    show bindL kindOf ((p,w) :: P.zip vs) m p=_
    unfold bindL
    rw [bindL_out fun v hv=>(List.nodup_cons.mp nd).1 (List.of_mem_zip hv).1,if_pos hk]
    simp
  | p :: P,w :: vs,i+1,m,nd,h1,h2,hk=>by
    show bindL kindOf ((p,w) :: P.zip vs) m x=_
    unfold bindL
    exact bindL_get (i:=i) (List.nodup_cons.mp nd).2 (by simpa using h1) (by simpa using h2) hk
theorem bindC_get {kindOf:Str→Option NameKind} {x:Str} {v:Value} : ∀ {P:List Str} {vs:List Value} {i:Nat} {m:Str→Option Value},P.Nodup→P[i]?=some x→vs[i]?=some v→kindOf x ≠ some .local →
    bindC kindOf (P.zip vs) m x=some v
  | [],_,_,_,_,h,_,_=>by simp at h
  | _ :: _,[],_,_,_,_,h,_=>by simp at h
  | p :: P,w :: vs,0,m,nd,h1,h2,hk=>by
    simp at h1 h2;subst h1;subst h2
    show bindC kindOf ((p,w) :: P.zip vs) m p=_
    unfold bindC
    rw [bindC_out fun v hv=>(List.nodup_cons.mp nd).1 (List.of_mem_zip hv).1,if_neg hk]
    simp
  | p :: P,w :: vs,i+1,m,nd,h1,h2,hk=>by
    show bindC kindOf ((p,w) :: P.zip vs) m x=_
    unfold bindC
    exact bindC_get (i:=i) (List.nodup_cons.mp nd).2 (by simpa using h1) (by simpa using h2) hk
def start (N:List Str) (vs:List V):St:=vs.map some ++ List.replicate (N.length - vs.length) none
def cxOf (CX:CXT) (P:Program) (w:World) (K:PySem.W.Frag) (mg:Str→Option Value) (base:Heap) (N:List Str) (qual:Str) (scope:Scope) (f:Addr) (cd:Value) (A:Around) (outer:List Env) (s:Shared) (H:Hp) (E:XK):Cx where
  prog:=P
  w:=w
  K:=K
  mg:=mg
  base:=base
  A:=A.deeper (envOfC qual scope s.heap.objs.size f cd)
  N:=N
  s₀:=s
  H₀:=H
  env:=envOfC qual scope s.heap.objs.size f cd
  outer:=outer
  stack:=envOfC qual scope s.heap.objs.size f cd :: outer
  ex:=[]
  calm:=true
  fn:=fun _=>true
  pn:=[]
  xe:=fun e s'=>wpAny (model P w) (A.deeper (envOfC qual scope s.heap.objs.size f cd)) (leaving (envOfC qual scope s.heap.objs.size f cd) e) (fun _ s''=>CX outer H s E e s'') (fun e' s''=>CX outer H s E e' s'') s'
theorem cell_has {sc:Scope} {n:Nat} {x:Str} (h:sc.names.lookup x=some .cell):∃ c,(cellsFrom n sc.names []).lookup x=some c:=by
  have q:=PySem.W.cellsFrom_some sc.names n [] (.inl h)
  exact Option.isSome_iff_exists.mp q
theorem inv_start {CX:CXT} {P:Program} {w:World} {K:PySem.W.Frag} {mg:Str→Option Value} {base:Heap} {N ps:List Str} {qual:Str} {scope:Scope} {f:Addr} {cd:Value} {A:Around} {outer:List Env} {s s1:Shared} {H:Hp} {E:XK} {us:List Value} {vs:List V}
    (S:FnScope N ps scope) (hd:A.handled=none) (e0:Env0 P w K mg base A outer s H) (hl:vs.length=ps.length) (r:Vals vs us)
    (x:InCallC s s.heap.objs.size (bindL (envOfC qual scope s.heap.objs.size f cd).kindOf (ps.zip us) fun _=>none) (cellsFrom (s.heap.objs.size+1) scope.names []) (bindC (envOfC qual scope s.heap.objs.size f cd).kindOf (ps.zip us) fun _=>none) s1) :
    Inv (cxOf CX P w K mg base N qual scope f cd A outer s H E) [] (start N vs) H s1:=by
  have hpl:ps.length≤N.length:=by have:=congrArg List.length S.pre;rw [List.length_take] at this;omega
  obtain ⟨h1,tk,rfl,hk⟩:=x.done
  have noA:∀ b:Addr,b ∉ (cxOf CX P w K mg base N qual scope f cd A outer s H E).ex:=fun b z=>absurd (show b ∈ ([]:List Addr) from z) (by simp)
  refine ⟨⟨e0.mod,S.kind,rfl,rfl,Nat.le_refl _,fun y z c h1 h2=>?_,fun y hy=>?_,fun y c _ h=>?_,fun _=>hd,Around.frames_deeper e0.frames,.inr ⟨rfl,rfl⟩,fun b z=>absurd z (noA b),e0.bs,e0.bsz,fun b _ _=>noA b,fun b z=>absurd z (noA b),e0.funs,e0.frf⟩,
    rfl,e0.bare,Un.kept hk,⟨_,x.toInCall.ns,fun i y v h1 h2 h3=>?_⟩,fun y c h=>⟨_,x.cell y c h⟩,e0.hok.fresh (Nat.le_refl _),fun y c h=>?_,fun p hp=>absurd (show p ∈ ([]:List (Addr × Obj)) from hp) (by simp),e0.hok.kept hk,?_⟩
  · exact name_of_addr x.apart (PySem.mem_of_lookup h1) (PySem.mem_of_lookup h2)
  · have hy:scope.names.lookup y=some .cell∨scope.names.lookup y=some .free:=hy
    rcases hy with hy | hy
    · exact cell_has hy
    · exact absurd rfl (S.nofree _ (PySem.mem_of_lookup hy))
  · exact Nat.le_of_lt (x.above y c (PySem.mem_of_lookup h))
  · have hi:i < vs.length:=by
      unfold start at h2
      by_cases hi:i < vs.length
      · exact hi
      · rw [List.getElem?_append_right (by simpa using hi)] at h2
        rw [List.getElem?_replicate] at h2
        split at h2 <;> cases h2
    have ha:vs[i]?=some v:=by
      unfold start at h2
      rw [List.getElem?_append_left (by simpa using hi),List.getElem?_map] at h2
      cases e:vs[i]? with
      | none=>rw [e] at h2;cases h2
      | some a=>rw [e] at h2;cases h2;rfl
    obtain ⟨u,hu,rv⟩:=r.get ha
    have hp:ps[i]?=some y:=by
      rw [← S.pre,List.getElem?_take_of_lt (by omega)];exact h1
    have ndP:ps.Nodup:=by rw [← S.pre];exact S.nd.sublist (List.take_sublist _ _)
    refine ⟨u,rv,?_⟩
    rcases S.par y (List.mem_of_getElem? hp) with k | k
    · exact .inl ⟨k,bindL_get ndP hp hu k⟩
    · obtain ⟨c,e⟩:=cell_has (n:=s.heap.objs.size+1) k
      refine .inr ⟨.inl k,c,e,?_⟩
      have q:=x.cell y c e
      rw [bindC_get ndP hp hu (by show scope.names.lookup y ≠ _;rw [k];decide)] at q
      exact q
  · exact e0.hok.fresh (Nat.le_of_lt (x.above y c (PySem.mem_of_lookup h)))
  · unfold start
    show _=N.length
    rw [List.length_append,List.length_map,List.length_replicate]
    omega
theorem fn_of {CX:CXT} {P:Program} {w:World} {K:PySem.W.Frag} {mg:Str→Option Value} {base:Heap} {k:Nat} {f:Addr} {name qual:Str} {params:Arguments} {body:List Stmt} {scope:Scope} {dV kV doc pm cdv ct oc:Value} {an od:Option Addr}
    {osl:Array (Option Value)} {N ps:List Str} {sp:Sp} (lk:K.lookup f=some ⟨oc,od,.func (PySem.W.fnOf name qual params body scope dV kV doc pm an cdv ct),osl⟩) (hcd:PySem.W.codeIn K cdv qual=true) (S:FnScope N ps scope)
    (len:∀ vs H Q E,sp vs H Q E→vs.length=ps.length)
    (hbody:∀ (A:Around) (outer:List Env) (s:Shared) (H:Hp) (vs:List V) (Q:VK) (E:XK),Room k (A.deeper (envOfC qual scope s.heap.objs.size f cdv))→sp vs H Q E →
      ∃ t,PSs (cxOf CX P w K mg base N qual scope f cdv A outer s H E) body t∧t { nx:=fun _ H'=>Q .non H',rt:=Q } (start N vs) H) :
    FnOk P w K mg base CX (k+1) f (PySem.W.fnOf name qual params body scope dV kV doc pm an cdv ct) ps sp:=by
  refine ⟨len,fun A outer s H args us vs Q E hr e0 hb r hsp=>?_⟩
  have hl:=len _ _ _ _ hsp
  have KX:K.In s.heap:=e0.mod.kin.keeps fun b o e=>(e0.bs b o e).1
  have lim:s.heap.NoLimit:=e0.mod.nolimit.keeps fun b o e=>(e0.bs b o e).1
  have hkind:∀ y ∈ ps.zip us,scope.names.lookup y.1=some .local∨(scope.names.lookup y.1=some .cell∧((cellsFrom (s.heap.objs.size+1) scope.names []).lookup y.1).isSome=true):=fun ⟨n,v⟩ hy=>by
    rcases S.par n (List.of_mem_zip hy).1 with q | q
    · exact .inl q
    · exact .inr ⟨q,PySem.W.cellsFrom_some _ _ _ (.inl q)⟩
  refine codeAny_call_function hr.depth (KX _ _ lk) rfl S.co S.gen rfl (PySem.W.codeRec_of KX hcd) (hb _ _ _ _ ?_)
  refine wpAny_newFunctionEnv_cells S.kind hkind fun env he s1 x=>?_
  subst he
  refine ⟨lim.keeps x.toInCall.keep,codeAny_func ?_⟩
  obtain ⟨t,ht,hq⟩:=hbody A outer s H vs Q E (hr.deeper _) hsp
  have I:Inv (cxOf CX P w K mg base N qual scope f cdv A outer s H E) [] (start N vs) H s1:=inv_start S hr.hd e0 hl r x
  refine wpAny_mono (ht [] s1 (start N vs) H _ I hq) (fun fl s' hs=>?_) fun e s' hs=>hs
  have fin:∀ {σ' : St} {H' : Hp} {v:V} {u:Value},Inv (cxOf CX P w K mg base N qual scope f cdv A outer s H E) [] σ' H' s'→RelV v u→Q v H'→CE outer P w H s Q u s' :=
    fun {σ' H' v u} J rv q=>⟨v,H',J.os,J.bare,J.base,J.hok,rv,q⟩
  cases fl with
  | ret u =>
    obtain ⟨v,σ',H',J,rv,q⟩:=hs
    exact fin J rv q
  | next =>
    obtain ⟨σ',H',J,q⟩:=hs
    exact fin (v:=V.non) (u:=Value.none) J rfl q
  | brk =>
    obtain ⟨_,_,_,q⟩:=hs
    exact False.elim q
  | cont =>
    obtain ⟨_,_,_,q⟩:=hs
    exact False.elim q
end L2
namespace L2
open PySem PySem.Spec PyProof.Rows
section
variable {X:Cx} {x:Str} {p pos:Pos} {e:Expr} {es:List Expr} {t:TA} {id T:String} {r:List V→Hp→VK→Prop}
def tCB (r:List V→Hp→VK→Prop) (t:TA):TE:=fun σ H Q=>t σ H fun vs H1=>r vs H1 Q
theorem pe_callB (hc:CallR X (.builtin id) r) (hg:Gl X x) (hm:X.mg x=none) (hv:bootBuiltins x=some (.builtin id)) (ha:PA X (e :: es) t) (hn:x ≠ "__name__" := by decide) (hdb:(x == ("__debug__" : Str))=false:=by decide)
    (he:starEach (e :: es) X.env=(false,eval e X.env) :: starEach es X.env:=by rfl) (hpl:(backTo pos (starEach es X.env)).any (·.1)=false:=by rfl):PE X (.Call (.Name x p) (e :: es) [] pos) (tCB r t):=by
  intro pins s σ H Q I h
  refine wpAny_Call_Name_kw (ld_blt I hg hm hv ?_ hn hdb)
  exact PyProof.Rows.callWith_builtin1 (thn (ha pos pins s σ H _ I h) fun us s1 ⟨vs,H1,I1,r1,q1⟩=>hc pins s1 σ H1 vs us Q I1 r1 q1) he hpl
theorem pe_callTy (hc:CallR X (.type T) r) (hg:Gl X x) (hm:X.mg x=none) (hv:bootBuiltins x=some (.type T)) (ha:PA X (e :: es) t) (hn:x ≠ "__name__" := by decide) (hdb:(x == ("__debug__" : Str))=false:=by decide)
    (he:starEach (e :: es) X.env=(false,eval e X.env) :: starEach es X.env:=by rfl) (hpl:(backTo pos (starEach es X.env)).any (·.1)=false:=by rfl):PE X (.Call (.Name x p) (e :: es) [] pos) (tCB r t):=by
  intro pins s σ H Q I h
  refine wpAny_Call_Name_kw (ld_blt I hg hm hv ?_ hn hdb)
  exact PyProof.Rows.callWith_type1 (thn (ha pos pins s σ H _ I h) fun us s1 ⟨vs,H1,I1,r1,q1⟩=>hc pins s1 σ H1 vs us Q I1 r1 q1) he hpl
end
end L2
namespace HT
open PySem PyProof.Rows
def lexLt:List Int→List Int→Bool
  | [],[]=>false
  | [],_ :: _=>true
  | _ :: _,[]=>false
  | x :: xs,y :: ys=>if x=y then lexLt xs ys else decide (x < y)
section
open PySem.SeqAt
open PySem.AutoSeq1 (wpAny_loadPart')
open PySem.MeetsSeq PySem.MeetsSeq2 PySem.MeetsSeq3
end
section
variable {prog:Program} {w:World} {A:Around} {E:Value→Shared→Prop} {s:Shared}
def sIx (n d:Nat):Option Int→Nat
  | none=>d
  | some v=>if v < 0 then (v+(n:Int)).toNat else min v.toNat n
end
end HT
namespace L2
open PySem PySem.Spec PyProof.Rows
abbrev TO:=St→Hp→(Option Int→Hp→Prop)→Prop
def PO (X:Cx) (e:Option Expr) (t:TO):Prop :=
  ∀ (pins:List (Addr × Obj)) (s:Shared) (σ:St) (H:Hp) (Q:Option Int→Hp→Prop),Inv X pins σ H s→t σ H Q →
    wpAny (model X.prog X.w) X.A (evalPart e X.env) (fun u s'=>∃ o H',Inv X pins σ H' s'∧IsPart u o∧Q o H') X.xe s
def tNoPart:TO:=fun _ H Q=>Q none H
def tPart (t:TE):TO:=fun σ H Q=>t σ H fun x H1=>∃ i,x=.int i∧Q (some i) H1
section
variable {X:Cx} {e:Expr} {te:TE} {lo hi:Option Expr} {tl th:TO} {pos p2:Pos}
theorem po_none:PO X none tNoPart:=by
  intro pins s σ H Q I h
  rw [evalPart_none]
  exact wpAny_pure ⟨none,H,I,.none,h⟩
theorem po_some (h:PE X e te):PO X (some e) (tPart te):=by
  intro pins s σ H Q I hw
  rw [evalPart_some]
  refine thn (h pins s σ H _ I hw) fun u s1 ⟨x,H1,I1,r1,q1⟩=>?_
  obtain ⟨i,rfl,q⟩:=q1
  obtain ⟨t,rfl⟩:=r1
  exact ⟨some i,H1,I1,.int i t,q⟩
def SlR (X:Cx) (r:V→Option Int→Option Int→Hp→VK→Prop):Prop :=
  ∀ (pins:List (Addr × Obj)) (s:Shared) (σ:St) (H:Hp) (x:V) (v vl vu:Value) (lo hi:Option Int) (sl:Addr) (Q:VK),Inv X pins σ H s→RelV x v→s.heap.IsSliceOf sl vl vu .none→IsPart vl lo→IsPart vu hi→r x lo hi H Q →
    ∃ T id,typeLookup (.type T) "__getitem__" = pure (some (.builtin id))∧s.TypeIs v T∧wpAny (model X.prog X.w) X.A (getItem v (.ref sl)) (EP X pins σ Q) X.xe s
def tSl (r:V→Option Int→Option Int→Hp→VK→Prop) (te:TE) (tl th:TO):TE:=fun σ H Q=>te σ H fun x H1=>tl σ H1 fun l H2=>th σ H2 fun u H3=>r x l u H3 Q
theorem pe_slice {r:V→Option Int→Option Int→Hp→VK→Prop} (hr:SlR X r) (he:PE X e te) (hl:PO X lo tl) (hu:PO X hi th):PE X (.Subscript e (.Slice lo hi none p2) pos) (tSl r te tl th):=by
  intro pins s σ H Q I h
  refine Subscript_ (thn (he pins s σ H _ I h) fun v s1 ⟨x,H1,I1,r1,q1⟩=>?_)
  refine wpAny_Slice (thn (hl pins s1 σ H1 _ I1 q1) fun vl s2 ⟨l,H2,I2,pl,q2⟩=>thn (hu pins s2 σ H2 _ I2 q2) fun vu s3 ⟨u,H3,I3,pu,q3⟩=>?_)
  rw [evalPart_none]
  refine wpAny_pure ?_
  have I4:Inv X pins σ H3 { s3 with heap:=s3.heap.push { cls:=.type "slice",data:=.fields #[vl,vu,.none] } }:=I3.kept (t':=s3.toks) fun b ob q=>Heap.get?_push_of_some _ q
  obtain ⟨T,id,hT,ht,hg⟩:=hr pins { s3 with heap:=s3.heap.push { cls:=.type "slice",data:=.fields #[vl,vu,.none] } } σ H3 x v vl vu l u s3.heap.objs.size Q I4 r1 (Heap.IsSliceOf.new ..) pl pu q3
  show wpAny (model X.prog X.w) X.A (subscriptTail e (.Slice lo hi none p2) v (.ref s3.heap.objs.size)) (EP X pins σ Q) X.xe { s3 with heap:=s3.heap.push { cls:=.type "slice",data:=.fields #[vl,vu,.none] } }
  exact tail_any (ops:=[.ref s3.heap.objs.size,v]) ht hT hg (by with_unfolding_all rfl)
def cutV (xs:List V) (lo hi:Option Int):List V:=(xs.drop (HT.sIx xs.length 0 lo)).take (HT.sIx xs.length xs.length hi - HT.sIx xs.length 0 lo)
theorem cutV_length (xs:List V) (lo hi:Option Int):(cutV xs lo hi).length≤xs.length:=by
  unfold cutV
  rw [List.length_take,List.length_drop]
  omega
def rSlT (K:PySem.W.Frag):V→Option Int→Option Int→Hp→VK→Prop:=fun x lo hi H Q=>∃ a xs,x=.ref a∧SqT K H a xs ∧
  ¬ (HT.sIx xs.length 0 lo=0∧HT.sIx xs.length xs.length hi=xs.length)∧∀ p,H p=none→Q (.ref p) (upd H p (.tup (cutV xs lo hi)))
def rLtT (K:PySem.W.Frag):R2:=fun x y H Q=>∃ a b ns ms,x=.ref a∧y=.ref b∧SqT K H a (ns.map V.int)∧SqT K H b (ms.map V.int)∧Q (.bl (HT.lexLt ns ms)) H
def rCatT (K:PySem.W.Frag):R2:=fun x y H Q=>∃ a b xs ys,x=.ref a∧y=.ref b∧SqT K H a xs∧SqT K H b ys∧xs ≠ []∧xs.length+ys.length≤sizeLine ∧
  (ys=[]→Q (.ref a) H)∧(ys ≠ []→∀ p,H p=none→Q (.ref p) (upd H p (.tup (xs ++ ys))))
end
end L2
namespace L2
open PySem PySem.Spec PyProof.Rows
def ixN (n:Nat) (i:Int):Option Nat:=if 0≤i then (if i < n then some i.toNat else none) else if -(n:Int)≤i then some (i+n).toNat else none
def atI {α:Type} (xs:List α) (i:Int):Option α:=(ixN xs.length i).bind fun j=>xs[j]?
theorem ixN_seq {n:Nat} {i:Int} {j:Nat} (h:ixN n i=some j):seqIndex? i n=some j∧j < n∧-(n:Int)≤i∧i < n:=by
  unfold ixN at h
  by_cases h0:0≤i
  · rw [if_pos h0] at h
    by_cases h1:i < n
    · rw [if_pos h1] at h
      have e:i.toNat=j:=Option.some.inj h
      exact ⟨by rw [seqIndex_of h0 h1,e],by omega,by omega,h1⟩
    · rw [if_neg h1] at h;cases h
  · rw [if_neg h0] at h
    by_cases h1 : -(n:Int)≤i
    · rw [if_pos h1] at h
      have e:(i+n).toNat=j:=Option.some.inj h
      exact ⟨by rw [seqIndex_neg (by omega) h1,e],by omega,h1,by omega⟩
    · rw [if_neg h1] at h;cases h
theorem atI_get {α:Type} {xs:List α} {i:Int} {v:α} (h:atI xs i=some v):∃ j,seqIndex? i xs.length=some j∧xs[j]?=some v∧j < xs.length∧-(xs.length:Int)≤i∧i < xs.length:=by
  unfold atI at h
  cases e:ixN xs.length i with
  | none=>rw [e] at h;cases h
  | some j =>
    rw [e] at h
    obtain ⟨h1,h2,h3,h4⟩:=ixN_seq e
    exact ⟨j,h1,h,h2,h3,h4⟩
theorem atI_nat {α:Type} {xs:List α} {j:Nat} {v:α} (h:xs[j]?=some v):atI xs (j:Int)=some v:=by
  have hj:j < xs.length:=(List.getElem?_eq_some_iff.mp h).1
  have e:ixN xs.length (j:Int)=some j:=by
    unfold ixN
    rw [if_pos (by omega),if_pos (by omega)];simp
  unfold atI;rw [e];exact h
theorem atI_last {α:Type} (xs:List α) (v:α):atI (xs ++ [v]) (-1)=some v:=by
  have hl:(xs ++ [v]).length=xs.length+1:=by simp
  have e:ixN (xs ++ [v]).length (-1)=some xs.length:=by
    unfold ixN
    rw [hl,if_neg (by decide),if_pos (by omega)]
    congr 1
    omega
  unfold atI
  rw [e]
  show (xs ++ [v])[xs.length]?=some v
  simp
def PlainIx (b:Expr):Prop:=∀ o i,subscripted b false o i=operate [o,i] (getItem o i)
def IxR (X:Cx) (r:R2):Prop :=
  ∀ (value slice:Expr) (pins:List (Addr × Obj)) (s:Shared) (σ:St) (H:Hp) (x y:V) (v u:Value) (Q:VK),Inv X pins σ H s→RelV x v→RelV y u→r x y H Q →
    subscripted slice false v u=operate [v,u] (getItem v u)→wpAny (model X.prog X.w) X.A (subscriptTail value slice v u) (EP X pins σ Q) X.xe s
def MtR (X:Cx) (id:String) (r:V→List V→Hp→VK→Prop):Prop :=
  ∀ (pins:List (Addr × Obj)) (s:Shared) (σ:St) (H:Hp) (x:V) (xs:List V) (v:Value) (us:List Value) (Q:VK),Inv X pins σ H s→RelV x v→Vals xs us→r x xs H Q →
    wpAny (model X.prog X.w) X.A (call (.builtin id) (v :: us)) (EP X pins σ Q) X.xe s
section
variable {X:Cx} {a b:Expr} {ta tb:TE} {pos:Pos}
theorem pe_ix {r:R2} (hr:IxR X r) (ha:PE X a ta) (hb:PE X b tb) (hs:PlainIx b):PE X (.Subscript a b pos) (tOp r ta tb):=by
  intro pins s σ H Q I h
  exact Subscript_ (binT ha hb I h fun v u s2 x y H2 I2 rx ry q=>hr a b pins s2 σ H2 x y v u Q I2 rx ry q (hs _ _))
def rIxL (K:PySem.W.Frag):R2:=fun x y H Q=>∃ p xs i v,x=.ref p∧y=.int i∧SqL K H p xs∧atI xs i=some v∧Q v H
def rIxT (K:PySem.W.Frag):R2:=fun x y H Q=>∃ p xs i v,x=.ref p∧y=.int i∧SqT K H p xs∧atI xs i=some v∧Q v H
def rIxS:R2:=fun x y H Q=>∃ z i c,x=.str z∧y=.int i∧z.length≤sizeLine∧atI z.cps.toList i=some c∧Q (.str ⟨#[c]⟩) H
theorem ix_list:IxR X (rIxL X.K):=by
  intro value slice pins s σ H x y v u Q I rx ry h hs
  obtain ⟨p,xs,i,z,rfl,rfl,hq,he,q⟩:=h
  cases rx
  obtain ⟨t,rfl⟩:=ry
  obtain ⟨its,r,pl,hz⟩:=I.list hq
  obtain ⟨j,h1,h2,h3,h4,h5⟩:=atI_get he
  obtain ⟨w,ew,rw'⟩:=r.get h2
  have hl:=r.length
  have hn:=line63
  have fin:EP X pins σ Q w s:=⟨z,H,I,rw',q⟩
  by_cases h0:0≤i
  · have hj:i.toNat=j:=by
      rw [seqIndex_of h0 h5] at h1
      exact Option.some.inj h1
    exact item_listR pl.isList h0 (by omega) (by rw [hj];simpa using ew) fin hs
  · have hj:(i+(its.toArray.size:Int)).toNat=j:=by
      rw [seqIndex_neg (by omega) h4] at h1
      rw [List.size_toArray,← hl]
      exact Option.some.inj h1
    exact subscriptTail_builtinR (x:=w) pl.isList.typeIs slot_list_getitem.lookup
      (wpAny_getItem_list_neg (Q:=fun r s'=>r=w∧EP X pins σ Q r s') pl.isList (by omega) (by rw [List.size_toArray] <;> omega) (by omega) (by rw [hj];simpa using ew) ⟨rfl,fin⟩) hs
theorem ix_tup:IxR X (rIxT X.K):=by
  intro value slice pins s σ H x y v u Q I rx ry h hs
  obtain ⟨p,xs,i,z,rfl,rfl,hq,he,q⟩:=h
  cases rx
  obtain ⟨t,rfl⟩:=ry
  obtain ⟨its,r,pl,hz⟩:=I.tuple hq
  obtain ⟨j,h1,h2,h3,h4,h5⟩:=atI_get he
  obtain ⟨w,ew,rw'⟩:=r.get h2
  have hl:=r.length
  have hn:=line63
  have fin:EP X pins σ Q w s:=⟨z,H,I,rw',q⟩
  exact subscriptTail_builtinR (x:=w) pl.typeIs slot_tuple_getitem.lookup
    (getItem_tuple (j:=j) (Q:=fun r s'=>r=w∧EP X pins σ Q r s') pl (by omega) (by omega) (by rw [List.size_toArray,← hl];exact h1) (by simpa using ew) ⟨rfl,fin⟩) hs
theorem ix_str:IxR X rIxS:=by
  intro value slice pins s σ H x y v u Q I rx ry h hs
  obtain ⟨z,i,c,rfl,rfl,hz,he,q⟩:=h
  obtain ⟨t,rfl⟩:=rx
  obtain ⟨t',rfl⟩:=ry
  obtain ⟨j,h1,h2,h3,h4,h5⟩:=atI_get he
  have hl:z.cps.toList.length=z.length:=by simp [Str.length]
  rw [hl] at h1 h4 h5
  have hn:=line63
  exact tail_any (typeIs_str s z t) slot_str_getitem.lookup (getItem_str (c:=c) (by
    have e1:decide (i < -(2 ^ 63:Int))=false:=decide_eq_false (by omega)
    have e2:decide (i ≥ 2 ^ 63)=false:=decide_eq_false (by omega)
    rw [e1,e2,Bool.or_false]) (by rw [h1];simpa using h2) ⟨.str ⟨#[c]⟩,H,I.tok _,⟨_,rfl⟩,q⟩) hs
def rIx (K:PySem.W.Frag):R2:=fun x y H Q=>rIxL K x y H Q∨rIxT K x y H Q∨rIxS x y H Q
theorem mapSeq_set (its:List Value) (n j:Nat) (u:Value):Obj.mapSeq (·.setIfInBounds j u) { cls:=.type "list",data:=.seq its.toArray n } = { cls:=.type "list",data:=.seq (its.set j u).toArray n }:=by
  simp [Obj.mapSeq]
theorem Inv.lst {pins:List (Addr × Obj)} {σ:St} {H:Hp} {s:Shared} {p:Addr} {xs:List V} (I:Inv X pins σ H s) (h:H p=some (.lst xs)) :
    ∃ (its:List Value) (n:Nat),Vals xs its∧s.heap.get? p=some { cls:=.type "list",data:=.seq its.toArray n }∧xs.length≤sizeLine:=by
  obtain ⟨z,its,n,r,e⟩:=I.hok p _ h
  exact ⟨its,n,r,e,z⟩
theorem Inv.lstUpd {pins:List (Addr × Obj)} {σ:St} {H:Hp} {s:Shared} {p:Addr} {xs ys:List V} {its its' : List Value} {n n' : Nat} {f:Obj→Obj} (I:Inv X pins σ H s) (h:H p=some (.lst xs))
    (ho:s.heap.get? p=some { cls:=.type "list",data:=.seq its.toArray n }) (hf:f { cls:=.type "list",data:=.seq its.toArray n } = { cls:=.type "list",data:=.seq its'.toArray n' }) (r:Vals ys its') (hz:ys.length≤sizeLine) (t:Nat) :
    Inv X pins σ (upd H p (.lst ys)) { s with heap:=s.heap.update p f,toks:=t }:=by
  have e:(s.heap.update p f).get? p=some { cls:=.type "list",data:=.seq its'.toArray n' }:=by
    rw [Heap.get?_update_self f ho (by rw [hf] <;> rfl),hf]
  refine I.write (x:=p) (e:=p) (by rw [h];trivial) (.inl rfl) (fun b u hb q=>(Heap.get?_update_other _ _ (Ne.symm hb)).trans q) ⟨_,e⟩ ?_
  exact ⟨hz,its',n',r,e⟩
def rSetL:V→V→V→Hp→(Hp→Prop)→Prop:=fun o i v H Q=>∃ p xs k j,o=.ref p∧i=.int k∧H p=some (.lst xs)∧ixN xs.length k=some j∧Q (upd H p (.lst (xs.set j v)))
theorem set_list:PSet X rSetL:=by
  intro pins s σ H o i v ov iv u Q I ro ri rv h
  obtain ⟨p,xs,k,j,rfl,rfl,hp,hj,q⟩:=h
  cases ro
  obtain ⟨t,rfl⟩:=ri
  obtain ⟨its,n,r,ho,hz⟩:=I.lst hp
  obtain ⟨h1,h2,h3,h4⟩:=ixN_seq hj
  have hl:=r.length
  have hn:=line63
  have I' : Inv X pins σ (upd H p (.lst (xs.set j v))) { s with heap:=s.heap.update p (Obj.mapSeq (·.setIfInBounds j u)) } :=
    I.lstUpd hp ho (mapSeq_set its n j u) (r.set rv j) (by rw [List.length_set];exact hz) s.toks
  by_cases h0:0≤k
  · have hk:k.toNat=j:=by
      rw [seqIndex_of h0 h4] at h1
      exact Option.some.inj h1
    exact PySem.W.ki_setAt ho h0 (by omega) (by rw [List.size_toArray,← hl];exact h4) (by rw [hk];exact ⟨_,I',q⟩)
  · have hk:(k+(its.toArray.size:Int)).toNat=j:=by
      rw [seqIndex_neg (by omega) h3] at h1
      rw [List.size_toArray,← hl]
      exact Option.some.inj h1
    exact PySem.W.ki_setBack ho (by omega) (by rw [List.size_toArray,← hl];exact h3) (by omega) (by rw [hk];exact ⟨_,I',q⟩)
theorem slice_bounds (lo hi:Option Int) (n:Nat):(sliceBounds lo hi none n).1=((HT.sIx n 0 lo:Nat):Int)∧(sliceBounds lo hi none n).2.1=((HT.sIx n n hi:Nat):Int)∧(sliceBounds lo hi none n).2.2=1:=by
  refine ⟨?_,?_,rfl⟩
  · cases lo with
    | none=>simp [sliceBounds,HT.sIx]
    | some i =>
      simp only [sliceBounds,HT.sIx,Option.getD_none,show (1:Int) > 0 by decide,if_true]
      by_cases h:i < 0
      · simp only [h,if_true] <;> omega
      · simp only [h,if_false] <;> omega
  · cases hi with
    | none=>simp [sliceBounds,HT.sIx]
    | some i =>
      simp only [sliceBounds,HT.sIx,Option.getD_none,show (1:Int) > 0 by decide,if_true]
      by_cases h:i < 0
      · simp only [h,if_true] <;> omega
      · simp only [h,if_false] <;> omega
theorem slicePick_cut (its:List Value) (lo hi:Option Int):slicePick its.toArray lo hi none=((its.drop (HT.sIx its.length 0 lo)).take (HT.sIx its.length its.length hi - HT.sIx its.length 0 lo)).toArray:=by
  obtain ⟨h1,h2,h3⟩:=slice_bounds lo hi its.toArray.size
  unfold slicePick
  rw [h1,h2,h3]
  simp only [sliceRange_one,pick_run,List.size_toArray] <;> rfl
def rSlL (K:PySem.W.Frag):V→Option Int→Option Int→Hp→VK→Prop:=fun x lo hi H Q=>∃ a xs,x=.ref a∧SqL K H a xs∧∀ p,H p=none→Q (.ref p) (upd H p (.lst (cutV xs lo hi)))
theorem sl_list:SlR X (rSlL X.K):=by
  intro pins s σ H x v vl vu lo hi sl Q I rx hs pl pu h
  obtain ⟨a,xs,rfl,hx,q⟩:=h
  cases rx
  obtain ⟨its,r,ht,hz⟩:=I.list hx
  have hlen:=r.length
  refine ⟨"list",_,slot_list_getitem.lookup,ht.isList.typeIs,?_⟩
  refine wpAny_getItem_list_slice ht.isList hs pl pu .none (by simp) ?_ (by rw [List.size_toArray] <;> omega)
  rw [slicePick_cut,← hlen]
  refine ⟨.ref s.heap.objs.size,_,I.laid (t':=s.toks) (o:=.lst (cutV xs lo hi)) (fun b ob q=>Heap.get?_push_of_some _ q) (Nat.le_refl _) ?_,rfl,q _ (I.hok.fresh (Nat.le_refl _))⟩
  exact ⟨Nat.le_trans (cutV_length xs lo hi) hz,_,0,(r.drop (HT.sIx xs.length 0 lo)).take (HT.sIx xs.length xs.length hi - HT.sIx xs.length 0 lo),Heap.get?_push_size _ rfl⟩
def flatV:V→Bool
  | .non=>true
  | .bl _=>true
  | .int _=>true
  | .str _=>true
  | _=>false
def eqV:V→V→Bool
  | .non,.non=>true
  | .bl a,.bl b=>a == b
  | .bl a,.int b=>(if a then 1 else 0) == b
  | .int a,.bl b=>a == (if b then 1 else 0)
  | .int a,.int b=>a == b
  | .str a,.str b=>a == b
  | _,_=>false
theorem eqAt_V {A:Around} {s:Shared} {y x:V} {u v:Value} (ry:RelV y u) (rx:RelV x v) (fy:flatV y=true) (fx:flatV x=true):SeqAt.EqAt A s u v (eqV y x):=by
  cases y with
  | non =>
    cases ry
    cases x with
    | non=>cases rx;exact SeqAt.EqAt.same _
    | bl b=>cases rx;exact SeqAt.EqAt.none_bool b
    | int b=>obtain ⟨t,rfl⟩:=rx;exact SeqAt.EqAt.none_int b t
    | str b=>obtain ⟨t,rfl⟩:=rx;exact SeqAt.EqAt.none_str b t
    | _=>exact absurd (show false=true from fx) Bool.false_ne_true
  | bl a =>
    cases ry
    cases x with
    | non=>cases rx;exact SeqAt.EqAt.bool_none a
    | bl b=>cases rx;exact SeqAt.EqAt.bool_bool a b
    | int b=>obtain ⟨t,rfl⟩:=rx;exact SeqAt.EqAt.bool_int a b t
    | str b=>obtain ⟨t,rfl⟩:=rx;exact SeqAt.EqAt.bool_str a b t
    | _=>exact absurd (show false=true from fx) Bool.false_ne_true
  | int a =>
    obtain ⟨t',rfl⟩:=ry
    cases x with
    | non=>cases rx;exact SeqAt.EqAt.int_none a t'
    | bl b=>cases rx;exact SeqAt.EqAt.int_bool a t' b
    | int b=>obtain ⟨t,rfl⟩:=rx;exact SeqAt.EqAt.int_int a t' b t
    | str b=>obtain ⟨t,rfl⟩:=rx;exact SeqAt.EqAt.int_str a t' b t
    | _=>exact absurd (show false=true from fx) Bool.false_ne_true
  | str a =>
    obtain ⟨t',rfl⟩:=ry
    cases x with
    | non=>cases rx;exact SeqAt.EqAt.str_none a t'
    | bl b=>cases rx;exact SeqAt.EqAt.str_bool a t' b
    | int b=>obtain ⟨t,rfl⟩:=rx;exact SeqAt.EqAt.str_int a t' b t
    | str b=>obtain ⟨t,rfl⟩:=rx;exact SeqAt.EqAt.str_str a t' b t
    | _=>exact absurd (show false=true from fx) Bool.false_ne_true
  | _=>exact absurd (show false=true from fy) Bool.false_ne_true
def eqU (x:V) (u:Value):Bool:=match u with
  | .none=>eqV .non x
  | .bool b=>eqV (.bl b) x
  | .int i _=>eqV (.int i) x
  | .str z _=>eqV (.str z) x
  | _=>false
theorem eqU_of {x y:V} {u:Value} (r:RelV y u) (f:flatV y=true):eqU x u=eqV y x:=by
  cases y with
  | non=>cases r;rfl
  | bl b=>cases r;rfl
  | int i=>obtain ⟨t,rfl⟩:=r;rfl
  | str z=>obtain ⟨t,rfl⟩:=r;rfl
  | _=>exact absurd (show false=true from f) Bool.false_ne_true
theorem any_eqU {x:V} : ∀ {xs:List V} {us:List Value},Vals xs us→xs.all flatV=true→us.any (eqU x)=xs.any fun y=>eqV y x
  | _,_,.nil,_=>rfl
  | y :: xs,u :: us,.cons r t,f=>by
    rw [List.all_cons,Bool.and_eq_true] at f
    rw [List.any_cons,List.any_cons,eqU_of r f.1,any_eqU t f.2]
theorem mem_eqAt {A:Around} {s:Shared} {x:V} {v:Value} (rx:RelV x v) (fx:flatV x=true):∀ {xs:List V} {us:List Value},Vals xs us→xs.all flatV=true→∀ u ∈ us,SeqAt.EqAt A s u v (eqU x u)
  | _,_,.nil,_=>fun u hu=>by cases hu
  | y :: xs,u :: us,.cons r t,f=>fun u' hu=>by
    rw [List.all_cons,Bool.and_eq_true] at f
    rcases List.mem_cons.mp hu with rfl | hu
    · rw [eqU_of r f.1];exact eqAt_V r rx f.1 fx
    · exact mem_eqAt rx fx t f.2 u' hu
def inV (x:V) (xs:List V):Bool:=xs.any fun y=>eqV y x
def rIn (K:PySem.W.Frag) (neg:Bool):R2:=fun x y H Q=>∃ p xs,y=.ref p∧(SqL K H p xs∨SqT K H p xs)∧flatV x=true∧xs.all flatV=true∧Q (.bl (if neg then !inV x xs else inV x xs)) H
theorem op_notIn_seq:OpR X (compareOp .NotIn) (rIn X.K true):=by
  intro pins s σ H x y v u Q I rx ry h
  obtain ⟨p,xs,rfl,hq,fx,fs,q⟩:=h
  cases ry
  rcases hq with hq | hq
  · obtain ⟨its,r,pl,hz⟩:=I.list hq
    refine SeqAt.notIn_listAt (eqU x) pl.isList (fun w hw=>mem_eqAt rx fx r fs w (by simpa using hw)) ⟨.bl _,H,I,rfl,?_⟩
    rw [show its.toArray.any (eqU x)=its.any (eqU x) by simp,any_eqU r fs]
    exact q
  · obtain ⟨its,r,pl,hz⟩:=I.tuple hq
    refine SeqAt.notIn_tupleAt (eqU x) pl (fun w hw=>mem_eqAt rx fx r fs w (by simpa using hw)) ⟨.bl _,H,I,rfl,?_⟩
    rw [show its.toArray.any (eqU x)=its.any (eqU x) by simp,any_eqU r fs]
    exact q
theorem call_len_seq:CallR X (.builtin "len") (fun xs H Q=>∃ p ys,xs=[.ref p]∧(SqL X.K H p ys∨SqT X.K H p ys)∧Q (.int ys.length) H):=by
  intro pins s σ H xs us Q I r h
  obtain ⟨p,ys,rfl,hq,q⟩:=h
  obtain ⟨u,rfl,rx⟩:=vals1 r
  cases rx
  have hn:=line63
  rcases hq with hq | hq
  · obtain ⟨its,r',pl,hz⟩:=I.list hq
    have hlen:=r'.length
    exact Calls.call_len_list pl.isList (by simp only [List.size_toArray] <;> omega) ⟨.int ys.length,H,I.tok _,⟨s.toks+1,by rw [List.size_toArray,hlen]⟩,q⟩
  · obtain ⟨its,r',pl,hz⟩:=I.tuple hq
    have hlen:=r'.length
    exact len_tuple pl (by simp only [List.size_toArray] <;> omega) ⟨.int ys.length,H,I.tok _,⟨s.toks+1,by rw [List.size_toArray,hlen]⟩,q⟩
theorem call_len_str:CallR X (.builtin "len") (fun xs H Q=>∃ z,xs=[.str z]∧z.length≤sizeLine∧Q (.int z.length) H):=by
  intro pins s σ H xs us Q I r h
  obtain ⟨z,rfl,hz,q⟩:=h
  obtain ⟨u,rfl,t,rfl⟩:=vals1 r
  have hn:=line63
  exact len_str (by omega) ⟨.int z.length,H,I.tok _,⟨_,rfl⟩,q⟩
theorem call_list_of:CallR X (.type "list") (fun xs H Q=>∃ p ys,xs=[.ref p]∧(SqL X.K H p ys∨SqT X.K H p ys)∧∀ l,H l=none→Q (.ref l) (upd H l (.lst ys))):=by
  intro pins s σ H xs us Q I r h
  obtain ⟨p,ys,rfl,hq,q⟩:=h
  obtain ⟨u,rfl,rx⟩:=vals1 r
  cases rx
  have fin:∀ (its:List Value),Vals ys its→ys.length≤sizeLine→∀ (h' : Heap) (c' : Nat),(∀ b o',s.heap.get? b=some o'→h'.get? b=some o') →
      h'.get? s.heap.objs.size=some { cls:=.type "list",dict:=none,data:=.seq its.toArray c',slots:=#[] }→EP X pins σ Q (.ref s.heap.objs.size) { s with heap:=h' }:=fun its r' hz h' c' kp e =>
    ⟨.ref s.heap.objs.size,_,I.laid (t':=s.toks) kp (Nat.le_refl _) (show ObjOk X.prog X.w _ h' _ (.lst ys) from ⟨hz,its,c',r',e⟩),rfl,q _ (I.hok.fresh (Nat.le_refl _))⟩
  rcases hq with hq | hq
  · obtain ⟨its,r',pl,hz⟩:=I.list hq
    have hlen:=r'.length
    obtain ⟨o,ho,hc,n,hd⟩:=pl.isList
    exact call_list_seq p (.inl rfl) ho hc hd (fun h' c' kp e=>fin its r' hz h' c' kp e) (by simp only [List.size_toArray] <;> omega)
  · obtain ⟨its,r',pl,hz⟩:=I.tuple hq
    have hlen:=r'.length
    obtain ⟨o,ho,hc,n,hd⟩:=pl
    exact call_list_seq p (.inr rfl) ho hc hd (fun h' c' kp e=>fin its r' hz h' c' kp e) (by simp only [List.size_toArray] <;> omega)
def tyV (K:PySem.W.Frag) (T:String) (x:V) (H:Hp):Prop:=match x with
  | .str _=>T = "str"
  | .int _=>T = "int"
  | .ref p=>(T = "list" ∧ ∃ xs,SqL K H p xs)∨(T = "tuple" ∧ ∃ o,K.lookup p=some o∧o.cls=.type "tuple" ∧ o.dict=none) ∨
      (T = "dict" ∧ ((∃ kvs,H p=some (.dK kvs))∨∃ kvs,H p=some (.dT kvs)))∨(T = "set" ∧ ∃ S n,H p=some (.set S n))
  | _=>False
theorem tyV_is {pins:List (Addr × Obj)} {σ:St} {H:Hp} {s:Shared} {T:String} {x:V} {v:Value} (I:Inv X pins σ H s) (r:RelV x v) (ty:tyV X.K T x H) :
    s.TypeIs v T∧∀ a,v=.ref a→∃ ob,s.heap.get? a=some ob∧ob.dict=none:=by
  cases x with
  | str z =>
    obtain ⟨t,rfl⟩:=r
    cases (show T = "str" from ty)
    exact ⟨typeIs_str s z t,fun _ e=>nomatch e⟩
  | int i =>
    obtain ⟨t,rfl⟩:=r
    cases (show T = "int" from ty)
    exact ⟨typeIs_int s i t,fun _ e=>nomatch e⟩
  | ref p =>
    cases r
    rcases ty with ⟨rfl,xs,hq⟩ | ⟨rfl,o,hk,hc,hd⟩ | ⟨rfl,hk⟩ | ⟨rfl,S,n,hk⟩
    · obtain ⟨its,_,pl,_⟩:=I.list hq
      refine ⟨pl.isList.typeIs,fun a e=>?_⟩
      cases e
      obtain ⟨o,n,e,c,hd,_⟩:=pl
      exact ⟨o,e,hd⟩
    · refine ⟨⟨o,I.kIn p o hk,hc⟩,fun a e=>?_⟩
      cases e
      exact ⟨o,I.kIn _ o hk,hd⟩
    · have z:∃ o,s.heap.get? p=some o∧o.ExactDict:=by
        rcases hk with ⟨kvs,hk⟩ | ⟨kvs,hk⟩
        · obtain ⟨_,_,_,_,o,_,_,e,ex,_⟩:=I.hok p _ hk
          exact ⟨o,e,ex⟩
        · obtain ⟨_,_,_,_,o,_,_,e,ex,_⟩:=I.hok p _ hk
          exact ⟨o,e,ex⟩
      obtain ⟨o,e,ex⟩:=z
      refine ⟨⟨o,e,ex.1⟩,fun a e2=>?_⟩
      cases e2
      exact ⟨o,e,ex.2.1⟩
    · obtain ⟨o,_,_,_,e,ex,_⟩:=I.hok p _ hk
      refine ⟨⟨o,e,ex.1⟩,fun a e2=>?_⟩
      cases e2
      exact ⟨o,e,ex.2.1⟩
  | _=>exact False.elim ty
def tBM0 (K:PySem.W.Frag) (T:String) (r:V→List V→Hp→VK→Prop) (to:TE):TE:=fun σ H Q=>to σ H fun x H1=>tyV K T x H1∧r x [] H1 Q
def tBM (K:PySem.W.Frag) (T:String) (r:V→List V→Hp→VK→Prop) (to:TE) (t:TA):TE:=fun σ H Q=>to σ H fun x H1=>tyV K T x H1∧t σ H1 fun xs H2=>r x xs H2 Q
variable {o e:Expr} {es:List Expr} {to:TE} {t:TA} {name:Str} {apos cpos:Pos} {T id:String} {r:V→List V→Hp→VK→Prop}
theorem pe_bm (pa:PlainAttrs T) (slot:Slot T name id) (hty:typeOf (.builtin id)=pure (.type "method_descriptor")) (hm:MtR X id r) (ho:PE X o to) (ha:PA X (e :: es) t)
    (hbase:attributeBase o name X.env (eval o X.env)=eval o X.env:=by rfl)
    (hfew:((backTo cpos (starEach (e :: es) X.env)).all (fun x=>!x.1) && (backToKw cpos (keywordEach [] X.env)).all (fun x=>x.1.isSome)
      && decide ((e :: es).length+([]:List Keyword).length+(if ([]:List Keyword).isEmpty then 0 else 1) < 30))=true:=by rfl)
    (hline:(apos.endLine == cpos.line)=true:=by rfl) (hs:starEach (e :: es) X.env=(false,eval e X.env) :: starEach es X.env:=by rfl) (hplain:(backTo cpos (starEach es X.env)).any (·.1)=false:=by rfl) :
    PE X (.Call (.Attribute o name apos) (e :: es) [] cpos) (tBM X.K T r to t):=by
  intro pins s σ H Q I h
  refine wpAny_Call_method_late hbase hfew hline rfl (thn (ho pins s σ H _ I h) fun v s1 ⟨x,H1,I1,r1,ty,q1⟩=>?_)
  obtain ⟨h1,h2⟩:=tyV_is I1 r1 ty
  refine ⟨T,id,pa,slot,hty,h1,h2,?_⟩
  have hA:=ha cpos pins s1 σ H1 _ I1 q1
  rw [hs] at hA ⊢
  refine Calls.callWith_builtin (by show (false || (backTo cpos (starEach es X.env)).any (·.1))=false;rw [hplain] <;> rfl) (Calls.evalArgs_plain ?_)
  exact thn hA fun us s2 ⟨vs,H2,I2,r2,q2⟩=>hm pins s2 σ H2 x vs v us Q I2 r1 r2 q2
end
end L2
namespace L2
open PySem PySem.Spec PyProof.Rows
def MtM (X:Cx) (id:String) (r:V→List V→Hp→VK→Prop):Prop :=
  ∀ (pins:List (Addr × Obj)) (s:Shared) (σ:St) (H:Hp) (x:V) (xs:List V) (v:Value) (us:List Value) (Q:VK),Inv X pins σ H s→RelV x v→Vals xs us→r x xs H Q →
    wpAny (model X.prog X.w) X.A (call (.builtin id) (v :: us)) (EP X pins σ Q) X.xe s
theorem Vals.one:∀ {x:V} {us:List Value},Vals [x] us→∃ u,us=[u]∧RelV x u
  | _,_,.cons r .nil=>⟨_,rfl,r⟩
theorem Vals.two:∀ {x y:V} {us:List Value},Vals [x,y] us→∃ u v,us=[u,v]∧RelV x u∧RelV y v
  | _,_,_,.cons r (.cons q .nil)=>⟨_,_,rfl,r,q⟩
section
variable {X:Cx} {pins:List (Addr × Obj)} {σ:St} {H:Hp} {s:Shared} {l b:Addr} {xs ys zs:List V}
theorem Inv.lset {its its' : List Value} {n:Nat} {f:Array Value→Array Value} {t' : Nat} (I:Inv X pins σ H s) (hH:H l=some (.lst xs))
    (e:s.heap.get? l=some { cls:=.type "list",data:=.seq its.toArray n }) (hf:f its.toArray=its'.toArray) (hv:Vals ys its') (hz:ys.length≤sizeLine) :
    Inv X pins σ (upd H l (.lst ys)) { s with heap:=s.heap.update l (Obj.mapSeq f),toks:=t' }:=by
  have q:=PySem.IsL.update e f
  rw [hf] at q
  refine I.write (x:=l) (e:=l) (by rw [hH];exact trivial) (.inl rfl) (fun b' u hb hu=>(Heap.get?_update_other s.heap (Obj.mapSeq f) (Ne.symm hb)).trans hu) ⟨_,q⟩ ?_
  exact ⟨hz,its',_,hv,q⟩
theorem Inv.lnew {its:List Value} {t' : Nat} (I:Inv X pins σ H s) (hv:Vals ys its) (hz:ys.length≤sizeLine) :
    Inv X pins σ (upd H s.heap.objs.size (.lst ys)) { s with heap:=s.heap.push { cls:=.type "list",data:=.seq its.toArray },toks:=t' } :=
  I.laid (fun _ _ q=>Heap.get?_push_of_some _ q) (Nat.le_refl _) ⟨hz,its,0,hv,Heap.get?_push_size _ rfl⟩
theorem Inv.fresh (I:Inv X pins σ H s):H s.heap.objs.size=none:=I.hok.fresh (Nat.le_refl _)
theorem Inv.lstM (I:Inv X pins σ H s) (hH:H l=some (.lst xs)):xs.length≤sizeLine∧∃ (its:List Value) (n:Nat),Vals xs its∧xs.length=its.length∧s.heap.get? l=some { cls:=.type "list",data:=.seq its.toArray n }:=by
  obtain ⟨z,its,n,r,e⟩:=I.hok l _ hH
  exact ⟨z,its,n,r,r.length,e⟩
end
section
variable {X:Cx}
def rAppend:V→List V→Hp→VK→Prop:=fun x vs H Q=>∃ l xs y,x=.ref l∧vs=[y]∧H l=some (.lst xs)∧xs.length < sizeLine∧Q .non (upd H l (.lst (xs ++ [y])))
theorem mt_append:MtM X "list.append" rAppend:=by
  intro pins s σ H x vs v us Q I rx rv h
  obtain ⟨l,xs,y,rfl,rfl,hH,hz,q⟩:=h
  cases rx
  obtain ⟨u,rfl,ru⟩:=rv.one
  obtain ⟨z,its,n,r,hl,e⟩:=I.lstM hH
  refine call_meets F.slot_list_append ⟨_,e,rfl⟩ F.entry_list_append (F.args_list_append_2 _ _) (PySem.list_append l its.toArray n u (by rw [List.size_toArray];omega)) ⟨e,?_⟩
  refine ⟨.non,_,I.lset (its':=its ++ [u]) hH e (by simp) (r.append (.cons ru .nil)) ?_,rfl,q⟩
  rw [List.length_append,List.length_singleton]
  omega
def rExtend:V→List V→Hp→VK→Prop:=fun x vs H Q=>∃ l b xs zs,x=.ref l∧vs=[.ref b]∧H l=some (.lst xs)∧H b=some (.lst zs)∧xs.length+zs.length≤sizeLine∧Q .non (upd H l (.lst (xs ++ zs)))
def rPop:V→List V→Hp→VK→Prop:=fun x vs H Q=>∃ l xs y,x=.ref l∧vs=[]∧H l=some (.lst xs)∧xs[xs.length - 1]?=some y∧Q y (upd H l (.lst xs.dropLast))
def rPopAt:V→List V→Hp→VK→Prop:=fun x vs H Q=>∃ l xs i k y,x=.ref l∧vs=[.int i]∧H l=some (.lst xs)∧-(2 ^ 63)≤i∧i < 2 ^ 63∧seqIndex? i xs.length=some k∧xs[k]?=some y∧Q y (upd H l (.lst (xs.eraseIdx k)))
def rReverse:V→List V→Hp→VK→Prop:=fun x vs H Q=>∃ l xs,x=.ref l∧vs=[]∧H l=some (.lst xs)∧Q .non (upd H l (.lst xs.reverse))
def rClear:V→List V→Hp→VK→Prop:=fun x vs H Q=>∃ l xs,x=.ref l∧vs=[]∧H l=some (.lst xs)∧Q .non (upd H l (.lst []))
def rCat:R2:=fun x y H Q=>∃ l b xs zs,x=.ref l∧y=.ref b∧H l=some (.lst xs)∧H b=some (.lst zs)∧xs.length+zs.length≤sizeLine∧∀ p,H p=none→Q (.ref p) (upd H p (.lst (xs ++ zs)))
theorem op_cat:OpR X (binaryOp .Add) rCat:=by
  intro pins s σ H x y v u Q I rx ry h
  obtain ⟨l,b,xs,zs,rfl,rfl,hH,hB,hz,q⟩:=h
  cases rx
  cases ry
  obtain ⟨z,its,n,r,hl,e⟩:=I.lstM hH
  obtain ⟨z2,its2,n2,r2,hl2,e2⟩:=I.lstM hB
  refine PySem.P.add_list e e2 ?_ (by rw [List.size_toArray,List.size_toArray];omega)
  have ea:its.toArray ++ its2.toArray=(its ++ its2).toArray:=by simp
  rw [ea]
  exact ⟨.ref _,_,I.lnew (t':=s.toks) (r.append r2) (by rw [List.length_append];omega),rfl,q _ I.fresh⟩
def rRep:R2:=fun x y H Q=>∃ l k xs,x=.ref l∧y=.int k∧H l=some (.lst xs)∧-(2 ^ 63)≤k∧k < 2 ^ 63∧xs.length * k.toNat≤sizeLine ∧
  ∀ p,H p=none→Q (.ref p) (upd H p (.lst (List.replicate k.toNat xs).flatten))
end
section
variable {prog:Program} {w:World} {A:Around} {E:Value→Shared→Prop} {s:Shared}
end
section
variable {X:Cx}
end
end L2
namespace Att
open PySem PySem.W PySem.Calls PyProof.Rows
theorem ints_of_wellAll {P:Params} {h:Heap} : ∀ (ns:List Int) (vs:List Value),WellAll P h vs (ns.map WData.int)→IntsAre vs ns:=by
  intro ns
  induction ns with
  | nil =>
    intro vs w
    rw [List.map_nil] at w
    cases w
    exact .nil
  | cons n ns ih =>
    intro vs w
    rw [List.map_cons] at w
    cases w with
    | cons a b =>
      cases a
      exact .cons _ _ (ih _ b)
theorem script_of {l:OpenLaw} {n:Nat} (hn:l.most=some n) {P:Params} {h:Heap} {args:List WData} {vals:List Value}
    (hpre:l.row.toRowW.claim.pre args=true) (hwl:WellAll P h vals args) :
    ∃ a vs ns,vals=[Value.ref a]∧args=[WData.list (ns.map WData.int)]∧h.get? a=some { cls:=.type "list",data:=.seq vs.toArray }∧IntsAre vs ns∧ns.length≤n:=by
  have hsh:WShape.hasAll [] args [.list .int]=true:=(pre_splitW hpre).1
  have hc:l.pre.holds [] { args:=args } = true:=(pre_splitW hpre).2
  obtain ⟨d,r,rfl,h1,h2⟩:=hasAllW_cons hsh
  obtain rfl:=hasAllW_nil h2
  obtain ⟨xs,rfl,h3⟩:=hasW_list h1
  obtain ⟨ns,rfl⟩:=items_int h3
  have hlen:ns.length≤n:=by
    unfold OpenLaw.pre at hc
    have h4:(WTm.not (.lt (.lit (.int (n:Int))) (.len (.arg 0)))).holds [] { args:=[.list (ns.map .int)] } = true:=by
      have h4:=(holds_andW hc).1
      rw [hn] at h4
      exact h4
    have h5:=condW_of h4 (w_not (w_lt w_lit (w_len_list (w_arg rfl))))
    rw [List.length_map] at h5
    refine Nat.le_of_not_lt fun q=>?_
    have q' : (n:Int) < ((ns.length:Nat):Int):=by omega
    first
      | (rw [decide_eq_true q'] at h5;exact absurd h5 (by decide))
      | (simp at h5;omega)
  cases hwl with
  | cons w1 w2 =>
    cases w2
    cases w1 with
    | list ho hall=>exact ⟨_,_,ns,rfl,rfl,ho,ints_of_wellAll ns _ hall,hlen⟩
theorem post_true (l:OpenLaw) (args:List WData):l.row.toRowW.claim.post args (.bool true) args=true :=
  postW_of (r:=l.row.toRowW) (X:=(true == true))
    (show WShape.has [] (.bool true) .bool=true by first | rfl | decide | simp [WShape.has,WShape.arms,WShape.armsAll])
    (show (WTm.eq .res (.lit (.bool true))).value [] { args:=args,res:=some (.bool true),after:=args } = some (.bool (true == true)) from w_eq_bool (w_res rfl) w_lit) rfl
theorem attach_call {l:OpenLaw} {n:Nat} {q:Program} {loose:List Str} {XP:(Str→Option Value)→Heap→Prop} {YP:World→Heap→Prop} {d:DefRec}
    (hn:l.most=some n) (hdf:d.params.defaults=[])
    (call:∀ (w:World) (s₀ s₁:Shared) (mg mb:Str→Option Value) (fa:Addr) (o:Obj) (pm cd doc:Value) (a:Addr) (vs:List Value) (ns:List Int),
      Ground q loose [] XP w s₀ mg mb s₁.heap→YP w s₁.heap →
      s₁.heap.get? fa=some o→o.data=.func (docDef d.name d.params d.body d.scope pm cd doc)→s₁.heap.CodeRec cd d.name→mg d.name=some (.ref fa) →
      s₁.heap.get? a=some { cls:=.type "list",data:=.seq vs.toArray }→IntsAre vs ns→ns.length≤n→s₁.gens = #[] →
      codeAny (model l.prog w) callerA (.call (.ref fa) ⟨[.ref a],[]⟩) (fun r s'=>r=.ok (.ret (.bool true))∧OldK s₁.heap s'.heap∧s'.os=s₁.os∧AllBare s'.gens) s₁) :
    WalkO q loose XP YP l.row.toRowW d [] (fun f vs=>PySem.call f vs):=by
  intro w s₀ s₁ mg mb G Y fa o pm cd doc dV kV ho hd hcd hD hmg hg args vals as hpre hlay hrd hwl hlo
  obtain rfl:dV=.none:=Dflts.none hD hdf
  obtain rfl:kV=.none:=Dflts.noKw hD
  obtain ⟨a,vs,ns,rfl,rfl,hobj,hints,hlen⟩:=script_of hn hpre hwl
  refine enter_call (codeAny_mono (call w s₀ s₁ mg mb fa o pm cd doc a vs ns G Y ho (fd_plain hd) hcd hmg hobj hints hlen hg) fun r s' hq=>?_)
  obtain ⟨rfl,h2,h3,h4⟩:=hq
  exact ⟨.inl ⟨.bool true,.bool true,[],rfl,fun _=>rfl,.bool true,post_true l _,fun _=>⟨List.Pairwise.nil,fun _ hm=>(nomatch hm)⟩⟩,h2,h3,h4⟩
section
variable {prog:Program} {w:World} {A:Around} {E:Value→Shared→Prop} {s:Shared} {K:Frag}
def noObjs (h:Heap):Heap:={ h with objs:=#[] }
def ledger (h:Heap) (L d:Addr):List (Addr × Obj):=(List.range h.objs.size).filterMap fun a=>if a=L∨a=d then none else (h.get? a).map fun o=>(a,o)
end
end Att
namespace L2
open PySem PySem.Spec PyProof.Rows
theorem vals_ints:∀ {vs:List Value} {ns:List Int},IntsAre vs ns→Vals (ns.map V.int) vs
  | _,_,.nil=>.nil
  | _,_,.cons n t h=>.cons ⟨t,rfl⟩ (vals_ints h)
def Only (H:Hp):Prop:=∀ b,H b=none∨∃ o xs,H b=some (.frz o (.lst xs))
theorem law_call {P:Program} {w:World} {K:PySem.W.Frag} {mg mb:Str→Option Value} {CX:CXT} {k:Nat} {fa a:Addr} {fd:FuncData} {x:Str} {sp:Sp} {s₁:Shared} {vs:List Value} {ns:List Int}
    (KX:K.In s₁.heap) (hns:s₁.heap.Ns mainGlobals mg) (hb:s₁.heap.Ns builtinsNs mb) (hbb:∀ x:Str,x ≠ "__name__" → mb x=bootBuiltins x) (hlim:s₁.heap.NoLimit) (hg:s₁.gens = #[])
    (ha:s₁.heap.get? a=some { cls:=.type "list",data:=.seq vs.toArray }) (hi:IntsAre vs ns) (hl:ns.length≤sizeLine) (hr:Room k callerA)
    (F:∀ base:Heap,K.In base→base.Ns mainGlobals mg→FnOk P w K mg base CX k fa fd [x] sp) (hbind:∀ (s:Shared) (u:Value),BindsTo s fd ⟨[u],[]⟩ [(x,u)])
    (hsp:∀ H:Hp,Only H→SqL K H a (ns.map V.int)→sp [.ref a] H (fun v _=>v=.bl true) fun _ _ _=>False)
    (hCX:∀ H e s',CX [] H s₁ (fun _ _ _=>False) e s'→False) :
    codeAny (model P w) callerA (.call (.ref fa) ⟨[.ref a],[]⟩) (fun r s'=>r=.ok (.ret (.bool true))∧OldK s₁.heap s'.heap∧s'.os=s₁.os∧AllBare s'.gens) s₁:=by
  have rv:=vals_ints hi
  have lenV:=hi.length
  have core:∀ H:Hp,Only H→SqL K H a (ns.map V.int)→HOk P w H s₁.heap→(∀ b,H b ≠ none→b=a)→(H a ≠ none→K.lookup a=none) →
      codeAny (model P w) callerA (.call (.ref fa) ⟨[.ref a],[]⟩) (fun r s'=>r=.ok (.ret (.bool true))∧OldK s₁.heap s'.heap∧s'.os=s₁.os∧AllBare s'.gens) s₁:=by
    intro H hO hS hok hA hK
    have base_of:∀ {b:Addr} {o:Obj},s₁.heap.get? b=some o→H b=none→(hidT s₁.heap H).get? b=some o:=fun e n=>hidT_get e n
    have noA:∀ {b:Addr} {o:Obj} {es:Array DictEntry} {ep:Nat},s₁.heap.get? b=some o→o.data=.dict es ep→H b=none:=fun {b o es ep} e d=>by
      cases q:H b with
      | none=>rfl
      | some u =>
        have e' : b=a:=hA b (by rw [q];simp)
        subst e'
        rw [ha] at e;cases e
        have d' : Data.seq vs.toArray _=Data.dict es ep:=d
        cases d'
    have nsK:∀ {b:Addr} {m:Str→Option Value},s₁.heap.Ns b m→(hidT s₁.heap H).Ns b m:=fun {b m} ⟨o,es,ep,e,d,r⟩=>⟨o,es,ep,base_of e (noA e d),d,r⟩
    have hKb:K.In (hidT s₁.heap H):=fun b o e=>base_of (KX b o e) (by
      cases q:H b with
      | none=>rfl
      | some u =>
        have e' : b=a:=hA b (by rw [q];simp)
        subst e'
        rw [hK (by rw [q];simp)] at e;cases e)
    have hM:Mod K mg (hidT s₁.heap H):=⟨hKb,nsK hns,⟨mb,nsK hb,hbb⟩,let ⟨mc,h1,h2⟩:=hlim;⟨mc,nsK h1,h2⟩⟩
    have e0:Env0 P w K mg (hidT s₁.heap H) callerA [] s₁ H:=⟨rfl,hM,fun b o e=>of_hidT e,Nat.le_of_eq (hidT_size _ _),trivial,fun b hb=>absurd (show b ∈ ([]:List Addr) from hb) (by simp),hok,.of_eq hg⟩
    refine codeAny_mono ((F _ hKb (nsK hns)).run callerA [] s₁ H ⟨[.ref a],[]⟩ [.ref a] [.ref a] _ _ hr e0 (hbind s₁ (.ref a)) (.cons rfl .nil) (hsp H hO hS)) fun r s' h=>?_
    cases r with
    | error e=>exact (hCX H e s' h).elim
    | ok fl =>
      cases fl with
      | next=>exact False.elim h
      | brk=>exact False.elim h
      | cont=>exact False.elim h
      | ret u =>
        obtain ⟨v,H',os,bare,un,hok',r',q⟩:=h
        have q' : v=.bl true:=q
        subst q'
        obtain rfl:u=Value.bool true:=r'
        refine ⟨rfl,OldK.of_keep fun b o e=>?_,os,bare⟩
        cases q:H b with
        | none=>exact un.keep b o e q (by intro z;exact absurd (show b ∈ ([]:List Addr) from z) (by simp)) (by simp)
        | some u =>
          rcases hO b with z | ⟨ob,xs,z⟩
          · rw [q] at z;cases z
          · have z2:=un.frzs b ob _ z
            obtain ⟨e1,_⟩:=hok b _ z
            obtain ⟨e2,_⟩:=hok' b _ z2
            rw [e] at e1;cases e1
            exact e2
  cases hk:K.lookup a with
  | some o =>
    have e:=KX a o hk
    rw [ha] at e
    cases e
    refine core (fun _=>none) (fun _=>.inl rfl) (.inr ⟨_,vs.toArray,_,hk,rfl,rfl,rfl,by rw [List.size_toArray,lenV];exact hl,by simpa using rv⟩) (fun b u z=>by have z' : (none:Option HO)=some u:=z;cases z') (fun b z=>absurd rfl z) fun z=>absurd rfl z
  | none =>
    refine core (fun b=>if b=a then some (.frz { cls:=.type "list",data:=.seq vs.toArray } (.lst (ns.map V.int))) else none) (fun b=>?_) (.inl (.inr ⟨{ cls:=.type "list",data:=.seq vs.toArray },if_pos rfl⟩)) (fun b u z=>?_) (fun b z=>?_) fun _=>hk
    · by_cases hb:b=a
      · exact .inr ⟨_,_,if_pos hb⟩
      · exact .inl (if_neg hb)
    · by_cases hb:b=a
      · have z':=(if_pos hb).symm.trans z
        cases z'
        subst hb
        exact ⟨ha,by rw [List.length_map];exact hl,vs,_,rv,ha⟩
      · have z':=(if_neg hb).symm.trans z
        cases z'
    · by_cases hb:b=a
      · exact hb
      · exact absurd (if_neg hb) z
end L2
namespace L2
open PySem PySem.Spec PyProof.Rows
abbrev KOf {K:PySem.W.Frag} {h:Heap} (_:K.In h):PySem.W.Frag:=K
theorem walk_of {l:PySem.W.OpenLaw} {n k:Nat} {q:Program} {loose:List Str} {XP:(Str→Option Value)→Heap→Prop} {YP:World→Heap→Prop} {d:DefRec} {K:Params→PySem.W.Frag} {CX:World→CXT} {sp:World→Sp} {x:Str}
    (hn:l.most=some n) (hn2:n≤sizeLine) (hdf:d.params.defaults=[]) (hr:Room k callerA)
    (hY:∀ (w:World) (h:Heap),YP w h→(K w.params).In h)
    (F:∀ (w:World) (mg:Str→Option Value) (fa:Addr) (h:Heap),(K w.params).In h→h.Ns mainGlobals mg→mg d.name=some (.ref fa) →
      ∃ fd:FuncData,(∀ (s:Shared) (u:Value),BindsTo s fd ⟨[u],[]⟩ [(x,u)]) ∧
        ∀ base:Heap,(K w.params).In base→base.Ns mainGlobals mg→FnOk l.prog w (K w.params) mg base (CX w) k fa fd [x] (sp w))
    (hsp:∀ (w:World) (H:Hp) (a:Addr) (ns:List Int),ns.length≤n→Only H→SqL (K w.params) H a (ns.map V.int)→sp w [.ref a] H (fun v _=>v=.bl true) fun _ _ _=>False)
    (hCX:∀ (w:World) (H:Hp) (s:Shared) (e:Value) (s' : Shared),CX w [] H s (fun _ _ _=>False) e s'→False) :
    PySem.W.WalkO q loose XP YP l.row.toRowW d [] (fun f vs=>PySem.call f vs):=by
  refine Att.attach_call hn hdf fun w s₀ s₁ mg mb fa o pm cd doc a vs ns G Y ho hd hcd hmg hobj hints hlen hg=>?_
  have KX:=hY w _ Y
  obtain ⟨fd,hb,hF⟩:=F w mg fa _ KX G.T.g hmg
  exact law_call KX G.T.g G.T.b G.T.builtins G.T.nolimit hg hobj hints (Nat.le_trans hlen hn2) hr hF hb (fun H hO hS=>hsp w H a ns hlen hO hS) fun H e s'=>hCX w H s₁ e s'
end L2
namespace L2
open PySem PySem.Spec PyProof.Rows
def inClass (s:Stmt) (j:Nat):Stmt:=match s with
  | .ClassDef _ _ _ body _ _ _ _ _ _ _=>body.getD j (.Pass ⟨0,0,0,0⟩)
  | _=>.Pass ⟨0,0,0,0⟩
def defArgs (s:Stmt):Arguments:=match s with
  | .FunctionDef _ a _ _ _ _ _ _ _ _=>a
  | _=>{ posonlyargs:=[],args:=[],vararg:=none,kwonlyargs:=[],kw_defaults:=[],kwarg:=none,defaults:=[] }
def defBody (s:Stmt):List Stmt:=match s with
  | .FunctionDef _ _ b _ _ _ _ _ _ _=>b
  | _=>[]
def defScope (s:Stmt):Scope:=match s with
  | .FunctionDef _ _ _ _ _ _ sc _ _ _=>sc
  | _=>{ kind:=.function,names:=[],isGenerator:=false,isCoroutine:=false }
abbrev CX0:CXT:=fun _ _ _ _ _ _=>False
abbrev E0:XK:=fun _ _ _=>False
theorem pass0 {X:Cx} : Passes CX0 X E0:=fun _ _ _ _ _ _ _ h=>h.elim
structure Fun (K:PySem.W.Frag) (x qual:Str) (st:Stmt) (f:Addr) (fd:FuncData):Prop where
  ex:∃ (oc:Value) (od:Option Addr) (kV doc pm:Value) (an:Option Addr) (cdv ct:Value) (osl:Array (Option Value)),
    fd=PySem.W.fnOf x qual (defArgs st) (defBody st) (defScope st) .none kV doc pm an cdv ct∧K.lookup f=some ⟨oc,od,.func fd,osl⟩∧PySem.W.codeIn K cdv qual=true
  kp:PySem.W.keepIn K (.ref f)=true
section
variable {P:Program} {w:World} {K:PySem.W.Frag} {mg:Str→Option Value} {base:Heap}
theorem Fun.ok {x qual:Str} {st:Stmt} {f:Addr} {fd:FuncData} {N ps:List Str} {k:Nat} {sp:Sp} (F:Fun K x qual st f fd) (S:FnScope N ps (defScope st)) (len:∀ vs H Q E,sp vs H Q E→vs.length=ps.length)
    (hbody:∀ (cdv:Value) (A:Around) (outer:List Env) (s:Shared) (H:Hp) (vs:List V) (Q:VK) (E:XK),Room k (A.deeper (envOfC qual (defScope st) s.heap.objs.size f cdv))→sp vs H Q E →
      ∃ t,PSs (cxOf CX0 P w K mg base N qual (defScope st) f cdv A outer s H E).nox (defBody st) t∧t { nx:=fun _ H'=>Q .non H',rt:=Q } (start N vs) H):FnOk P w K mg base CX0 (k+1) f fd ps sp:=by
  obtain ⟨oc,od,kV,doc,pm,an,cdv,ct,osl,rfl,lk,hcd⟩:=F.ex
  refine fn_of lk hcd S len fun A outer s H vs Q E hr hsp=>?_
  obtain ⟨t,h,q⟩:=hbody cdv A outer s H vs Q E hr hsp
  exact ⟨t,h.nox,q⟩
theorem Fun.binds {x qual:Str} {st:Stmt} {f:Addr} {fd:FuncData} {ps:List Str} (F:Fun K x qual st f fd)
    (h:∀ (kV doc pm:Value) (an:Option Addr) (cdv ct:Value) (us:List Value),us.length=ps.length→bindArgs (PySem.W.fnOf x qual (defArgs st) (defBody st) (defScope st) .none kV doc pm an cdv ct) ⟨us,[]⟩=pure (ps.zip us)):Binds K fd ps []:=by
  obtain ⟨oc,od,kV,doc,pm,an,cdv,ct,osl,rfl,lk,hcd⟩:=F.ex
  exact .all (h kV doc pm an cdv ct)
theorem fun_mk {x qual:Str} {st:Stmt} {f:Addr} {oc:Value} {od an:Option Addr} {osl:Array (Option Value)} {kV doc pm cdv ct:Value} (l:K.lookup f=some ⟨oc,od,.func (PySem.W.fnOf x qual (defArgs st) (defBody st) (defScope st) .none kV doc pm an cdv ct),osl⟩)
    (c:PySem.W.codeIn K cdv qual=true) (k:PySem.W.keepIn K (.ref f)=true):Fun K x qual st f (PySem.W.fnOf x qual (defArgs st) (defBody st) (defScope st) .none kV doc pm an cdv ct):=⟨⟨oc,od,kV,doc,pm,an,cdv,ct,osl,rfl,l,c⟩,k⟩
end
theorem small1000 {n:Nat} (h:n≤1000):n < sizeLine:=Nat.lt_of_le_of_lt h (by decide)
section
variable {X:Cx}
theorem pv (i:Nat) {x:Str} {pos:Pos} (hN:X.N[i]?=some x:=by rfl) (hv:Vis X.env.scope x:=by first | exact Or.inl rfl | exact Or.inr (Or.inl rfl) | exact Or.inr (Or.inr rfl)) (hd:(x == ("__debug__" : Str))=false:=by decide)
    (hcd:(x == ("__classdict__" : Str))=false:=by decide):PE X (.Name x pos) (tVar i):=pe_var hN hv hd hcd
end
theorem iteF {A B:Prop} (h:B):if false=true then A else B:=by
  rw [if_neg Bool.false_ne_true]
  exact h
theorem iteT {A B:Prop} (h:A):if true=true then A else B:=by
  rw [if_pos rfl]
  exact h
theorem ite2 {c A B:Prop} [Decidable c] (h1:c→A) (h2:¬ c→B):if c then A else B:=by
  by_cases h:c
  · rw [if_pos h]
    exact h1 h
  · rw [if_neg h]
    exact h2 h
theorem iteNS {c A B:Prop} [Decidable c] (hc:c) (h:B):if (!decide c)=true then A else B:=by
  rw [decide_eq_true hc]
  exact iteF h
def Same (H H' : Hp):Prop:=∀ b o,H b=some o→H' b=some o
theorem Same.refl (H:Hp):Same H H:=fun _ _ h=>h
theorem Same.trans {H H1 H2:Hp} (a:Same H H1) (b:Same H1 H2):Same H H2:=fun c o h=>b c o (a c o h)
theorem Same.free {H H' : Hp} (e:Same H H') {l:Addr} (h:H' l=Option.none):H l=Option.none:=by
  cases q:H l with
  | none=>rfl
  | some o =>
    rw [e l o q] at h
    cases h
theorem Same.seq {K:PySem.W.Frag} {H H' : Hp} {a:Addr} {xs:List V} (e:Same H H') (h:SqL K H a xs):SqL K H' a xs:=by
  rcases h with (h | ⟨o,h⟩) | h
  · exact .inl (.inl (e _ _ h))
  · exact .inl (.inr ⟨o,e _ _ h⟩)
  · exact .inr h
end L2
set_option maxHeartbeats 4000000
namespace L2
abbrev Pr:=Int × Int
def inR (n:Int) (p:Pr):Bool:=decide (p.1≤n) && decide (n≤p.2)
def inP (ps:List Pr) (n:Int):Bool:=ps.any (inR n)
structure Apart (R:List Pr):Prop where
  le:∀ p ∈ R,p.1≤p.2
  gap:R.Pairwise fun p q=>p.2+2≤q.1
theorem inP_snoc (R:List Pr) (p:Pr) (n:Int):inP (R ++ [p]) n=(inP R n || inR n p):=by
  unfold inP;rw [List.any_append];simp
theorem Apart.snoc {R:List Pr} {p:Pr} (h:Apart R) (hp:p.1≤p.2) (hl:∀ r ∈ R,r.2+2≤p.1):Apart (R ++ [p]) where
  le:=fun q hq=>by
    rcases List.mem_append.mp hq with hq | hq
    · exact h.le q hq
    · have e:q=p:=by simpa using hq
      rw [e];exact hp
  gap:=by
    rw [List.pairwise_append]
    refine ⟨h.gap,List.pairwise_singleton _ _,fun a ha b hb=>?_⟩
    have e:b=p:=by simpa using hb
    rw [e];exact hl a ha
theorem Apart.init {R:List Pr} {p:Pr} (h:Apart (R ++ [p])):Apart R∧p.1≤p.2∧∀ r ∈ R,r.2+2≤p.1:=by
  have g:=h.gap
  rw [List.pairwise_append] at g
  exact ⟨⟨fun q hq=>h.le q (List.mem_append_left _ hq),g.1⟩,h.le p (by simp),fun r hr=>g.2.2 r hr p (by simp)⟩
structure TidI (R qs:List Pr):Prop where
  ap:Apart R
  mem:∀ n,inP R n=inP qs n
  cov:∀ p ∈ qs,p.1≤p.2→∃ r ∈ R,r.1≤p.1∧p.2≤r.2
  low:∀ r ∈ R,∃ q ∈ qs,r.1=q.1
theorem TidI.nil:TidI [] []:=⟨⟨(fun p hp=>by cases hp),List.Pairwise.nil⟩,fun _=>rfl,(fun p hp=>by cases hp),(fun r hr=>by cases hr)⟩
theorem TidI.skip {R qs:List Pr} {p:Pr} (h:TidI R qs) (hp:p.2 < p.1):TidI R (qs ++ [p]) where
  ap:=h.ap
  mem:=fun n=>by
    rw [inP_snoc,h.mem n]
    have e:inR n p=false:=by
      unfold inR
      rw [Bool.and_eq_false_iff]
      simp only [decide_eq_false_iff_not]
      omega
    rw [e,Bool.or_false]
  cov:=fun q hq hl=>by
    rcases List.mem_append.mp hq with hq | hq
    · exact h.cov q hq hl
    · have e:q=p:=by simpa using hq
      rw [e] at hl;omega
  low:=fun r hr=>by
    obtain ⟨q,hq,e⟩:=h.low r hr
    exact ⟨q,List.mem_append_left _ hq,e⟩
theorem TidI.join {R qs:List Pr} {l p:Pr} {m:Int} (h:TidI (R ++ [l]) qs) (h1:l.1≤p.1) (h2:p.1≤l.2+1) (h3:p.1≤p.2) (hm:m=max l.2 p.2):TidI (R ++ [(l.1,m)]) (qs ++ [p]):=by
  obtain ⟨a1,a2,a3⟩:=h.ap.init
  have hml:l.2≤m∧p.2≤m∧(m=l.2∨m=p.2):=by omega
  refine ⟨a1.snoc (by show l.1≤m;omega) a3,fun n=>?_,fun q hq hl=>?_,fun r hr=>?_⟩
  · rw [inP_snoc,inP_snoc,← h.mem n,inP_snoc,Bool.or_assoc]
    congr 1
    unfold inR
    rw [Bool.eq_iff_iff]
    simp only [Bool.or_eq_true,Bool.and_eq_true,decide_eq_true_eq]
    omega
  · rcases List.mem_append.mp hq with hq | hq
    · obtain ⟨r,hr,c1,c2⟩:=h.cov q hq hl
      rcases List.mem_append.mp hr with hr | hr
      · exact ⟨r,List.mem_append_left _ hr,c1,c2⟩
      · have e:r=l:=by simpa using hr
        subst e
        exact ⟨(r.1,m),by simp,c1,by show q.2≤m;omega⟩
    · have e:q=p:=by simpa using hq
      subst e
      exact ⟨(l.1,m),by simp,h1,by show q.2≤m;omega⟩
  · rcases List.mem_append.mp hr with hr | hr
    · obtain ⟨q,hq,e⟩:=h.low r (List.mem_append_left _ hr)
      exact ⟨q,List.mem_append_left _ hq,e⟩
    · have e:r=(l.1,m):=by simpa using hr
      obtain ⟨q,hq,e2⟩:=h.low l (by simp)
      exact ⟨q,List.mem_append_left _ hq,by rw [e];exact e2⟩
theorem TidI.add {R qs:List Pr} {p:Pr} (h:TidI R qs) (h3:p.1≤p.2) (hl:∀ r ∈ R,r.2+2≤p.1):TidI (R ++ [p]) (qs ++ [p]):=by
  refine ⟨h.ap.snoc h3 hl,fun n=>by rw [inP_snoc,inP_snoc,h.mem n],fun q hq hle=>?_,fun r hr=>?_⟩
  · rcases List.mem_append.mp hq with hq | hq
    · obtain ⟨r,hr,c⟩:=h.cov q hq hle
      exact ⟨r,List.mem_append_left _ hr,c⟩
    · have e:q=p:=by simpa using hq
      subst e
      exact ⟨q,by simp,Int.le_refl _,Int.le_refl _⟩
  · rcases List.mem_append.mp hr with hr | hr
    · obtain ⟨q,hq,e⟩:=h.low r hr
      exact ⟨q,List.mem_append_left _ hq,e⟩
    · have e:r=p:=by simpa using hr
      exact ⟨p,by simp,by rw [e]⟩
theorem Apart.last {R:List Pr} {l:Pr} (h:Apart (R ++ [l])) {c:Int} (hc:l.2+2≤c):∀ r ∈ R ++ [l],r.2+2≤c:=fun r hr=>by
  obtain ⟨a1,a2,a3⟩:=h.init
  rcases List.mem_append.mp hr with hr | hr
  · have:=a3 r hr;omega
  · have e:r=l:=by simpa using hr
    rw [e];exact hc
theorem inP_perm {ps qs:List Pr} (h:ps.Perm qs) (n:Int):inP ps n=inP qs n:=by
  unfold inP
  rw [Bool.eq_iff_iff,List.any_eq_true,List.any_eq_true]
  exact ⟨fun ⟨x,hx,e⟩=>⟨x,h.mem_iff.mp hx,e⟩,fun ⟨x,hx,e⟩=>⟨x,h.mem_iff.mpr hx,e⟩⟩
theorem TidI.perm {R qs ps:List Pr} (h:TidI R qs) (p:qs.Perm ps):TidI R ps:=⟨h.ap,fun n=>(h.mem n).trans (inP_perm p n),fun q hq=>h.cov q (p.mem_iff.mpr hq),fun r hr=>let ⟨q,hq,e⟩:=h.low r hr;⟨q,p.mem_iff.mp hq,e⟩⟩
end L2
namespace L2
open PySem PySem.Spec PyProof.Rows
def Callee (P:Program) (w:World) (K:PySem.W.Frag) (mg:Str→Option Value) (base:Heap) (k:Nat) (x:Str) (ps:List Str) (sp:Sp):Prop :=
  ∃ f fd,FnOk P w K mg base CX0 k f fd ps sp∧Binds K fd ps []∧PySem.W.keepIn K (.ref f)=true∧mg x=some (.ref f)
theorem Callee.mono {P:Program} {w:World} {K:PySem.W.Frag} {mg:Str→Option Value} {base:Heap} {j k:Nat} {x:Str} {ps:List Str} {sp:Sp} (C:Callee P w K mg base j x ps sp) (h:j≤k):Callee P w K mg base k x ps sp :=
  let ⟨f,fd,F,r⟩:=C
  ⟨f,fd,F.mono h,r⟩
section
variable {X:Cx} {k:Nat} {x:Str} {ps:List Str} {sp:Sp} {e:Expr} {es:List Expr} {t:TA} {p pos:Pos}
def tFn (sp:Sp) (t:TA):TE:=fun σ H Q=>t σ H fun vs H1=>sp vs H1 Q E0
theorem pe_fn (C:Callee X.prog X.w X.K X.mg X.base k x ps sp) (hr:Room k X.A) (hg:Gl X x) (ha:PA X (e :: es) t) (hdb:(x == ("__debug__" : Str))=false:=by decide)
    (he:starEach (e :: es) X.env=(false,eval e X.env) :: starEach es X.env:=by rfl) (hpl:(backTo pos (starEach es X.env)).any (·.1)=false:=by rfl):PE X (.Call (.Name x p) (e :: es) [] pos) (tFn sp t):=by
  obtain ⟨f,fd,F,b,kk,m⟩:=C
  have h:=pe_call (E:=E0) (dvs:=[]) (ds:=[]) (p:=p) F hr hg m kk b .nil pass0 ha hdb he hpl
  intro pins s σ H Q I q
  refine h pins s σ H Q I ?_
  have q' : t σ H fun vs H1=>sp vs H1 Q E0:=q
  have e1:(fun (vs:List V) (H1:Hp)=>sp (vs ++ []) H1 Q E0)=fun vs H1=>sp vs H1 Q E0:=by
    funext vs H1
    rw [List.append_nil]
  show t σ H fun vs H1=>sp (vs ++ []) H1 Q E0
  rw [e1]
  exact q'
end
def tCut (t u:TS):TS:=fun D σ H=>∃ M:St→Hp→Prop,t { D with nx:=M } σ H∧∀ σ' H',M σ' H'→u D σ' H'
theorem pss_cut {X:Cx} {st:Stmt} {rest:List Stmt} {t u:TS} (h1:PS X st t) (h2:PSs X rest u):PSs X (st :: rest) (tCut t u):=by
  intro pins s σ H D I ⟨M,a,b⟩
  refine wpAny_execs_cons (thn (h1 pins s σ H { D with nx:=M } I a) fun fl s1 q=>?_)
  cases fl with
  | next=>obtain ⟨σ',H',I',q⟩:=q;exact h2 pins s1 σ' H' D I' (b σ' H' q)
  | ret v=>exact q
  | brk=>exact q
  | cont=>exact q
section
variable {X:Cx}
end
inductive EqI (K:PySem.W.Frag) (H:Hp):V→V→Bool→Prop where
  | flat {x y:V} (fx:flatV x=true) (fy:flatV y=true):EqI K H x y (eqV x y)
  | same (a:Addr):EqI K H (.ref a) (.ref a) true
  | tup {a b:Addr} {xs ys:List V} (ha:SqT K H a xs) (hb:SqT K H b ys) (fx:xs.all flatV=true) (fy:ys.all flatV=true):EqI K H (.ref a) (.ref b) (decide (xs.length=ys.length) && (List.zipWith eqV xs ys).all id)
theorem eqV_refl:∀ {x:V},flatV x=true→eqV x x=true
  | .non,_=>rfl
  | .bl b,_=>by simp [eqV]
  | .int i,_=>by simp [eqV]
  | .str z,_=>by simp [eqV]
theorem eqAll_refl:∀ {xs:List V},xs.all flatV=true→(List.zipWith eqV xs xs).all id=true
  | [],_=>rfl
  | x :: xs,h=>by
    rw [List.all_cons,Bool.and_eq_true] at h
    rw [List.zipWith_cons_cons,List.all_cons,eqAll_refl h.2,Bool.and_true]
    exact eqV_refl h.1
theorem all_range_zip {f:Nat→Bool} : ∀ {xs ys:List V},(∀ j x y,xs[j]?=some x→ys[j]?=some y→f j=eqV x y)→(List.range (min xs.length ys.length)).all f=(List.zipWith eqV xs ys).all id
  | [],ys,_=>by simp
  | x :: xs,[],_=>by simp
  | x :: xs,y :: ys,h=>by
    have ih:=all_range_zip (f:=fun j=>f (j+1)) (xs:=xs) (ys:=ys) fun j a b e1 e2=>h (j+1) a b (by simpa using e1) (by simpa using e2)
    have e0:=h 0 x y rfl rfl
    have em:min (x :: xs).length (y :: ys).length=min xs.length ys.length+1:=by simp only [List.length_cons];omega
    rw [em,List.range_succ_eq_map,List.all_cons,List.zipWith_cons_cons,List.all_cons,List.all_map,e0]
    show (eqV x y && (List.range (min xs.length ys.length)).all (fun j=>f (j+1)))=_
    rw [ih]
    rfl
section
variable {X:Cx} {pins:List (Addr × Obj)} {σ:St} {H:Hp} {s:Shared}
theorem EqI.at {A:Around} {x y:V} {u v:Value} {b:Bool} (e:EqI X.K H x y b) (I:Inv X pins σ H s) (hu:A.units+1 < cLine) (rx:RelV x u) (ry:RelV y v):SeqAt.EqAt A s u v b:=by
  cases e with
  | flat fx fy=>exact eqAt_V rx ry fx fy
  | same a =>
    cases (show u=Value.ref a from rx)
    cases (show v=Value.ref a from ry)
    exact SeqAt.EqAt.same _
  | @tup a b xs ys ha hb fx fy =>
    cases (show u=Value.ref a from rx)
    cases (show v=Value.ref b from ry)
    by_cases z:a=b
    · subst z
      have e:=I.tuple_inj ha hb
      subst e
      rw [eqAll_refl fx,decide_eq_true rfl]
      exact SeqAt.EqAt.same _
    · obtain ⟨its,r,p,_⟩:=I.tuple ha
      obtain ⟨its',r',p',_⟩:=I.tuple hb
      have l1:=r.length
      have l2:=r'.length
      have h0:=SeqAt.RcAt.tuples (A:=A) (e:=fun j=>match its[j]?,xs[j]?,ys[j]? with | _,some x,some y=>eqV x y | _,_,_=>false) (show s.heap.IsTuple a its.toArray from p) (show s.heap.IsTuple b its'.toArray from p') (by omega) (fun j h1 h2=>by
        have j1:j < its.length:=by simpa using h1
        have j2:j < its'.length:=by simpa using h2
        have x1:xs[j]?=some xs[j]:=List.getElem?_eq_getElem (by omega)
        have y1:ys[j]?=some ys[j]:=List.getElem?_eq_getElem (by omega)
        obtain ⟨u1,q1,r1⟩:=r.get x1
        obtain ⟨u2,q2,r2⟩:=r'.get y1
        have eu:its.toArray[j]=u1:=by
          have:=List.getElem?_eq_getElem j1
          rw [this] at q1;simpa using Option.some.inj q1
        have ev:its'.toArray[j]=u2:=by
          have:=List.getElem?_eq_getElem j2
          rw [this] at q2;simpa using Option.some.inj q2
        rw [eu,ev]
        rw [x1,y1]
        have f1:flatV xs[j]=true:=List.all_eq_true.mp fx _ (List.getElem_mem _)
        have f2:flatV ys[j]=true:=List.all_eq_true.mp fy _ (List.getElem_mem _)
        exact eqAt_V r1 r2 f1 f2)
      have h1:=SeqAt.EqAt.of_refs z h0
      have e1:((List.range (min its.toArray.size its'.toArray.size)).all fun j=>match its[j]?,xs[j]?,ys[j]? with | _,some x,some y=>eqV x y | _,_,_=>false)=(List.zipWith eqV xs ys).all id:=by
        have es:min its.toArray.size its'.toArray.size=min xs.length ys.length:=by simp only [List.size_toArray];omega
        rw [es]
        exact all_range_zip fun j x y q1 q2=>by rw [q1,q2]
      rw [e1] at h1
      have e2:(its.toArray.size == its'.toArray.size)=decide (xs.length=ys.length):=by
        simp only [List.size_toArray,← l1,← l2]
        exact Bool.beq_eq_decide_eq _ _
      rw [e2,Bool.and_comm] at h1
      exact h1
end
def rEqL (K:PySem.W.Frag) (neg:Bool):R2:=fun x y H Q=>∃ a b xs ys,x=.ref a∧y=.ref b∧SqL K H a xs∧SqL K H b ys ∧
  ((xs.length ≠ ys.length∧Q (.bl neg) H)∨(xs.length=ys.length∧∃ f:Nat→Bool,(∀ j x y,xs[j]?=some x→ys[j]?=some y→EqI K H x y (f j))∧Q (.bl (if neg then !(List.range xs.length).all f else (List.range xs.length).all f)) H))
section
variable {X:Cx}
theorem eqs_at {pins:List (Addr × Obj)} {σ:St} {H:Hp} {s:Shared} {A:Around} {xs ys:List V} {its its' : List Value} {f:Nat→Bool} (I:Inv X pins σ H s) (hu:A.units+1 < cLine) (r:Vals xs its) (r' : Vals ys its')
    (hf:∀ j x y,xs[j]?=some x→ys[j]?=some y→EqI X.K H x y (f j)):∀ j (h1:j < its.toArray.size) (h2:j < its'.toArray.size),SeqAt.EqAt A s its.toArray[j] its'.toArray[j] (f j):=fun j h1 h2=>by
  have j1:j < its.length:=by simpa using h1
  have j2:j < its'.length:=by simpa using h2
  have l1:=r.length
  have l2:=r'.length
  have x1:xs[j]?=some xs[j]:=List.getElem?_eq_getElem (by omega)
  have y1:ys[j]?=some ys[j]:=List.getElem?_eq_getElem (by omega)
  obtain ⟨u1,q1,r1⟩:=r.get x1
  obtain ⟨u2,q2,r2⟩:=r'.get y1
  have eu:its.toArray[j]=u1:=by
    have:=List.getElem?_eq_getElem j1
    rw [this] at q1;simpa using Option.some.inj q1
  have ev:its'.toArray[j]=u2:=by
    have:=List.getElem?_eq_getElem j2
    rw [this] at q2;simpa using Option.some.inj q2
  rw [eu,ev]
  exact (hf j _ _ x1 y1).at I hu r1 r2
theorem op_eqL {k:Nat} (hr:Room k X.A):OpR X (compareOp .Eq) (rEqL X.K false):=by
  intro pins s σ H x y v u Q I rx ry h
  obtain ⟨a,b,xs,ys,rfl,rfl,ha,hb,h⟩:=h
  cases (show v=Value.ref a from rx)
  cases (show u=Value.ref b from ry)
  obtain ⟨its,r,p,_⟩:=I.list ha
  obtain ⟨its',r',p',_⟩:=I.list hb
  have l1:=r.length
  have l2:=r'.length
  have hu:=hr.units
  rcases h with ⟨hn,q⟩ | ⟨hl,f,hf,q⟩
  · refine SeqAt.eq_list_lengthsAt p.isList p'.isList (by simp only [List.size_toArray,bne_iff_ne,ne_eq];omega) (by omega) ⟨.bl false,H,I,rfl,q⟩
  · refine SeqAt.eq_listAt (e:=f) p.isList p'.isList (by simp only [List.size_toArray];omega) (by omega) (eqs_at I (by show X.A.units+1+1 < cLine;omega) r r' hf) ⟨.bl _,H,I,rfl,?_⟩
    rw [show its.toArray.size=xs.length by simp only [List.size_toArray];omega]
    exact q
theorem op_neL {k:Nat} (hr:Room k X.A):OpR X (compareOp .NotEq) (rEqL X.K true):=by
  intro pins s σ H x y v u Q I rx ry h
  obtain ⟨a,b,xs,ys,rfl,rfl,ha,hb,h⟩:=h
  cases (show v=Value.ref a from rx)
  cases (show u=Value.ref b from ry)
  obtain ⟨its,r,p,_⟩:=I.list ha
  obtain ⟨its',r',p',_⟩:=I.list hb
  have l1:=r.length
  have l2:=r'.length
  have hu:=hr.units
  rcases h with ⟨hn,q⟩ | ⟨hl,f,hf,q⟩
  · refine SeqAt.RcNeAt.lists_lengths p.isList p'.isList (by simp only [List.size_toArray,bne_iff_ne,ne_eq];omega) (by omega) X.prog X.w X.xe _ ⟨.bl true,H,I,rfl,q⟩
  · refine SeqAt.RcNeAt.lists (e:=f) p.isList p'.isList (by simp only [List.size_toArray];omega) (by omega) (eqs_at I (by show X.A.units+1+1 < cLine;omega) r r' hf) X.prog X.w X.xe _ ⟨.bl _,H,I,rfl,?_⟩
    rw [show its.toArray.size=xs.length by simp only [List.size_toArray];omega]
    exact q
theorem rNeL_same {K:PySem.W.Frag} {H:Hp} {Q:VK} {a b:Addr} {xs:List V} (ha:SqL K H a xs) (hb:SqL K H b xs) (fl:∀ x ∈ xs,flatV x=true∨∃ r,x=.ref r) (q:Q (.bl false) H):rEqL K true (.ref a) (.ref b) H Q:=by
  refine ⟨a,b,xs,xs,rfl,rfl,ha,hb,.inr ⟨rfl,fun _=>true,fun j x y e1 e2=>?_,?_⟩⟩
  · rw [e1] at e2;cases e2
    rcases fl x (List.mem_of_getElem? e1) with z | ⟨r,rfl⟩
    · have:=EqI.flat (K:=K) (H:=H) z z
      rw [eqV_refl z] at this
      exact this
    · exact .same r
  · have:(List.range xs.length).all (fun _=>true)=true:=by simp
    rw [this]
    exact q
end
def SameT (H H' : Hp):Prop:=∀ b xs,H b=some (.tup xs)→H' b=some (.tup xs)
theorem Same.tups {H H' : Hp} (h:Same H H'):SameT H H':=fun b xs e=>h b _ e
theorem SameT.trans {H H1 H2:Hp} (a:SameT H H1) (b:SameT H1 H2):SameT H H2:=fun c xs e=>b c xs (a c xs e)
theorem sameT_new {H:Hp} {p:Addr} {o:HO} (h:H p=none):SameT H (upd H p o):=fun b xs e=>by rw [upd_ne (ne_of_none e h)];exact e
theorem sameT_lst {H:Hp} {p:Addr} {o:HO} {ys:List V} (h:H p=some (.lst ys)):SameT H (upd H p o):=fun b xs e=>by rw [upd_ne (ne_of e h (by intro z;cases z))];exact e
theorem same_new {H:Hp} {p:Addr} (h:H p=none) (o:HO):Same H (upd H p o):=fun b u q=>by rw [upd_ne (ne_of_none q h)];exact q
theorem Same.upd {H H' : Hp} {p:Addr} {o:HO} (s:Same H H') (h:H p=none):Same H (upd H' p o):=fun b u q=>by rw [upd_ne (ne_of_none q h)];exact s b u q
def PL (H:Hp):List V→List (Int × Int)→Prop:=Paired fun x p=>∃ r,x=.ref r∧H r=some (.tup [.int p.1,.int p.2])
theorem PL.mono {H H' : Hp} {xs:List V} {ps:List (Int × Int)} (h:PL H xs ps) (s:SameT H H'):PL H' xs ps:=Paired.mapP h fun _ _ ⟨r,e,z⟩=>⟨r,e,s r _ z⟩
theorem PL.get {H:Hp} : ∀ {xs:List V} {ps:List (Int × Int)} {i:Nat} {x:V},PL H xs ps→xs[i]?=some x→∃ p r,ps[i]?=some p∧x=.ref r∧H r=some (.tup [.int p.1,.int p.2])
  | _,_,_,_,.nil,e=>by simp at e
  | _,_,0,_,.cons (b:=b) ⟨r,e1,z⟩ _,e=>by simp at e;subst e;exact ⟨b,r,rfl,e1,z⟩
  | _,_,i+1,x,.cons _ t,e=>by
    obtain ⟨p,r,q⟩:=PL.get (i:=i) (x:=x) t (by simpa using e)
    exact ⟨p,r,by simpa using q.1,q.2⟩
theorem PL.length {H:Hp} {xs:List V} {ps:List (Int × Int)} (h:PL H xs ps):xs.length=ps.length:=Paired.length h
theorem PL.snoc {H:Hp} {xs:List V} {ps:List (Int × Int)} {r:Addr} {a b:Int} (h:PL H xs ps) (e:H r=some (.tup [.int a,.int b])):PL H (xs ++ [.ref r]) (ps ++ [(a,b)]):=Paired.snoc h ⟨r,rfl,e⟩
theorem PL.last {H:Hp} {xs:List V} {ps:List (Int × Int)} (h:PL H xs ps) (hn:xs ≠ []):∃ xs' r ps' p,xs=xs' ++ [.ref r]∧ps=ps' ++ [p]∧PL H xs' ps'∧H r=some (.tup [.int p.1,.int p.2]):=by
  induction h with
  | nil=>exact absurd rfl hn
  | @cons a b l1 l2 hd tl ih =>
    cases tl with
    | nil =>
      obtain ⟨r,e,z⟩:=hd
      exact ⟨[],r,[],b,by rw [e];rfl,rfl,.nil,z⟩
    | @cons a2 b2 l3 l4 hd2 tl2 =>
      obtain ⟨xs',r,ps',p,e1,e2,h3,h4⟩:=ih (by simp)
      exact ⟨a :: xs',r,b :: ps',p,by rw [e1];rfl,by rw [e2];rfl,.cons hd h3,h4⟩
theorem PL.app {H:Hp} {xs ys:List V} {ps qs:List (Int × Int)} (h:PL H xs ps) (h' : PL H ys qs):PL H (xs ++ ys) (ps ++ qs):=by
  induction h with
  | nil=>exact h'
  | cons r t ih=>exact .cons r ih
abbrev Tr:=Int × Int × Int
def TL (H:Hp):List V→List Tr→Prop:=Paired fun x t=>∃ r,x=.ref r∧H r=some (.tup [.int t.1,.int t.2.1,.int t.2.2])
theorem any_take_succ {ps:List (Int × Int)} {i:Nat} {p:Int × Int} {f:Int × Int→Bool} (e:ps[i]?=some p) (h:(ps.take i).any f=false) (hf:f p=false):(ps.take (i+1)).any f=false:=by
  rw [List.take_add_one,e,List.any_append,h]
  simp [hf]
theorem any_of_get {ps:List (Int × Int)} {i:Nat} {p:Int × Int} {f:Int × Int→Bool} (e:ps[i]?=some p) (hf:f p=true):ps.any f=true:=List.any_eq_true.mpr ⟨p,List.mem_of_getElem? e,hf⟩
theorem dec_t {p:Prop} [Decidable p] (h:decide p=true):p:=of_decide_eq_true h
theorem dec_f {p:Prop} [Decidable p] (h:¬ decide p=true):¬ p:=fun e=>h (decide_eq_true e)
end L2
namespace L2
open PySem PySem.Spec PyProof.Rows
theorem ix_listK {X:Cx} {K:PySem.W.Frag} (h:X.K=K):IxR X (rIxL K):=h ▸ ix_list
theorem ix_tupK {X:Cx} {K:PySem.W.Frag} (h:X.K=K):IxR X (rIxT K):=h ▸ ix_tup
def cmpCx (X:Cx) (N:List Str) (scope:Scope) (cl:List (Str × Addr)) (fp:List Addr) (C:Addr) (s2:Shared) (H2:Hp):Cx :=
  { prog:=X.prog,w:=X.w,K:=X.K,mg:=X.mg,base:=X.base,A:=X.A,N:=N,s₀:=s2,H₀:=H2,env:=compEnvC scope cl C X.env,outer:=X.stack,stack:=X.stack,ex:=fp,fn:=fun _=>false,calm:=X.calm,pn:=[],xe:=fun _ _=>False }
def PIf (X:Cx) (ifs:List Expr) (t:TT):Prop :=
  ∀ (pins:List (Addr × Obj)) (s:Shared) (σ:St) (H:Hp) (Q:Bool→Hp→Prop),Inv X pins σ H s→t σ H Q →
    wpAny (model X.prog X.w) X.A (forIn ifs true fun c r=>if r=true then do let ok ← isTrue c X.env (eval c X.env);pure (ForInStep.yield ok) else pure (ForInStep.yield r)) (TP X pins σ Q) X.xe s
def tYes:TT:=fun _ H Q=>Q true H
theorem pif_nil {X:Cx} : PIf X [] tYes:=fun _ _ _ H _ I h=>wpAny_tests_nil ⟨H,I,h⟩
theorem pif_one {X:Cx} {c:Expr} {t:TT} (h:PT X c t):PIf X [c] t:=fun pins s σ H Q I q=>wpAny_tests_one (h pins s σ H Q I q)
structure CmpOk (X:Cx) (N:List Str) (fr:List Nat) (scope:Scope) (cl:List (Str × Addr)) (x:Str):Prop where
  clos:closureFor scope X.env=pure cl
  kind:scope.kind=.function
  nocell:∀ y ∈ scope.names,y.2 ≠ .cell
  names:∀ y ∈ scope.names,y.2=.local→scope.names.lookup y.1=some .local
  hx:scope.names.lookup x=some .local
  nd:N.Nodup
  n0:N[0]?=some x
  len:N.length=fr.length+1
  sub:∀ (i:Nat) (y:Str),N[i+1]?=some y→∃ j,fr[i]?=some j∧X.N[j]?=some y∧(X.env.kindOf y=some .cell∨X.env.kindOf y=some .free)∧((relabel scope X.env).names.lookup y=some .cell∨(relabel scope X.env).names.lookup y=some .free)
  cells:∀ y c,cl.lookup y=some c→X.env.cells.lookup y=some c
  has:∀ y,((relabel scope X.env).names.lookup y=some .cell∨(relabel scope X.env).names.lookup y=some .free)→∃ c,cl.lookup y=some c
theorem cmpOk_plain {X:Cx} {scope:Scope} {x:Str} (kind:scope.kind=.function) (nofree:∀ y ∈ scope.names,y.2 ≠ .free) (nocell:∀ y ∈ scope.names,y.2 ≠ .cell)
    (names:∀ y ∈ scope.names,y.2=.local→scope.names.lookup y.1=some .local) (hx:scope.names.lookup x=some .local):CmpOk X [x] [] scope [] x:=by
  have er:(relabel scope X.env).names=scope.names:=map_eq_self fun y hy=>by
    have z:(y.2 == NameKind.free)=false:=by simpa using nofree y hy
    simp [z]
  have no:∀ y,¬ ((relabel scope X.env).names.lookup y=some .cell∨(relabel scope X.env).names.lookup y=some .free):=fun y h=>by
    rw [er] at h
    rcases h with h | h
    · exact nocell _ (PySem.mem_of_lookup h) rfl
    · exact nofree _ (PySem.mem_of_lookup h) rfl
  exact ⟨closureFor_none nofree,kind,nocell,names,hx,by simp,rfl,rfl,fun i y e=>by simp at e,(fun y c e=>by cases e),fun y h=>absurd h (no y)⟩
theorem cmpOk_free {X:Cx} {N:List Str} {fr:List Nat} {scope:Scope} {cl:List (Str × Addr)} {x:Str} (clos:closureFor scope X.env=pure cl) (kind:scope.kind=.function) (nocell:∀ y ∈ scope.names,y.2 ≠ .cell)
    (names:∀ y ∈ scope.names,y.2=.local→scope.names.lookup y.1=some .local) (hx:scope.names.lookup x=some .local) (nd:N.Nodup) (n0:N[0]?=some x) (len:N.length=fr.length+1)
    (sub:((List.range fr.length).all fun i=>match N[i+1]?,fr[i]? with | some y,some j=>(X.N[j]? == some y) && ((X.env.kindOf y == some .cell) && ((relabel scope X.env).names.lookup y == some .cell)) | _,_=>false)=true)
    (cells:∀ p ∈ cl,X.env.cells.lookup p.1=some p.2) (has:((relabel scope X.env).names.all fun p=>(p.2 != .cell && p.2 != .free) || (cl.lookup p.1).isSome)=true):CmpOk X N fr scope cl x:=by
  refine ⟨clos,kind,nocell,names,hx,nd,n0,len,fun i y e=>?_,fun y c e=>cells _ (PySem.mem_of_lookup e),fun y h=>?_⟩
  · have hi:i < fr.length:=by have:=(List.getElem?_eq_some_iff.mp e).1;omega
    have z:=List.all_eq_true.mp sub i (List.mem_range.mpr hi)
    rw [e,List.getElem?_eq_getElem hi] at z
    simp only [Bool.and_eq_true,beq_iff_eq] at z
    exact ⟨_,List.getElem?_eq_getElem hi,z.1,.inl z.2.1,.inl z.2.2⟩
  · have look:∀ k,(relabel scope X.env).names.lookup y=some k→(k=.cell∨k=.free)→∃ c,cl.lookup y=some c:=fun k e hk=>by
      have z:=List.all_eq_true.mp has _ (PySem.mem_of_lookup e)
      rcases hk with rfl | rfl
      · exact Option.isSome_iff_exists.mp (by simpa using z)
      · exact Option.isSome_iff_exists.mp (by simpa using z)
    rcases h with h | h
    · exact look _ h (.inl rfl)
    · exact look _ h (.inr rfl)
def cmpSt (σ:St) (fr:List Nat) (x:Option V):St:=x :: fr.map fun j=>(σ[j]?).join
def CompAt (J:It) (fr:List Nat) (tt:TT) (te:TE) (σ:St) (Q:VK) (H1:Hp):Prop:=∀ D,H1 D=none→∃ W:Nat→Nat→Hp→Prop,(∃ m,W 0 m (upd H1 D (.lst [])))∧∀ i m H,W i m H →
  (J.stop i H∧Q (.ref D) H)∨(J.go i H∧∀ x H',J.yld i H x H'→tt (cmpSt σ fr (some x)) H' fun b H2=>if b=true then te (cmpSt σ fr (some x)) H2 fun y H3=>∃ ys,H3 D=some (.lst ys)∧ys.length < sizeLine∧∃ m',m' < m∧W (i+1) m' (upd H3 D (.lst (ys ++ [y])))
    else ∃ m',m' < m∧W (i+1) m' H2)
def tComp (wi:TI) (fr:List Nat) (tt:TT) (te:TE):TE:=fun σ H Q=>wi σ H fun J H1=>CompAt J fr tt te σ Q H1
section
variable {prog:Program} {w:World} {A:Around} {R:Result→Shared→Prop} {s:Shared}
theorem comp_turns {elt target iter:Expr} {ifs:List Expr} {scope:Scope} {pos:Pos} {it acc:Value} {env:Env} (J:Nat→Shared→Prop)
    (turn:∀ n s,J n s→wpAny (model prog w) A (pyNext it) (fun r s1=>match r with
      | none=>R (.ok .next) s1
      | some v=>wpAny (model prog w) A (letOwnedTupleGo target it v) (fun _ s2=>wpAny (model prog w) A (assign target env v) (fun _ s3 =>
          wpAny (model prog w) A (forIn ifs true fun c r=>if r=true then do let ok ← isTrue c env (eval c env);pure (ForInStep.yield ok) else pure (ForInStep.yield r)) (fun ok s4 =>
            if ok=true then wpAny (model prog w) A (eval elt env) (fun y s5=>wpAny (model prog w) A (call (.builtin "list.append") [acc,y]) (fun _ s6=>∃ m,m < n∧J m s6) (fun _ _=>False) s5) (fun _ _=>False) s4
            else ∃ m,m < n∧J m s4) (fun _ _=>False) s3) (fun _ _=>False) s2) (fun _ _=>False) s1) (fun _ _=>False) s)
    (n:Nat) (h:J n s):codeAny (model prog w) A (.compLoop (.ListComp elt [⟨target,iter,ifs,0⟩] scope pos) 0 it acc env) R s:=by
  refine codeAny_loop rfl J (fun n s hJ=>?_) n h
  show wpAny _ A ((compTurn (.ListComp elt [⟨target,iter,ifs,0⟩] scope pos) 0 it acc env).onRaise (fun x=>do noteFrame x env;theTreesLotGoes x)) _ _ s
  refine wpAny_noted ?_
  rw [compTurn_list]
  refine wpAny_bind (wpAny_standAt (wpAny_bind (wpAny_mono (turn n s hJ) (fun r s1 h1=>?_) fun _ _ z=>z.elim)))
  cases r with
  | none=>exact wpAny_pure h1
  | some v =>
    refine wpAny_bind (wpAny_mono h1 (fun _ s2 h2=>?_) fun _ _ z=>z.elim)
    refine wpAny_bind (wpAny_mono h2 (fun _ s3 h3=>wpAny_bind (wpAny_mono h3 (fun ok s4 h4=>?_) fun _ _ z=>z.elim)) fun _ _ z=>z.elim)
    cases ok with
    | false=>exact wpAny_pure ⟨rfl,h4⟩
    | true=>exact wpAny_bind (wpAny_bind (wpAny_mono h4 (fun y s5 h5=>wpAny_bind (wpAny_mono h5 (fun _ s6 h6=>wpAny_pure (wpAny_pure ⟨rfl,h6⟩)) fun _ _ z=>z.elim)) fun _ _ z=>z.elim))
end
section
variable {X:Cx} {elt iter:Expr} {ifs:List Expr} {x:Str} {px pos:Pos} {scope:Scope} {cl:List (Str × Addr)} {N:List Str} {fr:List Nat} {tt:TT} {te:TE}
theorem comp_core {pins:List (Addr × Obj)} {σ:St} {s2:Shared} {H2:Hp} {it:Addr} {fp:List Addr} {tn:Nat→Heap→Prop} {J:It} {Q:VK} {E:Value→Shared→Prop} {RR:Value→Addr→Result→Shared→Prop}
    (O:CmpOk X N fr scope cl x) (hc:X.calm=true) (I2:Inv X pins σ H2 s2) (T:Turn X.prog X.w X.K (.Name x px) J fp it tn) (st2:tn 0 s2.heap) (f2:∀ b ∈ fp,FpOk X pins H2 b)
    (ht:∀ fp C s H,PIf (cmpCx X N scope cl fp C s H) ifs tt) (he:∀ fp C s H,PE (cmpCx X N scope cl fp C s H) elt te)
    (hW:CompAt J fr tt te σ Q H2)
    (fin:∀ D C s' H',s2.heap.objs.size≤C→H' C=none→(∃ m,s'.heap.Ns C m)→Inv X pins σ H' s'→Q (.ref D) H'→RR (.ref D) C (.ok .next) s') :
    wpAny (model X.prog X.w) X.A (newList []) (fun acc s3=>wpAny (model X.prog X.w) X.A (newFunctionEnv scope X.env.globals cl [] X.env.qual none .none (some X.env)) (fun cenv s4 =>
      codeAny (model X.prog X.w) X.A (.compStart (.ListComp elt [⟨.Name x px,iter,ifs,0⟩] scope pos) 0 (.ref it) acc { cenv with scope:=relabel scope X.env }) (RR acc cenv.locals) s4) E s3) E s2:=by
  refine wpAny_newObj_type (wpAny_newFunctionEnv O.nocell (by intro y hy;simp at hy) (fun h1 hns hsb=>?_) O.kind)
  dsimp only at hns hsb ⊢
  generalize hG:s2.heap.push { cls:=.type "list",dict:=none,data:=.seq ([]:List Value).toArray } = G at hns hsb ⊢
  have hC:G.objs.size=s2.heap.objs.size+1:=by rw [← hG,Heap.size_push]
  have old:∀ b o,s2.heap.get? b=some o→h1.get? b=some o:=fun b o e=>hsb.extBut b o (Nat.ne_of_lt (by rw [hC];exact Nat.lt_succ_of_lt (Heap.lt_size e))) (Heap.get?_push_of_some _ (hG ▸ Heap.get?_push_of_some _ e))
  have hacc:h1.get? s2.heap.objs.size=some { cls:=.type "list",data:=.seq ([]:List Value).toArray 0 }:=hsb.extBut _ _ (Nat.ne_of_lt (by rw [hC];exact Nat.lt_succ_self _)) (Heap.get?_push_of_some _ (hG ▸ Heap.get?_push_size _ rfl))
  have hD:H2 s2.heap.objs.size=none:=I2.fresh
  have okX:(cmpCx X N scope cl fp G.objs.size s2 H2).Ok:=by
    refine ⟨I2.ok.mod,O.kind,I2.ok.glob,I2.ok.blt,by show s2.heap.objs.size≤G.objs.size;rw [hC];exact Nat.le_succ _,fun y z c e1 e2=>I2.ok.inj y z c (O.cells y c e1) (O.cells z c e2),fun y hy=>O.has y hy,fun y c z=>absurd (show false=true from z) Bool.false_ne_true,I2.ok.hd,I2.ok.frames,.inl rfl,
      fun b hb=>⟨?_,fun y c e=>(f2 b hb).2.2.2.2.1 y c (O.cells y c e)⟩,I2.bs,Nat.le_trans I2.ok.bsz I2.sz,fun b o e hb=>?_,fun b hb z=>?_,I2.stack,I2.stkFree⟩
    · obtain ⟨o,e,_⟩:=T.obj _ _ st2 b hb
      show b ≠ G.objs.size
      exact Nat.ne_of_lt (by rw [hC];exact Nat.lt_succ_of_lt (Heap.lt_size e))
    · rcases (f2 b hb).2.2.2.1 with z | z
      · exact I2.ok.noex b o e z
      · exact absurd (Nat.lt_of_lt_of_le (Heap.lt_size e) (Nat.le_trans I2.ok.bsz z)) (Nat.lt_irrefl _)
    · rcases List.mem_cons.mp (I2.stkSub b z) with z | z
      · exact (f2 b hb).2.1 z
      · exact (f2 b hb).2.2.1 z
  have statX:∀ {H' : Hp},(∀ b ∈ fp,H' b=none)→∀ b ∈ fp,FpOk (cmpCx X N scope cl fp G.objs.size s2 H2) [] H' b:=fun hn b hb =>
    ⟨hn b hb,(okX.exf b hb).1,okX.exfs b hb,.inl hb,(okX.exf b hb).2,fun p hp=>absurd (show p ∈ ([]:List (Addr × Obj)) from hp) (by simp)⟩
  have I' : Inv (cmpCx X N scope cl fp G.objs.size s2 H2) [] (cmpSt σ fr none) (upd H2 s2.heap.objs.size (.lst [])) { s2 with heap:=h1,toks:=s2.toks+([]:List (Str × Value)).length }:=by
    refine ⟨okX,rfl,I2.bare,Un.laid old (Nat.le_refl _) hD,⟨_,hns,fun i y v e1 e2 e3=>?_⟩,fun y c e=>?_,?_,fun y c e=>?_,fun p hp=>absurd (show p ∈ ([]:List (Addr × Obj)) from hp) (by simp),I2.hok.laid old (Nat.le_refl _) ⟨Nat.zero_le _,[],0,.nil,hacc⟩,?_⟩
    · cases i with
      | zero=>cases e2
      | succ i =>
        obtain ⟨j,q1,q2,q3,q4⟩:=O.sub i y e1
        have e2' : (σ[j]?).join=some v:=by
          have:(fr.map fun j=>(σ[j]?).join)[i]?=some (some v):=e2
          rw [List.getElem?_map,q1] at this
          exact Option.some.inj this
        have e4:σ[j]?=some (some v):=by
          cases z:σ[j]? with
          | none=>rw [z] at e2';cases e2'
          | some t=>rw [z] at e2';exact congrArg some e2'
        obtain ⟨m,_,hl⟩:=I2.loc
        have vis:Vis X.env.scope y:=.inr q3
        obtain ⟨u,r,l⟩:=hl j y v q2 e4 vis
        refine ⟨u,r,.inr ⟨q4,?_⟩⟩
        obtain ⟨c',hc'⟩:=O.has y q4
        rcases l with ⟨k,_⟩ | ⟨_,c,ec,ic⟩
        · rcases q3 with z | z
          · rw [z] at k;cases k
          · rw [z] at k;cases k
        · have:=O.cells y c' hc'
          have e' : c=c':=Option.some.inj (ec.symm.trans this)
          obtain ⟨o,ho,hd⟩:=ic
          rw [e'] at ho
          exact ⟨c',hc',o,old c' o ho,hd⟩
    · obtain ⟨v,o,ho,hd⟩:=I2.cell y c (O.cells y c e)
      exact ⟨v,o,old c o ho,hd⟩
    · show upd H2 s2.heap.objs.size (.lst []) G.objs.size=none
      rw [upd_ne (Nat.ne_of_gt (by rw [hC];exact Nat.lt_succ_self _))]
      exact I2.hok.fresh (by rw [hC];exact Nat.le_succ _)
    · obtain ⟨v,o,ho,hd⟩:=I2.cell y c (O.cells y c e)
      rw [upd_ne (Nat.ne_of_lt (Heap.lt_size ho))]
      exact I2.freeC y c (O.cells y c e)
    · show (cmpSt σ fr none).length=N.length
      rw [O.len];simp [cmpSt]
  have st1:tn 0 h1:=T.keep _ _ _ st2 fun b hb o e=>old b o e
  have loop:∀ s3:Shared,s3 = { s2 with heap:=h1,toks:=s2.toks+([]:List (Str × Value)).length } →
      codeAny (model X.prog X.w) X.A (.compLoop (.ListComp elt [⟨.Name x px,iter,ifs,0⟩] scope pos) 0 (.ref it) (.ref s2.heap.objs.size) (compEnvC scope cl G.objs.size X.env)) (RR (.ref s2.heap.objs.size) G.objs.size) s3:=by
    rintro s3 rfl
    obtain ⟨W,⟨m0,w0⟩,turn⟩:=hW _ hD
    refine comp_turns (fun n s'=>∃ i t H',Inv (cmpCx X N scope cl fp G.objs.size s2 H2) [] (cmpSt σ fr t) H' s'∧tn i s'.heap∧(∀ b ∈ fp,H' b=none)∧W i n H') ?_ m0
      ⟨0,none,_,I',st1,fun b hb=>by
        rw [upd_ne (by obtain ⟨o,e,_⟩:=T.obj _ _ st2 b hb;exact Nat.ne_of_lt (Heap.lt_size e))]
        exact (f2 b hb).1,w0⟩
    rintro n s' ⟨i,t,H',I3,st3,fr3,w3⟩
    rcases turn i n H' w3 with ⟨stop,qn⟩ | ⟨go,step⟩
    · refine thn (T.done (cmpCx X N scope cl fp G.objs.size s2 H2) rfl rfl rfl hc i [] s' _ H' _ I3 (statX fr3) st3 stop) fun r s4 ⟨hr,I4⟩=>?_
      subst hr
      obtain ⟨m,hm,_⟩:=I4.loc
      refine fin _ _ s4 H' (by rw [hC];exact Nat.le_succ _) I4.free ⟨m,hm⟩ (I2.call' (ch:=fp) I4.os I4.base I4.hok I4.bare fun b hb=>?_) qn
      exact ⟨(f2 b hb).2.2.2.1,(f2 b hb).2.1,(f2 b hb).2.2.2.2.1,(f2 b hb).2.2.2.2.2⟩
    · refine thn (T.item (cmpCx X N scope cl fp G.objs.size s2 H2) rfl rfl rfl hc i [] s' _ H' _ I3 (statX fr3) st3 go) fun r s4 ⟨u,hr,h4⟩=>?_
      subst hr
      refine thn h4 fun _ s5 ⟨y,H5,I5,r5,y5,st5,fr5⟩=>?_
      have I5':=I5.pinned (statX fr5) (T.obj _ _ st5)
      have lx:(cmpCx X N scope cl fp G.objs.size s2 H2).env.scope.names.lookup x=some .local:=lookup_relabel_local O.hx
      refine thn (pg_name (X:=cmpCx X N scope cl fp G.objs.size s2 H2) (i:=0) O.nd O.n0 (.inl lx) (.inr lx) _ s5 _ H5 y u (fun σ' H'=>σ'=cmpSt σ fr (some y)∧H'=H5) I5' r5 ⟨rfl,rfl⟩) fun _ s6 ⟨σ6,H6,I6,e6,e6'⟩=>?_
      subst e6;subst e6'
      have again:∀ {σ7:St} {H7:Hp} {s7:Shared} {m' : Nat},σ7=cmpSt σ fr (some y)→Inv (cmpCx X N scope cl fp G.objs.size s2 H2) ([] ++ pinsAt fp s5.heap) σ7 H7 s7→m' < n→W (i+1) m' H7 →
          ∃ m,m < n∧∃ i t H',Inv (cmpCx X N scope cl fp G.objs.size s2 H2) [] (cmpSt σ fr t) H' s7∧tn i s7.heap∧(∀ b ∈ fp,H' b=none)∧W i m H':=fun {σ7 H7 s7 m'} e7 I7 hm w7=>by
        subst e7
        refine ⟨m',hm,i+1,some y,H7,I7.unpinned,T.keep _ _ _ st5 fun b hb o e=>(I7.pin (b,o) (List.mem_append_right _ (List.mem_append_right _ (mem_pinsAt hb e)))).1,fun b hb=>?_,w7⟩
        obtain ⟨o,e,d⟩:=T.obj _ _ st5 b hb
        exact (I7.pin (b,o) (List.mem_append_right _ (List.mem_append_right _ (mem_pinsAt hb e)))).2.1
      refine thn (ht fp G.objs.size s2 H2 _ s6 _ H6 _ I6 (step y H6 y5)) fun ok s7 ⟨H7,I7,q7⟩=>?_
      cases ok with
      | false =>
        rw [if_neg Bool.false_ne_true] at q7 ⊢
        obtain ⟨m',hm,w7⟩:=q7
        exact again rfl I7 hm w7
      | true =>
        rw [if_pos rfl] at q7 ⊢
        refine thn (he fp G.objs.size s2 H2 _ s7 _ H7 _ I7 q7) fun u8 s8 ⟨v8,H8,I8,r8,ys,hys,hlen,m',hm,w8⟩=>?_
        refine thn (mt_append (X:=cmpCx X N scope cl fp G.objs.size s2 H2) _ s8 _ H8 (.ref s2.heap.objs.size) [v8] _ [u8] (fun _ H9=>W (i+1) m' H9) I8 rfl (.cons r8 .nil) ⟨_,ys,v8,rfl,rfl,hys,hlen,w8⟩) fun _ s9 ⟨_,H9,I9,_,w9⟩=>?_
        exact again rfl I9 hm w9
  exact codeAny_compStart_list (loop _ rfl) (T.self _ 0 _ _ _ st1 (loop _ rfl))
theorem Inv.left {pins:List (Addr × Obj)} {σ σ2:St} {s2 s' : Shared} {H2 H' : Hp} {C:Addr} {h' : Heap} (I2:Inv X pins σ2 H2 s2) (I' : Inv X pins σ H' s') (hC:s2.heap.objs.size≤C) (hn:H' C=none) (hs:Heap.SameBut C s'.heap h'):Inv X pins σ H' { s' with heap:=h' }:=by
  refine I'.turned (t':=s'.toks) (it:=C) (fun b o hb e=>(hs.2 b hb).trans e) hn (Nat.ne_of_gt (Nat.lt_of_lt_of_le I2.lt hC)) (.inr (Nat.le_trans I2.sz hC)) (fun y c e=>?_) fun p hp=>?_
  · obtain ⟨v,o,ho,_⟩:=I2.cell y c e
    exact Nat.ne_of_lt (Nat.lt_of_lt_of_le (Heap.lt_size ho) hC)
  · exact Nat.ne_of_lt (Nat.lt_of_lt_of_le (Heap.lt_size (I2.pin p hp).1) hC)
theorem pe_comp {wi:TI} (hi:PI X (.Name x px) iter wi) (O:CmpOk X N fr scope cl x) (hc:X.calm=true) (ht:∀ fp C s H,PIf (cmpCx X N scope cl fp C s H) ifs tt) (he:∀ fp C s H,PE (cmpCx X N scope cl fp C s H) elt te)
    (hs:∀ v,foldedSetIterable iter X.env v=pure v:=by intro _;rfl):PE X (.ListComp elt [⟨.Name x px,iter,ifs,0⟩] scope pos) (tComp wi fr tt te):=by
  intro pins s σ H Q I h
  rw [eval_ListComp]
  refine wpAny_comprehension_free (use:=none) rfl hs O.clos O.kind O.names (thn (hi pins s σ H _ I h) fun v s1 h1=>thn h1 fun itv s2 h2=>?_)
  obtain ⟨it,fp,tn,J,H2,e,I2,T,st2,f2,hW⟩:=h2
  subst e
  refine comp_core (RR:=fun acc C=>compPost (model X.prog X.w) X.A X.xe none (EP X pins σ Q) acc C) O hc I2 T st2 f2 ht he hW fun D C s' H' hC hn ⟨m,hm⟩ I' q=>?_
  exact ⟨m,hm,fun h' hs'=>⟨.ref D,H',I2.left I' hC hn hs',rfl,q⟩⟩
theorem ps_comp {wi:TI} {i:Nat} {y:Str} {py spos:Pos} (hN:X.N.Nodup) (hy:X.N[i]?=some y) (hl:Loc X.env.scope y) (hi:PI X (.Name x px) iter wi) (O:CmpOk X N fr scope cl x) (hc:X.calm=true)
    (ht:∀ fp C s H,PIf (cmpCx X N scope cl fp C s H) ifs tt) (he:∀ fp C s H,PE (cmpCx X N scope cl fp C s H) elt te) (hs:∀ v,foldedSetIterable iter X.env v=pure v:=by intro _;rfl)
    (hsw:swapsWith (.ListComp elt [⟨.Name x px,iter,ifs,0⟩] scope pos) (some (.Name y py)) spos.line X.env=pure true:=by rfl) (hf:X.fn y=true∨X.env.scope.names.lookup y=some .local:=by first | exact .inl rfl | exact .inr rfl | assumption) :
    PS X (.Assign [.Name y py] (.ListComp elt [⟨.Name x px,iter,ifs,0⟩] scope pos) spos) (tAsg (tComp wi fr tt te) (gName i)):=by
  intro pins s σ H D0 I h
  rw [exec_Assign_Name_used _ _ _ _ hsw]
  refine wpAny_bind (wpAny_standAt (wpAny_bind ?_))
  show wpAny _ X.A (do let _ ← comprehension (.ListComp elt [⟨.Name x px,iter,ifs,0⟩] scope pos) scope X.env _ (newList []) false (eval iter X.env) (some (assign (.Name y py) X.env))) _ _ s
  refine wpAny_bind (wpAny_mono (wpAny_comprehension_free (use:=some (assign (.Name y py) X.env)) (Q:=fun _ s'=>SP X pins D0 .next s') rfl hs O.clos O.kind O.names (thn (hi pins s σ H _ I h) fun v s1 h1=>thn h1 fun itv s2 h2=>?_)) (fun _ s' hq=>wpAny_pure (wpAny_pure hq)) fun _ _ z=>z)
  obtain ⟨it,fp,tn,J,H2,e,I2,T,st2,f2,hW⟩:=h2
  subst e
  refine comp_core (Q:=fun v H1=>gName i v σ H1 D0.nx) (RR:=fun acc C=>compPost (model X.prog X.w) X.A X.xe (some (assign (.Name y py) X.env)) (fun _ s'=>SP X pins D0 .next s') acc C) O hc I2 T st2 f2 ht he hW fun D C s' H' hC hn ⟨m,hm⟩ I' q=>?_
  show wpAny _ X.A (assign (.Name y py) X.env (.ref D)) _ _ s'
  refine wpAny_assign_Name (store_ok2 I' hN hy hl (v:=.ref D) rfl (fun s3 I3 ⟨a,hsa,ha⟩=>?_) hf)
  have hCa:C ≠ a:=by
    rcases ha with z | z
    · rw [z];exact Nat.ne_of_gt (Nat.lt_of_lt_of_le I2.lt hC)
    · obtain ⟨v,o,ho,_⟩:=I2.cell y a z
      exact Nat.ne_of_gt (Nat.lt_of_lt_of_le (Heap.lt_size ho) hC)
  exact ⟨m,hm.sameBut hsa hCa,fun h' hs'=>⟨_,H',I2.left I3 hC hn hs',q⟩⟩
def CNext (Pv:Addr→Nat→List V→Hp→Prop) (D:Addr) (i n:Nat) (H2:Hp):Prop:=∃ m',m' < n - i∧m'=n - (i+1)∧i+1≤n∧∃ zs,Pv D (i+1) zs H2
def CYes (Pv:Addr→Nat→List V→Hp→Prop) (D:Addr) (i n:Nat):VK:=fun y H3=>∃ ys,H3 D=some (.lst ys)∧ys.length < sizeLine∧CNext Pv D i n (upd H3 D (.lst (ys ++ [y])))
theorem CNext.mk {Pv:Addr→Nat→List V→Hp→Prop} {D:Addr} {i n:Nat} {H2:Hp} {zs:List V} (hi:i < n) (h:Pv D (i+1) zs H2):CNext Pv D i n H2:=⟨n - (i+1),by omega,rfl,hi,zs,h⟩
theorem CYes.mk {Pv:Addr→Nat→List V→Hp→Prop} {D:Addr} {i n:Nat} {H3:Hp} {ys:List V} {y:V} (hi:i < n) (e:H3 D=some (.lst ys)) (hl:ys.length < sizeLine) (h:Pv D (i+1) (ys ++ [y]) (upd H3 D (.lst (ys ++ [y])))):CYes Pv D i n y H3:=⟨ys,e,hl,.mk hi h⟩
theorem comp_list {K:PySem.W.Frag} {a:Addr} {xs:List V} {σ:St} {H1:Hp} {Q:VK} (Pv:Addr→Nat→List V→Hp→Prop) (h0:∀ D,H1 D=none→Pv D 0 [] (upd H1 D (.lst [])))
    (hk:∀ D i ys H,H1 D=none→i≤xs.length→Pv D i ys H→SqL K H a xs)
    (hs:∀ D i x ys H,H1 D=none→xs[i]?=some x→Pv D i ys H→tt (cmpSt σ fr (some x)) H fun b H2=>if b=true then te (cmpSt σ fr (some x)) H2 (CYes Pv D i xs.length) else CNext Pv D i xs.length H2)
    (hd:∀ D ys H,H1 D=none→Pv D xs.length ys H→Q (.ref D) H):CompAt (Itl K a) fr tt te σ Q H1:=by
  intro D hD
  refine ⟨fun i m H=>m=xs.length - i∧i≤xs.length∧∃ ys,Pv D i ys H,⟨_,rfl,Nat.zero_le _,[],h0 D hD⟩,?_⟩
  rintro i m H ⟨rfl,hi,ys,p⟩
  have q:=hk D i ys H hD hi p
  by_cases hlt:i < xs.length
  · refine .inr ⟨⟨xs,xs[i],q,by simp [hlt]⟩,fun x H' y=>?_⟩
    obtain ⟨e,y⟩:=y
    subst e
    exact hs D i x ys _ hD (y xs q) p
  · have e:i=xs.length:=by omega
    subst e
    exact .inl ⟨⟨xs,q,Nat.le_refl _⟩,hd D ys H hD p⟩
theorem comp_range {lo:Int} {n:Nat} {σ:St} {H1:Hp} {Q:VK} (Pv:Addr→Nat→List V→Hp→Prop) (h0:∀ D,H1 D=none→Pv D 0 [] (upd H1 D (.lst [])))
    (hs:∀ D i ys H,H1 D=none→i < n→Pv D i ys H→tt (cmpSt σ fr (some (.int (lo+i)))) H fun b H2=>if b=true then te (cmpSt σ fr (some (.int (lo+i)))) H2 (CYes Pv D i n) else CNext Pv D i n H2)
    (hd:∀ D ys H,H1 D=none→Pv D n ys H→Q (.ref D) H):CompAt (Itr lo n) fr tt te σ Q H1:=by
  intro D hD
  refine ⟨fun i m H=>m=n - i∧i≤n∧∃ ys,Pv D i ys H,⟨_,rfl,Nat.zero_le _,[],h0 D hD⟩,?_⟩
  rintro i m H ⟨rfl,hi,ys,p⟩
  by_cases hlt:i < n
  · refine .inr ⟨hlt,fun x H' y=>?_⟩
    obtain ⟨e,y⟩:=y
    subst e;subst y
    exact hs D i ys _ hD hlt p
  · have e:i=n:=by omega
    subst e
    exact .inl ⟨Nat.le_refl _,hd D ys H hD p⟩
end
end L2
namespace L2
open PySem PySem.Spec PyProof.Rows
structure CmpOkG (X:Cx) (N:List Str) (k:Nat) (fr:List Nat) (scope:Scope) (cl:List (Str × Addr)):Prop where
  clos:closureFor scope X.env=pure cl
  kind:scope.kind=.function
  nocell:∀ y ∈ scope.names,y.2 ≠ .cell
  names:∀ y ∈ scope.names,y.2=.local→scope.names.lookup y.1=some .local
  len:N.length=k+fr.length
  sub:∀ (i:Nat) (y:Str),N[k+i]?=some y→∃ j,fr[i]?=some j∧X.N[j]?=some y∧(X.env.kindOf y=some .cell∨X.env.kindOf y=some .free)∧((relabel scope X.env).names.lookup y=some .cell∨(relabel scope X.env).names.lookup y=some .free)
  cells:∀ y c,cl.lookup y=some c→X.env.cells.lookup y=some c
  has:∀ y,((relabel scope X.env).names.lookup y=some .cell∨(relabel scope X.env).names.lookup y=some .free)→∃ c,cl.lookup y=some c
theorem cmpOkG_plain {X:Cx} {N:List Str} {k:Nat} {scope:Scope} (len:N.length=k) (kind:scope.kind=.function) (nofree:∀ y ∈ scope.names,y.2 ≠ .free) (nocell:∀ y ∈ scope.names,y.2 ≠ .cell)
    (names:∀ y ∈ scope.names,y.2=.local→scope.names.lookup y.1=some .local):CmpOkG X N k [] scope []:=by
  have er:(relabel scope X.env).names=scope.names:=map_eq_self fun y hy=>by
    have z:(y.2 == NameKind.free)=false:=by simpa using nofree y hy
    simp [z]
  have no:∀ y,¬ ((relabel scope X.env).names.lookup y=some .cell∨(relabel scope X.env).names.lookup y=some .free):=fun y h=>by
    rw [er] at h
    rcases h with h | h
    · exact nocell _ (PySem.mem_of_lookup h) rfl
    · exact nofree _ (PySem.mem_of_lookup h) rfl
  refine ⟨closureFor_none nofree,kind,nocell,names,by rw [len];rfl,fun i y e=>?_,(fun y c e=>by cases e),fun y h=>absurd h (no y)⟩
  have:=(List.getElem?_eq_some_iff.mp e).1
  omega
def cmpStG (σ:St) (fr:List Nat) (ts:St):St:=ts ++ fr.map fun j=>(σ[j]?).join
def CompAtG (J:It) (gt:TG) (k:Nat) (fr:List Nat) (tt:TT) (te:TE) (σ:St) (Q:VK) (H1:Hp):Prop:=∀ D,H1 D=none→∃ W:Nat→Nat→Hp→Prop,(∃ m,W 0 m (upd H1 D (.lst [])))∧∀ i m H,W i m H →
  (J.stop i H∧Q (.ref D) H)∨(J.go i H∧∀ x H',J.yld i H x H'→∀ ts:St,ts.length=k→gt x (cmpStG σ fr ts) H' fun σ2 H2=>(∃ ts2:St,ts2.length=k∧σ2=cmpStG σ fr ts2)∧tt σ2 H2 fun b H3=>if b=true then te σ2 H3 fun y H4=>∃ ys,H4 D=some (.lst ys)∧ys.length < sizeLine∧∃ m',m' < m∧W (i+1) m' (upd H4 D (.lst (ys ++ [y])))
    else ∃ m',m' < m∧W (i+1) m' H3)
def tCompG (wi:TI) (gt:TG) (k:Nat) (fr:List Nat) (tt:TT) (te:TE):TE:=fun σ H Q=>wi σ H fun J H1=>CompAtG J gt k fr tt te σ Q H1
section
variable {X:Cx} {elt iter tg:Expr} {ifs:List Expr} {pos:Pos} {scope:Scope} {cl:List (Str × Addr)} {N:List Str} {k:Nat} {fr:List Nat} {gt:TG} {tt:TT} {te:TE}
theorem comp_coreG {pins:List (Addr × Obj)} {σ:St} {s2:Shared} {H2:Hp} {it:Addr} {fp:List Addr} {tn:Nat→Heap→Prop} {J:It} {Q:VK} {E:Value→Shared→Prop} {RR:Value→Addr→Result→Shared→Prop}
    (O:CmpOkG X N k fr scope cl) (hc:X.calm=true) (I2:Inv X pins σ H2 s2) (T:Turn X.prog X.w X.K tg J fp it tn) (st2:tn 0 s2.heap) (f2:∀ b ∈ fp,FpOk X pins H2 b)
    (ht:∀ fp C s H,PIf (cmpCx X N scope cl fp C s H) ifs tt) (he:∀ fp C s H,PE (cmpCx X N scope cl fp C s H) elt te)
    (hg:∀ fp C s H,PG (cmpCx X N scope cl fp C s H) tg gt) (hW:CompAtG J gt k fr tt te σ Q H2)
    (fin:∀ D C s' H',s2.heap.objs.size≤C→H' C=none→(∃ m,s'.heap.Ns C m)→Inv X pins σ H' s'→Q (.ref D) H'→RR (.ref D) C (.ok .next) s') :
    wpAny (model X.prog X.w) X.A (newList []) (fun acc s3=>wpAny (model X.prog X.w) X.A (newFunctionEnv scope X.env.globals cl [] X.env.qual none .none (some X.env)) (fun cenv s4 =>
      codeAny (model X.prog X.w) X.A (.compStart (.ListComp elt [⟨tg,iter,ifs,0⟩] scope pos) 0 (.ref it) acc { cenv with scope:=relabel scope X.env }) (RR acc cenv.locals) s4) E s3) E s2:=by
  refine wpAny_newObj_type (wpAny_newFunctionEnv O.nocell (by intro y hy;simp at hy) (fun h1 hns hsb=>?_) O.kind)
  dsimp only at hns hsb ⊢
  generalize hG:s2.heap.push { cls:=.type "list",dict:=none,data:=.seq ([]:List Value).toArray } = G at hns hsb ⊢
  have hC:G.objs.size=s2.heap.objs.size+1:=by rw [← hG,Heap.size_push]
  have old:∀ b o,s2.heap.get? b=some o→h1.get? b=some o:=fun b o e=>hsb.extBut b o (Nat.ne_of_lt (by rw [hC];exact Nat.lt_succ_of_lt (Heap.lt_size e))) (Heap.get?_push_of_some _ (hG ▸ Heap.get?_push_of_some _ e))
  have hacc:h1.get? s2.heap.objs.size=some { cls:=.type "list",data:=.seq ([]:List Value).toArray 0 }:=hsb.extBut _ _ (Nat.ne_of_lt (by rw [hC];exact Nat.lt_succ_self _)) (Heap.get?_push_of_some _ (hG ▸ Heap.get?_push_size _ rfl))
  have hD:H2 s2.heap.objs.size=none:=I2.fresh
  have okX:(cmpCx X N scope cl fp G.objs.size s2 H2).Ok:=by
    refine ⟨I2.ok.mod,O.kind,I2.ok.glob,I2.ok.blt,by show s2.heap.objs.size≤G.objs.size;rw [hC];exact Nat.le_succ _,fun y z c e1 e2=>I2.ok.inj y z c (O.cells y c e1) (O.cells z c e2),fun y hy=>O.has y hy,fun y c z=>absurd (show false=true from z) Bool.false_ne_true,I2.ok.hd,I2.ok.frames,.inl rfl,
      fun b hb=>⟨?_,fun y c e=>(f2 b hb).2.2.2.2.1 y c (O.cells y c e)⟩,I2.bs,Nat.le_trans I2.ok.bsz I2.sz,fun b o e hb=>?_,fun b hb z=>?_,I2.stack,I2.stkFree⟩
    · obtain ⟨o,e,_⟩:=T.obj _ _ st2 b hb
      show b ≠ G.objs.size
      exact Nat.ne_of_lt (by rw [hC];exact Nat.lt_succ_of_lt (Heap.lt_size e))
    · rcases (f2 b hb).2.2.2.1 with z | z
      · exact I2.ok.noex b o e z
      · exact absurd (Nat.lt_of_lt_of_le (Heap.lt_size e) (Nat.le_trans I2.ok.bsz z)) (Nat.lt_irrefl _)
    · rcases List.mem_cons.mp (I2.stkSub b z) with z | z
      · exact (f2 b hb).2.1 z
      · exact (f2 b hb).2.2.1 z
  have statX:∀ {H' : Hp},(∀ b ∈ fp,H' b=none)→∀ b ∈ fp,FpOk (cmpCx X N scope cl fp G.objs.size s2 H2) [] H' b:=fun hn b hb =>
    ⟨hn b hb,(okX.exf b hb).1,okX.exfs b hb,.inl hb,(okX.exf b hb).2,fun p hp=>absurd (show p ∈ ([]:List (Addr × Obj)) from hp) (by simp)⟩
  have I' : Inv (cmpCx X N scope cl fp G.objs.size s2 H2) [] (cmpStG σ fr (List.replicate k none)) (upd H2 s2.heap.objs.size (.lst [])) { s2 with heap:=h1,toks:=s2.toks+([]:List (Str × Value)).length }:=by
    refine ⟨okX,rfl,I2.bare,Un.laid old (Nat.le_refl _) hD,⟨_,hns,fun i y v e1 e2 e3=>?_⟩,fun y c e=>?_,?_,fun y c e=>?_,fun p hp=>absurd (show p ∈ ([]:List (Addr × Obj)) from hp) (by simp),I2.hok.laid old (Nat.le_refl _) ⟨Nat.zero_le _,[],0,.nil,hacc⟩,?_⟩
    · by_cases hik:i < k
      · have e2' : (List.replicate k none ++ fr.map fun j=>(σ[j]?).join)[i]?=some (some v):=e2
        rw [List.getElem?_append_left (by rw [List.length_replicate];exact hik),List.getElem?_replicate,if_pos hik] at e2'
        cases e2'
      · obtain ⟨j,q1,q2,q3,q4⟩:=O.sub (i - k) y (by rw [show k+(i - k)=i by omega];exact e1)
        have e2' : (σ[j]?).join=some v:=by
          have:(List.replicate k none ++ fr.map fun j=>(σ[j]?).join)[i]?=some (some v):=e2
          rw [List.getElem?_append_right (by rw [List.length_replicate];omega),List.length_replicate,List.getElem?_map,q1] at this
          exact Option.some.inj this
        have e4:σ[j]?=some (some v):=by
          cases z:σ[j]? with
          | none=>rw [z] at e2';cases e2'
          | some t=>rw [z] at e2';exact congrArg some e2'
        obtain ⟨m,_,hl⟩:=I2.loc
        have vis:Vis X.env.scope y:=.inr q3
        obtain ⟨u,r,l⟩:=hl j y v q2 e4 vis
        refine ⟨u,r,.inr ⟨q4,?_⟩⟩
        obtain ⟨c',hc'⟩:=O.has y q4
        rcases l with ⟨k,_⟩ | ⟨_,c,ec,ic⟩
        · rcases q3 with z | z
          · rw [z] at k;cases k
          · rw [z] at k;cases k
        · have:=O.cells y c' hc'
          have e' : c=c':=Option.some.inj (ec.symm.trans this)
          obtain ⟨o,ho,hd⟩:=ic
          rw [e'] at ho
          exact ⟨c',hc',o,old c' o ho,hd⟩
    · obtain ⟨v,o,ho,hd⟩:=I2.cell y c (O.cells y c e)
      exact ⟨v,o,old c o ho,hd⟩
    · show upd H2 s2.heap.objs.size (.lst []) G.objs.size=none
      rw [upd_ne (Nat.ne_of_gt (by rw [hC];exact Nat.lt_succ_self _))]
      exact I2.hok.fresh (by rw [hC];exact Nat.le_succ _)
    · obtain ⟨v,o,ho,hd⟩:=I2.cell y c (O.cells y c e)
      rw [upd_ne (Nat.ne_of_lt (Heap.lt_size ho))]
      exact I2.freeC y c (O.cells y c e)
    · show (cmpStG σ fr (List.replicate k none)).length=N.length
      rw [O.len];simp [cmpStG]
  have st1:tn 0 h1:=T.keep _ _ _ st2 fun b hb o e=>old b o e
  have loop:∀ s3:Shared,s3 = { s2 with heap:=h1,toks:=s2.toks+([]:List (Str × Value)).length } →
      codeAny (model X.prog X.w) X.A (.compLoop (.ListComp elt [⟨tg,iter,ifs,0⟩] scope pos) 0 (.ref it) (.ref s2.heap.objs.size) (compEnvC scope cl G.objs.size X.env)) (RR (.ref s2.heap.objs.size) G.objs.size) s3:=by
    rintro s3 rfl
    obtain ⟨W,⟨m0,w0⟩,turn⟩:=hW _ hD
    refine comp_turns (fun n s'=>∃ i ts H',ts.length=k∧Inv (cmpCx X N scope cl fp G.objs.size s2 H2) [] (cmpStG σ fr ts) H' s'∧tn i s'.heap∧(∀ b ∈ fp,H' b=none)∧W i n H') ?_ m0
      ⟨0,List.replicate k none,_,List.length_replicate,I',st1,fun b hb=>by
        rw [upd_ne (by obtain ⟨o,e,_⟩:=T.obj _ _ st2 b hb;exact Nat.ne_of_lt (Heap.lt_size e))]
        exact (f2 b hb).1,w0⟩
    rintro n s' ⟨i,ts,H',hts,I3,st3,fr3,w3⟩
    rcases turn i n H' w3 with ⟨stop,qn⟩ | ⟨go,step⟩
    · refine thn (T.done (cmpCx X N scope cl fp G.objs.size s2 H2) rfl rfl rfl hc i [] s' _ H' _ I3 (statX fr3) st3 stop) fun r s4 ⟨hr,I4⟩=>?_
      subst hr
      obtain ⟨m,hm,_⟩:=I4.loc
      refine fin _ _ s4 H' (by rw [hC];exact Nat.le_succ _) I4.free ⟨m,hm⟩ (I2.call' (ch:=fp) I4.os I4.base I4.hok I4.bare fun b hb=>?_) qn
      exact ⟨(f2 b hb).2.2.2.1,(f2 b hb).2.1,(f2 b hb).2.2.2.2.1,(f2 b hb).2.2.2.2.2⟩
    · refine thn (T.item (cmpCx X N scope cl fp G.objs.size s2 H2) rfl rfl rfl hc i [] s' _ H' _ I3 (statX fr3) st3 go) fun r s4 ⟨u,hr,h4⟩=>?_
      subst hr
      refine thn h4 fun _ s5 ⟨y,H5,I5,r5,y5,st5,fr5⟩=>?_
      have I5':=I5.pinned (statX fr5) (T.obj _ _ st5)
      refine thn (hg fp G.objs.size s2 H2 _ s5 _ H5 y u _ I5' r5 (step y H5 y5 ts hts)) fun _ s6 ⟨σ6,H6,I6,⟨ts6,hts6,e6⟩,q6⟩=>?_
      subst e6
      have again:∀ {σ7:St} {H7:Hp} {s7:Shared} {m' : Nat},σ7=cmpStG σ fr ts6→Inv (cmpCx X N scope cl fp G.objs.size s2 H2) ([] ++ pinsAt fp s5.heap) σ7 H7 s7→m' < n→W (i+1) m' H7 →
          ∃ m,m < n∧∃ i ts H',ts.length=k∧Inv (cmpCx X N scope cl fp G.objs.size s2 H2) [] (cmpStG σ fr ts) H' s7∧tn i s7.heap∧(∀ b ∈ fp,H' b=none)∧W i m H':=fun {σ7 H7 s7 m'} e7 I7 hm w7=>by
        subst e7
        refine ⟨m',hm,i+1,ts6,H7,hts6,I7.unpinned,T.keep _ _ _ st5 fun b hb o e=>(I7.pin (b,o) (List.mem_append_right _ (List.mem_append_right _ (mem_pinsAt hb e)))).1,fun b hb=>?_,w7⟩
        obtain ⟨o,e,d⟩:=T.obj _ _ st5 b hb
        exact (I7.pin (b,o) (List.mem_append_right _ (List.mem_append_right _ (mem_pinsAt hb e)))).2.1
      refine thn (ht fp G.objs.size s2 H2 _ s6 _ H6 _ I6 q6) fun ok s7 ⟨H7,I7,q7⟩=>?_
      cases ok with
      | false =>
        rw [if_neg Bool.false_ne_true] at q7 ⊢
        obtain ⟨m',hm,w7⟩:=q7
        exact again rfl I7 hm w7
      | true =>
        rw [if_pos rfl] at q7 ⊢
        refine thn (he fp G.objs.size s2 H2 _ s7 _ H7 _ I7 q7) fun u8 s8 ⟨v8,H8,I8,r8,ys,hys,hlen,m',hm,w8⟩=>?_
        refine thn (mt_append (X:=cmpCx X N scope cl fp G.objs.size s2 H2) _ s8 _ H8 (.ref s2.heap.objs.size) [v8] _ [u8] (fun _ H9=>W (i+1) m' H9) I8 rfl (.cons r8 .nil) ⟨_,ys,v8,rfl,rfl,hys,hlen,w8⟩) fun _ s9 ⟨_,H9,I9,_,w9⟩=>?_
        exact again rfl I9 hm w9
  exact codeAny_compStart_list (loop _ rfl) (T.self _ 0 _ _ _ st1 (loop _ rfl))
theorem pe_compG {wi:TI} (hi:PI X tg iter wi) (O:CmpOkG X N k fr scope cl) (hc:X.calm=true) (hg:∀ fp C s H,PG (cmpCx X N scope cl fp C s H) tg gt) (ht:∀ fp C s H,PIf (cmpCx X N scope cl fp C s H) ifs tt) (he:∀ fp C s H,PE (cmpCx X N scope cl fp C s H) elt te)
    (hs:∀ v,foldedSetIterable iter X.env v=pure v:=by intro _;rfl):PE X (.ListComp elt [⟨tg,iter,ifs,0⟩] scope pos) (tCompG wi gt k fr tt te):=by
  intro pins s σ H Q I h
  rw [eval_ListComp]
  refine wpAny_comprehension_free (use:=none) rfl hs O.clos O.kind O.names (thn (hi pins s σ H _ I h) fun v s1 h1=>thn h1 fun itv s2 h2=>?_)
  obtain ⟨it,fp,tn,J,H2,e,I2,T,st2,f2,hW⟩:=h2
  subst e
  refine comp_coreG (RR:=fun acc C=>compPost (model X.prog X.w) X.A X.xe none (EP X pins σ Q) acc C) O hc I2 T st2 f2 ht he hg hW fun D C s' H' hC hn ⟨m,hm⟩ I' q=>?_
  exact ⟨m,hm,fun h' hs'=>⟨.ref D,H',I2.left I' hC hn hs',rfl,q⟩⟩
theorem compG_list {K:PySem.W.Frag} {a:Addr} {xs:List V} {σ:St} {H1:Hp} {Q:VK} (Pv:Addr→Nat→List V→Hp→Prop) (h0:∀ D,H1 D=none→Pv D 0 [] (upd H1 D (.lst [])))
    (hk:∀ D i ys H,H1 D=none→i≤xs.length→Pv D i ys H→SqL K H a xs)
    (hs:∀ D i x ys H,H1 D=none→xs[i]?=some x→Pv D i ys H→∀ ts:St,ts.length=k→gt x (cmpStG σ fr ts) H fun σ2 H2=>(∃ ts2:St,ts2.length=k∧σ2=cmpStG σ fr ts2)∧tt σ2 H2 fun b H3=>if b=true then te σ2 H3 (CYes Pv D i xs.length) else CNext Pv D i xs.length H3)
    (hd:∀ D ys H,H1 D=none→Pv D xs.length ys H→Q (.ref D) H):CompAtG (Itl K a) gt k fr tt te σ Q H1:=by
  intro D hD
  refine ⟨fun i m H=>m=xs.length - i∧i≤xs.length∧∃ ys,Pv D i ys H,⟨_,rfl,Nat.zero_le _,[],h0 D hD⟩,?_⟩
  rintro i m H ⟨rfl,hi,ys,p⟩
  have q:=hk D i ys H hD hi p
  by_cases hlt:i < xs.length
  · refine .inr ⟨⟨xs,xs[i],q,by simp [hlt]⟩,fun x H' y=>?_⟩
    obtain ⟨e,y⟩:=y
    subst e
    exact hs D i x ys _ hD (y xs q) p
  · have e:i=xs.length:=by omega
    subst e
    exact .inl ⟨⟨xs,q,Nat.le_refl _⟩,hd D ys H hD p⟩
end
theorem gTupK {X:Cx} {K:PySem.W.Frag} {es:List Expr} {k:Nat} {t:TGs} {n:Nat} {pos:Pos} (hK:X.K=K) (hc:X.calm=true) (h:PGs X es t) (hn:(assignEach es X.env).length=n:=by rfl) (hst:(assignEach es X.env).findIdx? (·.1)=none:=by rfl):PG X (.Tuple es k pos) (gTup K n t):=hK ▸ pg_tup hc h hn hst
end L2
namespace Srt
open PySem PySem.W PyProof.Rows
def Ok (n:Nat) (lt:Nat→Nat→Bool) {α:Type} : KasT α→(α→Prop)→Prop
  | .ret a,Q=>Q a
  | .ask i j k,Q=>i < n∧j < n∧Ok n lt (k (lt i j)) Q
theorem Ok.mono {n:Nat} {lt:Nat→Nat→Bool} {α:Type} : ∀ {t:KasT α} {Q Q' : α→Prop},Ok n lt t Q→(∀ a,Q a→Q' a)→Ok n lt t Q'
  | .ret _,_,_,h,f=>f _ h
  | .ask _ _ _,_,_,h,f=>⟨h.1,h.2.1,Ok.mono h.2.2 f⟩
theorem Ok.bind {n:Nat} {lt:Nat→Nat→Bool} {α β:Type} {f:α→KasT β} {Q:β→Prop} : ∀ {t:KasT α},Ok n lt t (fun a=>Ok n lt (f a) Q)→Ok n lt (t.bind f) Q
  | .ret _,h=>h
  | .ask _ _ _,h=>⟨h.1,h.2.1,Ok.bind h.2.2⟩
section
variable {n:Nat} {lt:Nat→Nat→Bool}
abbrev g (p:Array Nat) (i:Nat):Nat:=p.getD i 0
theorem g_eq (p:Array Nat) (i:Nat):g p i=(p[i]?).getD 0:=by simp [g,Array.getD_eq_getD_getElem?]
def Bd (n:Nat) (p:Array Nat):Prop:=0 < n∧∀ i,g p i < n
theorem g_rev {p:Array Nat} {i j:Nat} (hj:j≤p.size) (k:Nat):g (kas_rev p i j) k=if i≤k∧k < j then g p (i+j - 1 - k) else g p k:=by
  rw [g_eq,g_eq,g_eq]
  unfold kas_rev
  rw [getElem?_mirror_all hj k]
  split <;> rfl
theorem g_bubble {p:Array Nat} {src d:Nat} (hs:src < p.size) (hd:d≤src) (k:Nat):g (bubble p src d) k=if k=src - d then g p src else if src - d < k∧k≤src then g p (k - 1) else g p k:=by
  rw [g_eq,g_eq,g_eq,g_eq,getElem?_bubble hs d hd k]
  repeat' split
  all_goals rfl
theorem bd_rev {p:Array Nat} {i j:Nat} (b:Bd n p) (hj:j≤p.size):Bd n (kas_rev p i j):=⟨b.1,fun k=>by
  rw [g_rev hj];split
  · exact b.2 _
  · exact b.2 _⟩
theorem bd_bubble {p:Array Nat} {src d:Nat} (b:Bd n p) (hs:src < p.size) (hd:d≤src):Bd n (bubble p src d):=⟨b.1,fun k=>by
  rw [g_bubble hs hd]
  by_cases c:k=src - d
  · rw [if_pos c];exact b.2 _
  · rw [if_neg c]
    by_cases c2:src - d < k∧k≤src
    · rw [if_pos c2];exact b.2 _
    · rw [if_neg c2];exact b.2 _⟩
theorem rev_size (p:Array Nat) (i j:Nat):(kas_rev p i j).size=p.size:=mirror_size _ _ _ _
theorem rev_perm (p:Array Nat) (i j:Nat):(kas_rev p i j).Perm p:=mirror_perm _ _ _ _
def Up (lt:Nat→Nat→Bool) (p:Array Nat) (k:Nat):Prop:=∀ i j,i≤j→j < k→lt (g p j) (g p i)=false
def Dn (lt:Nat→Nat→Bool) (p:Array Nat) (k:Nat):Prop:=∀ i j,i≤j→j < k→lt (g p i) (g p j)=false
structure Ord (lt:Nat→Nat→Bool):Prop where
  tr:∀ a b c,lt b a=false→lt c b=false→lt c a=false
  as:∀ a b,lt a b=true→lt b a=false
theorem Ord.rf {lt:Nat→Nat→Bool} (o:Ord lt) (a:Nat):lt a a=false:=by
  cases h:lt a a with
  | false=>rfl
  | true=>have:=o.as a a h;rw [h] at this;exact this
theorem up_succ (o:Ord lt) {p:Array Nat} {k:Nat} (h:Up lt p k) (hk:1≤k) (hl:lt (g p k) (g p (k - 1))=false):Up lt p (k+1):=fun i j hij hj=>by
  by_cases e:j=k
  · subst e
    by_cases e2:i=j
    · subst e2;exact o.rf _
    · exact o.tr _ (g p (j - 1)) _ (h i (j - 1) (by omega) (by omega)) hl
  · exact h i j hij (by omega)
theorem dn_succ (o:Ord lt) {p:Array Nat} {k:Nat} (h:Dn lt p k) (hk:1≤k) (hl:lt (g p (k - 1)) (g p k)=false):Dn lt p (k+1):=fun i j hij hj=>by
  by_cases e:j=k
  · subst e
    by_cases e2:i=j
    · subst e2;exact o.rf _
    · exact o.tr _ (g p (j - 1)) _ hl (h i (j - 1) (by omega) (by omega))
  · exact h i j hij (by omega)
theorem up_one (o:Ord lt) (p:Array Nat):Up lt p 1:=fun i j hij hj=>by
  have h1:i=0:=by omega
  have h2:j=0:=by omega
  subst h1;subst h2;exact o.rf _
theorem up_of_rev (p:Array Nat) {k:Nat} (hk:k≤p.size) (h:Dn lt p k):Up lt (kas_rev p 0 k) k:=fun i j hij hj=>by
  rw [g_rev hk,g_rev hk,if_pos ⟨Nat.zero_le _,hj⟩,if_pos ⟨Nat.zero_le _,by omega⟩]
  exact h _ _ (by omega) (by omega)
def Eqs (lt:Nat→Nat→Bool) (p:Array Nat) (a b:Nat):Prop:=∀ i j,a≤i→i < b→a≤j→j < b→lt (g p i) (g p j)=false
theorem dn_rev_eqs (o:Ord lt) {p:Array Nat} {a b k:Nat} (hb:b≤p.size) (hbk:b≤k) (e:Eqs lt p a b) (h:Dn lt p k):Dn lt (kas_rev p a b) k:=fun i j hij hj=>by
  have same:∀ m,lt (g (kas_rev p a b) m) (g p m)=false∧lt (g p m) (g (kas_rev p a b) m)=false:=fun m=>by
    rw [g_rev hb]
    by_cases c:a≤m∧m < b
    · rw [if_pos c];exact ⟨e _ _ (by omega) (by omega) c.1 c.2,e _ _ c.1 c.2 (by omega) (by omega)⟩
    · rw [if_neg c];exact ⟨o.rf _,o.rf _⟩
  exact o.tr _ (g p j) _ (same j).2 (o.tr _ (g p i) _ (h i j hij hj) (same i).1) |> fun z=>z
theorem O_34 (o:Ord lt) {p:Array Nat} (b:Bd n p):∀ (f k:Nat),1≤k→Up lt p k→Ok n lt (kas_asc p f k) (fun m=>k≤m∧m≤k+f∧Up lt p m∧(m < k+f→lt (g p m) (g p (m - 1))=true))
  | 0,k,h1,h=>⟨Nat.le_refl _,Nat.le_refl _,h,fun z=>absurd z (Nat.lt_irrefl _)⟩
  | f+1,k,h1,h=>by
    refine ⟨b.2 _,b.2 _,?_⟩
    cases c:lt (p.getD k 0) (p.getD (k - 1) 0) with
    | true=>exact ⟨Nat.le_refl _,by omega,h,fun _=>c⟩
    | false =>
      refine Ok.mono (O_34 o b f (k+1) (by omega) (up_succ o h h1 c)) fun m ⟨a1,a2,a3,a4⟩=>⟨by omega,by omega,a3,fun z=>a4 (by omega)⟩
theorem O_37 (o:Ord lt):∀ (f:Nat) (p:Array Nat) (k q:Nat),Bd n p→q+1≤k→k+f≤p.size→Dn lt p k→Eqs lt p (k - (q+1)) k →
    Ok n lt (kas_desc f p k q) (fun r=>r.1.Perm p∧r.1.size=p.size∧Bd n r.1∧k≤r.2.1∧r.2.1≤k+f∧Dn lt r.1 r.2.1∧r.2.2+1≤r.2.1∧Eqs lt r.1 (r.2.1 - (r.2.2+1)) r.2.1)
  | 0,p,k,q,b,hq,hs,h,e=>⟨Array.Perm.refl _,rfl,b,Nat.le_refl _,Nat.le_refl _,h,hq,e⟩
  | f+1,p,k,q,b,hq,hs,h,e=>by
    refine ⟨b.2 _,b.2 _,?_⟩
    have one:∀ (p' : Array Nat),Eqs lt p' k (k+1):=fun p' i j a1 a2 a3 a4=>by
      have e1:i=k:=by omega
      have e2:j=k:=by omega
      subst e1;subst e2;exact o.rf _
    cases c:lt (p.getD k 0) (p.getD (k - 1) 0) with
    | true =>
      dsimp only
      rw [if_pos rfl]
      have cl:=o.as _ _ c
      by_cases hq0:q > 0
      · rw [if_pos hq0]
        have hb:k≤p.size:=by omega
        have d1:Dn lt (kas_rev p (k - (q+1)) k) (k+1):=dn_rev_eqs o hb (by omega) e (dn_succ o h (by omega) cl)
        refine Ok.mono (O_37 o f _ (k+1) 0 (bd_rev b hb) (by omega) (by rw [rev_size];omega) d1 (one _)) fun r ⟨a1,a2,a3,a4,a5,a6,a7,a8⟩=>⟨a1.trans (rev_perm _ _ _),by rw [a2,rev_size],a3,by omega,by omega,a6,a7,a8⟩
      · rw [if_neg hq0]
        refine Ok.mono (O_37 o f p (k+1) 0 b (by omega) (by omega) (dn_succ o h (by omega) cl) (one _)) fun r ⟨a1,a2,a3,a4,a5,a6,a7,a8⟩=>⟨a1,a2,a3,by omega,by omega,a6,a7,a8⟩
    | false =>
      dsimp only
      rw [if_neg Bool.false_ne_true]
      refine ⟨b.2 _,b.2 _,?_⟩
      cases d:lt (p.getD (k - 1) 0) (p.getD k 0) with
      | true=>exact ⟨Array.Perm.refl _,rfl,b,Nat.le_refl _,Nat.le_add_right _ _,h,hq,e⟩
      | false =>
        dsimp only
        rw [if_neg Bool.false_ne_true]
        have e' : Eqs lt p (k+1 - (q+1+1)) (k+1):=fun i j a1 a2 a3 a4=>by
          have z1:k+1 - (q+1+1)=k - (q+1):=by omega
          rw [z1] at a1 a3
          by_cases e1:i=k
          · subst e1
            by_cases e2:j=i
            · subst e2;exact o.rf _
            · exact o.tr _ (g p (i - 1)) _ (e _ _ (by omega) (by omega) a3 (by omega)) c
          · by_cases e2:j=k
            · subst e2
              exact o.tr _ (g p (j - 1)) _ d (e _ _ a1 (by omega) (by omega) (by omega))
            · exact e _ _ a1 (by omega) a3 (by omega)
        refine Ok.mono (O_37 o f p (k+1) (q+1) b (by omega) (by omega) (dn_succ o h (by omega) d) e') fun r ⟨a1,a2,a3,a4,a5,a6,a7,a8⟩=>⟨a1,a2,a3,by omega,by omega,a6,a7,a8⟩
theorem O_79 (o:Ord lt) {p:Array Nat} {k nrem:Nat} (b:Bd n p) (h1:1≤k) (hk:k≤nrem) (hs:nrem≤p.size) (h:Dn lt p k) :
    Ok n lt (kas_tail3 k nrem p) (fun r=>r.2.Perm p∧r.2.size=p.size∧Bd n r.2∧1≤r.1∧r.1≤nrem∧Up lt r.2 r.1):=by
  unfold kas_tail3
  refine Ok.bind (Ok.mono (O_34 o (bd_rev b (by omega)) (nrem - k) k h1 (up_of_rev p (by omega) h)) fun m ⟨a1,a2,a3,_⟩=>?_)
  exact ⟨rev_perm _ _ _,rev_size _ _ _,bd_rev b (by omega),by omega,by omega,a3⟩
theorem O_38 (o:Ord lt) {p:Array Nat} {k nrem:Nat} (b:Bd n p) (h1:1≤k) (hk:k < nrem) (hs:nrem≤p.size) (h:Dn lt p (k+1)) :
    Ok n lt (kas_descPart k nrem p) (fun r=>r.2.Perm p∧r.2.size=p.size∧Bd n r.2∧1≤r.1∧r.1≤nrem∧Up lt r.2 r.1):=by
  unfold kas_descPart
  have one:Eqs lt p (k+1 - (0+1)) (k+1):=fun i j a1 a2 a3 a4=>by
    have e1:i=k:=by omega
    have e2:j=k:=by omega
    subst e1;subst e2;exact o.rf _
  refine Ok.bind (Ok.mono (O_37 o (nrem - (k+1)) p (k+1) 0 b (by omega) (by omega) h one) fun r ⟨a1,a2,a3,a4,a5,a6,a7,a8⟩=>?_)
  by_cases hq:r.2.2 > 0
  · rw [if_pos hq]
    have hb:r.2.1≤r.1.size:=by omega
    refine Ok.mono (O_79 o (bd_rev a3 hb) (by omega) (by omega) (by rw [rev_size];omega) (dn_rev_eqs o hb (Nat.le_refl _) a8 a6)) fun q ⟨c1,c2,c3,c4,c5,c6⟩=>⟨c1.trans ((rev_perm _ _ _).trans a1),by rw [c2,rev_size,a2],c3,c4,c5,c6⟩
  · rw [if_neg hq]
    refine Ok.mono (O_79 o a3 (by omega) (by omega) (by omega) a6) fun q ⟨c1,c2,c3,c4,c5,c6⟩=>⟨c1.trans a1,by rw [c2,a2],c3,c4,c5,c6⟩
theorem O_36 (o:Ord lt) {p:Array Nat} {nrem:Nat} (b:Bd n p) (h1:1≤nrem) (hs:nrem≤p.size) :
    Ok n lt (kas_count nrem p) (fun r=>r.2.Perm p∧r.2.size=p.size∧Bd n r.2∧1≤r.1∧r.1≤nrem∧Up lt r.2 r.1):=by
  unfold kas_count
  refine Ok.bind (Ok.mono (O_34 o b (nrem - 1) 1 (Nat.le_refl _) (up_one o p)) fun m ⟨a1,a2,a3,a4⟩=>?_)
  by_cases hm:m=nrem
  · subst hm
    rw [if_pos (beq_self_eq_true m)]
    exact ⟨Array.Perm.refl _,rfl,b,a1,Nat.le_refl _,a3⟩
  · rw [if_neg (by simpa using hm)]
    have hl:lt (g p m) (g p (m - 1))=true:=a4 (by omega)
    have cl:=o.as _ _ hl
    by_cases h2:m > 1
    · rw [if_pos h2]
      refine ⟨b.2 _,b.2 _,?_⟩
      cases c:lt (p.getD 0 0) (p.getD (m - 1) 0) with
      | true=>exact ⟨Array.Perm.refl _,rfl,b,a1,by omega,a3⟩
      | false =>
        dsimp only
        rw [if_neg Bool.false_ne_true]
        have eqs:Eqs lt p 0 m:=fun i j _ hi _ hj=>o.tr _ (g p (m - 1)) _ (a3 j (m - 1) (by omega) (by omega)) (o.tr _ (g p 0) _ c (a3 0 i (Nat.zero_le _) hi) |> fun z=>z) |> fun z=>z
        have dn:Dn lt p (m+1):=dn_succ o (fun i j hij hj=>eqs i j (Nat.zero_le _) (by omega) (Nat.zero_le _) hj) (by omega) cl
        refine Ok.mono (O_38 o (bd_rev b (by omega)) a1 (by omega) (by rw [rev_size];omega) (dn_rev_eqs o (by omega) (by omega) eqs dn)) fun r ⟨c1,c2,c3,c4,c5,c6⟩=>⟨c1.trans (rev_perm _ _ _),by rw [c2,rev_size],c3,c4,c5,c6⟩
    · rw [if_neg h2]
      have e:m=1:=by omega
      subst e
      have dn:Dn lt p (1+1):=dn_succ o (fun i j hij hj=>by
        have e1:i=0:=by omega
        have e2:j=0:=by omega
        subst e1;subst e2;exact o.rf _) (Nat.le_refl _) cl
      exact O_38 o b (Nat.le_refl _) (by omega) hs dn
theorem O_74 (o:Ord lt) {p:Array Nat} {k:Nat} (b:Bd n p) (hu:Up lt p k):∀ (f l r:Nat),l≤r→r≤k→r - l≤f→(∀ i,i < l→lt (g p k) (g p i)=false)→(∀ i,r≤i→i < k→lt (g p k) (g p i)=true) →
    Ok n lt (kas_place p k f l r) (fun m=>m≤k∧(∀ i,i < m→lt (g p k) (g p i)=false)∧∀ i,m≤i→i < k→lt (g p k) (g p i)=true)
  | 0,l,r,h1,h2,h3,hl,hr=>⟨by omega,hl,fun i a1 a2=>hr i (by omega) a2⟩
  | f+1,l,r,h1,h2,h3,hl,hr=>by
    unfold kas_place
    by_cases c:l ≥ r
    · rw [if_pos c]
      exact ⟨by omega,hl,fun i a1 a2=>hr i (by omega) a2⟩
    · rw [if_neg c]
      refine ⟨b.2 _,b.2 _,?_⟩
      cases d:lt (p.getD k 0) (p.getD ((l+r) / 2) 0) with
      | true =>
        dsimp only
        rw [if_pos rfl]
        refine O_74 o b hu f l ((l+r) / 2) (by omega) (by omega) (by omega) hl fun i a1 a2=>?_
        cases e:lt (g p k) (g p i) with
        | true=>rfl
        | false =>
          have z:=o.tr _ _ _ (hu ((l+r) / 2) i a1 a2) e
          rw [d] at z;exact z.symm
      | false =>
        dsimp only
        rw [if_neg Bool.false_ne_true]
        refine O_74 o b hu f ((l+r) / 2+1) r (by omega) h2 (by omega) (fun i a1=>?_) hr
        exact o.tr _ (g p ((l+r) / 2)) _ (hu i ((l+r) / 2) (by omega) (by omega)) d
theorem O_35 (o:Ord lt):∀ (f:Nat) (p:Array Nat) (k:Nat),Bd n p→k+f≤p.size→Up lt p k→Ok n lt (kas_bin f p k) (fun r=>r.Perm p∧r.size=p.size∧Bd n r∧Up lt r (k+f))
  | 0,p,k,b,hs,h=>⟨Array.Perm.refl _,rfl,b,h⟩
  | f+1,p,k,b,hs,h=>by
    unfold kas_bin
    refine Ok.bind (Ok.mono (O_74 o b h k 0 k (Nat.zero_le _) (Nat.le_refl _) (by omega) (fun i z=>absurd z (Nat.not_lt_zero _)) fun i a1 a2=>absurd a2 (by omega)) fun l ⟨a1,a2,a3⟩=>?_)
    have hk:k < p.size:=by omega
    have hd:k - l≤k:=Nat.sub_le _ _
    have e1:k - (k - l)=l:=by omega
    have up:Up lt (bubble p k (k - l)) (k+1):=fun i j hij hj=>by
      rw [g_bubble hk hd,g_bubble hk hd,e1]
      by_cases ej:j=l
      · rw [if_pos ej]
        by_cases ei:i=l
        · rw [if_pos ei];exact o.rf _
        · rw [if_neg ei,if_neg (by omega)]
          exact a2 i (by omega)
      · rw [if_neg ej]
        by_cases ei:i=l
        · rw [if_pos ei,if_pos (by omega)]
          exact o.as _ _ (a3 (j - 1) (by omega) (by omega))
        · rw [if_neg ei]
          by_cases cj:l < j∧j≤k
          · rw [if_pos cj]
            by_cases ci:l < i∧i≤k
            · rw [if_pos ci];exact h (i - 1) (j - 1) (by omega) (by omega)
            · rw [if_neg ci];exact h i (j - 1) (by omega) (by omega)
          · rw [if_neg cj]
            by_cases ci:l < i∧i≤k
            · exact absurd cj (by omega)
            · rw [if_neg ci];exact h i j hij (by omega)
    refine Ok.mono (O_35 o f _ (k+1) (bd_bubble b hk hd) (by rw [bubble_size];omega) up) fun r ⟨c1,c2,c3,c4⟩=>⟨c1.trans (bubble_perm _ _ _),by rw [c2,bubble_size],c3,?_⟩
    have:k+(f+1)=k+1+f:=by omega
    rw [this];exact c4
theorem ok_sort (o:Ord lt) (h1:1≤n):Ok n lt (kas_sort n) (fun r=>r.Perm (List.toArray (List.range n))∧r.size=n∧Up lt r n):=by
  unfold kas_sort
  have b:Bd n (List.toArray (List.range n)):=⟨h1,fun i=>by
    rw [g_eq]
    simp only [List.getElem?_toArray]
    cases e:(List.range n)[i]? with
    | none=>exact h1
    | some v =>
      have:=List.mem_range.mp (List.mem_of_getElem? e)
      simpa using this⟩
  have hs:(List.toArray (List.range n)).size=n:=by simp
  refine Ok.bind (Ok.mono (O_36 o b h1 (by omega)) fun r ⟨a1,a2,a3,a4,a5,a6⟩=>?_)
  by_cases c:r.1 < n
  · rw [if_pos c]
    have em:max r.1 1=r.1:=by omega
    rw [em]
    refine Ok.mono (O_35 o (n - r.1) r.2 r.1 a3 (by omega) a6) fun q ⟨c1,c2,c3,c4⟩=>⟨c1.trans a1,by omega,?_⟩
    have:r.1+(n - r.1)=n:=by omega
    rw [this] at c4;exact c4
  · rw [if_neg c]
    have e:r.1=n:=by omega
    rw [e] at a6
    exact ⟨a1,by omega,a6⟩
end
end Srt
namespace L2
open PySem PySem.Spec PySem.W PyProof.Rows
def ltP (p q:Int × Int):Bool:=decide (p.1 < q.1) || (decide (p.1=q.1) && decide (p.2 < q.2))
theorem ltP_ord (ps:List (Int × Int)):Srt.Ord fun i j=>ltP (ps.getD i (0,0)) (ps.getD j (0,0)) where
  tr:=fun a b c h1 h2=>by
    generalize ps.getD a (0,0)=x at h1 ⊢
    generalize ps.getD b (0,0)=y at h1 h2
    generalize ps.getD c (0,0)=z at h2 ⊢
    simp only [ltP,Bool.or_eq_false_iff,decide_eq_false_iff_not,Bool.and_eq_false_iff] at h1 h2 ⊢
    omega
  as:=fun a b h=>by
    generalize ps.getD a (0,0)=x at h ⊢
    generalize ps.getD b (0,0)=y at h ⊢
    simp only [ltP,Bool.or_eq_true,decide_eq_true_eq,Bool.and_eq_true,Bool.or_eq_false_iff,decide_eq_false_iff_not,Bool.and_eq_false_iff] at h ⊢
    omega
theorem kas_of_ok {n:Nat} {lt:Nat→Nat→Bool} {α:Type} {cmp:Nat→Nat→(Bool→Shared→Prop)→Shared→Prop} {s:Shared} (hc:∀ i j C,i < n→j < n→C (lt i j) s→cmp i j C s):∀ {t:KasT α} {Q:α→Shared→Prop},Srt.Ok n lt t (fun a=>Q a s)→t.kasWp cmp Q s
  | .ret _,_,h=>h
  | .ask i j _,_,h=>hc i j _ h.1 h.2.1 (kas_of_ok hc h.2.2)
section
variable {prog:Program} {w:World} {A:Around} {E:Value→Shared→Prop} {s:Shared}
theorem lt_pairs {x y:Addr} {a b c d:Int} {t1 t2 t3 t4:Tok} {Q:Bool→Shared→Prop} (hx:IsTup s.heap x #[.int a t1,.int b t2]) (hy:IsTup s.heap y #[.int c t3,.int d t4]) (h:Q (ltP (a,b) (c,d)) s) :
    wpAny (model prog w) A (keyLt' (tuples' true) (.ref x) (.ref y)) Q E s:=by
  obtain ⟨ox,ex,_,nx,dx⟩:=hx
  obtain ⟨oy,ey,_,ny,dy⟩:=hy
  refine kat_lt ex dx ey dy ?_
  refine kat_cons (wpAny_eqBool_int (kat_go (fun e1=>kat_yes (kat_cons (wpAny_eqBool_int (kat_go (fun e2=>kat_yes (kat_nil ?_)) fun e2=>kat_no (kat_one _ _ (lt_int ?_)))))) fun e1=>kat_no ?_))
  · have z1:a=c:=by simpa using e1
    have z2:b=d:=by simpa using e2
    have e:ltP (a,b) (c,d)=decide ((#[Value.int a t1,Value.int b t2]:Array Value).size < (#[Value.int c t3,Value.int d t4]:Array Value).size):=by
      subst z1;subst z2
      simp [ltP]
    rw [e] at h;exact h
  · have z1:a=c:=by simpa using e1
    have e:ltP (a,b) (c,d)=decide (b < d):=by subst z1;simp [ltP]
    rw [e] at h;exact h
  · have z1:a ≠ c:=by simpa using e1
    have e:ltP (a,b) (c,d)=decide (a < c):=by simp [ltP,z1]
    rw [e] at h
    exact oneLt_int h
theorem sort_tree {a:Addr} {vs:List Value} {n:Nat} {G:Array Nat→Prop} {P:PySem.Fin→Shared→Prop} (ho:s.heap.get? a=some (seqObj "list" vs.toArray n)) (h64:vs.length < 64)
    (hkey:2≤vs.length→∀ s' : Shared,(∀ b o,b ≠ a→s.heap.get? b=some o→s'.heap.get? b=some o)→∀ E',wpAny (model prog w) A (keyKind' vs.toArray) (fun κ s2=>(kas_sort vs.length).kasWp (kas_ask prog w A κ vs) (fun p s3=>s3=s'∧G p) s2) E' s')
    (h:∀ out:Array Value,((vs.length < 2∧out=vs.toArray)∨∃ p:Array Nat,p.size=vs.length∧G p∧out=List.toArray (p.toList.map fun i=>vs.getD i Value.none))→P (.done (.ret .none)) { s with heap:=sortedHeap s.heap a vs out }) :
    wpAny (model prog w) A (Builtin.«list.sort» ⟨[.ref a],[]⟩) P E s:=by
  have ha:a < s.heap.objs.size:=Heap.lt_size ho
  have hz:vs.toArray.size≤sizeLine:=by rw [List.size_toArray,sizeLine_eq];omega
  rw [list_sort_plain];refine wpAny_bind (listItems_at ho rfl (wpAny_bind (listUpdate_at ho rfl ?_ hz (Nat.zero_le _))))
  obtain ⟨e1,ho1⟩:∃ e1,(s.heap.update a (Obj.mapSeq fun _=>#[])).get? a=some (seqObj "list" #[] e1):=⟨_,get?_update_seq ho (fun _=>#[])⟩
  refine wpAny_bind (seqEpoch_at ho1 rfl (wpAny_bind (wpAny_newTuple (wpAny_bind (wpAny_newList (wpAny_holding ?_) (Nat.zero_le _))) (by show vs.length≤_;rw [sizeLine_eq];omega))))
  generalize hs6:({ s with heap:=((s.heap.update a (Obj.mapSeq fun _=>#[])).push (seqObj "tuple" vs.toArray 0)).push (seqObj "list" #[] 0) } : Shared)=s6
  have ho6:s6.heap.get? a=some (seqObj "list" #[] e1):=by
    subst hs6
    show (((s.heap.update a (Obj.mapSeq fun _=>#[])).push (seqObj "tuple" vs.toArray 0)).push (seqObj "list" #[] 0)).get? a=_
    rw [Heap.get?_push_ne _ _ _ (by rw [size_push',Heap.size_update];exact Nat.ne_of_lt (Nat.lt_succ_of_lt ha)),Heap.get?_push_ne _ _ _ (by rw [Heap.size_update];exact Nat.ne_of_lt ha)];exact ho1
  have keep:∀ b o,b ≠ a→s.heap.get? b=some o→s6.heap.get? b=some o:=fun b o hb e=>by
    subst hs6
    have hlt:b < s.heap.objs.size:=Heap.lt_size e
    show (((s.heap.update a (Obj.mapSeq fun _=>#[])).push (seqObj "tuple" vs.toArray 0)).push (seqObj "list" #[] 0)).get? b=_
    rw [Heap.get?_push_ne _ _ _ (by rw [size_push',Heap.size_update];exact Nat.ne_of_lt (Nat.lt_succ_of_lt hlt)),Heap.get?_push_ne _ _ _ (by rw [Heap.size_update];exact Nat.ne_of_lt hlt),Heap.get?_update_ne _ _ _ _ hb];exact e
  have fin:∀ out:Array Value,out.size≤sizeLine+1→((vs.length < 2∧out=vs.toArray)∨∃ p:Array Nat,p.size=vs.length∧G p∧out=List.toArray (p.toList.map fun i=>vs.getD i Value.none))→P (.done (.ret .none)) { s6 with heap:=s6.heap.update a (Obj.mapSeq fun _=>out) }:=fun out _ ho'=>by
    subst hs6
    exact h out ho'
  show wpAny (model prog w) A _ P E s6
  dsimp only
  by_cases h2:vs.length < 2
  · have c2:vs.toArray.size < 2:=by rw [List.size_toArray];exact h2
    rw [if_pos c2,if_pos c2]
    refine wpAny_bind (wpAny_pure ?_)
    rw [StateT.run_pure]
    refine wpAny_bind (wpAny_pure ?_)
    dsimp only
    have eo:(arrOf (SortSt.mk' general' (vs.toArray.zip vs.toArray) #[] 7 none)).map (·.2)=vs.toArray:=by
      show (vs.toArray.zip vs.toArray).map (·.2)=vs.toArray
      apply Array.toList_inj.mp
      rw [Array.toList_map,Array.toList_zip]
      exact List.map_snd_zip (Nat.le_refl _)
    rw [eo]
    refine wpAny_bind (seqEpoch_at ho6 rfl (wpAny_bind (listUpdate_at ho6 rfl ?_ (Nat.zero_le _) (by rw [List.size_toArray,sizeLine_eq];omega))))
    simp only [bne_self_eq_false,Bool.false_eq_true,if_false]
    exact wpAny_pure (fin vs.toArray (by rw [List.size_toArray,sizeLine_eq];omega) (.inl ⟨h2,rfl⟩))
  · have c2:¬ vs.toArray.size < 2:=by rw [List.size_toArray];exact h2
    rw [if_neg c2,if_neg c2]
    refine wpAny_bind (wpAny_mono (hkey (by omega) s6 keep (fun _ _=>False)) (fun κ s2 hk=>?_) fun _ _ z=>z.elim)
    refine wpAny_bind (wpAny_mono (kat_run (Q:=fun st' s'=>s'=s6∧failedOf st'=none∧∃ p:Array Nat,p.size=vs.length∧G p∧arrOf st'=p.map (kas_item (vs.toArray.zip vs.toArray))) rfl (by omega) h64
      (fun p st' s' a1 a2 a3 a4=>⟨a4.1,a3,p,a1,a4.2,a2⟩) hk) ?_ fun _ _ z=>z)
    rintro ⟨⟨⟩,st'⟩ s' ⟨rfl,hf,p,hp,g,har⟩
    dsimp only
    rw [kat_snds rfl har,hf]
    have hsz:(List.toArray (p.toList.map fun i=>vs.getD i Value.none)).size≤sizeLine+1:=by rw [List.size_toArray,List.length_map,Array.length_toList,hp,sizeLine_eq];omega
    refine wpAny_bind (seqEpoch_at ho6 rfl (wpAny_bind (listUpdate_at ho6 rfl ?_ (Nat.zero_le _) hsz)))
    simp only [bne_self_eq_false,Bool.false_eq_true,if_false]
    exact wpAny_pure (fin _ hsz (.inr ⟨p,hp,g,rfl⟩))
theorem sorted_tree {l:Addr} {vs:List Value} {G:Array Nat→Prop} {Q:Value→Shared→Prop} (hl:s.heap.IsList l vs.toArray) (h64:vs.length < 64)
    (hkey:2≤vs.length→∀ s' : Shared,(∀ b o,s.heap.get? b=some o→s'.heap.get? b=some o)→∀ E',wpAny (model prog w) A.in1.in1 (keyKind' vs.toArray) (fun κ s2=>(kas_sort vs.length).kasWp (kas_ask prog w A.in1.in1 κ vs) (fun p s3=>s3=s'∧G p) s2) E' s')
    (h:∀ (out:Array Value) (h' : Heap) (D:Addr) (c:Nat),((vs.length < 2∧out=vs.toArray)∨∃ p:Array Nat,p.size=vs.length∧G p∧out=List.toArray (p.toList.map fun i=>vs.getD i Value.none))→s.heap.objs.size≤D →
      (∀ b o,s.heap.get? b=some o→h'.get? b=some o)→h'.get? D=some (seqObj "list" out c)→Q (.ref D) { s with heap:=h' }) :
    wpAny (model prog w) A (call (.builtin "sorted") [.ref l]) Q E s:=by
  have hzl:vs.toArray.size≤sizeLine:=by rw [List.size_toArray,sizeLine_eq];omega
  refine Calls.call_function_entry kind_sorted plain_sorted entry_sorted (args_sorted1 _) ?_
  unfold Builtin.«sorted»
  refine wpAny_bind (m:=checkCount "sorted" 1 1 _) (wpAny_pure (wpAny_bind (collect_list hl (wpAny_bind (wpAny_newList ?_ (by rw [sizeLine_eq];omega))) (by rw [sizeLine_eq];omega))))
  generalize hg:(s.heap.push (seqObj "list" #[] 0)).update s.heap.objs.size (Obj.mapSeq (· ++ vs.toArray))=g
  have hsz:g.objs.size=s.heap.objs.size+1:=by rw [← hg,Heap.size_update,size_push']
  have hoL:(g.push (seqObj "list" vs.toArray 0)).get? (s.heap.objs.size+1)=some (seqObj "list" vs.toArray 0):=by rw [← hsz];exact Heap.get?_push_size _ rfl
  have keep:∀ b o,s.heap.get? b=some o→(g.push (seqObj "list" vs.toArray 0)).get? b=some o:=fun b o q=>by
    have hlt:b < s.heap.objs.size:=Heap.lt_size q
    rw [Heap.get?_push_ne _ _ _ (by rw [hsz];exact Nat.ne_of_lt (Nat.lt_succ_of_lt hlt)),← hg,Heap.get?_update_ne _ _ _ _ (Nat.ne_of_lt hlt),Heap.get?_push_ne _ _ _ (Nat.ne_of_lt hlt)];exact q
  show wpAny _ _ _ _ _ { s with heap:=g.push (seqObj "list" vs.toArray 0) }
  rw [hsz]
  refine wpAny_bind (wpAny_holding (wpAny_call_entry slot_list_sort ⟨_,hoL,rfl⟩ entry_list_sort ?body (args_list_sort _)))
  case body =>
    refine sort_tree (s:={ s with heap:=g.push (seqObj "list" vs.toArray 0) }) (G:=G) hoL h64 (fun h2 s' kp E'=>hkey h2 s' (fun b o q=>kp b o (Nat.ne_of_lt (Nat.lt_succ_of_lt (Heap.lt_size q))) (keep b o q)) E') fun out ho=>⟨_,rfl,wpAny_pure ⟨_,rfl,?_⟩⟩
    have hlt:s.heap.objs.size+1 < (g.push (seqObj "list" vs.toArray 0)).objs.size:=Heap.lt_size hoL
    obtain ⟨e1,ho1⟩:∃ e1,((g.push (seqObj "list" vs.toArray 0)).update (s.heap.objs.size+1) (Obj.mapSeq fun _=>#[])).get? (s.heap.objs.size+1)=some (seqObj "list" #[] e1):=⟨_,get?_update_seq hoL (fun _=>#[])⟩
    have h3:∀ b,b < (g.push (seqObj "list" vs.toArray 0)).objs.size→((((g.push (seqObj "list" vs.toArray 0)).update (s.heap.objs.size+1) (Obj.mapSeq fun _=>#[])).push (seqObj "tuple" vs.toArray 0)).push (seqObj "list" #[] 0)).get? b=((g.push (seqObj "list" vs.toArray 0)).update (s.heap.objs.size+1) (Obj.mapSeq fun _=>#[])).get? b:=fun b hb=>by
      rw [Heap.get?_push_ne _ _ _ (by rw [size_push',Heap.size_update];exact Nat.ne_of_lt (Nat.lt_succ_of_lt hb)),Heap.get?_push_ne _ _ _ (by rw [Heap.size_update];exact Nat.ne_of_lt hb)]
    have e6:((((g.push (seqObj "list" vs.toArray 0)).update (s.heap.objs.size+1) (Obj.mapSeq fun _=>#[])).push (seqObj "tuple" vs.toArray 0)).push (seqObj "list" #[] 0)).get? (s.heap.objs.size+1)=some (seqObj "list" #[] e1):=by rw [h3 _ hlt];exact ho1
    refine h out (sortedHeap (g.push (seqObj "list" vs.toArray 0)) (s.heap.objs.size+1) vs out) (s.heap.objs.size+1) _ ho (Nat.le_succ _) (fun b o q=>?_) (get?_update_seq e6 (fun _=>out))
    have hb:b < s.heap.objs.size:=Heap.lt_size q
    show (Heap.update _ _ _).get? b=some o
    have hb1:b ≠ s.heap.objs.size+1:=Nat.ne_of_lt (Nat.lt_succ_of_lt hb)
    rw [Heap.get?_update_ne _ _ _ _ hb1,h3 _ (Nat.lt_trans (Nat.lt_succ_of_lt hb) hlt),Heap.get?_update_ne _ _ _ _ hb1]
    exact keep b o q
end
theorem Paired.map_of {α β γ:Type} {F:α→β→Prop} {f:γ→α} {g:γ→β} : ∀ {l:List γ},(∀ i ∈ l,F (f i) (g i))→Paired F (l.map f) (l.map g)
  | [],_=>.nil
  | i :: l,h=>.cons (h i List.mem_cons_self) (Paired.map_of fun j hj=>h j (List.mem_cons_of_mem _ hj))
theorem map_range_getD {α:Type} (d:α) (l:List α):(List.range l.length).map (fun i=>l.getD i d)=l:=by
  apply List.ext_getElem
  · simp
  · intro i h1 h2
    simp only [List.getElem_map,List.getElem_range]
    simp [List.getD_eq_getElem?_getD,h2]
section
variable {X:Cx}
theorem call_sorted_pairs:CallR X (.builtin "sorted") (fun us H Q=>∃ a xs ps,us=[.ref a]∧SqL X.K H a xs∧PL H xs ps∧xs.length < 64 ∧
    ∀ D ys qs,H D=none→PL (upd H D (.lst ys)) ys qs→qs.Perm ps→qs.Pairwise (fun p q=>ltP q p=false)→Q (.ref D) (upd H D (.lst ys))):=by
  intro pins s σ H us vs Q I r h
  obtain ⟨a,xs,ps,rfl,hq,hP,h64,q⟩:=h
  obtain ⟨u,rfl,rx⟩:=r.one
  cases (show u=Value.ref a from rx)
  obtain ⟨its,rv,pl,hz⟩:=I.list hq
  have l1:=rv.length
  have l2:=hP.length
  have tup:∀ i,i < its.length→∃ (r:Addr) (t1 t2:Tok),its.getD i Value.none=.ref r∧xs.getD i .non=.ref r∧H r=some (.tup [.int (ps.getD i (0,0)).1,.int (ps.getD i (0,0)).2])∧IsTup s.heap r #[.int (ps.getD i (0,0)).1 t1,.int (ps.getD i (0,0)).2 t2]:=fun i hi=>by
    have hx:xs[i]?=some xs[i]:=List.getElem?_eq_getElem (by omega)
    obtain ⟨p,r,e1,e2,e3⟩:=hP.get hx
    obtain ⟨u,e4,r4⟩:=rv.get hx
    rw [e2] at r4
    cases (show u=Value.ref r from r4)
    obtain ⟨_,ti,rt,it⟩:=(show ObjOk X.prog X.w H s.heap r (.tup [.int p.1,.int p.2]) from I.hok r _ e3)
    obtain ⟨u1,u2,rfl,r1,r2⟩:=rt.two
    obtain ⟨t1,rfl⟩:=(show ∃ t,u1=Value.int p.1 t from r1)
    obtain ⟨t2,rfl⟩:=(show ∃ t,u2=Value.int p.2 t from r2)
    have ep:ps.getD i (0,0)=p:=by rw [List.getD_eq_getElem?_getD,e1];rfl
    refine ⟨r,t1,t2,by rw [List.getD_eq_getElem?_getD,e4];rfl,by rw [List.getD_eq_getElem?_getD,hx,e2];rfl,by rw [ep];exact e3,by rw [ep];exact it⟩
  refine sorted_tree (G:=fun p=>p.Perm (List.toArray (List.range its.length))∧Srt.Up (fun i j=>ltP (ps.getD i (0,0)) (ps.getD j (0,0))) p its.length) pl.isList (by omega) (fun h2 s' kp E'=>?_) fun out h' D c ho hD kp e=>?_
  · have kt:∀ {r:Addr} {zs:Array Value},IsTup s.heap r zs→IsTup s'.heap r zs:=fun ⟨o,e,c⟩=>⟨o,kp _ _ e,c⟩
    have firsts:KatTups s'.heap its ((List.range its.length).map fun i=>match (its.getD i Value.none) with | .ref r=>(match s'.heap.get? r with | some o=>(match o.data with | .seq zs _=>(zs[0]?).getD Value.none | _=>Value.none) | none=>Value.none) | _=>Value.none):=by
      have all:∀ (l:List Nat),(∀ i ∈ l,i < its.length)→KatTups s'.heap (l.map fun i=>its.getD i Value.none) (l.map fun i=>match (its.getD i Value.none) with | .ref r=>(match s'.heap.get? r with | some o=>(match o.data with | .seq zs _=>(zs[0]?).getD Value.none | _=>Value.none) | none=>Value.none) | _=>Value.none):=by
        intro l
        induction l with
        | nil=>intro _;exact KatTups.nil
        | cons i l ih =>
          intro hl
          obtain ⟨r,t1,t2,e1,_,_,it⟩:=tup i (hl i List.mem_cons_self)
          obtain ⟨o,eo,co,n,d⟩:=kt it
          rw [List.map_cons,List.map_cons,e1]
          refine KatTups.cons eo co d ?_ (ih fun j hj=>hl j (List.mem_cons_of_mem _ hj))
          dsimp only
          rw [eo]
          dsimp only
          rw [d]
          rfl
      have z:=all (List.range its.length) fun i hi=>List.mem_range.mp hi
      rw [map_range_getD] at z
      exact z
    refine kat_kind (T:=.type "int") firsts (by simp;omega) (fun v hv=>?_) rfl ?_
    · obtain ⟨i,hi,rfl⟩:=List.mem_map.mp hv
      obtain ⟨r,t1,t2,e1,_,_,it⟩:=tup i (List.mem_range.mp hi)
      obtain ⟨o,eo,co,n,d⟩:=kt it
      rw [e1]
      dsimp only
      rw [eo]
      dsimp only
      rw [d]
      exact Looks.of_pure rfl
    · refine kas_of_ok (lt:=fun i j=>ltP (ps.getD i (0,0)) (ps.getD j (0,0))) (n:=its.length) (fun i j C hi hj hC=>?_) (Srt.Ok.mono (Srt.ok_sort (ltP_ord ps) (by omega)) fun p ⟨b1,_,b3⟩=>⟨rfl,b1,b3⟩)
      obtain ⟨r,t1,t2,e1,_,_,it⟩:=tup i hi
      obtain ⟨r',t3,t4,e1',_,_,it'⟩:=tup j hj
      show wpAny _ _ (keyLt' _ (its.getD i Value.none) (its.getD j Value.none)) _ _ s'
      rw [e1,e1']
      exact lt_pairs (kt it) (kt it') hC
  ·
    have main:∃ (pl:List Nat),pl.Perm (List.range its.length)∧out=List.toArray (pl.map fun i=>its.getD i Value.none)∧(pl.map fun i=>ps.getD i (0,0)).Pairwise (fun p q=>ltP q p=false):=by
      rcases ho with ⟨h2,rfl⟩ | ⟨p,hp,⟨g1,g2⟩,rfl⟩
      · refine ⟨List.range its.length,.refl _,by rw [map_range_getD],?_⟩
        have:its.length=0∨its.length=1:=by omega
        rcases this with z | z <;> rw [z] <;> simp [List.range_succ]
      · refine ⟨p.toList,by simpa using g1.toList,rfl,?_⟩
        rw [List.pairwise_iff_getElem]
        intro i j hi hj hij
        simp only [List.length_map,Array.length_toList] at hi hj
        simp only [List.getElem_map,Array.getElem_toList]
        have z:=g2 i j (Nat.le_of_lt hij) (by omega)
        have e1:Srt.g p i=p[i]:=by simp [Srt.g,Array.getD,hi]
        have e2:Srt.g p j=p[j]:=by simp [Srt.g,Array.getD,hj]
        rw [e1,e2] at z
        exact z
    obtain ⟨pl2,g1,rfl,g3⟩:=main
    have lt:∀ i ∈ pl2,i < its.length:=fun i hi=>List.mem_range.mp (g1.mem_iff.mp hi)
    have hn:H D=none:=I.hok.fresh hD
    have vz:Vals (pl2.map fun i=>xs.getD i .non) (pl2.map fun i=>its.getD i Value.none):=Paired.map_of fun i hi=>by
      obtain ⟨r,_,_,e1,e2,_⟩:=tup i (lt i hi)
      rw [e1,e2];rfl
    have hlen:(pl2.map fun i=>xs.getD i V.non).length≤sizeLine:=by
      rw [List.length_map,g1.length_eq,List.length_range,sizeLine_eq];omega
    refine ⟨.ref D,upd H D (.lst (pl2.map fun i=>xs.getD i .non)),I.laid (t':=s.toks) kp hD ⟨hlen,_,c,vz,e⟩,rfl,q D _ (pl2.map fun i=>ps.getD i (0,0)) hn (Paired.map_of fun i hi=>?_) ?_ g3⟩
    · obtain ⟨r,_,_,_,e2,e3,_⟩:=tup i (lt i hi)
      exact ⟨r,e2,sameT_new hn _ _ e3⟩
    · have z:=g1.map fun i=>ps.getD i (0,0)
      rw [← l1,l2,map_range_getD] at z
      exact z
end
end L2
namespace L2
theorem inR_iff {n:Int} {p:Pr} : inR n p=true↔p.1≤n∧n≤p.2:=by
  unfold inR;simp only [Bool.and_eq_true,decide_eq_true_eq]
theorem inP_iff {n:Int} {R:List Pr} : inP R n=true↔∃ p ∈ R,p.1≤n∧n≤p.2:=by
  unfold inP
  rw [List.any_eq_true]
  exact ⟨fun ⟨p,h,e⟩=>⟨p,h,inR_iff.mp e⟩,fun ⟨p,h,e⟩=>⟨p,h,inR_iff.mpr e⟩⟩
theorem inP_not {n:Int} {R:List Pr} (h:∀ p ∈ R,¬ (p.1≤n∧n≤p.2)):inP R n=false:=by
  cases e:inP R n with
  | false=>rfl
  | true=>obtain ⟨p,hp,z⟩:=inP_iff.mp e;exact absurd z (h p hp)
theorem Apart.tail {a:Pr} {A:List Pr} (h:Apart (a :: A)):Apart A∧a.1≤a.2∧∀ p ∈ A,a.2+2≤p.1:=by
  have g:=List.pairwise_cons.mp h.gap
  exact ⟨⟨fun p hp=>h.le p (List.mem_cons_of_mem _ hp),g.2⟩,h.le a List.mem_cons_self,fun p hp=>g.1 p hp⟩
theorem Apart.behind {a:Pr} {A:List Pr} (h:Apart (a :: A)) {n:Int} (hn:n≤a.2):inP A n=false:=inP_not fun p hp z=>by
  have:=h.tail.2.2 p hp
  omega
structure BothI (S A B A0 B0:List Pr):Prop where
  ap:Apart S
  aA:Apart A
  aB:Apart B
  mem:∀ n,(inP A0 n && inP B0 n)=(inP S n || (inP A n && inP B n))
  gap:∀ s ∈ S,(∀ p ∈ A,s.2+2≤p.1)∨(∀ p ∈ B,s.2+2≤p.1)
structure GapI (F T:List Pr) (lo hi st:Int):Prop where
  ap:Apart F
  lt:∀ s ∈ F,s.2+2≤st
  rng:∀ s ∈ F,lo≤s.1∧s.2≤hi
  tk:∀ p ∈ T,p.2 < st
  fr:st=lo∨∃ p ∈ T,st=p.2+1
  ge:lo≤st
  mem:∀ n,lo≤n→n≤hi→n < st→inP F n = !inP T n
end L2
namespace L2
structure Walk (ts:List (Int × Int × Int)):Prop where
  le:∀ t ∈ ts,t.1≤t.2.1
  nx:∀ (i:Nat) a b,ts[i]?=some a→ts[i+1]?=some b→b.1=a.2.1+1
def pcs (msk:Int→Bool) (ts:List (Int × Int × Int)) (n:Int):Bool:=ts.any fun t=>inR n (t.1,t.2.1) && msk t.2.2
structure RunI (R:List Pr) (ts:List (Int × Int × Int)) (msk:Int→Bool) (i:Nat) (at_:Int):Prop where
  ap:Apart R
  mem:∀ n,inP R n=pcs msk (ts.take i) n
  lt:∀ r ∈ R,r.2 < at_
  few:2 * R.length≤i∨(2 * R.length≤i+1∧∃ R' l,R=R' ++ [l]∧l.2=at_ - 1)
section
variable {R:List Pr} {ts:List (Int × Int × Int)} {msk:Int→Bool} {i:Nat} {at_:Int} {t:Int × Int × Int}
end
end L2
namespace L2
def ends (R:List Pr):List Int:=R.flatMap fun p=>[p.1,p.2+1]
end L2
namespace L2
open PySem PySem.Spec PyProof.Rows
theorem preSum_take (ns:List Int):∀ k,k≤ns.length→preSum (fun i=>ns.getD i 0) k=(ns.take k).sum
  | 0,_=>rfl
  | k+1,h=>by
    have ih:=preSum_take ns k (by omega)
    show preSum (fun i=>ns.getD i 0) k+ns.getD k 0=_
    have e:ns[k]?=some ns[k]:=List.getElem?_eq_getElem (by omega)
    rw [ih,List.take_add_one,e,List.sum_append,List.getD_eq_getElem?_getD,e]
    simp
section
variable {X:Cx}
theorem call_sum_ints (hc:X.calm=true):CallR X (.builtin "sum") (fun us H Q=>∃ (a:Addr) (ns:List Int),us=[.ref a]∧SqL X.K H a (ns.map V.int)∧Q (.int ns.sum) H):=by
  intro pins s σ H us vs Q I r h
  obtain ⟨a,ns,rfl,hq,q⟩:=h
  obtain ⟨u,rfl,rx⟩:=r.one
  cases (show u=Value.ref a from rx)
  obtain ⟨its,rv,pl,hz⟩:=I.list hq
  have l1:=rv.length
  rw [List.length_map] at l1
  obtain ⟨oa,ea,_⟩:=id pl.isList
  have hax:a < s.heap.objs.size:=Heap.lt_size ea
  refine call_sum_walkG (wpAny_pyIter_list pl.isList ?_)
  refine ⟨s.heap.objs.size,[s.heap.objs.size,a],[s.heap.objs.size],_,_,_,fun i=>ns.getD i 0,rfl,Walks.list (A:=X.A.in1) (I.ok.hd hc) _ a (Nat.ne_of_lt hax) its.toArray,⟨⟨_,Heap.get?_push_size _ rfl,rfl,rfl⟩,pl.isList.at fun o e=>Heap.get?_push_of_some _ e⟩,fun b hb=>?_,fun i v e=>?_,fun h' tk t' hk=>?_⟩
  · show b < (s.heap.push _).objs.size
    rw [Heap.size_push]
    rcases List.mem_cons.mp hb with z | z
    · rw [z];exact Nat.lt_succ_self _
    · have z2:b=a:=by simpa using z
      rw [z2];exact Nat.lt_succ_of_lt hax
  · have e' : its[i]?=some v:=by simpa using e
    have hi:i < ns.length:=by rw [l1];exact (List.getElem?_eq_some_iff.mp e').1
    have ex:(ns.map V.int)[i]?=some (.int ns[i]):=by rw [List.getElem?_map,List.getElem?_eq_getElem hi];rfl
    obtain ⟨u,q1,ru⟩:=rv.get ex
    rw [e'] at q1;cases q1
    obtain ⟨t,rfl⟩:=ru
    exact ⟨t,by show Value.int ns[i] t=Value.int (ns.getD i 0) t;rw [List.getD_eq_getElem?_getD,List.getElem?_eq_getElem hi];rfl⟩
  · refine ⟨.int ns.sum,H,I.kept (t':=tk) fun b o e=>hk b o (fun z=>?_) (Heap.get?_push_of_some _ e),⟨t',?_⟩,q⟩
    · have z2:b=s.heap.objs.size:=by simpa using z
      exact absurd (Heap.lt_size e) (by rw [z2];exact Nat.lt_irrefl _)
    · rw [List.size_toArray,← l1,preSum_take ns _ (Nat.le_refl _),List.take_length]
end
section
variable {prog:Program} {w:World} {A:Around} {E:Value→Shared→Prop} {s:Shared}
end
section
variable {X:Cx}
end
end L2
namespace L2
theorem inP_iff' {R:List Pr} {n:Int} : inP R n=true↔∃ p ∈ R,p.1≤n∧n≤p.2:=by
  unfold inP
  rw [List.any_eq_true]
  constructor
  · rintro ⟨p,hp,h⟩;exact ⟨p,hp,inR_iff.mp h⟩
  · rintro ⟨p,hp,h⟩;exact ⟨p,hp,inR_iff.mpr h⟩
theorem Apart.uniq:∀ {A B:List Pr},Apart A→Apart B→(∀ n,inP A n=inP B n)→A=B
  | [],[],_,_,_=>rfl
  | [],b :: B,_,hB,h=>by
    have:inP (b :: B) b.1=true:=inP_iff'.mpr ⟨b,.head _,Int.le_refl _,hB.tail.2.1⟩
    rw [← h b.1] at this
    cases this
  | a :: A,[],hA,_,h=>by
    have:inP (a :: A) a.1=true:=inP_iff'.mpr ⟨a,.head _,Int.le_refl _,hA.tail.2.1⟩
    rw [h a.1] at this
    cases this
  | a :: A,b :: B,hA,hB,h=>by
    obtain ⟨hA',ha,ga⟩:=hA.tail
    obtain ⟨hB',hb,gb⟩:=hB.tail
    have m:∀ n,(∃ p ∈ a :: A,p.1≤n∧n≤p.2)↔(∃ p ∈ b :: B,p.1≤n∧n≤p.2):=fun n=>by rw [← inP_iff',← inP_iff',h n]
    have lowA:∀ p ∈ a :: A,a.1≤p.1:=fun p hp=>by
      rcases List.mem_cons.mp hp with rfl | hp
      · exact Int.le_refl _
      · have:=ga p hp;omega
    have lowB:∀ p ∈ b :: B,b.1≤p.1:=fun p hp=>by
      rcases List.mem_cons.mp hp with rfl | hp
      · exact Int.le_refl _
      · have:=gb p hp;omega
    have e1:a.1=b.1:=by
      obtain ⟨p,hp,p1,p2⟩:=(m a.1).mp ⟨a,.head _,Int.le_refl _,ha⟩
      obtain ⟨q,hq,q1,q2⟩:=(m b.1).mpr ⟨b,.head _,Int.le_refl _,hb⟩
      have:=lowB p hp
      have:=lowA q hq
      omega
    have e2:a.2=b.2:=by
      rcases Int.lt_trichotomy a.2 b.2 with g | g | g
      · obtain ⟨p,hp,p1,p2⟩:=(m (a.2+1)).mpr ⟨b,.head _,by omega,by omega⟩
        rcases List.mem_cons.mp hp with rfl | hp
        · omega
        · have:=ga p hp;omega
      · exact g
      · obtain ⟨p,hp,p1,p2⟩:=(m (b.2+1)).mp ⟨a,.head _,by omega,by omega⟩
        rcases List.mem_cons.mp hp with rfl | hp
        · omega
        · have:=gb p hp;omega
    have e:a=b:=Prod.ext e1 e2
    subst e
    congr 1
    refine Apart.uniq hA' hB' fun n=>?_
    by_cases hn:n≤a.2
    · rw [hA.behind hn,hB.behind hn]
    · have hx:=h n
      have z:inR n a=false:=Bool.eq_false_iff.mpr fun t=>hn (inR_iff.mp t).2
      have c1:inP (a :: A) n=(inR n a || inP A n):=rfl
      have c2:inP (a :: B) n=(inR n a || inP B n):=rfl
      rw [c1,c2,z] at hx
      exact hx
def NeS (W:List (Int × Int × Int)):Prop:=∀ (j:Nat) a b,W[j]?=some a→W[j+1]?=some b→a.2.2 ≠ b.2.2
structure StepI (G ts:List (Int × Int × Int)) (i:Nat):Prop where
  walk:Walk G
  ne:NeS G
  pcs:∀ msk n,pcs msk G n=L2.pcs msk (ts.take i) n
  hd:∀ t,ts[0]?=some t→0 < i→∃ g,G[0]?=some g∧g.1=t.1
  lst:∀ t,ts[i - 1]?=some t→0 < i→∃ G' g,G=G' ++ [g]∧g.2.1=t.2.1∧g.2.2=t.2.2
  len:G.length≤i
  stt:∀ g ∈ G,∃ t ∈ ts,g.2.2=t.2.2
section
variable {G ts:List (Int × Int × Int)} {i:Nat} {t:Int × Int × Int}
end
end L2
namespace L2
open PySem PySem.Spec PyProof.Rows
def Its (z:Str):It:=⟨fun i _=>i < z.cps.size,fun i H x H'=>H'=H∧∃ c,z.cps[i]?=some c∧x=.str ⟨#[c]⟩,fun i _=>z.cps.size≤i⟩
theorem turn_ascii {P:Program} {w:World} {K:PySem.W.Frag} {tg:Expr} (z:Str) (t:Tok) (it:Addr):Turn P w K tg (Its z) [it] it (fun i h=>h.IsStrIter it "str_ascii_iterator" z t i) where
  mem:=by simp
  obj:=fun i h st b hb=>by
    obtain ⟨o,e,c,d⟩:=st
    rw [show b=it by simpa using hb]
    exact ⟨o,e,fun v q=>by rw [d] at q;cases q⟩
  keep:=fun i h h' ⟨o,e,r⟩ k=>⟨o,k it (by simp) o e,r⟩
  item:=by
    intro X hP hw hK hc i pins s σ H E I hf st hg
    subst hP hw hK
    have hlt:i < z.cps.size:=hg
    have hi:z.cps[i]?=some z.cps[i]:=Array.getElem?_eq_getElem hlt
    obtain ⟨f0,f1,f2,f3,f4,f5⟩:=hf it (by simp)
    refine wpAny_pyNext_ascii_item st hi fun h' st' sb=>?_
    have I1:Inv X pins σ H { s with heap:=h',toks:=s.toks+1 }:=I.turned (t':=s.toks+1) (fun b o hb e=>(sb.2 b hb).trans e) f0 f1 f3 f4 f5
    obtain ⟨o,e,c,d⟩:=id st'
    exact ⟨_,rfl,go_of (s:={ s with heap:=h',toks:=s.toks+1 }) e c d (by decide) ⟨.str ⟨#[z.cps[i]]⟩,H,I1,⟨_,rfl⟩,⟨rfl,_,hi,rfl⟩,st',fun b hb=>(hf b hb).1⟩⟩
  done:=by
    intro X hP hw hK hc i pins s σ H E I hf st hg
    subst hP hw hK
    obtain ⟨f0,f1,f2,f3,f4,f5⟩:=hf it (by simp)
    exact wpAny_pyNext_ascii_end (I.ok.hd hc) st (by simpa using (show z.cps.size≤i from hg)) fun h' eb=>⟨rfl,I.turned (t':=s.toks) (fun b o hb e=>eb b o hb e) f0 f1 f3 f4 f5⟩
  self:=fun _ _ _ _ _ st h=>wpAny_pyIter_striter_ascii st h
theorem turn_wide {P:Program} {w:World} {K:PySem.W.Frag} {tg:Expr} (z:Str) (t:Tok) (it:Addr):Turn P w K tg (Its z) [it] it (fun i h=>h.IsStrIter it "str_iterator" z t i) where
  mem:=by simp
  obj:=fun i h st b hb=>by
    obtain ⟨o,e,c,d⟩:=st
    rw [show b=it by simpa using hb]
    exact ⟨o,e,fun v q=>by rw [d] at q;cases q⟩
  keep:=fun i h h' ⟨o,e,r⟩ k=>⟨o,k it (by simp) o e,r⟩
  item:=by
    intro X hP hw hK hc i pins s σ H E I hf st hg
    subst hP hw hK
    have hlt:i < z.cps.size:=hg
    have hi:z.cps[i]?=some z.cps[i]:=Array.getElem?_eq_getElem hlt
    obtain ⟨f0,f1,f2,f3,f4,f5⟩:=hf it (by simp)
    refine wpAny_pyNext_wide_item st hi fun h' st' sb=>?_
    have I1:Inv X pins σ H { s with heap:=h',toks:=s.toks+1 }:=I.turned (t':=s.toks+1) (fun b o hb e=>(sb.2 b hb).trans e) f0 f1 f3 f4 f5
    obtain ⟨o,e,c,d⟩:=id st'
    exact ⟨_,rfl,go_of (s:={ s with heap:=h',toks:=s.toks+1 }) e c d (by decide) ⟨.str ⟨#[z.cps[i]]⟩,H,I1,⟨_,rfl⟩,⟨rfl,_,hi,rfl⟩,st',fun b hb=>(hf b hb).1⟩⟩
  done:=by
    intro X hP hw hK hc i pins s σ H E I hf st hg
    subst hP hw hK
    obtain ⟨f0,f1,f2,f3,f4,f5⟩:=hf it (by simp)
    exact wpAny_pyNext_wide_end (I.ok.hd hc) st (by simpa using (show z.cps.size≤i from hg)) fun h' eb=>⟨rfl,I.turned (t':=s.toks) (fun b o hb e=>eb b o hb e) f0 f1 f3 f4 f5⟩
  self:=fun _ _ _ _ _ st h=>wpAny_pyIter_striter_wide st h
section
variable {X:Cx} {tg:Expr}
def iStr (tl:TE):PySem.W.Frag→St→Hp→(It→Hp→Prop)→Prop:=fun _ σ H R=>tl σ H fun x H1=>∃ z,x=.str z∧R (Its z) H1
theorem pi_str {l:Expr} {tl:TE} (hl:PE X l tl):PI X tg l (iStr tl X.K):=by
  intro pins s σ H R I h
  refine thn (hl pins s σ H _ I h) fun v s1 ⟨x,H1,I1,r1,q1⟩=>?_
  obtain ⟨z,e,q⟩:=q1
  subst e
  obtain ⟨t,rfl⟩:=r1
  have fpo:∀ b ∈ [s1.heap.objs.size],FpOk X pins H1 b:=fun b hb=>by
    rw [show b=s1.heap.objs.size by simpa using hb]
    exact I1.fpOk (Nat.le_refl _) (I1.hok.fresh (Nat.le_refl _))
  cases ha:z.cps.all (· < 128) with
  | true=>exact wpAny_pyIter_ascii ha ⟨s1.heap.objs.size,[s1.heap.objs.size],_,_,H1,rfl,I1.kept (t':=s1.toks) fun b o e=>Heap.get?_push_of_some _ e,turn_ascii z t _,⟨_,Heap.get?_push_size _ rfl,rfl,rfl⟩,fpo,q⟩
  | false=>exact wpAny_pyIter_wide ha ⟨s1.heap.objs.size,[s1.heap.objs.size],_,_,H1,rfl,I1.kept (t':=s1.toks) fun b o e=>Heap.get?_push_of_some _ e,turn_wide z t _,⟨_,Heap.get?_push_size _ rfl,rfl,rfl⟩,fpo,q⟩
end
theorem for_str {z:Str} {g:TG} {tb:TS} {D:Ends} {σ:St} {H:Hp} (Pv:Nat→St→Hp→Prop) (h0:Pv 0 σ H)
    (hs:∀ i c σ H,z.cps.toList[i]?=some c→Pv i σ H→g (.str ⟨#[c]⟩) σ H fun σ2 H2=>tb { D with nx:=Pv (i+1),ct:=Pv (i+1),bk:=D.nx } σ2 H2) (hd:∀ σ H,Pv z.cps.size σ H→D.nx σ H) :
    ∃ W:Nat→Nat→St→Hp→Prop,(∃ m,W 0 m σ H)∧∀ i m σ H,W i m σ H →
      ((Its z).stop i H∧D.nx σ H)∨((Its z).go i H∧∃ N:St→Hp→Prop,(∀ σ' H',N σ' H'→∃ m',m' < m∧W (i+1) m' σ' H')∧∀ x H',(Its z).yld i H x H'→g x σ H' fun σ2 H2=>tb { D with nx:=N,ct:=N,bk:=D.nx } σ2 H2):=by
  refine ⟨fun i m σ H=>m=z.cps.size - i∧i≤z.cps.size∧Pv i σ H,⟨_,rfl,Nat.zero_le _,h0⟩,?_⟩
  rintro i m σ H ⟨rfl,hi,p⟩
  by_cases hlt:i < z.cps.size
  · refine .inr ⟨hlt,Pv (i+1),fun σ' H' p'=>⟨z.cps.size - (i+1),by omega,rfl,hlt,p'⟩,fun x H' y=>?_⟩
    obtain ⟨e,c,y1,y2⟩:=y
    subst e;subst y2
    exact hs i c σ _ (by simpa using y1) p
  · have e:i=z.cps.size:=by omega
    subst e
    exact .inl ⟨Nat.le_refl _,hd σ H p⟩
section
variable {X:Cx}
def rJoin (K:PySem.W.Frag):V→List V→Hp→VK→Prop:=fun x vs H Q=>∃ (z:Str) (a:Addr) (ys:List Str),x=.str z∧vs=[.ref a]∧SqL K H a (ys.map V.str)∧z.length≤64∧(ys.map (·.length)).sum+ys.length * 64≤16777216∧Q (.str (Txt.join z ys)) H
theorem pe_gl {x:Str} {v:V} {pos:Pos} (hg:Gl X x) (h:∃ u,X.mg x=some u∧RelV v u) (hd:(x == ("__debug__" : Str))=false:=by decide):PE X (.Name x pos) (tC v) :=
  let ⟨_,m,r⟩:=h
  pe_glob hg m r hd
end
def sg (g:Str) (c:Nat):Bool:=!(Builtin.Str.occurrences g ⟨#[c]⟩ 0 g.length 1).isEmpty
def allIn (z g:Str):Bool:=z.cps.toList.all (sg g)
end L2
namespace L2
open PySem PySem.Spec PyProof.Rows PySem.NumText
section
variable {X:Cx}
def rSlS:V→Option Int→Option Int→Hp→VK→Prop:=fun x lo hi H Q=>∃ z,x=.str z∧z.length≤sizeLine∧Q (.str (Txt.slice z lo hi)) H
def rStarts:V→List V→Hp→VK→Prop:=fun x vs H Q=>∃ z y:Str,x=.str z∧vs=[.str y]∧Q (.bl (Txt.startswith z y)) H
end
structure Figs (cs:List Nat):Prop where
  all:AllDigits cs
  one:cs.length=1∨∃ c r,cs=c :: r∧49≤c
def numCs (n:Int) (cs:List Nat):List Nat:=if n < 0 then 45 :: cs else cs
end L2
namespace L2
open PySem PySem.Spec PyProof.Rows PySem.W
theorem op_mulO {X:Cx} : OpR X (binaryOp .Mult) (rI IntMulOk fun i j=>.int (i * j)):=opI fun _ _ _ _ _ _ _ hc q=>mul_int q hc
end L2
namespace L2
open PySem PySem.Spec PyProof.Rows
def ExcT (h:Heap) (e T:Addr) (cls a0:Value):Prop :=
  ∃ oe vs oT ts,h.get? e=some oe∧(oe.cls=cls∧vs[0]?=some a0)∧oe.data=.fields vs∧vs[1]?=some (.ref T)∧T ≠ e∧h.get? T=some oT∧oT.data=.fields ts∧ts[3]?=some .none
structure Stp (F X:List Addr) (h h' : Heap):Prop where
  keep:∀ b o,b ∉ F→b ∉ X→h.get? b=some o→h'.get? b=some o
  slot:∀ b o,b ∈ F→h.get? b=some o→∃ sl,h'.get? b=some { o with slots:=sl }
section
variable {M:Model} {A:Around} {E:Value→Shared→Prop} {s:Shared} {base:Heap} {env:Env} {outer:List Env} {L e T:Addr} {oe:Obj} {vs:Array Value} {a0 cls:Value} {Q:Unit→Shared→Prop}
end
end L2
namespace L2
open PySem PySem.Spec PyProof.Rows
section
variable {P:Program} {w:World} {H H' : Hp} {h h' : Heap} {a:Addr} {o:HO} {F Y fs:List Addr}
end
def CX1 (P:Program) (w:World):CXT:=fun outer H s E ev s'=>∃ (e T C:Addr) (a0:Value) (H' : Hp),ev=.ref e∧s'.os=s.os∧AllBare s'.gens∧Un (frs outer) [] H H' s.heap s'.heap∧HOk P w H' s'.heap ∧
  ExcT s'.heap e T (.ref C) a0∧s.heap.get? e=none∧s.heap.get? T=none∧H' e=none∧H' T=none∧E (.ref C) none H'
structure NewAt (X:Cx) (pins:List (Addr × Obj)) (H:Hp) (b:Addr):Prop where
  ent:X.s₀.heap.get? b=none
  unt:H b=none
  loc:b ≠ X.env.locals
  cel:∀ x c,X.env.cells.lookup x=some c→c ≠ b
  pin:∀ p ∈ X.pn ++ pins,p.1 ≠ b
section
variable {X:Cx} {pins:List (Addr × Obj)} {σ:St} {H:Hp} {s:Shared} {h' : Heap} {e T:Addr}
end
structure ExcCls (K:PySem.W.Frag) (C:Addr):Prop where
  ex:∃ (bmB bmN:List Value) (newId B Bn nid initId inN:String),PySem.W.excIn K C bmB newId=true∧ExcBaseFacts Bn newId inN bmN∧bmB.contains (Value.type Bn)=true∧ExcBaseFacts B nid initId bmB
section
variable {P:Program} {w:World} {K:PySem.W.Frag} {mg:Str→Option Value} {base:Heap} {N:List Str} {qual:Str} {scope:Scope} {f:Addr} {cd:Value} {A:Around} {outer:List Env} {s0:Shared} {H0:Hp} {E:XK}
def tRaise (C:Addr) (E:XK) (t:TA):TS:=fun _ σ H=>t σ H fun vs H1=>vs.length≤sizeLine∧E (.ref C) none H1
end
end L2
namespace L2
open PySem PySem.Spec PyProof.Rows
def XP (X:Cx) (pins:List (Addr × Obj)) (σ:St) (EX:Addr→Hp→Prop) (ev:Value) (s' : Shared):Prop :=
  ∃ (e T C:Addr) (a0:Value) (H' : Hp),ev=.ref e∧Inv X pins σ H' s'∧ExcT s'.heap e T (.ref C) a0∧NewAt X pins H' e∧NewAt X pins H' T∧EX C H'
abbrev TX:=St→Hp→VK→(Addr→Hp→Prop)→Prop
def PEX (X:Cx) (e:Expr) (t:TX):Prop :=
  ∀ (pins:List (Addr × Obj)) (s:Shared) (σ:St) (H:Hp) (Q:VK) (EX:Addr→Hp→Prop),Inv X pins σ H s→t σ H Q EX→wpAny (model X.prog X.w) X.A (eval e X.env) (EP X pins σ Q) (XP X pins σ EX) s
def CalleeX (P:Program) (w:World) (K:PySem.W.Frag) (mg:Str→Option Value) (base:Heap) (k:Nat) (x:Str) (ps:List Str) (sp:Sp):Prop :=
  ∃ f fd,FnOk P w K mg base (CX1 P w) k f fd ps sp∧Binds K fd ps []∧PySem.W.keepIn K (.ref f)=true∧mg x=some (.ref f)
section
variable {X:Cx} {pins:List (Addr × Obj)} {σ:St} {H:Hp} {s s' : Shared}
end
section
variable {X:Cx} {k:Nat} {x:Str} {ps:List Str} {sp:Sp} {e:Expr} {es:List Expr} {t:TA} {p pos:Pos}
def tFnX (sp:Sp) (t:TA):TX:=fun σ H Q EX=>t σ H fun vs H1=>sp vs H1 Q fun cv _ H2=>∃ C,cv=.ref C∧EX C H2
abbrev TSX:=Ends→St→Hp→(Addr→Hp→Prop)→Prop
def PSX (X:Cx) (st:Stmt) (t:TSX):Prop :=
  ∀ (pins:List (Addr × Obj)) (s:Shared) (σ:St) (H:Hp) (D:Ends) (EX:Addr→Hp→Prop),Inv X pins σ H s→t D σ H EX→wpAny (model X.prog X.w) X.A (exec st X.env) (SP X pins D) (XP X pins σ EX) s
def tSetX (i:Nat) (te:TX):TSX:=fun D σ H EX=>te σ H (fun v H1=>D.nx (σ.set i (some v)) H1) EX
def tDropX (te:TX):TSX:=fun D σ H EX=>te σ H (fun _ H1=>D.nx σ H1) EX
end
def sfx (X:Cx) (e:Addr) (oe:Obj):Cx:={ X with A:=X.A.mark (some (.ref e)),calm:=false,pn:=(e,oe) :: X.pn,xe:=fun _ _=>False }
section
variable {X:Cx} {pins:List (Addr × Obj)} {σ:St} {H:Hp} {s s' : Shared} {e:Addr} {oe:Obj}
end
section
variable {X:Cx} {pins:List (Addr × Obj)} {σ:St} {H:Hp} {s:Shared}
end
def tTry (i:Nat) (B:Addr) (K:PySem.W.Frag) (G:Addr→Prop) (tb:TSX) (ts:Addr→Addr→TS):TS:=fun D σ H=>tb D σ H fun C H1=>PySem.W.exmOne K (.ref C) (.ref B)=some true∧G C ∧
  ∀ e,ts C e { nx:=fun σ' H'=>D.nx (σ'.set i none) H',rt:=D.rt,bk:=fun σ' H'=>D.bk (σ'.set i none) H',ct:=fun σ' H'=>D.ct (σ'.set i none) H' } (σ.set i (some (.ref e))) H1
section
variable {X:Cx} {st b₀:Stmt} {su:List Stmt} {tb:TSX} {ts:Addr→Addr→TS} {Tn n:Str} {B:Addr} {i:Nat} {np hpos pos:Pos}
end
end L2
namespace L2
open PySem PySem.Spec PyProof.Rows
structure ExcLook (K:PySem.W.Frag) (C:Addr):Prop where
  ga:PySem.W.findIn K (.ref C) "__getattribute__" = some (some (.builtin "BaseException.__getattribute__"))
  hk:PySem.W.findIn K (.ref C) "__getattr__" = some none
  cl:PySem.W.findIn K (.ref C) "__class__" = some (some (.builtin "object.__class__"))
  gt:PySem.W.specialIn K (.builtin "object.__class__") "__get__" = some (some (.builtin "getset_descriptor.__get__"))
  tk:PySem.W.takesIn K (.builtin "object.__class__")=some true
  ob:PySem.W.mroIn K C (.type "object")=some true
  be:PySem.W.mroIn K C (.type "BaseException")=some true
  me:PySem.W.kitCls K (.ref C) (.ref C)=some true
section
variable {prog:Program} {w:World} {A:Around} {E:Value→Shared→Prop} {s:Shared} {K:PySem.W.Frag} {e C:Addr} {oe:Obj}
end
section
variable {X:Cx} {e C:Addr} {oe:Obj}
end
end L2
namespace L2
open PySem PySem.Spec PyProof.Rows
section
variable {X:Cx}
def tFr (c:Str) (ta:TE):TE:=fun σ H Q=>ta σ H fun x H1=>∃ z:Str,x=.str z∧z.length≤1000∧(∀ n ∈ z.cps.toList,n < 16 ^ 8)∧c.length≤1000∧∀ z2:Str,Q (.str z2) H1
theorem len_app (x y:Str):(x ++ y).length=x.length+y.length:=by
  show (Str.append x y).cps.size=x.cps.size+y.cps.size
  unfold Str.append
  simp
def rFind:V→List V→Hp→VK→Prop:=fun x vs H Q=>∃ z y:Str,x=.str z∧vs=[.str y]∧Q (.int (Txt.find z y)) H
theorem op_rep_str:OpR X (binaryOp .Mult) (fun x y H Q=>∃ z n,x=.str z∧y=.int n∧MulOk z n∧Q (.str (Txt.mul z n)) H):=by
  intro pins s σ H x y v u Q I rx ry h
  obtain ⟨z,n,rfl,rfl,hk,q⟩:=h
  obtain ⟨t,rfl⟩:=rx
  obtain ⟨t',rfl⟩:=ry
  exact PySem.SB.mul hk fun t' k=>⟨.str _,H,I.tok _,⟨_,rfl⟩,q⟩
end
end L2
namespace L2
open PySem PySem.Spec PyProof.Rows
def MCallee (CX:CXT) (P:Program) (w:World) (K:PySem.W.Frag) (mg:Str→Option Value) (base:Heap) (k:Nat) (C:Addr) (m:Str) (ps:List Str) (sp:Sp):Prop :=
  ∃ f fd,Meth K C m f∧FnOk P w K mg base CX k f fd ps sp∧Binds K fd ps []
def MkCallee (CX:CXT) (P:Program) (w:World) (K:PySem.W.Frag) (mg:Str→Option Value) (base:Heap) (k:Nat) (x:Str) (C:Addr) (ps:List Str) (sp:Sp):Prop :=
  ∃ f fd,Mk K C f∧FnOk P w K mg base CX k f fd ps sp∧Binds K fd ps []∧mg x=some (.ref C)
structure BaseM (K:PySem.W.Frag) (B:Addr) (m:Str) (f:Addr):Prop where
  sp:PySem.W.specialIn K (.ref B) "__getattribute__" = some (some (.builtin "type.__getattribute__"))
  rd:PySem.W.readsIn K B (.type "type")=true
  at_:PySem.W.findCls K (.ref B) (.type "type") m=some (.val (.ref f))
  kp:PySem.W.keepIn K (.ref f)=true
def BCallee (CX:CXT) (P:Program) (w:World) (K:PySem.W.Frag) (mg:Str→Option Value) (base:Heap) (k:Nat) (x:Str) (m:Str) (ps:List Str) (sp:Sp):Prop :=
  ∃ f fd B,BaseM K B m f∧FnOk P w K mg base CX k f fd ps sp∧Binds K fd ps []∧mg x=some (.ref B)
section
variable {CX:CXT} {P:Program} {w:World} {K:PySem.W.Frag} {mg:Str→Option Value} {base:Heap} {j k:Nat} {C:Addr} {x m:Str} {ps:List Str} {sp:Sp}
theorem MCallee.mono (c:MCallee CX P w K mg base j C m ps sp) (h:j≤k):MCallee CX P w K mg base k C m ps sp :=
  let ⟨f,fd,M,F,b⟩:=c
  ⟨f,fd,M,F.mono h,b⟩
theorem MkCallee.mono (c:MkCallee CX P w K mg base j x C ps sp) (h:j≤k):MkCallee CX P w K mg base k x C ps sp :=
  let ⟨f,fd,M,F,b⟩:=c
  ⟨f,fd,M,F.mono h,b⟩
theorem BCallee.mono (c:BCallee CX P w K mg base j x m ps sp) (h:j≤k):BCallee CX P w K mg base k x m ps sp :=
  let ⟨f,fd,B,M,F,b⟩:=c
  ⟨f,fd,B,M,F.mono h,b⟩
end
def tMt (C:Addr) (m:Str) (sp:Sp) (ta:TE) (t:TA):TE:=fun σ H Q=>ta σ H fun x H1=>∃ a dx fs,x=.ref a∧H1 a=some (.ins C dx fs)∧fs.lookup m=none∧t σ H1 fun vs H2=>sp (x :: vs) H2 Q E0
def tMk (C:Addr) (sp:Sp) (t:TA):TE:=fun σ H Q=>t σ H fun vs H1=>∀ x dx,H1 x=none→H1 dx=none→dx ≠ x →
  sp (.ref x :: vs) (upd (upd H1 dx (.own x)) x (.ins C dx [])) (fun v H2=>v=.non∧Q (.ref x) H2) E0
def tMtX (C:Addr) (m:Str) (sp:Sp) (ta:TE) (t:TA):TX:=fun σ H Q EX=>ta σ H fun x H1=>∃ a dx fs,x=.ref a∧H1 a=some (.ins C dx fs)∧fs.lookup m=none∧t σ H1 fun vs H2=>sp (x :: vs) H2 Q fun cv _ H3=>∃ C',cv=.ref C'∧EX C' H3
def tMkX (C:Addr) (sp:Sp) (t:TA):TX:=fun σ H Q EX=>t σ H fun vs H1=>∀ x dx,H1 x=none→H1 dx=none→dx ≠ x →
  sp (.ref x :: vs) (upd (upd H1 dx (.own x)) x (.ins C dx [])) (fun v H2=>v=.non∧Q (.ref x) H2) fun cv _ H3=>∃ C',cv=.ref C'∧EX C' H3
section
variable {X:Cx} {CX:CXT} {k:Nat} {f C:Addr} {fd:FuncData} {ps:List Str} {sp:Sp} {x m:Str} {p np pos apos:Pos} {e o:Expr} {es:List Expr} {ta:TE} {t:TA}
theorem run0 {pins:List (Addr × Obj)} {σ:St} {H:Hp} {s:Shared} {Q:VK} {us:List Value} {vs:List V} {E:XK} (F:FnOk X.prog X.w X.K X.mg X.base CX k f fd ps sp) (hr:Room k X.A) (hb:Binds X.K fd ps []) (hx:Passes CX X E)
    (I:Inv X pins σ H s) (r:Vals vs us) (h:sp vs H Q E):wpAny (model X.prog X.w) X.A (call (.ref f) us) (EP X pins σ Q) X.xe s :=
  run_fn (dvs:=[]) (ds:=[]) F hr hb .nil hx I r (by rw [List.append_nil];exact h)
theorem pe_mt {pl:Sem Bool} (M:MCallee CX X.prog X.w X.K X.mg X.base k C m ps sp) (hx:Passes CX X E0) (c:Cls X.K C) (hr:Room k X.A) (he:PE X o ta) (ha:PA X (e :: es) t)
    (hst:starEach (e :: es) X.env=(false,eval e X.env) :: starEach es X.env:=by rfl) (hpl:(backTo pos (starEach es X.env)).any (·.1)=false:=by rfl)
    (ht:eval (.Call (.Attribute o m apos) (e :: es) [] pos) X.env=(do
      let ov ← eval o X.env
      standAt apos.atName
      let (f,first) ← holding [ov] (getMethod ov m pl)
      callWith pos f first (backTo pos (starEach (e :: es) X.env)) (backToKw pos (keywordEach [] X.env))):=by rfl) :
    PE X (.Call (.Attribute o m apos) (e :: es) [] pos) (tMt C m sp ta t):=by
  obtain ⟨f,fd,hm,F,hb⟩:=M
  intro pins s σ H Q I h
  refine PySem.W.methodCall_KW (pl:=pl) (thn (he pins s σ H _ I h) fun u s1 ⟨x,H1,I1,rx,a,dx,fs,ex,ea,l,q⟩=>?_) ht
  subst ex
  obtain rfl:u=Value.ref a:=rx
  refine getmeth_ok I1 ea c hm l ?_
  refine PySem.W.callWith_K (first:=[.ref a]) (h₀:=X.base) I.ok.mod.kin hm.kp (thn (ha pos pins s1 σ H1 _ I1 q) fun us s2 ⟨vs,H2,I2,r,q2⟩=>⟨I2.kIn,?_⟩) hst hpl
  exact run0 (us:=.ref a :: us) (vs:=.ref a :: vs) F hr hb hx I2 (.cons rfl r) q2
theorem pe_base {pl:Sem Bool} (M:BCallee CX X.prog X.w X.K X.mg X.base k x m ps sp) (hx:Passes CX X E0) (hr:Room k X.A) (hg:Gl X x) (ha:PA X (e :: es) t) (hdb:(x == ("__debug__" : Str))=false:=by decide)
    (hst:starEach (e :: es) X.env=(false,eval e X.env) :: starEach es X.env:=by rfl) (hpl:(backTo pos (starEach es X.env)).any (·.1)=false:=by rfl)
    (ht:eval (.Call (.Attribute (.Name x np) m apos) (e :: es) [] pos) X.env=(do
      let ov ← eval (.Name x np) X.env
      standAt apos.atName
      let (f,first) ← holding [ov] (getMethod ov m pl)
      callWith pos f first (backTo pos (starEach (e :: es) X.env)) (backToKw pos (keywordEach [] X.env))):=by rfl) :
    PE X (.Call (.Attribute (.Name x np) m apos) (e :: es) [] pos) (tFn sp t):=by
  obtain ⟨f,fd,B,hB,F,hb,hm⟩:=M
  intro pins s σ H Q I h
  refine PySem.W.methodCall_KW (pl:=pl) (ld_glob I hg hm ?_ hdb) ht
  refine PySem.W.method_cls I.kIn hB.sp (PySem.W.cls_value (mc:=.type "type") I.kIn hB.rd hB.at_ (handed_of (v:=.ref f) rfl) ?_)
  refine PySem.W.callWith_K (first:=[]) (h₀:=X.base) I.ok.mod.kin hB.kp (thn (ha pos pins _ σ H _ (I.tok _) h) fun us s2 ⟨vs,H2,I2,r,q2⟩=>⟨I2.kIn,?_⟩) hst hpl
  exact run0 (us:=us) (vs:=vs) F hr hb hx I2 r q2
theorem pe_mk (M:MkCallee CX X.prog X.w X.K X.mg X.base k x C ps sp) (hx:Passes CX X E0) (hr:Room (k+1) X.A) (hg:Gl X x) (ha:PA X (e :: es) t) (hdb:(x == ("__debug__" : Str))=false:=by decide)
    (he:starEach (e :: es) X.env=(false,eval e X.env) :: starEach es X.env:=by rfl) (hpl:(backTo pos (starEach es X.env)).any (·.1)=false:=by rfl) :
    PE X (.Call (.Name x p) (e :: es) [] pos) (tMk C sp t):=by
  obtain ⟨f,fd,M,F,hb,hm⟩:=M
  have h:=pe_make (E:=E0) (dvs:=[]) (ds:=[]) (p:=p) M F hr hg hm hb .nil hx ha hdb he hpl
  intro pins s σ H Q I q
  refine h pins s σ H Q I ?_
  have q' : t σ H fun vs H1=>∀ x dx,H1 x=none→H1 dx=none→dx ≠ x→sp (.ref x :: vs) (upd (upd H1 dx (.own x)) x (.ins C dx [])) (fun v H2=>v=.non∧Q (.ref x) H2) E0:=q
  show t σ H fun vs H1=>∀ x dx,H1 x=none→H1 dx=none→dx ≠ x→sp (.ref x :: (vs ++ [])) (upd (upd H1 dx (.own x)) x (.ins C dx [])) (fun v H2=>v=.non∧Q (.ref x) H2) E0
  have e1:(fun (vs:List V) (H1:Hp)=>∀ x dx,H1 x=none→H1 dx=none→dx ≠ x→sp (.ref x :: (vs ++ [])) (upd (upd H1 dx (.own x)) x (.ins C dx [])) (fun v H2=>v=.non∧Q (.ref x) H2) E0)=fun vs H1=>∀ x dx,H1 x=none→H1 dx=none→dx ≠ x→sp (.ref x :: vs) (upd (upd H1 dx (.own x)) x (.ins C dx [])) (fun v H2=>v=.non∧Q (.ref x) H2) E0:=by
    funext vs H1
    rw [List.append_nil]
  rw [e1]
  exact q'
end
inductive Shw:V→Prop where
  | non:Shw .non
  | bl (b:Bool):Shw (.bl b)
  | int {i:Int} (h:i.natAbs < 10 ^ 60):Shw (.int i)
  | str {z:Str} (h:z.length≤1000) (k:∀ n ∈ z.cps.toList,n < 16 ^ 8):Shw (.str z)
section
variable {X:Cx}
def tFrV (c:Str) (ta:TE):TE:=fun σ H Q=>ta σ H fun x H1=>Shw x∧c.length≤1000∧∀ z2:Str,Q (.str z2) H1
end
def rEqT (K:PySem.W.Frag) (neg:Bool):R2:=fun x y H Q=>∃ a b xs ys,x=.ref a∧y=.ref b∧SqT K H a xs∧SqT K H b ys ∧
  ∃ f:Nat→Bool,(∀ j x y,xs[j]?=some x→ys[j]?=some y→EqI K H x y (f j))∧Q (.bl (if neg then !((List.range (min xs.length ys.length)).all f && xs.length == ys.length) else (List.range (min xs.length ys.length)).all f && xs.length == ys.length)) H
section
variable {X:Cx}
theorem op_eqT {k:Nat} (hr:Room k X.A):OpR X (compareOp .Eq) (rEqT X.K false):=by
  intro pins s σ H x y v u Q I rx ry h
  obtain ⟨a,b,xs,ys,rfl,rfl,ha,hb,f,hf,q⟩:=h
  cases (show v=Value.ref a from rx)
  cases (show u=Value.ref b from ry)
  obtain ⟨its,r,p,_⟩:=I.tuple ha
  obtain ⟨its',r',p',_⟩:=I.tuple hb
  have l1:=r.length
  have l2:=r'.length
  have hu:=hr.units
  refine SeqAt.eq_tupleAt (e:=f) (show s.heap.IsTuple a its.toArray from p) (show s.heap.IsTuple b its'.toArray from p') (by omega) (eqs_at I (by show X.A.units+1+1 < cLine;omega) r r' hf) ⟨.bl _,H,I,rfl,?_⟩
  simp only [List.size_toArray]
  rw [← l1,← l2]
  exact q
theorem rEqT_same {K:PySem.W.Frag} {H:Hp} {Q:VK} {a b:Addr} {xs:List V} (ha:SqT K H a xs) (hb:SqT K H b xs) (fl:∀ x ∈ xs,flatV x=true) (q:Q (.bl true) H):rEqT K false (.ref a) (.ref b) H Q:=by
  refine ⟨a,b,xs,xs,rfl,rfl,ha,hb,fun _=>true,fun j x y e1 e2=>?_,?_⟩
  · rw [e1] at e2;cases e2
    have z:=fl x (List.mem_of_getElem? e1)
    have:=EqI.flat (K:=K) (H:=H) z z
    rw [eqV_refl z] at this
    exact this
  · have:(List.range (min xs.length xs.length)).all (fun _=>true)=true:=by simp
    show Q (.bl ((List.range (min xs.length xs.length)).all (fun _=>true) && xs.length == xs.length)) H
    rw [this,beq_self_eq_true,Bool.and_true]
    exact q
end
end L2
namespace L2
open PySem PySem.Spec PyProof.Rows
section
variable {X:Cx}
def rCatS (K:PySem.W.Frag):R2:=fun x y H Q=>∃ l b xs zs,x=.ref l∧y=.ref b∧SqL K H l xs∧SqL K H b zs∧xs.length+zs.length≤sizeLine∧∀ p,H p=none→Q (.ref p) (upd H p (.lst (xs ++ zs)))
end
end L2
namespace L2
open PySem PySem.Spec PyProof.Rows
end L2
namespace L2
open PySem PySem.Spec PyProof.Rows
end L2
namespace L2
open PySem
set_option maxRecDepth 100000
inductive DEq (K:PySem.W.Frag) (H:Hp):Nat→V→V→Bool→Prop where
  | flat {n:Nat} {x y:V} (fx:flatV x=true) (fy:flatV y=true):DEq K H n x y (eqV x y)
  | same {n:Nat} (a:Addr):DEq K H n (.ref a) (.ref a) true
  | lst {n:Nat} {a b:Addr} {xs ys:List V} {f:Nat→Bool} (ne:a ≠ b) (ha:SqL K H a xs) (hb:SqL K H b ys) (hl:xs.length=ys.length) (h:∀ (j:Nat) (x y:V),xs[j]?=some x→ys[j]?=some y→DEq K H n x y (f j)):DEq K H (n+1) (.ref a) (.ref b) ((List.range xs.length).all f)
  | lst_ne {n:Nat} {a b:Addr} {xs ys:List V} (ne:a ≠ b) (ha:SqL K H a xs) (hb:SqL K H b ys) (hl:xs.length ≠ ys.length):DEq K H (n+1) (.ref a) (.ref b) false
  | tup {n:Nat} {a b:Addr} {xs ys:List V} {f:Nat→Bool} (ne:a ≠ b) (ha:SqT K H a xs) (hb:SqT K H b ys) (h:∀ (j:Nat) (x y:V),xs[j]?=some x→ys[j]?=some y→DEq K H n x y (f j)):DEq K H (n+1) (.ref a) (.ref b) ((List.range (min xs.length ys.length)).all f && xs.length == ys.length)
theorem its_at {xs:List V} {its:List Value} (r:Vals xs its) {j:Nat} (h:j < its.toArray.size):∃ x,xs[j]?=some x∧RelV x its.toArray[j]:=by
  have j1:j < its.length:=by simpa using h
  have l1:=r.length
  have x1:xs[j]?=some xs[j]:=List.getElem?_eq_getElem (by omega)
  obtain ⟨u1,q1,r1⟩:=r.get x1
  have eu:its.toArray[j]=u1:=by
    have:=List.getElem?_eq_getElem j1
    rw [this] at q1;simpa using Option.some.inj q1
  exact ⟨xs[j],x1,eu ▸ r1⟩
section
variable {X:Cx} {pins:List (Addr × Obj)} {σ:St} {H:Hp} {s:Shared}
theorem DEq.at {n:Nat} {x y:V} {b:Bool} (e:DEq X.K H n x y b) (I:Inv X pins σ H s):∀ {A:Around} {u v:Value},A.units+n < cLine→RelV x u→RelV y v→SeqAt.EqAt A s u v b:=by
  induction e with
  | flat fx fy=>intro A u v hu rx ry;exact eqAt_V rx ry fx fy
  | same a =>
    intro A u v hu rx ry
    cases (show u=Value.ref a from rx)
    cases (show v=Value.ref a from ry)
    exact SeqAt.EqAt.same _
  | @lst n a b xs ys f ne ha hb hl h ih =>
    intro A u v hu rx ry
    cases (show u=Value.ref a from rx)
    cases (show v=Value.ref b from ry)
    obtain ⟨its,r,p,_⟩:=I.list ha
    obtain ⟨its',r',p',_⟩:=I.list hb
    have l1:=r.length
    have l2:=r'.length
    have h0:=SeqAt.RcAt.lists (A:=A) (e:=f) p.isList p'.isList (by simp only [List.size_toArray];omega) (by omega) (fun j h1 h2=>by
      obtain ⟨x,e1,q1⟩:=its_at r h1
      obtain ⟨y,e2,q2⟩:=its_at r' h2
      exact ih j x y e1 e2 (by show A.units+1+n < cLine;omega) q1 q2)
    rw [show its.toArray.size=xs.length by simp only [List.size_toArray];omega] at h0
    exact SeqAt.EqAt.of_refs ne h0
  | @lst_ne n a b xs ys ne ha hb hl =>
    intro A u v hu rx ry
    cases (show u=Value.ref a from rx)
    cases (show v=Value.ref b from ry)
    obtain ⟨its,r,p,_⟩:=I.list ha
    obtain ⟨its',r',p',_⟩:=I.list hb
    have l1:=r.length
    have l2:=r'.length
    exact SeqAt.EqAt.of_refs ne (SeqAt.RcAt.lists_lengths p.isList p'.isList (by simp only [List.size_toArray,bne_iff_ne,ne_eq];omega) (by omega))
  | @tup n a b xs ys f ne ha hb h ih =>
    intro A u v hu rx ry
    cases (show u=Value.ref a from rx)
    cases (show v=Value.ref b from ry)
    obtain ⟨its,r,p,_⟩:=I.tuple ha
    obtain ⟨its',r',p',_⟩:=I.tuple hb
    have l1:=r.length
    have l2:=r'.length
    have h0:=SeqAt.RcAt.tuples (A:=A) (e:=f) (show s.heap.IsTuple a its.toArray from p) (show s.heap.IsTuple b its'.toArray from p') (by omega) (fun j h1 h2=>by
      obtain ⟨x,e1,q1⟩:=its_at r h1
      obtain ⟨y,e2,q2⟩:=its_at r' h2
      exact ih j x y e1 e2 (by show A.units+1+n < cLine;omega) q1 q2)
    rw [show its.toArray.size=xs.length by simp only [List.size_toArray];omega,show its'.toArray.size=ys.length by simp only [List.size_toArray];omega] at h0
    exact SeqAt.EqAt.of_refs ne h0
end
def rEqDL (K:PySem.W.Frag) (neg:Bool):R2:=fun x y H Q=>∃ a b xs ys,x=.ref a∧y=.ref b∧SqL K H a xs∧SqL K H b ys ∧
  ((xs.length ≠ ys.length∧Q (.bl neg) H)∨(xs.length=ys.length∧∃ f:Nat→Bool,(∀ (j:Nat) (x y:V),xs[j]?=some x→ys[j]?=some y→DEq K H 60 x y (f j))∧Q (.bl (if neg then !(List.range xs.length).all f else (List.range xs.length).all f)) H))
def rEqDT (K:PySem.W.Frag) (neg:Bool):R2:=fun x y H Q=>∃ a b xs ys,x=.ref a∧y=.ref b∧SqT K H a xs∧SqT K H b ys ∧
  ∃ f:Nat→Bool,(∀ (j:Nat) (x y:V),xs[j]?=some x→ys[j]?=some y→DEq K H 60 x y (f j))∧Q (.bl (if neg then !((List.range (min xs.length ys.length)).all f && xs.length == ys.length) else (List.range (min xs.length ys.length)).all f && xs.length == ys.length)) H
section
variable {X:Cx}
theorem deep_at {pins:List (Addr × Obj)} {σ:St} {H:Hp} {s:Shared} {A:Around} {xs ys:List V} {its its' : List Value} {f:Nat→Bool} (I:Inv X pins σ H s) (hu:A.units+60 < cLine) (r:Vals xs its) (r' : Vals ys its')
    (hf:∀ (j:Nat) (x y:V),xs[j]?=some x→ys[j]?=some y→DEq X.K H 60 x y (f j)):∀ j (h1:j < its.toArray.size) (h2:j < its'.toArray.size),SeqAt.EqAt A s its.toArray[j] its'.toArray[j] (f j):=fun j h1 h2=>by
  obtain ⟨x,e1,q1⟩:=its_at r h1
  obtain ⟨y,e2,q2⟩:=its_at r' h2
  exact (hf j x y e1 e2).at I hu q1 q2
theorem op_eqDL {k:Nat} (hr:Room k X.A):OpR X (compareOp .Eq) (rEqDL X.K false):=by
  intro pins s σ H x y v u Q I rx ry h
  obtain ⟨a,b,xs,ys,rfl,rfl,ha,hb,h⟩:=h
  cases (show v=Value.ref a from rx)
  cases (show u=Value.ref b from ry)
  obtain ⟨its,r,p,_⟩:=I.list ha
  obtain ⟨its',r',p',_⟩:=I.list hb
  have l1:=r.length
  have l2:=r'.length
  have hu:=hr.units
  rcases h with ⟨hn,q⟩ | ⟨hl,f,hf,q⟩
  · refine SeqAt.eq_list_lengthsAt p.isList p'.isList (by simp only [List.size_toArray,bne_iff_ne,ne_eq];omega) (by omega) ⟨.bl false,H,I,rfl,q⟩
  · refine SeqAt.eq_listAt (e:=f) p.isList p'.isList (by simp only [List.size_toArray];omega) (by omega) (deep_at I (by show X.A.units+1+60 < cLine;omega) r r' hf) ⟨.bl _,H,I,rfl,?_⟩
    rw [show its.toArray.size=xs.length by simp only [List.size_toArray];omega]
    exact q
theorem op_neDL {k:Nat} (hr:Room k X.A):OpR X (compareOp .NotEq) (rEqDL X.K true):=by
  intro pins s σ H x y v u Q I rx ry h
  obtain ⟨a,b,xs,ys,rfl,rfl,ha,hb,h⟩:=h
  cases (show v=Value.ref a from rx)
  cases (show u=Value.ref b from ry)
  obtain ⟨its,r,p,_⟩:=I.list ha
  obtain ⟨its',r',p',_⟩:=I.list hb
  have l1:=r.length
  have l2:=r'.length
  have hu:=hr.units
  rcases h with ⟨hn,q⟩ | ⟨hl,f,hf,q⟩
  · refine SeqAt.RcNeAt.lists_lengths p.isList p'.isList (by simp only [List.size_toArray,bne_iff_ne,ne_eq];omega) (by omega) X.prog X.w X.xe _ ⟨.bl true,H,I,rfl,q⟩
  · refine SeqAt.RcNeAt.lists (e:=f) p.isList p'.isList (by simp only [List.size_toArray];omega) (by omega) (deep_at I (by show X.A.units+1+60 < cLine;omega) r r' hf) X.prog X.w X.xe _ ⟨.bl _,H,I,rfl,?_⟩
    rw [show its.toArray.size=xs.length by simp only [List.size_toArray];omega]
    exact q
end
end L2
namespace L2
open PySem PySem.Spec PyProof.Rows
section
variable {κ:Type} [DecidableEq κ]
def cntK (ks:List κ):Nat→Nat
  | 0=>0
  | i+1=>match ks[i]? with
    | some k=>if k ∈ ks.take i then cntK ks i else cntK ks i+1
    | none=>cntK ks i
theorem cntK_le (ks:List κ):∀ i,cntK ks i≤i
  | 0=>Nat.le_refl _
  | i+1=>by
    have ih:=cntK_le ks i
    unfold cntK
    split
    · split <;> omega
    · omega
theorem cntK_full (ks:List κ):∀ i,i≤ks.length→(cntK ks i=i↔(ks.take i).Nodup)
  | 0,_=>by simp [cntK]
  | i+1,h=>by
    have ih:=cntK_full ks i (by omega)
    have le:=cntK_le ks i
    have e:ks[i]?=some ks[i]:=List.getElem?_eq_getElem (by omega)
    have et:ks.take (i+1)=ks.take i ++ [ks[i]]:=by rw [List.take_add_one,e];rfl
    unfold cntK
    rw [e,et,List.nodup_append]
    dsimp only
    by_cases m:ks[i] ∈ ks.take i
    · rw [if_pos m]
      exact ⟨fun z=>absurd z (by omega),fun z=>absurd rfl (z.2.2 _ m _ (by simp))⟩
    · rw [if_neg m]
      refine ⟨fun z=>⟨ih.mp (by omega),by simp,fun a ha b hb=>?_⟩,fun z=>by rw [ih.mpr z.1]⟩
      rw [show b=ks[i] by simpa using hb]
      exact fun q=>m (q ▸ ha)
variable {prog:Program} {w:World} {A:Around} {E:Value→Shared→Prop} {s:Shared} {knd:KeyKind prog w κ}
theorem setOf_stay {h h' : Heap} {a:Addr} {S:κ→Bool} {n:Nat} (x:h.SetOf knd a S n) (k:∀ o,h.get? a=some o→h'.get? a=some o):h'.SetOf knd a S n:=by
  obtain ⟨o,es,ep,t,ho,r⟩:=x
  exact ⟨o,es,ep,t,k o ho,r⟩
theorem setOf_as {h:Heap} {a:Addr} {S S' : κ→Bool} {n n' : Nat} (x:h.SetOf knd a S n) (e1:S=S') (e2:n=n'):h.SetOf knd a S' n':=e1 ▸ e2 ▸ x
theorem fill_loop {R:Result→Shared→Prop} {I:Addr} {fp wr:List Addr} {G:Array GenState→Array GenState→Prop} {n:Nat} {P:Nat→Value→Prop} {St:Nat→Shared→Prop} (W:WalksS prog w A.in1 I fp wr G n P St) {a:Addr} (ha:a ∉ fp) {ks:List κ}
    (hv:∀ i v,P i v→∃ k,ks[i]?=some k∧knd.is k v=true∧v.scannable=true) (hb:n+1 < scanBound):∀ (d i:Nat) (s:Shared),n=i+d→St i s→s.heap.SetOf knd a (fun k=>decide (k ∈ ks.take i)) (cntK ks i) →
      (∀ s',Moved (a :: wr) G s s'→s'.heap.SetOf knd a (fun k=>decide (k ∈ ks.take n)) (cntK ks n)→R (.ok (.ret .none)) s')→codeAny (model prog w) A (.builtin "set.update.loop" ⟨[.ref a,.ref I],[]⟩) R s:=by
  have hw:a ∉ wr:=fun z=>ha (W.sub a z)
  intro d
  induction d with
  | zero =>
    intro i s e st x fin
    rw [show n=i by omega] at W fin
    refine codeAny_builtin (R:=R) (A:=A) F.entry_set_update_loop ?_
    rw [Around.under_plainId (A:=A) F.plain_set_update_loop _]
    show wpAny (model prog w) A.in1 (pyNext (.ref I) >>= _) _ _ s
    exact wpAny_bind (W.done s _ _ st fun s' m=>wpAny_pure (fin s' (m.mono fun b hb=>List.mem_cons_of_mem a hb) (setOf_stay x fun o q=>m.heap a o hw q)))
  | succ d ih =>
    intro i s e st x fin
    refine codeAny_builtin (R:=R) (A:=A) F.entry_set_update_loop ?_
    rw [Around.under_plainId (A:=A) F.plain_set_update_loop _]
    show wpAny (model prog w) A.in1 (pyNext (.ref I) >>= _) _ _ s
    refine wpAny_bind (W.item i s _ _ (by omega) st fun v s1 p st1 m=>?_)
    obtain ⟨k,ek,ik,sc⟩:=hv i v p
    have x1:=setOf_stay x fun o q=>m.heap a o hw q
    show wpAny (model prog w) A.in1 (holding [v] (setAdd a v) >>= _) _ _ s1
    refine wpAny_bind (wpAny_holding (show wpAny (model prog w) A.in1 (setAdd a v) _ _ s1 from ?_))
    unfold setAdd
    refine wpAny_holding (wpAny_bind (knd.pyHash ik ?_))
    have le:=cntK_le ks i
    refine wpAny_setAddHashed_of (knd:=knd) (s:={ s1 with toks:=s1.toks+1 }) ik sc x1 (by omega) fun h' sb x2=>?_
    have et:ks.take (i+1)=ks.take i ++ [k]:=by rw [List.take_add_one,ek];rfl
    have x3:h'.SetOf knd a (fun q=>decide (q ∈ ks.take (i+1))) (cntK ks (i+1)):=by
      refine setOf_as x2 (funext fun q=>?_) ?_
      · rw [et]
        by_cases z:q ∈ ks.take i <;> by_cases y:q=k <;> simp [z,y]
      · show (if decide (k ∈ ks.take i)=true then cntK ks i else cntK ks i+1)=match ks[i]? with | some k=>if k ∈ ks.take i then cntK ks i else cntK ks i+1 | none=>cntK ks i
        rw [ek]
        by_cases z:k ∈ ks.take i <;> simp [z]
    refine wpAny_pure ⟨plainId_quiet F.plain_set_update_loop _,ih (i+1) { s1 with heap:=h',toks:=s1.toks+1 } (by omega) (W.frame (i+1) s1 h' (s1.toks+1) st1 (Nat.le_succ _) fun b hbf o q=>(sb.2 b fun z=>ha (z ▸ hbf)).trans q) x3 fun s2 m2 x4=>?_⟩
    refine fin s2 (Moved.trans W.gtrans ((m.mono fun b hb=>List.mem_cons_of_mem a hb).then_heap (Nat.le_succ _) fun b o hbn q=>?_) m2) x4
    exact (sb.2 b fun z=>hbn (z ▸ List.mem_cons_self)).trans q
abbrev newS (led:Bool):Obj:={ cls:=.type "set",dict:=none,data:=.set #[] 0 (.fresh 0 0 led) }
def Filled (knd:KeyKind prog w κ) (s:Shared) (ks:List κ) (h' : Heap):Prop :=
  h'.SetOf knd s.heap.objs.size (fun k=>decide (k ∈ ks)) (cntK ks ks.length)∧∀ b o,b < s.heap.objs.size→s.heap.get? b=some o→h'.get? b=some o
theorem init_set {l:Addr} {items:Array Value} {ks:List κ} {led:Bool} (hh:A.handled=none) (hl:s.heap.IsList l items) (hk:∀ (i:Nat) (v:Value),items[i]?=some v→∃ k,ks[i]?=some k∧knd.is k v=true∧v.scannable=true) (hn:ks.length=items.size) (hb:items.size+1 < scanBound) :
    codeAny (model prog w) A (.call (.builtin "set.__init__") ⟨[.ref s.heap.objs.size,.ref l],[]⟩) (wants (fun r s2=>r=.none∧∃ h' tk,s2 = { s with heap:=h',toks:=tk }∧Filled knd s ks h') E) { s with heap:=s.heap.push (newS led) }:=by
  have g0:(s.heap.push (newS led)).get? s.heap.objs.size=some (newS led):=Heap.get?_push_size s.heap rfl
  have ty:Shared.TypeIs { s with heap:=s.heap.push (newS led) } (.ref s.heap.objs.size) "set" := ⟨newS led,g0,rfl⟩
  refine codeAny_call_builtin F.called_set.init.plain F.entry_set_init (check_set_init_1 ty ?_)
  obtain ⟨⟨c1,c2,c3,c4⟩,ho,hc,m,hd⟩:=hl
  dsimp only at hc hd
  subst hc hd
  have g1:(s.heap.push (newS led)).get? l=some { cls:=.type "list",dict:=c2,data:=.seq items m,slots:=c4 }:=Heap.get?_push_of_some _ ho
  have y1:=F.sub_list_set
  have y2:=F.sub_list_frozenset
  have y3:(Value.type "list" == Value.type "dict")=false:=by decide
  have l1:(s.heap.push (newS led)).IsList l items:=⟨_,g1,rfl,m,rfl⟩
  have lt:l < s.heap.objs.size:=Heap.lt_size ho
  unfold Builtin.«set.__init__» Builtin.Frozenset.updateFrom noKeywords
  generalize hI:pyIter=it
  wp_walk
  subst hI
  refine wpAny_pyIter_list l1 (wpAny_bind (wpAny_runValue ?_))
  have nl:l ≠ (s.heap.push (newS led)).objs.size:=by rw [Heap.size_push];exact Nat.ne_of_lt (Nat.lt_succ_of_lt lt)
  have nf:s.heap.objs.size ∉ [(s.heap.push (newS led)).objs.size,l]:=by
    rw [Heap.size_push]
    intro z
    rcases List.mem_cons.mp z with z | z
    · exact absurd z (Nat.ne_of_lt (Nat.lt_succ_self _))
    · exact absurd (by simpa using z) (Nat.ne_of_gt lt)
  refine fill_loop (knd:=knd) ((Walks.list (by simp [hh]) _ l nl items).toS) nf (ks:=ks) hk hb items.size 0 _ (Nat.zero_add _).symm ⟨⟨_,Heap.get?_push_size _ rfl,rfl,rfl⟩,l1.push _⟩ (setOf_as ((setObjOf_fresh (knd:=knd) led).setOf (Heap.get?_push_of_some _ g0) (by unfold scanBound;omega)) (funext fun k=>by simp) rfl) fun s' mv x=>?_
  obtain ⟨h',g',d',t',o'⟩:=s'
  obtain rfl:g'=s.gens:=mv.gens
  obtain rfl:d'=s.drawn:=mv.drawn
  obtain rfl:o'=s.os:=mv.os
  refine wpAny_pure (show wpAny (model prog w) _ (ret Value.none) _ _ _ from wpAny_pure ⟨rfl,h',t',rfl,?_,fun b o hb' q=>?_⟩)
  · rw [← hn] at x
    exact setOf_as x (funext fun k=>by rw [List.take_length]) rfl
  · refine mv.heap b o (fun z=>?_) (Heap.get?_push_of_some _ (Heap.get?_push_of_some _ q))
    rcases List.mem_cons.mp z with z | z
    · exact absurd z (Nat.ne_of_lt hb')
    · have z2:b=(s.heap.push (newS led)).objs.size:=by simpa using z
      rw [Heap.size_push] at z2
      exact absurd z2 (Nat.ne_of_lt (Nat.lt_succ_of_lt hb'))
set_option maxRecDepth 100000 in
theorem call_setK {l:Addr} {items:Array Value} {ks:List κ} {Q:Value→Shared→Prop} (hh:A.handled=none) (hl:s.heap.IsList l items) (hk:∀ (i:Nat) (v:Value),items[i]?=some v→∃ k,ks[i]?=some k∧knd.is k v=true∧v.scannable=true) (hn:ks.length=items.size) (hb:items.size+1 < scanBound)
    (h:∀ h' tk,Filled knd s ks h'→Q (.ref s.heap.objs.size) { s with heap:=h',toks:=tk }):wpAny (model prog w) A (call (.type "set") [.ref l]) Q E s:=by
  obtain ⟨c,tl,mro⟩:=F.called_set.mro
  have a1:=F.called_set.made
  have a2:=F.called_set.sub
  have a3:=F.called_set.notType
  have a4:=F.called_set.canCreate
  have a5:=F.typeCall_set_1 (.ref l)
  refine wpAny_call (codeAny_of_tree (show wpAny (model prog w) _ (callAny (.type "set") _) _ _ _ from wpAny_pure ⟨Code.quiet_builtin _ (by decide +kernel),codeAny_builtin F.entry_type_call ?_⟩))
  rw [Around.under_plain (A:=A) (weight_type_call_type "set" [.ref l] []) rfl]
  repeat (any_goals (first | assumption | wp_step))
  refine codeAny_mono (code_set_new_1 (.ref l) (E:=E) (Q₁:=fun ob s1=>∃ led,ob=.ref s.heap.objs.size∧s1 = { s with heap:=s.heap.push (newS led) }) fun led=>⟨led,rfl,rfl⟩) fun r s1 hr=>?_
  cases r with
  | error e=>exact hr
  | ok fl =>
    cases fl with
    | ret ob =>
      obtain ⟨led,rfl,rfl⟩:=hr
      have g0:(s.heap.push (newS led)).get? s.heap.objs.size=some (newS led):=Heap.get?_push_size s.heap rfl
      have ty:Shared.TypeIs { s with heap:=s.heap.push (newS led) } (.ref s.heap.objs.size) "set" := ⟨newS led,g0,rfl⟩
      have b1:=F.called_set.init.lookup
      have b2:=F.called_set.init.bind (.ref s.heap.objs.size)
      repeat (any_goals (first | assumption | wp_step))
      refine codeAny_mono (init_set (E:=E) (knd:=knd) (by simp [hh]) hl hk hn hb) fun r2 s2 hr2=>?_
      cases r2 with
      | error e=>exact hr2
      | ok f2 =>
        cases f2 with
        | ret r =>
          obtain ⟨rfl,h',tk,rfl,x⟩:=hr2
          repeat (any_goals (first | assumption | wp_step))
          exact h h' tk x
        | _=>exact hr2.elim
    | _=>exact hr.elim
end
def SetO (P:Program) (w:World) (a:Addr) (zs:List Str):HO:=.ext fun h=>h.SetOf (strKind P w) a (fun z=>decide (z ∈ zs)) (cntK zs zs.length)
section
variable {X:Cx}
theorem vals_strs:∀ {zs:List Str} {us:List Value},Vals (zs.map V.str) us→∀ (i:Nat) (v:Value),us[i]?=some v→∃ z t,zs[i]?=some z∧v=.str z t
  | [],_,.nil,i,v,h=>by simp at h
  | z :: zs,_,.cons ⟨t,e⟩ r,0,v,h=>by simp at h;exact ⟨z,t,rfl,by rw [← h,e]⟩
  | z :: zs,_,.cons _ r,i+1,v,h=>by
    obtain ⟨z',t,e1,e2⟩:=vals_strs r i v (by simpa using h)
    exact ⟨z',t,by simpa using e1,e2⟩
theorem call_set_strs (hc:X.calm=true):CallR X (.type "set") (fun xs H Q=>∃ (p:Addr) (zs:List Str),xs=[.ref p]∧SqL X.K H p (zs.map V.str)∧zs.length≤1000∧∀ l,H l=none→Q (.ref l) (upd H l (SetO X.prog X.w l zs))):=by
  intro pins s σ H xs us Q I r h
  obtain ⟨p,zs,rfl,hS,hz,q⟩:=h
  obtain ⟨u,rfl,ru⟩:=r.one
  obtain rfl:u=Value.ref p:=ru
  obtain ⟨its,rv,pl,_⟩:=I.list hS
  have hl:=rv.length
  rw [List.length_map] at hl
  refine call_setK (knd:=strKind X.prog X.w) (ks:=zs) (I.ok.hd hc) pl.isList (fun i v e=>?_) (by simpa using hl) (by unfold scanBound;simp;omega) fun h' tk x=>?_
  · obtain ⟨z,t,e1,rfl⟩:=vals_strs rv i v (by simpa using e)
    exact ⟨z,e1,by show Value.isStrOf z (.str z t)=true;simp [Value.isStrOf],rfl⟩
  · obtain ⟨x1,x2⟩:=x
    refine ⟨.ref s.heap.objs.size,_,I.laid (a:=s.heap.objs.size) (o:=SetO X.prog X.w s.heap.objs.size zs) (h':=h') (t':=tk) (fun b o q=>x2 b o (Heap.lt_size q) q) (Nat.le_refl _) ?_,rfl,q _ I.fresh⟩
    refine ⟨x1,?_,fun h1 h2 y k=>setOf_stay y k⟩
    obtain ⟨o,_,_,_,g,_⟩:=x1
    exact ⟨o,g⟩
end
end L2
namespace L2
open PySem PySem.Spec PyProof.Rows
def ExcF (h:Heap) (e T:Addr) (cls a0 fl:Value):Prop :=
  ∃ oe vs oT ts,h.get? e=some oe∧(oe.cls=cls∧vs[0]?=some a0)∧oe.data=.fields vs∧vs[1]?=some (.ref T)∧T ≠ e∧h.get? T=some oT∧oT.data=.fields ts∧ts[3]?=some fl
inductive ExcS (h:Heap) (L e:Addr) (cls a0:Value):List Addr→Prop where
  | fresh {oe:Obj} {vs:Array Value} (he:h.get? e=some oe) (hc:oe.cls=cls) (hd:oe.data=.fields vs) (h1:vs[1]?=some Value.none) (h0:vs[0]?=some a0):ExcS h L e cls a0 []
  | fly {T:Addr} (x:ExcF h e T cls a0 .none):ExcS h L e cls a0 [T]
  | held {T:Addr} (x:ExcF h e T cls a0 (rawInt L)):ExcS h L e cls a0 [T]
section
variable {M:Model} {A:Around} {E:Value→Shared→Prop} {s:Shared} {base:Heap} {env:Env} {outer:List Env} {L e T:Addr} {a0 cls fl:Value} {Q:Unit→Shared→Prop} {Ts:List Addr}
end
section
variable {X:Cx} {pins:List (Addr × Obj)} {σ:St} {H:Hp} {s:Shared} {h' : Heap} {Y:List Addr}
end
def XEof (X:Cx) (L:Addr) (E:XK):Value→Shared→Prop:=fun ev s'=>∃ (e C:Addr) (a0:Value) (Ts:List Addr) (pins:List (Addr × Obj)) (σ:St) (H' : Hp),ev=.ref e∧Inv X pins σ H' s'∧ExcS s'.heap L e (.ref C) a0 Ts∧(∀ b ∈ e :: Ts,NewAt X pins H' b)∧E (.ref C) none H'
section
variable {P:Program} {w:World} {K:PySem.W.Frag} {mg:Str→Option Value} {base:Heap} {N:List Str} {qual:Str} {scope:Scope} {f:Addr} {cd:Value} {A:Around} {outer:List Env} {s0:Shared} {H0:Hp} {E:XK}
abbrev cxE (P:Program) (w:World) (K:PySem.W.Frag) (mg:Str→Option Value) (base:Heap) (N:List Str) (qual:Str) (scope:Scope) (f:Addr) (cd:Value) (A:Around) (outer:List Env) (s0:Shared) (H0:Hp) (E:XK):Cx :=
  (cxOf (CX1 P w) P w K mg base N qual scope f cd A outer s0 H0 E).wish (XEof (cxOf (CX1 P w) P w K mg base N qual scope f cd A outer s0 H0 E) s0.heap.objs.size E)
end
end L2
namespace L2
open PySem PySem.Spec PyProof.Rows
section
variable {X:Cx}
def rIndex (K:PySem.W.Frag):V→List V→Hp→VK→Prop:=fun x vs H Q=>∃ (p:Addr) (xs:List V) (y z:V) (j:Nat),x=.ref p∧vs=[y]∧SqL K H p xs∧flatV y=true∧xs.all flatV=true∧xs[j]?=some z∧eqV z y=true∧(∀ (m:Nat) (u:V),m < j→xs[m]?=some u→eqV u y=false)∧Q (.int j) H
theorem call_len_setO:CallR X (.builtin "len") (fun xs H Q=>∃ (l:Addr) (zs:List Str),xs=[.ref l]∧H l=some (SetO X.prog X.w l zs)∧zs.length≤1000∧Q (.int ((cntK zs zs.length:Nat):Int)) H):=by
  intro pins s σ H xs us Q I r h
  obtain ⟨l,zs,rfl,e,hz,q⟩:=h
  obtain ⟨u,rfl,ru⟩:=r.one
  obtain rfl:u=Value.ref l:=ru
  obtain ⟨⟨o,es,ep,t,g1,g2,g3,_,_,_,g4,g5⟩,_,_⟩:=I.hok l _ e
  have le:=cntK_le zs zs.length
  refine call_len_set g1 g2 g3 g4 (by rw [g5];omega) ⟨.int _,H,I.tok _,⟨_,rfl⟩,?_⟩
  rw [g5];exact q
end
def tFnE (sp:Sp) (E:XK) (t:TA):TE:=fun σ H Q=>t σ H fun vs H1=>sp vs H1 Q E
def tMtE (C:Addr) (m:Str) (sp:Sp) (E:XK) (ta:TE) (t:TA):TE:=fun σ H Q=>ta σ H fun x H1=>∃ a dx fs,x=.ref a∧H1 a=some (.ins C dx fs)∧fs.lookup m=none∧t σ H1 fun vs H2=>sp (x :: vs) H2 Q E
def tMkE (C:Addr) (sp:Sp) (E:XK) (t:TA):TE:=fun σ H Q=>t σ H fun vs H1=>∀ x dx,H1 x=none→H1 dx=none→dx ≠ x →
  sp (.ref x :: vs) (upd (upd H1 dx (.own x)) x (.ins C dx [])) (fun v H2=>v=.non∧Q (.ref x) H2) E
section
variable {X:Cx} {k:Nat} {f C:Addr} {fd:FuncData} {ps:List Str} {sp:Sp} {x m:Str} {p np pos apos:Pos} {e o:Expr} {es:List Expr} {ta:TE} {t:TA} {E:XK}
end
end L2
namespace L2
open PySem PySem.Spec PyProof.Rows
theorem ints_items:∀ {ns:List Int} {us:List Value},Vals (ns.map V.int) us→∃ xs:List (Int × Tok),us.toArray=intItems xs.toArray∧ns=xs.map (·.1)
  | [],_,.nil=>⟨[],by simp [intItems],rfl⟩
  | n :: ns,_,.cons ⟨t,e⟩ r=>by
    obtain ⟨xs,e1,e2⟩:=ints_items r
    refine ⟨(n,t) :: xs,?_,by rw [e2];rfl⟩
    subst e
    have e1':=congrArg Array.toList e1
    simp [intItems] at e1' ⊢
    exact e1'
section
variable {X:Cx}
theorem numAt_mem {xs:Array (Int × Tok)} {i:Nat} (h:i < xs.size):numAt xs i ∈ xs.toList.map (·.1):=by
  rw [numAt_eq];exact getD_mem (by rw [List.length_map,Array.length_toList];omega)
theorem call_min_list (hc:X.calm=true):CallR X (.builtin "min") (fun us H Q=>∃ (a:Addr) (ns:List Int),us=[.ref a]∧SqL X.K H a (ns.map V.int)∧0 < ns.length∧∀ m,m ∈ ns→(∀ b ∈ ns,m≤b)→Q (.int m) H):=by
  intro pins s σ H us vs Q I r h
  obtain ⟨a,ns,rfl,hq,hne,q⟩:=h
  obtain ⟨u,rfl,rx⟩:=r.one
  cases (show u=Value.ref a from rx)
  obtain ⟨its,rv,pl,hz⟩:=I.list hq
  obtain ⟨xs,e1,e2⟩:=ints_items rv
  have hl:=pl.isList
  rw [e1] at hl
  have hsz:0 < xs.toArray.size:=by
    rw [e2,List.length_map] at hne;simpa using hne
  refine min_intList (I.ok.hd hc) hl hsz fun v h' tk hv hk=>?_
  obtain ⟨t,rfl⟩:=intItems_at hv
  obtain ⟨h1,h2⟩:=argBest_lt (numAt xs.toArray) (xs.toArray.size - 1)
  refine ⟨.int _,H,I.kept (t':=tk) fun b o e=>hk b o e,⟨t,rfl⟩,q _ ?_ fun b hb=>?_⟩
  · rw [e2];exact numAt_mem (xs:=xs.toArray) (by omega)
  · rw [e2] at hb
    obtain ⟨j,hj,rfl⟩:=mem_getD hb
    rw [List.length_map] at hj
    have z:=h2 j (by simp;omega)
    rw [numAt_eq] at z ⊢
    rw [numAt_eq] at z
    simpa using z
theorem call_max_list (hc:X.calm=true):CallR X (.builtin "max") (fun us H Q=>∃ (a:Addr) (ns:List Int),us=[.ref a]∧SqL X.K H a (ns.map V.int)∧0 < ns.length∧∀ m,m ∈ ns→(∀ b ∈ ns,b≤m)→Q (.int m) H):=by
  intro pins s σ H us vs Q I r h
  obtain ⟨a,ns,rfl,hq,hne,q⟩:=h
  obtain ⟨u,rfl,rx⟩:=r.one
  cases (show u=Value.ref a from rx)
  obtain ⟨its,rv,pl,hz⟩:=I.list hq
  obtain ⟨xs,e1,e2⟩:=ints_items rv
  have hl:=pl.isList
  rw [e1] at hl
  have hsz:0 < xs.toArray.size:=by
    rw [e2,List.length_map] at hne;simpa using hne
  refine max_intList (I.ok.hd hc) hl hsz fun v h' tk hv hk=>?_
  obtain ⟨t,rfl⟩:=intItems_at hv
  obtain ⟨h1,h2⟩:=argBest_gt (numAt xs.toArray) (xs.toArray.size - 1)
  refine ⟨.int _,H,I.kept (t':=tk) fun b o e=>hk b o e,⟨t,rfl⟩,q _ ?_ fun b hb=>?_⟩
  · rw [e2];exact numAt_mem (xs:=xs.toArray) (by omega)
  · rw [e2] at hb
    obtain ⟨j,hj,rfl⟩:=mem_getD hb
    rw [List.length_map] at hj
    have z:=h2 j (by simp;omega)
    rw [numAt_eq] at z ⊢
    rw [numAt_eq] at z
    simpa using z
end
def SetI (P:Program) (w:World) (a:Addr) (ns:List Int):HO:=.ext fun h=>h.SetOf (intKind P w) a (fun z=>decide (z ∈ ns)) (cntK ns ns.length)
section
variable {X:Cx}
theorem vals_intsK:∀ {zs:List Int} {us:List Value},Vals (zs.map V.int) us→∀ (i:Nat) (v:Value),us[i]?=some v→∃ z t,zs[i]?=some z∧v=.int z t
  | [],_,.nil,i,v,h=>by simp at h
  | z :: zs,_,.cons ⟨t,e⟩ r,0,v,h=>by simp at h;exact ⟨z,t,rfl,by rw [← h,e]⟩
  | z :: zs,_,.cons _ r,i+1,v,h=>by
    obtain ⟨z',t,e1,e2⟩:=vals_intsK r i v (by simpa using h)
    exact ⟨z',t,by simpa using e1,e2⟩
theorem call_set_ints (hc:X.calm=true):CallR X (.type "set") (fun xs H Q=>∃ (p:Addr) (zs:List Int),xs=[.ref p]∧SqL X.K H p (zs.map V.int)∧zs.length≤1000∧∀ l,H l=none→Q (.ref l) (upd H l (SetI X.prog X.w l zs))):=by
  intro pins s σ H xs us Q I r h
  obtain ⟨p,zs,rfl,hS,hz,q⟩:=h
  obtain ⟨u,rfl,ru⟩:=r.one
  obtain rfl:u=Value.ref p:=ru
  obtain ⟨its,rv,pl,_⟩:=I.list hS
  have hl:=rv.length
  rw [List.length_map] at hl
  refine call_setK (knd:=intKind X.prog X.w) (ks:=zs) (I.ok.hd hc) pl.isList (fun i v e=>?_) (by simpa using hl) (by unfold scanBound;simp;omega) fun h' tk x=>?_
  · obtain ⟨z,t,e1,rfl⟩:=vals_intsK rv i v (by simpa using e)
    exact ⟨z,e1,by show Value.isInt z (.int z t)=true;simp [Value.isInt],rfl⟩
  · obtain ⟨x1,x2⟩:=x
    refine ⟨.ref s.heap.objs.size,_,I.laid (a:=s.heap.objs.size) (o:=SetI X.prog X.w s.heap.objs.size zs) (h':=h') (t':=tk) (fun b o q=>x2 b o (Heap.lt_size q) q) (Nat.le_refl _) ?_,rfl,q _ I.fresh⟩
    refine ⟨x1,?_,fun h1 h2 y k=>setOf_stay y k⟩
    obtain ⟨o,_,_,_,g,_⟩:=x1
    exact ⟨o,g⟩
theorem call_len_setI:CallR X (.builtin "len") (fun xs H Q=>∃ (l:Addr) (zs:List Int),xs=[.ref l]∧H l=some (SetI X.prog X.w l zs)∧zs.length≤1000∧Q (.int ((cntK zs zs.length:Nat):Int)) H):=by
  intro pins s σ H xs us Q I r h
  obtain ⟨l,zs,rfl,e,hz,q⟩:=h
  obtain ⟨u,rfl,ru⟩:=r.one
  obtain rfl:u=Value.ref l:=ru
  obtain ⟨⟨o,es,ep,t,g1,g2,g3,_,_,_,g4,g5⟩,_,_⟩:=I.hok l _ e
  have le:=cntK_le zs zs.length
  refine call_len_set g1 g2 g3 g4 (by rw [g5];omega) ⟨.int _,H,I.tok _,⟨_,rfl⟩,?_⟩
  rw [g5];exact q
end
theorem cntK_one {κ:Type} [DecidableEq κ] {k:κ} {ks:List κ} : ∀ i,i≤ks.length→1≤cntK (k :: ks) (i+1)∧(cntK (k :: ks) (i+1)=1↔∀ x ∈ ks.take i,x=k)
  | 0,_=>by simp [cntK]
  | i+1,h=>by
    obtain ⟨h1,h2⟩:=cntK_one (k:=k) (ks:=ks) i (by omega)
    have e:(k :: ks)[i+1]?=some ks[i]:=by simp
    have e' : ks[i]?=some ks[i]:=List.getElem?_eq_getElem (by omega)
    have et:ks.take (i+1)=ks.take i ++ [ks[i]]:=by rw [List.take_add_one,e'];rfl
    have e2:(k :: ks).take (i+1)=k :: ks.take i:=rfl
    rw [show cntK (k :: ks) (i+1+1)=match (k :: ks)[i+1]? with
      | some x=>if x ∈ (k :: ks).take (i+1) then cntK (k :: ks) (i+1) else cntK (k :: ks) (i+1)+1
      | none=>cntK (k :: ks) (i+1) from rfl,e,et,e2]
    dsimp only
    by_cases m:ks[i] ∈ k :: ks.take i
    · rw [if_pos m]
      refine ⟨h1,h2.trans ⟨fun z x hx=>?_,fun z x hx=>z x (List.mem_append_left _ hx)⟩⟩
      rcases List.mem_append.mp hx with hx | hx
      · exact z x hx
      · have:x=ks[i]:=by simpa using hx
        rw [this]
        rcases List.mem_cons.mp m with m | m
        · exact m
        · exact z _ m
    · rw [if_neg m]
      refine ⟨by omega,⟨fun z=>absurd z (by omega),fun z=>?_⟩⟩
      exact absurd (z ks[i] (List.mem_append_right _ (by simp))) fun q=>m (by rw [q];exact List.mem_cons_self)
theorem cntK_same {κ:Type} [DecidableEq κ] {k:κ} {ks:List κ} : cntK (k :: ks) (k :: ks).length=1↔∀ x ∈ ks,x=k:=by
  have:=(cntK_one (k:=k) (ks:=ks) ks.length (Nat.le_refl _)).2
  rw [List.take_length] at this
  exact this
end L2
namespace L2
open PySem PySem.Spec PyProof.Rows
section
variable {X:Cx}
def rUpper:V→List V→Hp→VK→Prop:=fun x vs H Q=>∃ z:Str,x=.str z∧vs=[]∧z.length≤1000∧Q (.str (Txt.upper z)) H
end
end L2
namespace L2
open PySem PySem.Spec PyProof.Rows
def TyG (K:PySem.W.Frag) (H:Hp) (x:V) (t:Value):Prop:=TyOf K H x t∨∃ a ys,x=.ref a∧SqT K H a ys∧t=.type "tuple"
inductive ClV:V→Value→Prop where
  | ty (T:String):ClV (.ty T) (.type T)
  | ref (C:Addr):ClV (.ref C) (.ref C)
section
variable {X:Cx}
theorem call_isiG:CallR X (.builtin "isinstance") (fun xs H Q=>∃ x c cv t b,xs=[x,c]∧ClV c cv∧TyG X.K H x t∧PySem.W.kitOne X.K t cv=some b∧Q (.bl b) H):=by
  intro pins s σ H xs us Q I r h
  obtain ⟨x,c,cv,t,b,rfl,rc,ty,e,q⟩:=h
  cases r with
  | cons rx r2 =>
    cases r2 with
    | @cons _ cu _ _ ry r3 =>
      cases r3
      have ec:cu=cv:=by cases rc <;> exact ry
      subst ec
      rcases ty with ty | ⟨a,ys,rfl,hS,rfl⟩
      · exact isinst_ok I rx ty e fun tk=>⟨.bl b,H,I.tok tk,rfl,q⟩
      · cases (show _=Value.ref a from rx)
        obtain ⟨its,r,⟨o,h1,h2,_⟩,_⟩:=I.tuple hS
        exact PySem.W.kia_one PySem.W.kitx_tuple I.kIn ⟨o,h1,h2⟩ e (fun z=>nomatch z) fun tk=>⟨.bl b,H,I.tok tk,rfl,q⟩
end
structure InsT (K:PySem.W.Frag) (C:Addr):Prop where
  cl:Cls K C
  ha:PySem.W.findIn K (.ref C) "__class__" = some (some (.builtin "object.__class__"))
  hn:PySem.W.specialIn K (.builtin "object.__class__") "__get__" = some (some (.builtin "getset_descriptor.__get__"))
  tk:PySem.W.takesIn K (.builtin "object.__class__")=some true
  hm:PySem.W.mroIn K C (.type "object")=some true
theorem InsT.ty {K:PySem.W.Frag} {C:Addr} (h:InsT K C) {H:Hp} {a dx:Addr} {fs:List (Str × V)} (e:H a=some (.ins C dx fs)):TyG K H (.ref a) (.ref C):=.inl (.ins e h.cl h.ha h.hn h.tk h.hm)
def PolM (CX:CXT) (P:Program) (w:World) (K:PySem.W.Frag) (mg:Str→Option Value) (base:Heap) (k:Nat) (m:Str) (ps:List Str) (cs:List (Addr × Sp)):Prop :=
  ∀ p ∈ cs,MCallee CX P w K mg base k p.1 m ps p.2∧Cls K p.1
section
variable {CX:CXT} {P:Program} {w:World} {K:PySem.W.Frag} {mg:Str→Option Value} {base:Heap} {k:Nat} {C:Addr} {m:Str} {ps:List Str} {sp:Sp} {cs:List (Addr × Sp)}
theorem poln:PolM CX P w K mg base k m ps []:=fun _ h=>nomatch h
theorem polc (M:MCallee CX P w K mg base k C m ps sp) (c:Cls K C) (r:PolM CX P w K mg base k m ps cs):PolM CX P w K mg base k m ps ((C,sp) :: cs):=fun p h=>by
  rcases List.mem_cons.mp h with rfl | h
  · exact ⟨M,c⟩
  · exact r p h
end
def tMtP (cs:List (Addr × Sp)) (m:Str) (ta:TE) (t:TA):TE:=fun σ H Q=>ta σ H fun x H1=>∃ a p dx fs,x=.ref a∧p ∈ cs∧H1 a=some (.ins p.1 dx fs)∧fs.lookup m=none∧t σ H1 fun vs H2=>p.2 (x :: vs) H2 Q E0
section
variable {X:Cx} {CX:CXT} {k:Nat} {f C:Addr} {fd:FuncData} {ps:List Str} {sp:Sp} {x m:Str} {p np pos apos:Pos} {e o:Expr} {es:List Expr} {ta:TE} {t:TA} {cs:List (Addr × Sp)}
theorem pe_mtP {pl:Sem Bool} (M:PolM CX X.prog X.w X.K X.mg X.base k m ps cs) (hx:Passes CX X E0) (hr:Room k X.A) (he:PE X o ta) (ha:PA X (e :: es) t)
    (hst:starEach (e :: es) X.env=(false,eval e X.env) :: starEach es X.env:=by rfl) (hpl:(backTo pos (starEach es X.env)).any (·.1)=false:=by rfl)
    (ht:eval (.Call (.Attribute o m apos) (e :: es) [] pos) X.env=(do
      let ov ← eval o X.env
      standAt apos.atName
      let (f,first) ← holding [ov] (getMethod ov m pl)
      callWith pos f first (backTo pos (starEach (e :: es) X.env)) (backToKw pos (keywordEach [] X.env))):=by rfl) :
    PE X (.Call (.Attribute o m apos) (e :: es) [] pos) (tMtP cs m ta t):=by
  intro pins s σ H Q I h
  refine PySem.W.methodCall_KW (pl:=pl) (thn (he pins s σ H _ I h) fun u s1 ⟨x,H1,I1,rx,a,p,dx,fs,ex,hp,ea,l,q⟩=>?_) ht
  obtain ⟨⟨f,fd,hm,F,hb⟩,c⟩:=M p hp
  subst ex
  obtain rfl:u=Value.ref a:=rx
  refine getmeth_ok I1 ea c hm l ?_
  refine PySem.W.callWith_K (first:=[.ref a]) (h₀:=X.base) I.ok.mod.kin hm.kp (thn (ha pos pins s1 σ H1 _ I1 q) fun us s2 ⟨vs,H2,I2,r,q2⟩=>⟨I2.kIn,?_⟩) hst hpl
  exact run0 (us:=.ref a :: us) (vs:=.ref a :: vs) F hr hb hx I2 (.cons rfl r) q2
theorem pe_mk0 (M:MkCallee CX X.prog X.w X.K X.mg X.base k x C ps sp) (hx:Passes CX X E0) (hr:Room (k+1) X.A) (hg:Gl X x) (hdb:(x == ("__debug__" : Str))=false:=by decide) :
    PE X (.Call (.Name x p) [] [] pos) (tMk C sp tNil):=by
  obtain ⟨f,fd,M,F,hb,hm⟩:=M
  have h:=pe_make0 (E:=E0) (dvs:=[]) (ds:=[]) (p:=p) (pos:=pos) M F hr hg hm hb .nil hx hdb
  intro pins s σ H Q I q
  exact h pins s σ H Q I q
end
def ModT (K:PySem.W.Frag) (a:Addr) (xs:List V):Prop:=∃ (o:Obj) (its:Array Value) (n:Nat),K.lookup a=some o∧o.cls=.type "tuple" ∧ o.data=.seq its n∧its.size≤sizeLine∧Vals xs its.toList
theorem ModT.sq {K:PySem.W.Frag} {a:Addr} {xs:List V} (h:ModT K a xs) (H:Hp):SqT K H a xs:=.inr h
theorem ModT.mk {K:PySem.W.Frag} {a:Addr} {xs:List V} {od:Option Addr} {its:Array Value} {n:Nat} {sl:Array (Option Value)} (h:K.lookup a=some ⟨.type "tuple",od,.seq its n,sl⟩) (hs:its.size≤sizeLine) (hv:Vals xs its.toList):ModT K a xs :=
  ⟨_,its,n,h,rfl,rfl,hs,hv⟩
end L2
namespace L2
open PySem PySem.Spec PyProof.Rows
theorem Same.seqT {K:PySem.W.Frag} {H H' : Hp} {a:Addr} {xs:List V} (e:Same H H') (h:SqT K H a xs):SqT K H' a xs:=by
  rcases h with (h | ⟨o,h⟩) | h
  · exact .inl (.inl (e _ _ h))
  · exact .inl (.inr ⟨o,e _ _ h⟩)
  · exact .inr h
theorem rEqL_same {K:PySem.W.Frag} {H:Hp} {Q:VK} {a b:Addr} {xs:List V} (ha:SqL K H a xs) (hb:SqL K H b xs) (fl:∀ x ∈ xs,flatV x=true∨∃ r,x=.ref r) (q:Q (.bl true) H):rEqL K false (.ref a) (.ref b) H Q:=by
  refine ⟨a,b,xs,xs,rfl,rfl,ha,hb,.inr ⟨rfl,fun _=>true,fun j x y e1 e2=>?_,?_⟩⟩
  · rw [e1] at e2;cases e2
    rcases fl x (List.mem_of_getElem? e1) with z | ⟨r,rfl⟩
    · have:=EqI.flat (K:=K) (H:=H) z z
      rw [eqV_refl z] at this
      exact this
    · exact .same r
  · have:(List.range xs.length).all (fun _=>true)=true:=by simp
    rw [this]
    exact q
theorem iteTS {c A B:Prop} [Decidable c] (hc:c) (h:A):if decide c=true then A else B:=by rw [if_pos (decide_eq_true hc)];exact h
theorem iteFS {c A B:Prop} [Decidable c] (hc:¬ c) (h:B):if decide c=true then A else B:=by rw [if_neg (by rw [decide_eq_false hc];decide)];exact h
end L2
namespace L2
open PySem PySem.Spec PyProof.Rows
section
variable {X:Cx} {pins:List (Addr × Obj)} {σ:St} {H:Hp} {s:Shared} {h' : Heap}
theorem Inv.turnedPair {ch:List Addr} {T:Addr} {x y:V} {u v:Value} (I:Inv X pins σ H s) (hf:∀ b ∈ ch,FpOk X pins H b) (k:∀ b o,b ∉ ch→s.heap.get? b=some o→h'.get? b=some o)
    (nT:s.heap.get? T=none) (hT:H T=none) (gT:IsPair h' T u v) (rx:RelV x u) (ry:RelV y v):Inv X pins σ (upd H T (.tup [x,y])) { s with heap:=h' }:=by
  have out:∀ b u,H b=some u→b ∉ ch:=fun b u e z=>by
    have f:=(hf b z).1
    rw [f] at e
    cases e
  have neT:∀ {b o},s.heap.get? b=some o→b ≠ T:=fun e z=>by rw [z,nT] at e;cases e
  have neH:∀ {b u},H b=some u→b ≠ T:=fun e z=>by rw [z,hT] at e;cases e
  have J:=Inv.step (H':=upd H T (.tup [x,y])) (h':=h') (g':=s.gens) (d':=s.drawn) (t':=s.toks) (ch:=ch) I
    (fun b hb=>by obtain ⟨_,f1,_,f3,f4,f5⟩:=hf b hb;exact ⟨f3,f1,f4,f5⟩)
    (fun b o _ _ hc e _=>k b o hc e)
    (fun b o _ _ hc e _=>⟨o.slots,k b o hc e⟩)
    (fun b o _ e n=>by rw [upd_ne (neT e)];exact n)
    (fun b o hc e=>⟨o,k b o hc e⟩)
    (fun b xs e=>by rw [upd_ne (neH e)];exact e)
    (fun b o w e=>by rw [upd_ne (neH e)];exact e)
    (fun b ps e=>⟨#[],by rw [upd_ne (neH e),e];simp⟩)
    (fun m hm=>by
      obtain ⟨o,es,ep,ho,r⟩:=hm
      refine ⟨o,es,ep,k _ o (fun z=>?_) ho,r⟩
      obtain ⟨_,f1,_⟩:=hf _ z
      exact f1 rfl)
    (fun b w e=>by
      by_cases hb:b=T
      · subst hb
        rw [upd_same] at e
        cases e
        exact ⟨by show 2≤sizeLine;decide,[u,v],.cons rx (.cons ry .nil),_,gT,rfl,_,rfl⟩
      · rw [upd_ne hb] at e
        refine (I.hok b w e).stay (fun c z hc q=>k c z ?_ q) (fun c q=>?_) fun c xs q=>?_
        · rcases hc with z | z
          · rw [z];exact out b w e
          · exact out c _ z
        · rw [upd_ne (neH q)];exact q
        · rw [upd_ne (neH q)];exact q)
    I.bare
  exact J
theorem Inv.turnedL {ch:List Addr} (I:Inv X pins σ H s) (hf:∀ b ∈ ch,FpOk X pins H b) (k:∀ b o,b ∉ ch→s.heap.get? b=some o→h'.get? b=some o):Inv X pins σ H { s with heap:=h' }:=by
  have out:∀ b u,H b=some u→b ∉ ch:=fun b u e z=>by
    have f:=(hf b z).1
    rw [f] at e
    cases e
  have J:=Inv.step (H':=H) (h':=h') (g':=s.gens) (d':=s.drawn) (t':=s.toks) (ch:=ch) I
    (fun b hb=>by obtain ⟨_,f1,_,f3,f4,f5⟩:=hf b hb;exact ⟨f3,f1,f4,f5⟩)
    (fun b o _ _ hc e _=>k b o hc e)
    (fun b o _ _ hc e _=>⟨o.slots,k b o hc e⟩)
    (fun b o _ _ n=>n)
    (fun b o hc e=>⟨o,k b o hc e⟩)
    (fun b xs e=>e) (fun b o w e=>e) (fun b ps e=>⟨#[],by rw [e];simp⟩)
    (fun m hm=>by
      obtain ⟨o,es,ep,ho,r⟩:=hm
      refine ⟨o,es,ep,k _ o (fun z=>?_) ho,r⟩
      obtain ⟨_,f1,_⟩:=hf _ z
      exact f1 rfl)
    (fun b w e=>by
      refine (I.hok b w e).stay (fun c z hc q=>k c z ?_ q) (fun c q=>q) fun c xs q=>q
      rcases hc with z | z
      · rw [z];exact out b w e
      · exact out c _ z)
    I.bare
  exact J
end
def Itz (K:PySem.W.Frag) (a b:Addr):It :=
  ⟨fun i H=>∃ xs ys x y,SqL K H a xs∧SqL K H b ys∧xs[i]?=some x∧ys[i]?=some y,
   fun i H v H'=>∃ T,H T=none∧v=.ref T∧∀ xs ys x y,SqL K H a xs→SqL K H b ys→xs[i]?=some x→ys[i]?=some y→H'=upd H T (.tup [x,y]),
   fun i H=>∃ xs ys,SqL K H a xs∧SqL K H b ys∧(xs.length≤i∨ys.length≤i)⟩
def ZipSt (z TI TO i1 i2 a b:Addr) (i:Nat) (h:Heap):Prop:=IsZip h z TI TO .none∧IsPair h TI (.ref i1) (.ref i2)∧(∃ p q,IsPair h TO p q)∧h.IsListIter i1 a i∧h.IsListIter i2 b i
theorem turn_zip {P:Program} {w:World} {K:PySem.W.Frag} {elts:List Expr} {x1} {tp:Pos} {z TI TO i1 i2 a b:Addr} (D:ZipApart z TI TO i1 i2 a b) :
    Turn P w K (.Tuple elts x1 tp) (Itz K a b) [z,TI,TO,i1,i2] z (ZipSt z TI TO i1 i2 a b) where
  mem:=by simp
  obj:=fun i h st c hc=>by
    obtain ⟨g1,g2,⟨p,q,g3⟩,⟨o4,g4,_,d4⟩,⟨o5,g5,_,d5⟩⟩:=st
    simp only [List.mem_cons,List.not_mem_nil,or_false] at hc
    rcases hc with rfl | rfl | rfl | rfl | rfl
    · exact ⟨_,g1,fun v q=>nomatch q⟩
    · exact ⟨_,g2,fun v q=>nomatch q⟩
    · exact ⟨_,g3,fun v q=>nomatch q⟩
    · exact ⟨_,g4,fun v q=>by rw [d4] at q;cases q⟩
    · exact ⟨_,g5,fun v q=>by rw [d5] at q;cases q⟩
  keep:=fun i h h' st k=>by
    obtain ⟨g1,g2,⟨p,q,g3⟩,g4,g5⟩:=st
    exact ⟨k z (by simp) _ g1,k TI (by simp) _ g2,⟨p,q,k TO (by simp) _ g3⟩,g4.at fun o e=>k i1 (by simp) o e,g5.at fun o e=>k i2 (by simp) o e⟩
  item:=by
    intro X hP hw hK hc i pins s σ H E I hf st hg
    subst hP hw hK
    obtain ⟨xs,ys,x,y,qa,qb,ex,ey⟩:=hg
    obtain ⟨g1,g2,⟨p,q,g3⟩,g4,g5⟩:=st
    obtain ⟨us,ru,pu,_⟩:=I.list qa
    obtain ⟨vs,rv,pv,_⟩:=I.list qb
    obtain ⟨u,eu,r1⟩:=ru.get ex
    obtain ⟨v,ev,r2⟩:=rv.get ey
    refine wpAny_pyNext_zip_item D g1 g2 g3 g4 g5 pu.isList pv.isList (x:=u) (y:=v) (by simpa using eu) (by simpa using ev) fun h1 a1 a2 a3 a4 a5 a6 a7=>?_
    refine ⟨_,rfl,wpAny_letOwnedTupleGo_zip (s:={ s with heap:=h1 }) a1 fun h2 b1 b2=>?_⟩
    have nT:s.heap.get? s.heap.objs.size=none:=by
      cases q:s.heap.get? s.heap.objs.size with
      | none=>rfl
      | some o=>exact absurd (Heap.lt_size q) (Nat.lt_irrefl _)
    have hT:H s.heap.objs.size=none:=I.hok.fresh (Nat.le_refl _)
    have nz:s.heap.objs.size ≠ z:=Nat.ne_of_gt (Heap.lt_size g1)
    have kk:∀ c o,c ∉ [z,TO,i1,i2]→s.heap.get? c=some o→h2.get? c=some o:=fun c o hc e=>by
      simp only [List.mem_cons,List.not_mem_nil,or_false,not_or] at hc
      exact b2.extBut _ _ hc.1 (a7 c o hc.1 hc.2.1 hc.2.2.1 hc.2.2.2 e)
    have J:=I.turnedPair (h':=h2) (ch:=[z,TO,i1,i2]) (T:=s.heap.objs.size) (x:=x) (y:=y) (u:=u) (v:=v) (fun c hc=>hf c (by simp at hc ⊢;rcases hc with e | e | e | e <;> simp [e])) kk nT hT (b2.extBut _ _ nz a5) r1 r2
    refine ⟨.ref s.heap.objs.size,upd H s.heap.objs.size (.tup [x,y]),J,rfl,⟨_,hT,rfl,fun xs' ys' x' y' q1 q2 e1 e2=>?_⟩,⟨b1,b2.extBut _ _ D.TIz (a7 TI _ D.TIz D.TITO D.TIi1 D.TIi2 g2),⟨_,_,b2.extBut _ _ D.TOz a2⟩,a3.extBut b2.extBut D.i1z,a4.extBut b2.extBut D.i2z⟩,fun c hc=>?_⟩
    · rw [I.list_inj q1 qa] at e1
      rw [I.list_inj q2 qb] at e2
      rw [ex] at e1;rw [ey] at e2
      cases e1;cases e2
      rfl
    · have h0:=(hf c hc).1
      have:c ≠ s.heap.objs.size:=by
        obtain ⟨o4,g4',_⟩:=g4
        obtain ⟨o5,g5',_⟩:=g5
        simp only [List.mem_cons,List.not_mem_nil,or_false] at hc
        rcases hc with rfl | rfl | rfl | rfl | rfl
        · exact nz.symm
        · exact Nat.ne_of_lt (Heap.lt_size g2)
        · exact Nat.ne_of_lt (Heap.lt_size g3)
        · exact Nat.ne_of_lt (Heap.lt_size g4')
        · exact Nat.ne_of_lt (Heap.lt_size g5')
      rw [upd_ne this];exact h0
  done:=by
    intro X hP hw hK hc i pins s σ H E I hf st hg
    subst hP hw hK
    obtain ⟨xs,ys,qa,qb,hl⟩:=hg
    obtain ⟨g1,g2,⟨p,q,g3⟩,g4,g5⟩:=st
    obtain ⟨us,ru,pu,_⟩:=I.list qa
    obtain ⟨vs,rv,pv,_⟩:=I.list qb
    have l1:=ru.length
    have l2:=rv.length
    refine wpAny_pyNext_zip_end (I.ok.hd hc) D g1 g2 g3 g4 g5 pu.isList pv.isList ?_ fun h2 k=>⟨rfl,I.turnedL (ch:=[z,TO,i1,i2]) (fun c hc=>hf c (by simp at hc ⊢;rcases hc with e | e | e | e <;> simp [e])) fun c o hc e=>?_⟩
    · rcases hl with hl | hl
      · exact .inl (by simp;omega)
      · exact .inr (by simp;omega)
    · simp only [List.mem_cons,List.not_mem_nil,or_false,not_or] at hc
      exact k c o hc.1 hc.2.1 hc.2.2.1 hc.2.2.2 e
  self:=fun _ _ _ _ _ st h=>wpAny_pyIter_zip st.1 h
def iZip (K:PySem.W.Frag) (ta:TA):TI:=fun σ H R=>ta σ H fun vs H1=>∃ a b,vs=[.ref a,.ref b]∧(∃ xs,SqL K H1 a xs)∧(∃ ys,SqL K H1 b ys)∧R (Itz K a b) H1
section
variable {X:Cx}
theorem pi_zip {e1 e2:Expr} {ta:TA} {p pos:Pos} {elts:List Expr} {x1} {tp:Pos} (hg:Gl X "zip") (hm:X.mg "zip" = none) (ha:PA X [e1,e2] ta)
    (hs:starEach [e1,e2] X.env=[(false,eval e1 X.env),(false,eval e2 X.env)]:=by rfl) (hs2:starEach [e2] X.env=[(false,eval e2 X.env)]:=by rfl) :
    PI X (.Tuple elts x1 tp) (.Call (.Name "zip" p) [e1,e2] [] pos) (iZip X.K ta):=by
  intro pins s σ H R I h
  refine Call_ (ld_blt I hg hm PyProof.Rows.boot_zip (PyProof.Rows.callWith_type1 (thn (ha pos pins s σ H _ I h) fun us s1 ⟨vs,H1,I1,r1,q1⟩=>?_) (by rw [hs,hs2]) (by rw [hs2];rfl)))
  obtain ⟨a,b,rfl,⟨xs,qa⟩,⟨ys,qb⟩,q⟩:=q1
  obtain ⟨u,v,rfl,ru,rv⟩:=r1.two
  cases (show u=Value.ref a from ru)
  cases (show v=Value.ref b from rv)
  obtain ⟨us,_,pu,_⟩:=I1.list qa
  obtain ⟨vs,_,pv,_⟩:=I1.list qb
  obtain ⟨oa,ea,_⟩:=id pu.isList
  obtain ⟨ob,eb,_⟩:=id pv.isList
  have la:a < s1.heap.objs.size:=Heap.lt_size ea
  have lb:b < s1.heap.objs.size:=Heap.lt_size eb
  refine call_zip_2 pu.isList pv.isList fun h' z1 z2 z3 z4 z5 z6 z7=>?_
  refine wpAny_pyIter_zip (s:={ s1 with heap:=h' }) z1 ?_
  refine ⟨s1.heap.objs.size+4,[s1.heap.objs.size+4,s1.heap.objs.size+2,s1.heap.objs.size+3,s1.heap.objs.size,s1.heap.objs.size+1],ZipSt (s1.heap.objs.size+4) (s1.heap.objs.size+2) (s1.heap.objs.size+3) s1.heap.objs.size (s1.heap.objs.size+1) a b,Itz X.K a b,H1,rfl,I1.kept (t':=s1.toks) z7,turn_zip ?_,⟨z1,z2,⟨_,_,z3⟩,z4,z5⟩,fun c hc=>?_,q⟩
  · refine ⟨?_,?_,?_,?_,?_,?_,?_,?_,?_,?_,?_,?_,?_,?_,?_,?_,?_,?_⟩ <;> first | exact Nat.ne_of_lt (by omega) | exact Nat.ne_of_gt (by omega) | exact Nat.ne_of_lt la | exact Nat.ne_of_lt lb | exact Nat.ne_of_lt (Nat.lt_of_lt_of_le la (Nat.le_add_right _ _)) | exact Nat.ne_of_lt (Nat.lt_of_lt_of_le lb (Nat.le_add_right _ _))
  · have hc' : s1.heap.objs.size≤c:=by
      simp only [List.mem_cons,List.not_mem_nil,or_false] at hc
      rcases hc with rfl | rfl | rfl | rfl | rfl <;> omega
    exact I1.fpOk hc' (I1.hok.fresh hc')
end
theorem for_zip {K:PySem.W.Frag} {a b:Addr} {xs ys:List V} {g:TG} {tb:TS} {D:Ends} {σ:St} {H:Hp} (Pv:Nat→St→Hp→Prop) (h0:Pv 0 σ H) (hl:∀ i σ H,Pv i σ H→SqL K H a xs∧SqL K H b ys)
    (hs:∀ i x y σ H T,xs[i]?=some x→ys[i]?=some y→Pv i σ H→H T=none→g (.ref T) σ (upd H T (.tup [x,y])) fun σ2 H2=>tb { D with nx:=Pv (i+1),ct:=Pv (i+1),bk:=D.nx } σ2 H2)
    (hd:∀ σ H,Pv (min xs.length ys.length) σ H→D.nx σ H) :
    ∃ W:Nat→Nat→St→Hp→Prop,(∃ m,W 0 m σ H)∧∀ i m σ H,W i m σ H →
      ((Itz K a b).stop i H∧D.nx σ H)∨((Itz K a b).go i H∧∃ N:St→Hp→Prop,(∀ σ' H',N σ' H'→∃ m',m' < m∧W (i+1) m' σ' H')∧∀ x H',(Itz K a b).yld i H x H'→g x σ H' fun σ2 H2=>tb { D with nx:=N,ct:=N,bk:=D.nx } σ2 H2):=by
  refine ⟨fun i m σ H=>m=min xs.length ys.length - i∧i≤min xs.length ys.length∧Pv i σ H,⟨min xs.length ys.length,by simp,Nat.zero_le _,h0⟩,?_⟩
  rintro i m σ H ⟨rfl,hi,p⟩
  obtain ⟨q1,q2⟩:=hl i σ H p
  by_cases lt:i < min xs.length ys.length
  · have e1:xs[i]?=some xs[i]:=List.getElem?_eq_getElem (by omega)
    have e2:ys[i]?=some ys[i]:=List.getElem?_eq_getElem (by omega)
    refine .inr ⟨⟨xs,ys,_,_,q1,q2,e1,e2⟩,Pv (i+1),fun σ' H' p'=>⟨_,?_,rfl,lt,p'⟩,fun v H' yl=>?_⟩
    · omega
    · obtain ⟨T,hT,rfl,e⟩:=yl
      rw [e xs ys _ _ q1 q2 e1 e2]
      exact hs i _ _ σ H T e1 e2 p hT
  · have e:i=min xs.length ys.length:=by omega
    subst e
    exact .inl ⟨⟨xs,ys,q1,q2,by omega⟩,hd σ H p⟩
end L2
namespace L2
open PySem PySem.Spec PyProof.Rows
section
variable {X:Cx}
end
theorem mul_bits {a b:Int} {m n:Nat} (ha:a.natAbs < 2 ^ m) (hb:b.natAbs < 2 ^ n) (hm:m≤2 ^ 20) (hn:n≤2 ^ 20):IntMulOk a b :=
  .of_bits (Nat.le_trans (PyProof.Rows.intBits_le ha) hm) (Nat.le_trans (PyProof.Rows.intBits_le hb) hn)
end L2
namespace L2
open PySem PySem.Spec PyProof.Rows
theorem call_list_ofK {X:Cx} {K:PySem.W.Frag} (h:X.K=K):CallR X (.type "list") (fun xs H Q=>∃ p ys,xs=[.ref p]∧(SqL K H p ys∨SqT K H p ys)∧∀ l,H l=none→Q (.ref l) (upd H l (.lst ys))):=h ▸ call_list_of
end L2
namespace L2
open PySem PySem.Spec PyProof.Rows
def Ite (K:PySem.W.Frag) (a:Addr):It :=
  ⟨fun i H=>∃ xs x,SqL K H a xs∧xs[i]?=some x,
   fun i H v H'=>∃ T,H T=none∧v=.ref T∧∀ xs x,SqL K H a xs→xs[i]?=some x→H'=upd H T (.tup [.int i,x]),
   fun i H=>∃ xs,SqL K H a xs∧xs.length≤i⟩
def EnumSt (e it a:Addr) (i:Nat) (h:Heap):Prop:=(∃ old,IsEnum h e it i old)∧h.IsListIter it a i
theorem turn_enum {P:Program} {w:World} {K:PySem.W.Frag} {elts:List Expr} {x1} {tp:Pos} {e it a:Addr} (hne:e ≠ it) :
    Turn P w K (.Tuple elts x1 tp) (Ite K a) [e,it] e (EnumSt e it a) where
  mem:=by simp
  obj:=fun i h st c hc=>by
    obtain ⟨⟨old,g1⟩,⟨o2,g2,_,d2⟩⟩:=st
    simp only [List.mem_cons,List.not_mem_nil,or_false] at hc
    rcases hc with rfl | rfl
    · exact ⟨_,g1,fun v q=>nomatch q⟩
    · exact ⟨_,g2,fun v q=>by rw [d2] at q;cases q⟩
  keep:=fun i h h' st k=>by
    obtain ⟨⟨old,g1⟩,g2⟩:=st
    exact ⟨⟨old,k e (by simp) _ g1⟩,g2.at fun o q=>k it (by simp) o q⟩
  item:=by
    intro X hP hw hK hc i pins s σ H E I hf st hg
    subst hP hw hK
    obtain ⟨xs,x,qa,ex⟩:=hg
    obtain ⟨⟨old,g1⟩,g2⟩:=st
    obtain ⟨us,ru,pu,_⟩:=I.list qa
    obtain ⟨u,eu,r1⟩:=ru.get ex
    refine wpAny_pyNext_enum_item g1 g2 pu.isList (x:=u) (by simpa using eu) hne fun h1 a1 a2 a3 a4 a5=>?_
    refine ⟨_,rfl,wpAny_letOwnedTupleGo_enum (s:={ s with heap:=h1,toks:=s.toks+1 }) a1 fun h2 b1 b2=>?_⟩
    have nT:s.heap.get? s.heap.objs.size=none:=by
      cases q:s.heap.get? s.heap.objs.size with
      | none=>rfl
      | some o=>exact absurd (Heap.lt_size q) (Nat.lt_irrefl _)
    have hT:H s.heap.objs.size=none:=I.hok.fresh (Nat.le_refl _)
    have nz:s.heap.objs.size ≠ e:=Nat.ne_of_gt (Heap.lt_size g1)
    have kk:∀ c o,c ∉ [e,it]→s.heap.get? c=some o→h2.get? c=some o:=fun c o hc q=>by
      simp only [List.mem_cons,List.not_mem_nil,or_false,not_or] at hc
      exact b2.extBut _ _ hc.1 (a5 c o hc.1 hc.2 q)
    have J:=I.turnedPair (h':=h2) (ch:=[e,it]) (T:=s.heap.objs.size) (x:=.int i) (y:=x) (u:=.int i s.toks) (v:=u) (fun c hc=>hf c (by simp at hc ⊢;rcases hc with q | q <;> simp [q])) kk nT hT (b2.extBut _ _ nz a3) ⟨_,rfl⟩ r1
    refine ⟨.ref s.heap.objs.size,upd H s.heap.objs.size (.tup [.int i,x]),J.tok _,rfl,⟨_,hT,rfl,fun xs' x' q1 e1=>?_⟩,⟨⟨_,b1⟩,a2.extBut b2.extBut hne.symm⟩,fun c hc=>?_⟩
    · rw [I.list_inj q1 qa,ex] at e1
      cases e1
      rfl
    · have h0:=(hf c hc).1
      have:c ≠ s.heap.objs.size:=by
        obtain ⟨o2,g2',_⟩:=g2
        simp only [List.mem_cons,List.not_mem_nil,or_false] at hc
        rcases hc with rfl | rfl
        · exact nz.symm
        · exact Nat.ne_of_lt (Heap.lt_size g2')
      rw [upd_ne this];exact h0
  done:=by
    intro X hP hw hK hc i pins s σ H E I hf st hg
    subst hP hw hK
    obtain ⟨xs,qa,hl⟩:=hg
    obtain ⟨⟨old,g1⟩,g2⟩:=st
    obtain ⟨us,ru,pu,_⟩:=I.list qa
    have l1:=ru.length
    refine wpAny_pyNext_enum_end (I.ok.hd hc) g1 g2 pu.isList (by simp;omega) fun h2 k=>⟨rfl,I.turnedL (ch:=[e,it]) (fun c hc=>hf c (by simp at hc ⊢;rcases hc with q | q <;> simp [q])) fun c o hc q=>?_⟩
    simp only [List.mem_cons,List.not_mem_nil,or_false,not_or] at hc
    exact k c o hc.2 q
  self:=fun _ _ _ _ _ st h=>let ⟨⟨_,g⟩,_⟩:=st;wpAny_pyIter_enum g h
def iEnum (K:PySem.W.Frag) (ta:TA):TI:=fun σ H R=>ta σ H fun vs H1=>∃ a,vs=[.ref a]∧(∃ xs,SqL K H1 a xs)∧R (Ite K a) H1
section
variable {X:Cx}
theorem pi_enum {e1:Expr} {ta:TA} {p pos:Pos} {elts:List Expr} {x1} {tp:Pos} (hg:Gl X "enumerate") (hm:X.mg "enumerate" = none) (ha:PA X [e1] ta)
    (hs:starEach [e1] X.env=[(false,eval e1 X.env)]:=by rfl) :
    PI X (.Tuple elts x1 tp) (.Call (.Name "enumerate" p) [e1] [] pos) (iEnum X.K ta):=by
  intro pins s σ H R I h
  refine Call_ (ld_blt I hg hm PyProof.Rows.boot_enumerate (PyProof.Rows.callWith_type1 (thn (ha pos pins s σ H _ I h) fun us s1 ⟨vs,H1,I1,r1,q1⟩=>?_) (by rw [hs];rfl) rfl))
  obtain ⟨a,rfl,⟨xs,qa⟩,q⟩:=q1
  obtain ⟨u,rfl,ru⟩:=r1.one
  cases (show u=Value.ref a from ru)
  obtain ⟨us,_,pu,_⟩:=I1.list qa
  refine call_enumerate_list pu.isList fun h' z1 z2 z3 z4=>?_
  refine wpAny_pyIter_enum (s:={ s1 with heap:=h' }) z1 ?_
  refine ⟨s1.heap.objs.size+1,[s1.heap.objs.size+1,s1.heap.objs.size],EnumSt (s1.heap.objs.size+1) s1.heap.objs.size a,Ite X.K a,H1,rfl,I1.kept (t':=s1.toks) z4,turn_enum (Nat.ne_of_gt (Nat.lt_succ_self _)),⟨⟨_,z1⟩,z2⟩,fun c hc=>?_,q⟩
  have hc' : s1.heap.objs.size≤c:=by
    simp only [List.mem_cons,List.not_mem_nil,or_false] at hc
    rcases hc with rfl | rfl
    · exact Nat.le_succ _
    · exact Nat.le_refl _
  exact I1.fpOk hc' (I1.hok.fresh hc')
end
section
variable {gt:TG} {k:Nat} {fr:List Nat} {tt:TT} {te:TE}
theorem compG_enum {K:PySem.W.Frag} {a:Addr} {xs:List V} {σ:St} {H1:Hp} {Q:VK} (Pv:Addr→Nat→List V→Hp→Prop) (h0:∀ D,H1 D=none→Pv D 0 [] (upd H1 D (.lst [])))
    (hk:∀ D i ys H,H1 D=none→i≤xs.length→Pv D i ys H→SqL K H a xs)
    (hs:∀ D i x ys H T,H1 D=none→xs[i]?=some x→Pv D i ys H→H T=none→∀ ts:St,ts.length=k→gt (.ref T) (cmpStG σ fr ts) (upd H T (.tup [.int i,x])) fun σ2 H2=>(∃ ts2:St,ts2.length=k∧σ2=cmpStG σ fr ts2)∧tt σ2 H2 fun b H3=>if b=true then te σ2 H3 (CYes Pv D i xs.length) else CNext Pv D i xs.length H3)
    (hd:∀ D ys H,H1 D=none→Pv D xs.length ys H→Q (.ref D) H):CompAtG (Ite K a) gt k fr tt te σ Q H1:=by
  intro D hD
  refine ⟨fun i m H=>m=xs.length - i∧i≤xs.length∧∃ ys,Pv D i ys H,⟨_,rfl,Nat.zero_le _,[],h0 D hD⟩,?_⟩
  rintro i m H ⟨rfl,hi,ys,p⟩
  have q:=hk D i ys H hD hi p
  by_cases hlt:i < xs.length
  · have ex:xs[i]?=some xs[i]:=List.getElem?_eq_getElem hlt
    refine .inr ⟨⟨xs,xs[i],q,ex⟩,fun x H' y=>?_⟩
    obtain ⟨T,hT,rfl,e⟩:=y
    rw [e xs _ q ex]
    exact hs D i _ ys _ T hD ex p hT
  · have e:i=xs.length:=by omega
    subst e
    exact .inl ⟨⟨xs,q,Nat.le_refl _⟩,hd D ys H hD p⟩
theorem compG_zip {K:PySem.W.Frag} {a b:Addr} {xs ys:List V} {σ:St} {H1:Hp} {Q:VK} (Pv:Addr→Nat→List V→Hp→Prop) (h0:∀ D,H1 D=none→Pv D 0 [] (upd H1 D (.lst [])))
    (hk:∀ D i zs H,H1 D=none→i≤min xs.length ys.length→Pv D i zs H→SqL K H a xs∧SqL K H b ys)
    (hs:∀ D i x y zs H T,H1 D=none→xs[i]?=some x→ys[i]?=some y→Pv D i zs H→H T=none→∀ ts:St,ts.length=k→gt (.ref T) (cmpStG σ fr ts) (upd H T (.tup [x,y])) fun σ2 H2=>(∃ ts2:St,ts2.length=k∧σ2=cmpStG σ fr ts2)∧tt σ2 H2 fun b H3=>if b=true then te σ2 H3 (CYes Pv D i (min xs.length ys.length)) else CNext Pv D i (min xs.length ys.length) H3)
    (hd:∀ D zs H,H1 D=none→Pv D (min xs.length ys.length) zs H→Q (.ref D) H):CompAtG (Itz K a b) gt k fr tt te σ Q H1:=by
  intro D hD
  refine ⟨fun i m H=>m=min xs.length ys.length - i∧i≤min xs.length ys.length∧∃ zs,Pv D i zs H,⟨_,rfl,Nat.zero_le _,[],h0 D hD⟩,?_⟩
  rintro i m H ⟨rfl,hi,zs,p⟩
  obtain ⟨q1,q2⟩:=hk D i zs H hD hi p
  by_cases hlt:i < min xs.length ys.length
  · have ex:xs[i]?=some xs[i]:=List.getElem?_eq_getElem (by omega)
    have ey:ys[i]?=some ys[i]:=List.getElem?_eq_getElem (by omega)
    refine .inr ⟨⟨xs,ys,xs[i],ys[i],q1,q2,ex,ey⟩,fun x H' y=>?_⟩
    obtain ⟨T,hT,rfl,e⟩:=y
    rw [e xs ys _ _ q1 q2 ex ey]
    exact hs D i _ _ zs _ T hD ex ey p hT
  · have e:i=min xs.length ys.length:=by omega
    subst e
    exact .inl ⟨⟨xs,ys,q1,q2,by omega⟩,hd D zs H hD p⟩
end
theorem cmpOkG_free {X:Cx} {N:List Str} {k:Nat} {fr:List Nat} {scope:Scope} {cl:List (Str × Addr)} (clos:closureFor scope X.env=pure cl) (kind:scope.kind=.function) (nocell:∀ y ∈ scope.names,y.2 ≠ .cell)
    (names:∀ y ∈ scope.names,y.2=.local→scope.names.lookup y.1=some .local) (len:N.length=k+fr.length)
    (sub:((List.range fr.length).all fun i=>match N[k+i]?,fr[i]? with | some y,some j=>(X.N[j]? == some y) && ((X.env.kindOf y == some .cell) && ((relabel scope X.env).names.lookup y == some .cell)) | _,_=>false)=true)
    (cells:∀ p ∈ cl,X.env.cells.lookup p.1=some p.2) (has:((relabel scope X.env).names.all fun p=>(p.2 != .cell && p.2 != .free) || (cl.lookup p.1).isSome)=true):CmpOkG X N k fr scope cl:=by
  refine ⟨clos,kind,nocell,names,len,fun i y e=>?_,fun y c e=>cells _ (PySem.mem_of_lookup e),fun y h=>?_⟩
  · have hi:i < fr.length:=by have:=(List.getElem?_eq_some_iff.mp e).1;omega
    have z:=List.all_eq_true.mp sub i (List.mem_range.mpr hi)
    rw [e,List.getElem?_eq_getElem hi] at z
    simp only [Bool.and_eq_true,beq_iff_eq] at z
    exact ⟨_,List.getElem?_eq_getElem hi,z.1,.inl z.2.1,.inl z.2.2⟩
  · have look:∀ k,(relabel scope X.env).names.lookup y=some k→(k=.cell∨k=.free)→∃ c,cl.lookup y=some c:=fun k e hk=>by
      have z:=List.all_eq_true.mp has _ (PySem.mem_of_lookup e)
      rcases hk with rfl | rfl
      · exact Option.isSome_iff_exists.mp (by simpa using z)
      · exact Option.isSome_iff_exists.mp (by simpa using z)
    rcases h with h | h
    · exact look _ h (.inl rfl)
    · exact look _ h (.inr rfl)
theorem all_getD (bs:List Bool):(List.range bs.length).all (fun i=>bs.getD i true)=bs.all id:=by
  rw [Bool.eq_iff_iff,List.all_eq_true,List.all_eq_true]
  constructor
  · intro h b hb
    obtain ⟨i,hi,rfl⟩:=List.getElem_of_mem hb
    have:=h i (List.mem_range.mpr hi)
    simpa [List.getD_eq_getElem?_getD,hi] using this
  · intro h i hi
    have hi':=List.mem_range.mp hi
    have:=h bs[i] (List.getElem_mem hi')
    simpa [List.getD_eq_getElem?_getD,hi'] using this
section
variable {X:Cx}
theorem pt_truthK {K:PySem.W.Frag} (hK:X.K=K) {a:Expr} {ta:TE} (ha:PE X a ta) (he:∀ whole,isTrue a X.env whole=(do let v ← whole;standAt a.pos;holding [v] (truthy v)):=by intro _;rfl) :
    PT X a (fun σ H Q=>ta σ H fun x H'=>∃ k,TruV K x H' k∧Q k H'):=hK ▸ pt_truth ha he
theorem call_all_bools (hc:X.calm=true):CallR X (.builtin "all") (fun us H Q=>∃ (a:Addr) (bs:List Bool),us=[.ref a]∧SqL X.K H a (bs.map V.bl)∧Q (.bl (bs.all id)) H):=by
  intro pins s σ H us vs Q I r h
  obtain ⟨a,bs,rfl,hq,q⟩:=h
  obtain ⟨u,rfl,rx⟩:=r.one
  cases (show u=Value.ref a from rx)
  obtain ⟨its,rv,pl,hz⟩:=I.list hq
  have hl:=rv.length
  rw [List.length_map] at hl
  obtain ⟨o,eo,_⟩:=id pl.isList
  have la:a < s.heap.objs.size:=Heap.lt_size eo
  refine call_all_walk (wpAny_pyIter_list pl.isList ⟨s.heap.objs.size,[s.heap.objs.size,a],[s.heap.objs.size],its.toArray.size,_,_,fun i=>bs.getD i true,rfl,Walks.list (by simp [I.ok.hd hc]) _ a (Nat.ne_of_lt la) its.toArray,⟨⟨_,Heap.get?_push_size _ rfl,rfl,rfl⟩,pl.isList.push _⟩,?_,fun h' tk k=>?_⟩)
  · intro i v s2 Q2 E2 hp hq2
    have e1:its[i]?=some v:=by simpa using hp
    have hi:i < bs.length:=by have:=(List.getElem?_eq_some_iff.mp e1).1;omega
    obtain ⟨u,e2,ru⟩:=rv.get (show (bs.map V.bl)[i]?=some (.bl bs[i]) by rw [List.getElem?_map,List.getElem?_eq_getElem hi];rfl)
    rw [e1] at e2
    cases e2
    obtain rfl:v=.bool bs[i]:=ru
    refine wpAny_truthy_bool ?_
    have:bs.getD i true=bs[i]:=by simp [List.getD_eq_getElem?_getD,hi]
    replace hq2:Q2 (bs.getD i true) s2:=hq2
    rw [this] at hq2
    exact hq2
  · refine ⟨.bl (bs.all id),H,I.kept (t':=tk) fun b o e=>k b o (fun z=>?_) (Heap.get?_push_of_some _ e),?_,q⟩
    · have:b=s.heap.objs.size:=by simpa using z
      exact absurd (Heap.lt_size e) (by rw [this];exact Nat.lt_irrefl _)
    · show Value.bool ((List.range its.toArray.size).all fun i=>bs.getD i true)=.bool (bs.all id)
      rw [show its.toArray.size=bs.length by simp;omega,all_getD]
end
section
variable {X:Cx} {elt iter tg:Expr} {ifs:List Expr} {pos:Pos} {scope:Scope} {cl:List (Str × Addr)} {N:List Str} {k:Nat} {fr:List Nat} {gt:TG} {tt:TT} {te:TE}
theorem ps_compG {wi:TI} {i:Nat} {y:Str} {py spos:Pos} (hN:X.N.Nodup) (hy:X.N[i]?=some y) (hl:Loc X.env.scope y) (hi:PI X tg iter wi) (O:CmpOkG X N k fr scope cl) (hc:X.calm=true) (hg:∀ fp C s H,PG (cmpCx X N scope cl fp C s H) tg gt)
    (ht:∀ fp C s H,PIf (cmpCx X N scope cl fp C s H) ifs tt) (he:∀ fp C s H,PE (cmpCx X N scope cl fp C s H) elt te) (hs:∀ v,foldedSetIterable iter X.env v=pure v:=by intro _;rfl)
    (hsw:swapsWith (.ListComp elt [⟨tg,iter,ifs,0⟩] scope pos) (some (.Name y py)) spos.line X.env=pure true:=by rfl) (hf:X.fn y=true∨X.env.scope.names.lookup y=some .local:=by first | exact .inl rfl | exact .inr rfl | assumption) :
    PS X (.Assign [.Name y py] (.ListComp elt [⟨tg,iter,ifs,0⟩] scope pos) spos) (tAsg (tCompG wi gt k fr tt te) (gName i)):=by
  intro pins s σ H D0 I h
  rw [exec_Assign_Name_used _ _ _ _ hsw]
  refine wpAny_bind (wpAny_standAt (wpAny_bind ?_))
  show wpAny _ X.A (do let _ ← comprehension (.ListComp elt [⟨tg,iter,ifs,0⟩] scope pos) scope X.env _ (newList []) false (eval iter X.env) (some (assign (.Name y py) X.env))) _ _ s
  refine wpAny_bind (wpAny_mono (wpAny_comprehension_free (use:=some (assign (.Name y py) X.env)) (Q:=fun _ s'=>SP X pins D0 .next s') rfl hs O.clos O.kind O.names (thn (hi pins s σ H _ I h) fun v s1 h1=>thn h1 fun itv s2 h2=>?_)) (fun _ s' hq=>wpAny_pure (wpAny_pure hq)) fun _ _ z=>z)
  obtain ⟨it,fp,tn,J,H2,e,I2,T,st2,f2,hW⟩:=h2
  subst e
  refine comp_coreG (Q:=fun v H1=>gName i v σ H1 D0.nx) (RR:=fun acc C=>compPost (model X.prog X.w) X.A X.xe (some (assign (.Name y py) X.env)) (fun _ s'=>SP X pins D0 .next s') acc C) O hc I2 T st2 f2 ht he hg hW fun D C s' H' hC hn ⟨m,hm⟩ I' q=>?_
  show wpAny _ X.A (assign (.Name y py) X.env (.ref D)) _ _ s'
  refine wpAny_assign_Name (store_ok2 I' hN hy hl (v:=.ref D) rfl (fun s3 I3 ⟨a,hsa,ha⟩=>?_) hf)
  have hCa:C ≠ a:=by
    rcases ha with z | z
    · rw [z];exact Nat.ne_of_gt (Nat.lt_of_lt_of_le I2.lt hC)
    · obtain ⟨v,o,ho,_⟩:=I2.cell y a z
      exact Nat.ne_of_gt (Nat.lt_of_lt_of_le (Heap.lt_size ho) hC)
  exact ⟨m,hm.sameBut hsa hCa,fun h' hs'=>⟨_,H',I2.left I3 hC hn hs',q⟩⟩
end
end L2
namespace L2
open PySem
set_option maxRecDepth 100000
section
variable {prog:Program} {w:World} {A:Around} {E:Value→Shared→Prop} {s:Shared}
end
section
variable {X:Cx}
def tLR (K:PySem.W.Frag) (ta:TA):TE:=fun σ H Q=>ta σ H fun vs H1=>∃ a xs,vs=[.ref a]∧SqL K H1 a xs∧∀ p,H1 p=none→Q (.ref p) (upd H1 p (.lst xs.reverse))
end
end L2
namespace L2
open PySem
theorem for_enum {K:PySem.W.Frag} {a:Addr} {xs:List V} {g:TG} {tb:TS} {D:Ends} {σ:St} {H:Hp} (Pv:Nat→St→Hp→Prop) (h0:Pv 0 σ H) (hl:∀ i σ H,Pv i σ H→SqL K H a xs)
    (hs:∀ i x σ H T,xs[i]?=some x→Pv i σ H→H T=none→g (.ref T) σ (upd H T (.tup [.int i,x])) fun σ2 H2=>tb { D with nx:=Pv (i+1),ct:=Pv (i+1),bk:=D.nx } σ2 H2)
    (hd:∀ σ H,Pv xs.length σ H→D.nx σ H) :
    ∃ W:Nat→Nat→St→Hp→Prop,(∃ m,W 0 m σ H)∧∀ i m σ H,W i m σ H →
      ((Ite K a).stop i H∧D.nx σ H)∨((Ite K a).go i H∧∃ N:St→Hp→Prop,(∀ σ' H',N σ' H'→∃ m',m' < m∧W (i+1) m' σ' H')∧∀ x H',(Ite K a).yld i H x H'→g x σ H' fun σ2 H2=>tb { D with nx:=N,ct:=N,bk:=D.nx } σ2 H2):=by
  refine ⟨fun i m σ H=>m=xs.length - i∧i≤xs.length∧Pv i σ H,⟨xs.length,by simp,Nat.zero_le _,h0⟩,?_⟩
  rintro i m σ H ⟨rfl,hi,p⟩
  have q1:=hl i σ H p
  by_cases lt:i < xs.length
  · have e1:xs[i]?=some xs[i]:=List.getElem?_eq_getElem lt
    refine .inr ⟨⟨xs,_,q1,e1⟩,Pv (i+1),fun σ' H' p'=>⟨_,?_,rfl,lt,p'⟩,fun v H' yl=>?_⟩
    · omega
    · obtain ⟨T,hT,rfl,e⟩:=yl
      rw [e xs _ q1 e1]
      exact hs i _ σ H T e1 p hT
  · have e:i=xs.length:=by omega
    subst e
    exact .inl ⟨⟨xs,q1,Nat.le_refl _⟩,hd σ H p⟩
end L2
namespace L2
open PySem PySem.Spec PyProof.Rows
def cmpEnvN (scope:Scope) (cl:List (Str × Addr)) (C:Addr) (env:Env):Env :=
  { scope:=relabel scope env,locals:=C,globals:=env.globals,cells:=cellsFrom (C+1) scope.names cl,qual:=env.qual,func:=none,code:=env.code,frame:=env.frame,builtins:=env.builtins }
def cmpCxN (X:Cx) (N:List Str) (scope:Scope) (cl:List (Str × Addr)) (fp:List Addr) (C:Addr) (s2:Shared) (H2:Hp):Cx :=
  { prog:=X.prog,w:=X.w,K:=X.K,mg:=X.mg,base:=X.base,A:=X.A,N:=N,s₀:=s2,H₀:=H2,env:=cmpEnvN scope cl C X.env,outer:=X.stack,stack:=X.stack,ex:=fp,fn:=fun y=>scope.names.lookup y == some .cell,calm:=X.calm,pn:=[],xe:=fun _ _=>False }
structure CmpOkN (X:Cx) (N:List Str) (k:Nat) (fr:List Nat) (scope:Scope) (cl:List (Str × Addr)):Prop where
  clos:closureFor scope X.env=pure cl
  kind:scope.kind=.function
  names:∀ y ∈ scope.names,y.2=.local→scope.names.lookup y.1=some .local
  len:N.length=k+fr.length
  sub:∀ (i:Nat) (y:Str),N[k+i]?=some y→∃ j,fr[i]?=some j∧X.N[j]?=some y∧(X.env.kindOf y=some .cell∨X.env.kindOf y=some .free)∧((relabel scope X.env).names.lookup y=some .cell∨(relabel scope X.env).names.lookup y=some .free)∧∃ c,cl.lookup y=some c∧∀ C:Addr,(cellsFrom (C+1) scope.names cl).lookup y=some c
  cells:∀ y c,cl.lookup y=some c→X.env.cells.lookup y=some c
  has:∀ (C:Addr) (y:Str),((relabel scope X.env).names.lookup y=some .cell∨(relabel scope X.env).names.lookup y=some .free)→∃ c,(cellsFrom (C+1) scope.names cl).lookup y=some c
section
variable {X:Cx} {elt iter tg:Expr} {ifs:List Expr} {pos:Pos} {scope:Scope} {cl:List (Str × Addr)} {N:List Str} {k:Nat} {fr:List Nat} {gt:TG} {tt:TT} {te:TE}
end
def SubN (X:Cx) (N:List Str) (scope:Scope) (cl:List (Str × Addr)):List Nat→Nat→Prop
  | [],_=>True
  | j :: fr,i=>(∃ (y:Str) (c:Addr),N[i]?=some y∧X.N[j]?=some y∧X.env.kindOf y=some .cell∧(relabel scope X.env).names.lookup y=some .cell∧cl.lookup y=some c∧∀ C:Addr,(cellsFrom (C+1) scope.names cl).lookup y=some c)∧SubN X N scope cl fr (i+1)
def rInsert:V→List V→Hp→VK→Prop:=fun x vs H Q=>∃ (l:Addr) (xs:List V) (i:Int) (k:Nat) (y:V),x=.ref l∧vs=[.int i,y]∧i=(k:Int)∧H l=some (.lst xs)∧k≤xs.length∧xs.length < sizeLine∧Q .non (upd H l (.lst (xs.take k ++ y :: xs.drop k)))
end L2
set_option Elab.async false
set_option maxRecDepth 100000
set_option maxHeartbeats 4000000
set_option linter.all false
namespace My
open PySem L2
def top (i:Nat):Stmt:=PySem.Challenge.pw_rowjudge_k65_knit.main.body.getD i (.Pass ⟨0,0,0,0⟩)
abbrev Y33:Stmt:=top 13
abbrev Y38:Stmt:=top 14
abbrev Y37:Stmt:=top 15
abbrev Y31:Stmt:=top 19
abbrev Y73:Stmt:=top 21
abbrev Y36:Stmt:=top 22
abbrev Y34:Stmt:=top 23
abbrev Y67:Stmt:=top 24
abbrev Y75:Stmt:=top 35
abbrev Y70:Stmt:=top 40
abbrev Y69:Stmt:=top 41
abbrev Y72:Stmt:=top 42
abbrev Y71:Stmt:=top 43
abbrev Y68:Stmt:=top 44
abbrev Y35:Stmt:=top 45
abbrev Y65:Stmt:=top 46
abbrev Y42:Stmt:=top 47
abbrev Y74:Stmt:=top 48
abbrev Y77:Stmt:=top 49
abbrev Y43:Stmt:=top 52
abbrev Y39:Stmt:=top 53
abbrev Y41:Stmt:=top 54
abbrev Y32:Stmt:=top 55
abbrev Y66:Stmt:=top 56
abbrev Y40:Stmt:=top 57
abbrev Y76:Stmt:=top 58
abbrev Y47:Stmt:=top 60
abbrev Y56:Stmt:=top 61
abbrev Y60:Stmt:=top 62
abbrev Y64:Stmt:=top 63
abbrev Y49:Stmt:=top 64
abbrev Y50:Stmt:=top 65
abbrev Y61:Stmt:=top 66
abbrev Y45:Stmt:=top 67
abbrev Y46:Stmt:=top 68
abbrev Y58:Stmt:=top 69
abbrev Y62:Stmt:=top 70
abbrev Y57:Stmt:=top 71
abbrev Y48:Stmt:=top 72
abbrev Y52:Stmt:=top 73
abbrev Y63:Stmt:=top 74
abbrev Y51:Stmt:=top 75
abbrev Y59:Stmt:=top 76
abbrev Y53:Stmt:=top 77
abbrev Y54:Stmt:=top 78
abbrev Y55:Stmt:=top 79
abbrev Y17:Stmt:=inClass (top 39) 0
abbrev Y4:Stmt:=inClass (top 29) 0
abbrev Y18:Stmt:=inClass (top 28) 0
abbrev Y13:Stmt:=inClass (top 30) 0
abbrev Y22:Stmt:=inClass (top 28) 0
abbrev Y8:Stmt:=inClass (top 31) 0
abbrev Y20:Stmt:=inClass (top 28) 0
abbrev Y10:Stmt:=inClass (top 32) 0
abbrev Y21:Stmt:=inClass (top 28) 0
abbrev Y6:Stmt:=inClass (top 33) 0
abbrev Y19:Stmt:=inClass (top 28) 0
abbrev Y15:Stmt:=inClass (top 34) 0
abbrev Y23:Stmt:=inClass (top 28) 0
abbrev Y2:Stmt:=inClass (top 16) 5
abbrev Y3:Stmt:=inClass (top 16) 5
abbrev Y12:Stmt:=inClass (top 17) 0
abbrev Y0:Stmt:=inClass (top 16) 0
abbrev Y30:Stmt:=inClass (top 18) 0
abbrev Y1:Stmt:=inClass (top 16) 0
abbrev Y24:Stmt:=inClass (top 28) 1
abbrev Y5:Stmt:=inClass (top 29) 1
abbrev Y28:Stmt:=inClass (top 28) 1
abbrev Y14:Stmt:=inClass (top 30) 1
abbrev Y26:Stmt:=inClass (top 28) 1
abbrev Y9:Stmt:=inClass (top 31) 1
abbrev Y27:Stmt:=inClass (top 28) 1
abbrev Y11:Stmt:=inClass (top 32) 1
abbrev Y25:Stmt:=inClass (top 28) 1
abbrev Y7:Stmt:=inClass (top 33) 1
abbrev Y29:Stmt:=inClass (top 28) 1
abbrev Y16:Stmt:=inClass (top 34) 1
abbrev Y44:Stmt:=top 80
theorem Z33:FnScope ["text", "signs", "sign"] ["text", "signs"] (defScope Y33):=⟨rfl,rfl,rfl,by decide +kernel,rfl,by decide +kernel,by decide +kernel⟩
theorem Z38:FnScope ["text"] ["text"] (defScope Y38):=⟨rfl,rfl,rfl,by decide +kernel,rfl,by decide +kernel,by decide +kernel⟩
theorem Z37:FnScope ["value"] ["value"] (defScope Y37):=⟨rfl,rfl,rfl,by decide +kernel,rfl,by decide +kernel,by decide +kernel⟩
theorem Z31:FnScope ["one", "other"] ["one", "other"] (defScope Y31):=⟨rfl,rfl,rfl,by decide +kernel,rfl,by decide +kernel,by decide +kernel⟩
theorem Z73:FnScope ["pairs", "spans", "low", "high"] ["pairs"] (defScope Y73):=⟨rfl,rfl,rfl,by decide +kernel,rfl,by decide +kernel,by decide +kernel⟩
theorem Z36:FnScope ["spans", "number", "low", "high"] ["spans", "number"] (defScope Y36):=⟨rfl,rfl,rfl,by decide +kernel,rfl,by decide +kernel,by decide +kernel⟩
theorem Z34:FnScope ["ones", "others"] ["ones", "others"] (defScope Y34):=⟨rfl,rfl,rfl,by decide +kernel,rfl,by decide +kernel,by decide +kernel⟩
theorem Z67:FnScope ["ones", "others", "at_one", "at_other", "one", "other"] ["ones", "others"] (defScope Y67):=⟨rfl,rfl,rfl,by decide +kernel,rfl,by decide +kernel,by decide +kernel⟩
theorem Z75:FnScope ["name", "way"] ["name"] (defScope Y75):=⟨rfl,rfl,rfl,by decide +kernel,rfl,by decide +kernel,by decide +kernel⟩
theorem Z70:FnScope ["names", "name"] ["names"] (defScope Y70):=⟨rfl,rfl,rfl,by decide +kernel,rfl,by decide +kernel,by decide +kernel⟩
theorem Z69:FnScope ["names", "rows"] ["names", "rows"] (defScope Y69):=⟨rfl,rfl,rfl,by decide +kernel,rfl,by decide +kernel,by decide +kernel⟩
theorem Z72:FnScope ["way", "outcome"] ["way", "outcome"] (defScope Y72):=⟨rfl,rfl,rfl,by decide +kernel,rfl,by decide +kernel,by decide +kernel⟩
theorem Z71:FnScope ["domains", "outcome", "cells", "code", "domain", "spans", "low", "high"] ["domains", "outcome", "cells", "code"] (defScope Y71):=⟨rfl,rfl,rfl,by decide +kernel,rfl,by decide +kernel,by decide +kernel⟩
theorem Z68:FnScope ["cells", "code"] ["cells", "code"] (defScope Y68):=⟨rfl,rfl,rfl,by decide +kernel,rfl,by decide +kernel,by decide +kernel⟩
theorem Z35:FnScope ["table", "k", "codes", "cells", "spans", "code"] ["table", "k", "codes"] (defScope Y35):=⟨rfl,rfl,rfl,by decide +kernel,rfl,by decide +kernel,by decide +kernel⟩
theorem Z65:FnScope ["table", "codes"] ["table", "codes"] (defScope Y65):=⟨rfl,rfl,rfl,by decide +kernel,rfl,by decide +kernel,by decide +kernel⟩
theorem Z42:FnScope ["table", "rows", "codes"] ["table", "rows"] (defScope Y42):=⟨rfl,rfl,rfl,by decide +kernel,rfl,by decide +kernel,by decide +kernel⟩
theorem Z74:FnScope ["table", "codes"] ["table", "codes"] (defScope Y74):=⟨rfl,rfl,rfl,by decide +kernel,rfl,by decide +kernel,by decide +kernel⟩
theorem Z77:FnScope ["table", "rows"] ["table", "rows"] (defScope Y77):=⟨rfl,rfl,rfl,by decide +kernel,rfl,by decide +kernel,by decide +kernel⟩
theorem Z43:FnScope ["table", "rows", "fewer"] ["table"] (defScope Y43):=⟨rfl,rfl,rfl,by decide +kernel,rfl,by decide +kernel,by decide +kernel⟩
theorem Z39:FnScope ["rows", "way", "k", "column"] ["rows", "way"] (defScope Y39):=⟨rfl,rfl,rfl,by decide +kernel,rfl,by decide +kernel,by decide +kernel⟩
theorem Z41:FnScope ["row", "behind", "way", "column"] ["row", "behind", "way"] (defScope Y41):=⟨rfl,rfl,rfl,by decide +kernel,rfl,by decide +kernel,by decide +kernel⟩
theorem Z32:FnScope ["cells", "others", "column"] ["cells", "others", "column"] (defScope Y32):=⟨rfl,rfl,rfl,by decide +kernel,rfl,by decide +kernel,by decide +kernel⟩
theorem Z66:FnScope ["spans", "others", "way"] ["spans", "others", "way"] (defScope Y66):=⟨rfl,rfl,rfl,by decide +kernel,rfl,by decide +kernel,by decide +kernel⟩
theorem Z40:FnScope ["row", "behind", "column"] ["row", "behind", "column"] (defScope Y40):=⟨rfl,rfl,rfl,by decide +kernel,rfl,by decide +kernel,by decide +kernel⟩
theorem Z76:FnScope ["cells", "column", "spans"] ["cells", "column", "spans"] (defScope Y76):=⟨rfl,rfl,rfl,by decide +kernel,rfl,by decide +kernel,by decide +kernel⟩
theorem Z47:FnScope ["script", "k"] ["script", "k"] (defScope Y47):=⟨rfl,rfl,rfl,by decide +kernel,rfl,by decide +kernel,by decide +kernel⟩
theorem Z56:FnScope ["cell", "k", "big"] ["cell", "k"] (defScope Y56):=⟨rfl,rfl,rfl,by decide +kernel,rfl,by decide +kernel,by decide +kernel⟩
theorem Z60:FnScope ["cells", "most", "seeds", "k", "cell", "at"] ["cells", "most"] (defScope Y60):=⟨rfl,rfl,rfl,by decide +kernel,rfl,by decide +kernel,by decide +kernel⟩
theorem Z64:FnScope ["cell", "k", "ahead", "behind"] ["cell", "k"] (defScope Y64):=⟨rfl,rfl,rfl,by decide +kernel,rfl,by decide +kernel,by decide +kernel⟩
theorem Z49:FnScope ["m", "most", "words", "at", "pairs", "k", "wide"] ["m", "most"] (defScope Y49):=⟨rfl,rfl,rfl,by decide +kernel,rfl,by decide +kernel,by decide +kernel⟩
theorem Z50:FnScope ["column"] ["column"] (defScope Y50):=⟨rfl,rfl,rfl,by decide +kernel,rfl,by decide +kernel,by decide +kernel⟩
theorem Z61:FnScope ["pairs", "bits", "spans", "k", "pair"] ["pairs", "bits"] (defScope Y61):=⟨rfl,rfl,rfl,by decide +kernel,rfl,by decide +kernel,by decide +kernel⟩
theorem Z45:FnScope ["m", "columns", "out", "last", "bits", "seed", "j", "column", "every", "code", "at"] ["m", "columns", "out", "last"] (defScope Y45):=⟨rfl,rfl,rfl,by decide +kernel,rfl,by decide +kernel,by decide +kernel⟩
theorem Z46:FnScope ["seeds", "columns", "out", "rows", "last", "m"] ["seeds", "columns", "out"] (defScope Y46):=⟨rfl,rfl,rfl,by decide +kernel,rfl,by decide +kernel,by decide +kernel⟩
theorem Z58:FnScope ["bit_rows", "columns", "rows", "bits", "code"] ["bit_rows", "columns"] (defScope Y58):=⟨rfl,rfl,rfl,by decide +kernel,rfl,by decide +kernel,by decide +kernel⟩
theorem Z62:FnScope ["head", "columns", "out", "way", "bit_rows", "names", "domains"] ["head", "columns", "out", "way", "bit_rows"] (defScope Y62):=⟨rfl,rfl,rfl,by decide +kernel,rfl,by decide +kernel,by decide +kernel⟩
theorem Z57:FnScope ["columns", "points", "column", "more", "point", "k"] ["columns"] (defScope Y57):=⟨rfl,rfl,rfl,by decide +kernel,rfl,by decide +kernel,by decide +kernel⟩
theorem Z48:FnScope ["columns", "point", "turn"] ["columns", "point", "turn"] (defScope Y48):=⟨rfl,rfl,rfl,by decide +kernel,rfl,by decide +kernel,by decide +kernel⟩
theorem Z52:FnScope ["bit_row", "point"] ["bit_row", "point"] (defScope Y52):=⟨rfl,rfl,rfl,by decide +kernel,rfl,by decide +kernel,by decide +kernel⟩
theorem Z63:FnScope ["turn", "out", "way"] ["turn", "out"] (defScope Y63):=⟨rfl,rfl,rfl,by decide +kernel,rfl,by decide +kernel,by decide +kernel⟩
theorem Z51:FnScope ["way", "bit_rows", "out", "point", "codes"] ["way", "bit_rows", "out", "point"] (defScope Y51):=⟨rfl,rfl,rfl,by decide +kernel,rfl,by decide +kernel,by decide +kernel⟩
theorem Z59:FnScope ["found", "due"] ["found", "due"] (defScope Y59):=⟨rfl,rfl,rfl,by decide +kernel,rfl,by decide +kernel,by decide +kernel⟩
theorem Z53:FnScope ["way", "one", "other", "at", "mine", "rest"] ["way", "one", "other"] (defScope Y53):=⟨rfl,rfl,rfl,by decide +kernel,rfl,by decide +kernel,by decide +kernel⟩
theorem Z54:FnScope ["way", "bit_rows", "rows", "k", "at", "bits"] ["way", "bit_rows"] (defScope Y54):=⟨rfl,rfl,rfl,by decide +kernel,rfl,by decide +kernel,by decide +kernel⟩
theorem Z55:FnScope ["found", "table", "rows", "one", "other"] ["found", "table", "rows"] (defScope Y55):=⟨rfl,rfl,rfl,by decide +kernel,rfl,by decide +kernel,by decide +kernel⟩
theorem Z17:FnScope ["self", "name", "names", "domains", "outcome", "way", "rows", "cells", "code"] ["self", "name", "names", "domains", "outcome", "way", "rows"] (defScope Y17):=⟨rfl,rfl,rfl,by decide +kernel,rfl,by decide +kernel,by decide +kernel⟩
theorem Z4:FnScope ["self"] ["self"] (defScope Y4):=⟨rfl,rfl,rfl,by decide +kernel,rfl,by decide +kernel,by decide +kernel⟩
theorem Z18:FnScope ["self", "called"] ["self", "called"] (defScope Y18):=⟨rfl,rfl,rfl,by decide +kernel,rfl,by decide +kernel,by decide +kernel⟩
theorem Z13:FnScope ["self"] ["self"] (defScope Y13):=⟨rfl,rfl,rfl,by decide +kernel,rfl,by decide +kernel,by decide +kernel⟩
theorem Z22:FnScope ["self", "called"] ["self", "called"] (defScope Y22):=⟨rfl,rfl,rfl,by decide +kernel,rfl,by decide +kernel,by decide +kernel⟩
theorem Z8:FnScope ["self"] ["self"] (defScope Y8):=⟨rfl,rfl,rfl,by decide +kernel,rfl,by decide +kernel,by decide +kernel⟩
theorem Z20:FnScope ["self", "called"] ["self", "called"] (defScope Y20):=⟨rfl,rfl,rfl,by decide +kernel,rfl,by decide +kernel,by decide +kernel⟩
theorem Z10:FnScope ["self"] ["self"] (defScope Y10):=⟨rfl,rfl,rfl,by decide +kernel,rfl,by decide +kernel,by decide +kernel⟩
theorem Z21:FnScope ["self", "called"] ["self", "called"] (defScope Y21):=⟨rfl,rfl,rfl,by decide +kernel,rfl,by decide +kernel,by decide +kernel⟩
theorem Z6:FnScope ["self"] ["self"] (defScope Y6):=⟨rfl,rfl,rfl,by decide +kernel,rfl,by decide +kernel,by decide +kernel⟩
theorem Z19:FnScope ["self", "called"] ["self", "called"] (defScope Y19):=⟨rfl,rfl,rfl,by decide +kernel,rfl,by decide +kernel,by decide +kernel⟩
theorem Z15:FnScope ["self"] ["self"] (defScope Y15):=⟨rfl,rfl,rfl,by decide +kernel,rfl,by decide +kernel,by decide +kernel⟩
theorem Z23:FnScope ["self", "called"] ["self", "called"] (defScope Y23):=⟨rfl,rfl,rfl,by decide +kernel,rfl,by decide +kernel,by decide +kernel⟩
theorem Z2:FnScope ["self", "value"] ["self", "value"] (defScope Y2):=⟨rfl,rfl,rfl,by decide +kernel,rfl,by decide +kernel,by decide +kernel⟩
theorem Z3:FnScope ["self", "value"] ["self", "value"] (defScope Y3):=⟨rfl,rfl,rfl,by decide +kernel,rfl,by decide +kernel,by decide +kernel⟩
theorem Z12:FnScope ["self", "low", "high"] ["self", "low", "high"] (defScope Y12):=⟨rfl,rfl,rfl,by decide +kernel,rfl,by decide +kernel,by decide +kernel⟩
theorem Z0:FnScope ["self", "low", "high"] ["self", "low", "high"] (defScope Y0):=⟨rfl,rfl,rfl,by decide +kernel,rfl,by decide +kernel,by decide +kernel⟩
theorem Z30:FnScope ["self", "words", "word"] ["self", "words"] (defScope Y30):=⟨rfl,rfl,rfl,by decide +kernel,rfl,by decide +kernel,by decide +kernel⟩
theorem Z1:FnScope ["self", "low", "high"] ["self", "low", "high"] (defScope Y1):=⟨rfl,rfl,rfl,by decide +kernel,rfl,by decide +kernel,by decide +kernel⟩
theorem Z24:FnScope ["self", "codes", "outcome"] ["self", "codes", "outcome"] (defScope Y24):=⟨rfl,rfl,rfl,by decide +kernel,rfl,by decide +kernel,by decide +kernel⟩
theorem Z5:FnScope ["self", "codes", "outcome"] ["self", "codes", "outcome"] (defScope Y5):=⟨rfl,rfl,rfl,by decide +kernel,rfl,by decide +kernel,by decide +kernel⟩
theorem Z28:FnScope ["self", "codes", "outcome"] ["self", "codes", "outcome"] (defScope Y28):=⟨rfl,rfl,rfl,by decide +kernel,rfl,by decide +kernel,by decide +kernel⟩
theorem Z14:FnScope ["self", "codes", "outcome"] ["self", "codes", "outcome"] (defScope Y14):=⟨rfl,rfl,rfl,by decide +kernel,rfl,by decide +kernel,by decide +kernel⟩
theorem Z26:FnScope ["self", "codes", "outcome"] ["self", "codes", "outcome"] (defScope Y26):=⟨rfl,rfl,rfl,by decide +kernel,rfl,by decide +kernel,by decide +kernel⟩
theorem Z9:FnScope ["self", "codes", "outcome"] ["self", "codes", "outcome"] (defScope Y9):=⟨rfl,rfl,rfl,by decide +kernel,rfl,by decide +kernel,by decide +kernel⟩
theorem Z27:FnScope ["self", "codes", "outcome"] ["self", "codes", "outcome"] (defScope Y27):=⟨rfl,rfl,rfl,by decide +kernel,rfl,by decide +kernel,by decide +kernel⟩
theorem Z11:FnScope ["self", "codes", "outcome"] ["self", "codes", "outcome"] (defScope Y11):=⟨rfl,rfl,rfl,by decide +kernel,rfl,by decide +kernel,by decide +kernel⟩
theorem Z25:FnScope ["self", "codes", "outcome"] ["self", "codes", "outcome"] (defScope Y25):=⟨rfl,rfl,rfl,by decide +kernel,rfl,by decide +kernel,by decide +kernel⟩
theorem Z7:FnScope ["self", "codes", "outcome"] ["self", "codes", "outcome"] (defScope Y7):=⟨rfl,rfl,rfl,by decide +kernel,rfl,by decide +kernel,by decide +kernel⟩
theorem Z29:FnScope ["self", "codes", "outcome"] ["self", "codes", "outcome"] (defScope Y29):=⟨rfl,rfl,rfl,by decide +kernel,rfl,by decide +kernel,by decide +kernel⟩
theorem Z16:FnScope ["self", "codes", "outcome"] ["self", "codes", "outcome"] (defScope Y16):=⟨rfl,rfl,rfl,by decide +kernel,rfl,by decide +kernel,by decide +kernel⟩
theorem Z44:FnScope ["script", "head", "turn", "count", "columns", "out", "way", "bit_rows", "table", "found", "due", "point", "told"] ["script"] (defScope Y44):=⟨rfl,rfl,rfl,by decide +kernel,rfl,by decide +kernel,by decide +kernel⟩
structure Bl (K:PySem.W.Frag) (mg:Str→Option Value) (qA qB qC qD qE qF qG qH qI qJ qK qL qM qN:Addr):Prop where
  Way_:mg "Way" = some (.ref qA)
  n_Way:PySem.W.nsIn K mainGlobals "Way" = some (some (.ref qA))
  First_:mg "First" = some (.ref qB)
  n_First:PySem.W.nsIn K mainGlobals "First" = some (some (.ref qB))
  Only_:mg "Only" = some (.ref qC)
  n_Only:PySem.W.nsIn K mainGlobals "Only" = some (some (.ref qC))
  Like_:mg "Like" = some (.ref qD)
  n_Like:PySem.W.nsIn K mainGlobals "Like" = some (some (.ref qD))
  Low_:mg "Low" = some (.ref qE)
  n_Low:PySem.W.nsIn K mainGlobals "Low" = some (some (.ref qE))
  High_:mg "High" = some (.ref qF)
  n_High:PySem.W.nsIn K mainGlobals "High" = some (some (.ref qF))
  Sum_:mg "Sum" = some (.ref qG)
  n_Sum:PySem.W.nsIn K mainGlobals "Sum" = some (some (.ref qG))
  Domain_:mg "Domain" = some (.ref qH)
  n_Domain:PySem.W.nsIn K mainGlobals "Domain" = some (some (.ref qH))
  Numbers_:mg "Numbers" = some (.ref qI)
  n_Numbers:PySem.W.nsIn K mainGlobals "Numbers" = some (some (.ref qI))
  Words_:mg "Words" = some (.ref qJ)
  n_Words:PySem.W.nsIn K mainGlobals "Words" = some (some (.ref qJ))
  Table_:mg "Table" = some (.ref qK)
  n_Table:PySem.W.nsIn K mainGlobals "Table" = some (some (.ref qK))
  k_First:Cls K qB
  k_Only:Cls K qC
  k_Like:Cls K qD
  k_Low:Cls K qE
  k_High:Cls K qF
  k_Sum:Cls K qG
  k_Numbers:Cls K qI
  k_Words:Cls K qJ
  k_Table:Cls K qK
  t_First:InsT K qB
  t_Only:InsT K qC
  t_Like:InsT K qD
  t_Low:InsT K qE
  t_High:InsT K qF
  t_Sum:InsT K qG
  t_Numbers:InsT K qI
  t_Words:InsT K qJ
  t_Table:InsT K qK
  NONE_:mg "NONE" = some (.ref qL)
  q_NONE:ModT K qL [.str "none",.int (0)]
  CLASH_:mg "CLASH" = some (.ref qM)
  q_CLASH:ModT K qM [.str "clash",.int (0)]
  COUNTING_WAYS_:mg "COUNTING_WAYS" = some (.ref qN)
  q_COUNTING_WAYS:ModT K qN [.str "only",.str "sum"]
  na_First_called:NoAttr K qB "called"
  na_Only_called:NoAttr K qC "called"
  na_Like_called:NoAttr K qD "called"
  na_Low_called:NoAttr K qE "called"
  na_High_called:NoAttr K qF "called"
  na_Sum_called:NoAttr K qG "called"
  na_Numbers_low:NoAttr K qI "low"
  na_Numbers_high:NoAttr K qI "high"
  na_Numbers_words:NoAttr K qI "words"
  na_Words_low:NoAttr K qJ "low"
  na_Words_high:NoAttr K qJ "high"
  na_Words_words:NoAttr K qJ "words"
  na_Table_name:NoAttr K qK "name"
  na_Table_names:NoAttr K qK "names"
  na_Table_domains:NoAttr K qK "domains"
  na_Table_outcome:NoAttr K qK "outcome"
  na_Table_way:NoAttr K qK "way"
  na_Table_rows:NoAttr K qK "rows"
  f_nn:PySem.W.kitOne K (.ref qI) (.ref qI)=some true
  f_wn:PySem.W.kitOne K (.ref qJ) (.ref qI)=some false
  f_ww:PySem.W.kitOne K (.ref qJ) (.ref qJ)=some true
  f_tt:PySem.W.kitOne K (.ref qK) (.ref qK)=some true
  f_nw:PySem.W.kitOne K (.ref qI) (.ref qJ)=some false
  len_:mg "len" = none
  isinstance_:mg "isinstance" = none
  int_:mg "int" = none
  bool_:mg "bool" = none
  sorted_:mg "sorted" = none
  max_:mg "max" = none
  set_:mg "set" = none
  zip_:mg "zip" = none
  list_:mg "list" = none
  sum_:mg "sum" = none
  range_:mg "range" = none
  enumerate_:mg "enumerate" = none
  all_:mg "all" = none
  min_:mg "min" = none
  tuple_:mg "tuple" = none
  str_:mg "str" = none
  MOST_SIGNS_:∃ u,mg "MOST_SIGNS" = some u∧RelV (V.int 12) u
  SMALL_LETTERS_:∃ u,mg "SMALL_LETTERS" = some u∧RelV (V.str "abcdefghijklmnopqrstuvwxyz") u
  MOST_ROWS_:∃ u,mg "MOST_ROWS" = some u∧RelV (V.int 200) u
  MOST_COLUMNS_:∃ u,mg "MOST_COLUMNS" = some u∧RelV (V.int 4) u
  MOST_WORDS_:∃ u,mg "MOST_WORDS" = some u∧RelV (V.int 40) u
theorem cut_from (ns:List Int) (k:Nat) (hi:Option Int):∃ ms:List Int,cutV (ns.map V.int) (some (k:Int)) hi=ms.map V.int∧ms.length≤ns.length - k:=by
  unfold cutV
  have e:HT.sIx (ns.map V.int).length 0 (some (k:Int))=min k ns.length:=by
    simp only [HT.sIx,List.length_map]
    split <;> omega
  refine ⟨(ns.drop (HT.sIx (ns.map V.int).length 0 (some (k:Int)))).take (HT.sIx (ns.map V.int).length (ns.map V.int).length hi - HT.sIx (ns.map V.int).length 0 (some (k:Int))),?_,?_⟩
  · rw [List.map_take,List.map_drop]
  · rw [List.length_take,List.length_drop,e];omega
theorem p10 (n:Nat):(0:Int) < 10 ^ n:=Int.pow_pos (by decide)
theorem in_t {n:Int} {p:Int × Int} (c:decide (p.1≤n)=true) (d:decide (n≤p.2)=true):inR n p=true:=by unfold inR;rw [c,d];rfl
theorem in_f1 {n:Int} {p:Int × Int} (c:¬ decide (p.1≤n)=true):inR n p=false:=by unfold inR;rw [Bool.eq_false_iff.mpr c];rfl
theorem in_f2 {n:Int} {p:Int × Int} (d:¬ decide (n≤p.2)=true):inR n p=false:=by unfold inR;rw [Bool.eq_false_iff.mpr d,Bool.and_false]
theorem getI {xs:List V} {i:Nat} {x:V} (e:xs[i]?=some x):atI xs (0+(i:Int))=some x:=by
  rw [Int.zero_add];exact atI_nat e
theorem z0 (a b:Int):atI [V.int a,V.int b] 0=some (V.int a):=rfl
theorem z1 (a b:Int):atI [V.int a,V.int b] 1=some (V.int b):=rfl
theorem ret_r1 {H:Hp} {r:Addr} {o:HO} {b:Addr} {u:HO} (h:H r=some u) (n:H b=none):upd H b o r=some u:=by rw [upd_ne (ne_of_none h n)];exact h
theorem ixN_last {n:Nat} (h:0 < n):ixN n (-1)=some (n - 1):=by
  unfold ixN
  rw [if_neg (by decide),if_pos (by omega)]
  congr 1
  omega
theorem set_last {α:Type} (l:List α) (x y:α):(l ++ [x]).set ((l ++ [x]).length - 1) y=l ++ [y]:=by
  have e:(l ++ [x]).length - 1=l.length:=by simp
  rw [e,List.set_append_right _ _ (Nat.le_refl _),Nat.sub_self]
  rfl
theorem take_snoc {α:Type} {l:List α} {i:Nat} {x:α} (e:l[i]?=some x):l.take (i+1)=l.take i ++ [x]:=by rw [List.take_add_one,e];rfl
theorem sorted_le {qs:List (Int × Int)} (h:qs.Pairwise fun p q=>ltP q p=false) {i:Nat} {p:Int × Int} (e:qs[i]?=some p):∀ q ∈ qs.take i,q.1≤p.1:=fun q hq=>by
  obtain ⟨hi,rfl⟩:=List.getElem?_eq_some_iff.mp e
  obtain ⟨j,hj,rfl⟩:=List.mem_take_iff_getElem.mp hq
  have z:=List.pairwise_iff_getElem.mp h j i (by omega) hi (by omega)
  simp only [ltP,Bool.or_eq_false_iff,decide_eq_false_iff_not] at z
  omega
theorem get_map {ns:List Int} {i:Nat} {c:Int} (e:ns[i]?=some c):(ns.map V.int)[i]?=some (.int c):=by rw [List.getElem?_map,e];rfl
theorem of_map {ns:List Int} {i:Nat} {x:V} (e:(ns.map V.int)[i]?=some x):∃ c,x=.int c∧ns[i]?=some c:=by
  rw [List.getElem?_map] at e
  cases q:ns[i]? with
  | none=>rw [q] at e;cases e
  | some c=>rw [q] at e;cases e;exact ⟨c,rfl,rfl⟩
def lets:Str := "abcdefghijklmnopqrstuvwxyz"
def isw (z:Str):Bool:=decide ((1:Int)≤((z.length:Nat):Int)) && (decide (((z.length:Nat):Int)≤12) && (!decide (V.str z=V.str "not") && allIn z lets))
theorem all_no {l:List Nat} {i:Nat} {c:Nat} {p:Nat→Bool} (e:l[i]?=some c) (h:p c=false):l.all p=false:=by
  cases q:l.all p with
  | false=>rfl
  | true=>rw [List.all_eq_true.mp q c (List.mem_of_getElem? e)] at h;cases h
theorem all_succ {l:List Nat} {i:Nat} {c:Nat} {p:Nat→Bool} (e:l[i]?=some c) (h:p c=true) (ha:(l.take i).all p=true):(l.take (i+1)).all p=true:=by
  rw [take_snoc e,List.all_append,ha];simp [h]
theorem all_done {z g:Str} (h:(z.cps.toList.take z.cps.size).all (sg g)=true):allIn z g=true:=by
  have e:z.cps.toList.take z.cps.size=z.cps.toList:=by rw [← Array.length_toList];exact List.take_length
  rw [e] at h;exact h
theorem not_sg {g:Str} {c:Nat} (h:(!(!(Builtin.Str.occurrences g ⟨#[c]⟩ 0 g.length 1).isEmpty))=true):sg g c=false:=by unfold sg;simpa using h
theorem is_sg {g:Str} {c:Nat} (h:¬ (!(!(Builtin.Str.occurrences g ⟨#[c]⟩ 0 g.length 1).isEmpty))=true):sg g c=true:=by unfold sg;simpa using h
theorem big {n:Nat} (h:n≤1000):n≤sizeLine:=Nat.le_of_lt (small1000 h)
def mkd (C:Addr) (H:Hp) (x dx:Addr) (lo hi:Int):Hp:=upd (upd H x (.ins C dx [("low",.int lo)])) x (.ins C dx [("low",.int lo),("high",.int hi)])
theorem put2 (v u:V):putF (Str.ofString "high") u [(Str.ofString "low",v)]=[(Str.ofString "low",v),(Str.ofString "high",u)]:=by
  unfold putF putF
  rw [if_neg (by decide)]
theorem put3 (v u t:V):putF (Str.ofString "words") t [(Str.ofString "low",v),(Str.ofString "high",u)]=[(Str.ofString "low",v),(Str.ofString "high",u),(Str.ofString "words",t)]:=by
  unfold putF putF putF
  rw [if_neg (by decide),if_neg (by decide)]
def hiW (zs:List Str):Int:=((zs.length:Nat):Int) - 1
structure Good (zs:List Str):Prop where
  some_:1≤zs.length
  few:zs.length≤40
  words:∀ z ∈ zs,isw z=true
  once:zs.Nodup
theorem flat_strs (zs:List Str):(zs.map V.str).all flatV=true:=by
  rw [List.all_map]
  exact List.all_eq_true.mpr fun _ _=>rfl
theorem get_strs {zs:List Str} {i:Nat} {x:V} (e:(zs.map V.str)[i]?=some x):∃ z,x=.str z∧zs[i]?=some z:=by
  rw [List.getElem?_map] at e
  cases q:zs[i]? with
  | none=>rw [q] at e;cases e
  | some z=>rw [q] at e;cases e;exact ⟨z,rfl,rfl⟩
def six:List Str:=[Str.ofString "first",Str.ofString "only",Str.ofString "like",Str.ofString "low",Str.ofString "high",Str.ofString "sum"]
theorem six_inj {i j:Nat} {z:Str} (h:six[i]?=some z) (k:six[j]?=some z):i=j:=nodup_ix (show six.Nodup by decide +kernel) h k
def WyN (C:Addr) (H:Hp) (x:Addr) (z:Str):Prop:=∃ dx,H x=some (.ins C dx [("called",.str z)])
theorem WyN.same {C:Addr} {H H' : Hp} {x:Addr} {z:Str} (h:WyN C H x z) (s:Same H H'):WyN C H' x z:=let ⟨dx,e⟩:=h;⟨dx,s _ _ e⟩
def fnew (C:Addr) (z:Str):Sp:=fun vs H Q _=>∃ (x dx:Addr),vs=[.ref x]∧H x=some (.ins C dx [])∧Q .non (upd H x (.ins C dx [("called",.str z)]))
theorem small2:2≤sizeLine:=by decide
def cl6 (a b c d e f:Addr):List Addr:=[a,b,c,d,e,f]
def DomC (C:Addr) (H:Hp) (a:Addr) (lo hi:Int):Prop:=∃ dx fs,H a=some (.ins C dx fs)∧fs.lookup (Str.ofString "low")=some (.int lo)∧fs.lookup (Str.ofString "high")=some (.int hi)∧fs.lookup (Str.ofString "has_code")=none
def Dom (cN cW:Addr) (H:Hp) (a:Addr) (b:Int × Int):Prop:=∃ C,(C=cN∨C=cW)∧DomC C H a b.1 b.2
theorem Dom.same {cN cW:Addr} {H H' : Hp} {a:Addr} {b:Int × Int} (h:Dom cN cW H a b) (s:Same H H'):Dom cN cW H' a b:=let ⟨C,hC,dx,fs,e,r⟩:=h;⟨C,hC,dx,fs,s _ _ e,r⟩
def RefL {α:Type} (xs:List V) (as:List α) (P:Addr→α→Prop):Prop:=xs.length=as.length∧∀ (j:Nat) (a:α),as[j]?=some a→∃ r,xs[j]?=some (.ref r)∧P r a
theorem RefL.mono {α:Type} {xs:List V} {as:List α} {P Q:Addr→α→Prop} (h:RefL xs as P) (k:∀ r a,P r a→Q r a):RefL xs as Q:=⟨h.1,fun j a e=>let ⟨r,e1,p⟩:=h.2 j a e;⟨r,e1,k r a p⟩⟩
theorem RefL.nil {α:Type} {P:Addr→α→Prop} : RefL [] [] P:=⟨rfl,(fun j a e=>by simp at e)⟩
theorem RefL.snoc {α:Type} {xs:List V} {as:List α} {P:Addr→α→Prop} {r:Addr} {a:α} (h:RefL xs as P) (p:P r a):RefL (xs ++ [.ref r]) (as ++ [a]) P:=by
  refine ⟨by simp [h.1],fun j b e=>?_⟩
  by_cases hj:j < as.length
  · rw [List.getElem?_append_left hj] at e
    obtain ⟨r',e1,q⟩:=h.2 j b e
    exact ⟨r',by rw [List.getElem?_append_left (by rw [h.1];exact hj)];exact e1,q⟩
  · have hj2:j=as.length:=by
      have:=(List.getElem?_eq_some_iff.mp e).1
      simp at this;omega
    subst hj2
    simp at e
    subst e
    exact ⟨r,by rw [← h.1];simp,p⟩
theorem RefL.get {α:Type} {xs:List V} {as:List α} {P:Addr→α→Prop} (h:RefL xs as P) {j:Nat} {x:V} (e:xs[j]?=some x):∃ r a,x=.ref r∧as[j]?=some a∧P r a:=by
  have hj:=(List.getElem?_eq_some_iff.mp e).1
  have ea:=List.getElem?_eq_getElem (l:=as) (i:=j) (by rw [← h.1];exact hj)
  obtain ⟨r,e1,p⟩:=h.2 j _ ea
  rw [e] at e1;cases e1
  exact ⟨r,_,rfl,ea,p⟩
abbrev Prs:=List (Int × Int)
def SpA (N:Addr→Prop) (H:Hp) (l:Addr) (ps:Prs):Prop:=N l∧∃ ys,H l=some (.lst ys)∧PL H ys ps
def CL (N:Addr→Prop) (H:Hp) (xs:List V) (pss:List Prs):Prop:=RefL xs pss (SpA N H)
abbrev Rw:=List Prs × Int
def RowA (N:Addr→Prop) (H:Hp) (r:Addr) (rw_:Rw):Prop:=∃ ce cs,H r=some (.tup [.ref ce,.int rw_.2])∧N ce∧H ce=some (.lst cs)∧CL N H cs rw_.1
def RL (N:Addr→Prop) (H:Hp) (xs:List V) (rws:List Rw):Prop:=RefL xs rws (RowA N H)
theorem SpA.same {N:Addr→Prop} {H H' : Hp} {l:Addr} {ps:Prs} (h:SpA N H l ps) (s:Same H H'):SpA N H' l ps:=let ⟨n,ys,e,p⟩:=h;⟨n,ys,s _ _ e,p.mono s.tups⟩
theorem CL.same {N:Addr→Prop} {H H' : Hp} {xs:List V} {pss:List Prs} (h:CL N H xs pss) (s:Same H H'):CL N H' xs pss:=RefL.mono h fun _ _ p=>p.same s
theorem RowA.same {N:Addr→Prop} {H H' : Hp} {r:Addr} {w:Rw} (h:RowA N H r w) (s:Same H H'):RowA N H' r w:=let ⟨ce,cs,e,n,f,c⟩:=h;⟨ce,cs,s _ _ e,n,s _ _ f,c.same s⟩
theorem RL.same {N:Addr→Prop} {H H' : Hp} {xs:List V} {rws:List Rw} (h:RL N H xs rws) (s:Same H H'):RL N H' xs rws:=RefL.mono h fun _ _ p=>p.same s
abbrev NT:Addr→Prop:=fun _=>True
theorem SpA.any {N:Addr→Prop} {H:Hp} {l:Addr} {ps:Prs} (h:SpA N H l ps):SpA NT H l ps:=⟨trivial,h.2⟩
theorem CL.any {N:Addr→Prop} {H:Hp} {xs:List V} {pss:List Prs} (h:CL N H xs pss):CL NT H xs pss:=RefL.mono h fun _ _ p=>p.any
theorem RowA.any {N:Addr→Prop} {H:Hp} {r:Addr} {w:Rw} (h:RowA N H r w):RowA NT H r w:=let ⟨ce,cs,e,_,f,c⟩:=h;⟨ce,cs,e,trivial,f,c.any⟩
theorem RL.any {N:Addr→Prop} {H:Hp} {xs:List V} {rws:List Rw} (h:RL N H xs rws):RL NT H xs rws:=RefL.mono h fun _ _ p=>p.any
theorem SpA.wk {N N' : Addr→Prop} {H:Hp} {l:Addr} {ps:Prs} (h:SpA N H l ps) (k:∀ a,N a→N' a):SpA N' H l ps:=⟨k _ h.1,h.2⟩
theorem CL.wk {N N' : Addr→Prop} {H:Hp} {xs:List V} {pss:List Prs} (h:CL N H xs pss) (k:∀ a,N a→N' a):CL N' H xs pss:=RefL.mono h fun _ _ p=>p.wk k
theorem RowA.wk {N N' : Addr→Prop} {H:Hp} {r:Addr} {w:Rw} (h:RowA N H r w) (k:∀ a,N a→N' a):RowA N' H r w:=let ⟨ce,cs,e,n,f,c⟩:=h;⟨ce,cs,e,k _ n,f,c.wk k⟩
theorem SpA.updN {N:Addr→Prop} {D:Addr} {H:Hp} {l:Addr} {ps:Prs} {zs:List V} {o:HO} (h:SpA N H l ps) (n:¬ N D) (e:H D=some (.lst zs)):SpA N (upd H D o) l ps :=
  let ⟨m,ys,f,p⟩:=h
  ⟨m,ys,(upd_ne (fun z=>n (by rw [← z];exact m))).trans f,p.mono (sameT_lst e)⟩
theorem CL.updN {N:Addr→Prop} {D:Addr} {H:Hp} {xs:List V} {pss:List Prs} {zs:List V} {o:HO} (h:CL N H xs pss) (n:¬ N D) (e:H D=some (.lst zs)):CL N (upd H D o) xs pss:=RefL.mono h fun _ _ p=>p.updN n e
theorem RowA.updN {N:Addr→Prop} {D:Addr} {H:Hp} {r:Addr} {w:Rw} {zs:List V} {o:HO} (h:RowA N H r w) (n:¬ N D) (e:H D=some (.lst zs)):RowA N (upd H D o) r w :=
  let ⟨ce,cs,f,m,g,c⟩:=h
  ⟨ce,cs,(upd_ne (ne_of f e (by intro z;cases z))).trans f,m,(upd_ne (fun z=>n (by rw [← z];exact m))).trans g,c.updN n e⟩
theorem RL.updN {N:Addr→Prop} {D:Addr} {H:Hp} {xs:List V} {rws:List Rw} {zs:List V} {o:HO} (h:RL N H xs rws) (n:¬ N D) (e:H D=some (.lst zs)):RL N (upd H D o) xs rws:=RefL.mono h fun _ _ p=>p.updN n e
def Fr (H:Hp) (D:Addr):Addr→Prop:=fun a=>H a=none∧a ≠ D
theorem Fr.out {H:Hp} {D:Addr} : ¬ Fr H D D:=fun h=>h.2 rfl
structure RngOk (b:Int × Int) (zs:List Str):Prop where
  le:b.1≤b.2
  ws:zs ≠ []→Good zs∧b=(0,hiW zs)
def ColA (N:Addr→Prop) (H:Hp) (l:Addr) (b:Int × Int):Prop:=∃ (w:Addr) (zs:List Str),N l∧N w∧H l=some (.lst [.int b.1,.int b.2,.ref w])∧H w=some (.lst (zs.map V.str))∧RngOk b zs
def Cols (N:Addr→Prop) (H:Hp) (xs:List V) (bs:Prs):Prop:=RefL xs bs (ColA N H)
structure RowOk (bs:Prs) (o:Int × Int) (w:Rw):Prop where
  len:w.1.length=bs.length
  inn:∀ (j:Nat) (ps:Prs) (b:Int × Int),w.1[j]?=some ps→bs[j]?=some b→∀ p ∈ ps,b.1≤p.1∧p.2≤b.2
  lo:o.1≤w.2
  hi:w.2≤o.2
def rfit (pss:List Prs) (cs:List Int):Bool:=(List.range cs.length).all fun j=>inP (pss.getD j []) (cs.getD j 0)
theorem pf1 (v0 v1:V):putF (Str.ofString "names") v1 [(Str.ofString "name",v0)]=[(Str.ofString "name",v0),(Str.ofString "names",v1)]:=by
  unfold putF putF
  rw [if_neg (by decide)]
theorem pf2 (v0 v1 v2:V):putF (Str.ofString "domains") v2 [(Str.ofString "name",v0),(Str.ofString "names",v1)]=[(Str.ofString "name",v0),(Str.ofString "names",v1),(Str.ofString "domains",v2)]:=by
  unfold putF putF putF
  rw [if_neg (by decide),if_neg (by decide)]
theorem pf3 (v0 v1 v2 v3:V):putF (Str.ofString "outcome") v3 [(Str.ofString "name",v0),(Str.ofString "names",v1),(Str.ofString "domains",v2)]=[(Str.ofString "name",v0),(Str.ofString "names",v1),(Str.ofString "domains",v2),(Str.ofString "outcome",v3)]:=by
  unfold putF putF putF putF
  rw [if_neg (by decide),if_neg (by decide),if_neg (by decide)]
theorem pf4 (v0 v1 v2 v3 v4:V):putF (Str.ofString "way") v4 [(Str.ofString "name",v0),(Str.ofString "names",v1),(Str.ofString "domains",v2),(Str.ofString "outcome",v3)]=[(Str.ofString "name",v0),(Str.ofString "names",v1),(Str.ofString "domains",v2),(Str.ofString "outcome",v3),(Str.ofString "way",v4)]:=by
  unfold putF putF putF putF putF
  rw [if_neg (by decide),if_neg (by decide),if_neg (by decide),if_neg (by decide)]
theorem pf5 (v0 v1 v2 v3 v4 v5:V):putF (Str.ofString "rows") v5 [(Str.ofString "name",v0),(Str.ofString "names",v1),(Str.ofString "domains",v2),(Str.ofString "outcome",v3),(Str.ofString "way",v4)]=[(Str.ofString "name",v0),(Str.ofString "names",v1),(Str.ofString "domains",v2),(Str.ofString "outcome",v3),(Str.ofString "way",v4),(Str.ofString "rows",v5)]:=by
  unfold putF putF putF putF putF putF
  rw [if_neg (by decide),if_neg (by decide),if_neg (by decide),if_neg (by decide),if_neg (by decide)]
def hide (H:Hp) (x:Addr):Hp:=fun b=>if b=x then none else H b
theorem hide_of {H:Hp} {x b:Addr} {o:HO} (e:H b=some o) (n:b ≠ x):hide H x b=some o:=by unfold hide;rw [if_neg n];exact e
theorem hide_same {H H' : Hp} {x:Addr} (k:∀ b o,b ≠ x→H b=some o→H' b=some o):Same (hide H x) H':=fun b o e=>by
  unfold hide at e
  by_cases h:b=x
  · rw [if_pos h] at e;cases e
  · rw [if_neg h] at e;exact k b o h e
theorem PL.hide {H:Hp} {x C dx:Addr} {fs:List (Str × V)} (hx:H x=some (.ins C dx fs)) {ys:List V} {ps:Prs} (h:PL H ys ps):PL (hide H x) ys ps :=
  h.mono fun b xs e=>hide_of e (ne_of e hx (by intro z;cases z))
theorem RL.hide {H:Hp} {x C dx:Addr} {fs:List (Str × V)} (hx:H x=some (.ins C dx fs)) {xs:List V} {rws:List Rw} (h:RL NT H xs rws):RL NT (My.hide H x) xs rws :=
  RefL.mono h fun r w ⟨ce,cs,e,_,f,c⟩=>⟨ce,cs,hide_of e (ne_of e hx (by intro z;cases z)),trivial,hide_of f (ne_of f hx (by intro z;cases z)),RefL.mono c fun l ps ⟨_,ys,g,p⟩=>⟨trivial,ys,hide_of g (ne_of g hx (by intro z;cases z)),PL.hide hx p⟩⟩
def wcs (c k:Int):List Nat:=List.replicate (c / 26 % 6).toNat (97+(c % 26).toNat) ++ ([97+(k / 7 % 7).toNat,97+(k % 7).toNat] ++ List.replicate (k % 5).toNat (97+(c / 156 % 26).toNat))
def wd (c k:Int):Str:=⟨(wcs c k).toArray⟩
theorem wcs_len (c k:Int):(wcs c k).length=(c / 26 % 6).toNat+(2+(k % 5).toNat):=by unfold wcs;simp;omega
theorem wcs_at0 (c k:Int):(wcs c k)[(c / 26 % 6).toNat]?=some (97+(k / 7 % 7).toNat):=by
  unfold wcs
  rw [List.getElem?_append_right (by simp)]
  simp
theorem wcs_at1 (c k:Int):(wcs c k)[(c / 26 % 6).toNat+1]?=some (97+(k % 7).toNat):=by
  unfold wcs
  rw [List.getElem?_append_right (by simp)]
  simp
theorem wd_len (c k:Int):(wd c k).length=(c / 26 % 6).toNat+(2+(k % 5).toNat):=by
  rw [← wcs_len c k];unfold wd;simp [Str.length]
theorem wd_le (c k:Int):2≤(wd c k).length∧(wd c k).length≤11:=by
  rw [wd_len]
  have h0:=Int.emod_lt_of_pos (c / 26) (show (0:Int) < 6 by decide)
  have h1:=Int.emod_lt_of_pos k (show (0:Int) < 5 by decide)
  omega
theorem sg_let {c:Nat} (h:97≤c∧c≤122):sg lets c=true:=by
  have:∀ d:Nat,d < 26→sg lets (97+d)=true:=by decide +kernel
  have z:=this (c - 97) (by omega)
  rw [show 97+(c - 97)=c by omega] at z
  exact z
theorem wcs_let (c k:Int):∀ x ∈ wcs c k,97≤x∧x≤122:=fun x hx=>by
  have h0:=Int.emod_lt_of_pos c (show (0:Int) < 26 by decide)
  have h1:=Int.emod_lt_of_pos (c / 156) (show (0:Int) < 26 by decide)
  have h2:=Int.emod_lt_of_pos (k / 7) (show (0:Int) < 7 by decide)
  have h3:=Int.emod_lt_of_pos k (show (0:Int) < 7 by decide)
  unfold wcs at hx
  simp only [List.mem_append,List.mem_replicate,List.mem_cons,List.not_mem_nil,or_false] at hx
  rcases hx with ⟨_,rfl⟩ | (rfl | rfl) | ⟨_,rfl⟩ <;> omega
theorem wd_isw (c k:Int):isw (wd c k)=true:=by
  have hl:=wd_le c k
  have ha:allIn (wd c k) lets=true:=by
    unfold allIn wd
    rw [List.all_eq_true]
    intro x hx
    exact sg_let (wcs_let c k x (by simpa using hx))
  have hn:¬ (V.str (wd c k)=V.str (Str.ofString "not")):=fun h=>by
    injection h with h
    have e:Str.ofString "not" = ⟨[110,111,116].toArray⟩:=by decide +kernel
    rw [e] at h
    unfold wd at h
    injection h with h
    have h:wcs c k=[110,111,116]:=by simpa using congrArg Array.toList h
    have z:=wcs_at0 c k
    rw [h] at z
    have h2:=Int.emod_lt_of_pos (k / 7) (show (0:Int) < 7 by decide)
    have m:=List.mem_of_getElem? z
    simp only [List.mem_cons,List.not_mem_nil,or_false] at m
    omega
  unfold isw
  rw [ha,decide_eq_true (show (1:Int)≤(((wd c k).length:Nat):Int) by omega),decide_eq_true (show (((wd c k).length:Nat):Int)≤12 by omega)]
  show (true && (true && (!decide (V.str (wd c k)=V.str (Str.ofString "not")) && true)))=true
  rw [decide_eq_false hn];rfl
theorem wd_inj {c k k' : Int} (h0:0≤k) (h1:k < 49) (h2:0≤k') (h3:k' < 49) (e:wd c k=wd c k'):k=k':=by
  unfold wd at e
  injection e with e
  have e:wcs c k=wcs c k':=by simpa using congrArg Array.toList e
  have a:=wcs_at0 c k
  have b:=wcs_at1 c k
  rw [e,wcs_at0] at a
  rw [e,wcs_at1] at b
  injection a with a
  injection b with b
  omega
theorem lets_at {s:Str} {n:Nat} (h:s.cps.toList=(List.range n).map (97 + ·)) {k:Int} (h0:0≤k) (h1:k < n):atI s.cps.toList k=some (97+k.toNat):=by
  have hk:k.toNat < n:=by omega
  have z:s.cps.toList[k.toNat]?=some (97+k.toNat):=by rw [h,List.getElem?_map,List.getElem?_range hk];rfl
  have q:=atI_nat z
  rw [show ((k.toNat:Nat):Int)=k by omega] at q
  exact q
theorem abc26:(Str.ofString "abcdefghijklmnopqrstuvwxyz").cps.toList=(List.range 26).map (97 + ·):=by decide +kernel
theorem abc7:(Str.ofString "abcdefg").cps.toList=(List.range 7).map (97 + ·):=by decide +kernel
theorem mul1 (c:Nat) (n:Int):Txt.mul ⟨#[c]⟩ n=⟨(List.replicate n.toNat c).toArray⟩:=by
  have h:=PyProof.Rows.mul_one_list c n
  cases q:Txt.mul ⟨#[c]⟩ n with
  | mk a=>rw [q] at h;simp only at h;rw [← h]
def wds (c:Int) (n:Nat):List Str:=(List.range n).map fun j:Nat=>wd c (j:Int)
theorem wds_succ (c:Int) (n:Nat):wds c (n+1)=wds c n ++ [wd c (n:Int)]:=by unfold wds;rw [List.range_succ,List.map_append];rfl
theorem wds_nodup {c:Int} {n:Nat} (h:n≤49) (f:Nat→Int) (hf:∀ j,j < n→0≤f j∧f j < 49) (inj:∀ i j,f i=f j→i=j):((List.range n).map fun j:Nat=>wd c (f j)).Nodup:=by
  rw [List.nodup_iff_pairwise_ne,List.pairwise_map]
  refine List.Pairwise.imp_of_mem (R:=fun a b=>a ≠ b) (fun {a b} ha hb hab e=>?_) List.nodup_range
  have a1:=hf a (List.mem_range.mp ha)
  have b1:=hf b (List.mem_range.mp hb)
  exact hab (inj a b (wd_inj a1.1 a1.2 b1.1 b1.2 e))
theorem wds_good {c:Int} {n:Nat} (h1:1≤n) (h2:n≤40):Good (wds c n):=by
  refine ⟨by unfold wds;simp;omega,by unfold wds;simp;omega,fun z hz=>?_,wds_nodup (n:=n) (by omega) (fun j:Nat=>(j:Int)) (fun j hj=>⟨by omega,by omega⟩) fun i j e=>by omega⟩
  unfold wds at hz
  obtain ⟨j,_,rfl⟩:=List.mem_map.mp hz
  exact wd_isw _ _
abbrev SI:=Str × Int
def tp (p:SI):List V:=[.str p.1,.int p.2]
def say (i:Int):SI:=(Str.ofString "say",i)
def clash:SI:=(Str.ofString "clash",0)
def non_:SI:=(Str.ofString "none",0)
def least (ns:List Int):Int:=ns.foldl (fun m c=>if c < m then c else m) (ns.headD 0)
def great (ns:List Int):Int:=ns.foldl (fun m c=>if c > m then c else m) (ns.headD 0)
theorem fold_min (ns:List Int):∀ m:Int,(ns.foldl (fun m c=>if c < m then c else m) m=m∨ns.foldl (fun m c=>if c < m then c else m) m ∈ ns)∧ns.foldl (fun m c=>if c < m then c else m) m≤m∧∀ x ∈ ns,ns.foldl (fun m c=>if c < m then c else m) m≤x:=by
  induction ns with
  | nil=>intro m;exact ⟨.inl rfl,Int.le_refl _,fun x h=>by cases h⟩
  | cons n ns ih =>
    intro m
    obtain ⟨h1,h2,h3⟩:=ih (if n < m then n else m)
    rw [List.foldl_cons]
    refine ⟨?_,?_,fun x hx=>?_⟩
    · rcases h1 with h1 | h1
      · rw [h1];split
        · exact .inr List.mem_cons_self
        · exact .inl rfl
      · exact .inr (List.mem_cons_of_mem _ h1)
    · split at h2 <;> split <;> omega
    · rcases List.mem_cons.mp hx with rfl | hx
      · split at h2 <;> split <;> omega
      · exact h3 x hx
theorem fold_max (ns:List Int):∀ m:Int,(ns.foldl (fun m c=>if c > m then c else m) m=m∨ns.foldl (fun m c=>if c > m then c else m) m ∈ ns)∧m≤ns.foldl (fun m c=>if c > m then c else m) m∧∀ x ∈ ns,x≤ns.foldl (fun m c=>if c > m then c else m) m:=by
  induction ns with
  | nil=>intro m;exact ⟨.inl rfl,Int.le_refl _,fun x h=>by cases h⟩
  | cons n ns ih =>
    intro m
    obtain ⟨h1,h2,h3⟩:=ih (if n > m then n else m)
    rw [List.foldl_cons]
    refine ⟨?_,?_,fun x hx=>?_⟩
    · rcases h1 with h1 | h1
      · rw [h1];split
        · exact .inr List.mem_cons_self
        · exact .inl rfl
      · exact .inr (List.mem_cons_of_mem _ h1)
    · split at h2 <;> split <;> omega
    · rcases List.mem_cons.mp hx with rfl | hx
      · split at h2 <;> split <;> omega
      · exact h3 x hx
theorem least_is {n:Int} {ns:List Int} : least (n :: ns) ∈ n :: ns∧∀ x ∈ n :: ns,least (n :: ns)≤x:=by
  obtain ⟨h1,h2,h3⟩:=fold_min (n :: ns) n
  refine ⟨?_,h3⟩
  rcases h1 with h1 | h1
  · show (n :: ns).foldl _ n ∈ _
    rw [h1];exact List.mem_cons_self
  · exact h1
theorem great_is {n:Int} {ns:List Int} : great (n :: ns) ∈ n :: ns∧∀ x ∈ n :: ns,x≤great (n :: ns):=by
  obtain ⟨h1,h2,h3⟩:=fold_max (n :: ns) n
  refine ⟨?_,h3⟩
  rcases h1 with h1 | h1
  · show (n :: ns).foldl _ n ∈ _
    rw [h1];exact List.mem_cons_self
  · exact h1
theorem least_un {n m:Int} {ns:List Int} (h1:m ∈ n :: ns) (h2:∀ b ∈ n :: ns,m≤b):m=least (n :: ns):=by
  have a:=h2 _ least_is.1
  have b:=least_is.2 _ h1
  omega
theorem great_un {n m:Int} {ns:List Int} (h1:m ∈ n :: ns) (h2:∀ b ∈ n :: ns,b≤m):m=great (n :: ns):=by
  have a:=h2 _ great_is.1
  have b:=great_is.2 _ h1
  omega
def fLow (ns:List Int):SI:=say (least ns)
def fHigh (ns:List Int):SI:=say (great ns)
def fLike (ns:List Int):SI:=if least ns=great ns then say (least ns) else clash
theorem like_same {n:Int} {ns:List Int} : (∀ x ∈ ns,x=n)↔least (n :: ns)=great (n :: ns):=by
  constructor
  · intro h
    have e:∀ x ∈ n :: ns,x=n:=fun x hx=>by
      rcases List.mem_cons.mp hx with r | hx
      · exact r
      · exact h x hx
    rw [e _ least_is.1,e _ great_is.1]
  · intro h x hx
    have a1:=least_is.2 x (List.mem_cons_of_mem n hx)
    have a2:=great_is.2 x (List.mem_cons_of_mem n hx)
    have a3:=least_is.2 n (List.mem_cons_self (l:=ns))
    have a4:=great_is.2 n (List.mem_cons_self (l:=ns))
    omega
theorem like_head {n:Int} {ns:List Int} (h:∀ x ∈ ns,x=n):least (n :: ns)=n:=by
  have e:∀ x ∈ n :: ns,x=n:=fun x hx=>by
    rcases List.mem_cons.mp hx with r | hx
    · exact r
    · exact h x hx
  exact e _ least_is.1
def ver (f:List Int→SI):List Int→SI
  | []=>non_
  | n :: ns=>f (n :: ns)
def Wy (C:Addr) (H:Hp) (x:Addr):Prop:=∃ dx z,H x=some (.ins C dx [("called",.str z)])
def fFirst (ns:List Int):SI:=say (ns.headD 0)
def fOnly (ns:List Int):SI:=if ns.length=1 then say (ns.headD 0) else clash
def near (lo hi n:Int):Int:=if n < lo then lo else if n > hi then hi else n
def wf:Nat→Int→Int→List Int→SI
  | 0,_,_=>fFirst
  | 1,_,_=>fOnly
  | 2,_,_=>fLike
  | 3,_,_=>fLow
  | 4,_,_=>fHigh
  | _,lo,hi=>fun ns=>say (near lo hi ns.sum)
theorem at0 (n:Int) (ns:List Int):atI ((n :: ns).map V.int) 0=some (.int n):=atI_nat (j:=0) rfl
def spCh (K:PySem.W.Frag) (C cN cW:Addr) (i:Nat):Sp:=fun vs H Q _=>∃ (x c o:Addr) (n:Int) (ns:List Int) (b:Int × Int),vs=[.ref x,.ref c,.ref o]∧Wy C H x∧Dom cN cW H o b∧b.1≤b.2∧SqL K H c ((n :: ns).map V.int)∧ns.length < 900∧∀ (r:Addr) (H' : Hp),Same H H'→SqT K H' r (tp (wf i b.1 b.2 (n :: ns)))→Q (.ref r) H'
def spVe (K:PySem.W.Frag) (C cN cW:Addr) (i:Nat):Sp:=fun vs H Q _=>∃ (x c o:Addr) (ns:List Int) (b:Int × Int),vs=[.ref x,.ref c,.ref o]∧Wy C H x∧Dom cN cW H o b∧b.1≤b.2∧SqL K H c (ns.map V.int)∧ns.length < 900∧∀ (r:Addr) (H' : Hp),Same H H'→SqT K H' r (tp (ver (wf i b.1 b.2) ns))→Q (.ref r) H'
def msk (f:Nat→Bool):Nat→Nat
  | 0=>0
  | n+1=>(if f n then 2 ^ n else 0)+msk f n
theorem msk_succ (f:Nat→Bool) (n:Nat):msk f (n+1)=(if f n then 2 ^ n else 0)+msk f n:=rfl
theorem msk_lt (f:Nat→Bool):∀ n,msk f n < 2 ^ n
  | 0=>Nat.one_pos
  | n+1=>by
    have:=msk_lt f n
    unfold msk
    rw [Nat.pow_succ]
    split <;> omega
theorem msk_bit (f:Nat→Bool) (k:Nat):∀ n,(msk f n).testBit k=(decide (k < n) && f k)
  | 0=>by simp [msk]
  | n+1=>by
    have ih:=msk_bit f k n
    have lt:=msk_lt f n
    unfold msk
    rcases Nat.lt_trichotomy k n with h | h | h
    · split
      · rw [Nat.testBit_two_pow_add_gt h,ih];simp [h,Nat.lt_succ_of_lt h]
      · rw [Nat.zero_add,ih];simp [h,Nat.lt_succ_of_lt h]
    · subst h
      split
      · rename_i hf
        rw [Nat.testBit_two_pow_add_eq,Nat.testBit_lt_two_pow lt];simp [hf]
      · rename_i hf
        rw [Nat.zero_add,Nat.testBit_lt_two_pow lt];simp [hf]
    · have lt2:(if f n=true then 2 ^ n else 0)+msk f n < 2 ^ k:=Nat.lt_of_lt_of_le (msk_lt f (n+1)) (Nat.pow_le_pow_right (by decide) h)
      rw [Nat.testBit_lt_two_pow lt2]
      simp;omega
def bitOn (m:Int) (k:Nat):Bool:=Builtin.bitAnd (m / 2 ^ k) 1 != 0
theorem bitOn_msk (f:Nat→Bool) (n k:Nat):bitOn ((msk f n:Nat):Int) k=(decide (k < n) && f k):=by
  rw [← msk_bit]
  unfold bitOn
  have e:((msk f n:Nat):Int) / 2 ^ k=((msk f n / 2 ^ k:Nat):Int):=by simp
  rw [e,PyProof.Rows.bitAnd_pp (Int.natCast_nonneg _) (by decide)]
  unfold Nat.testBit
  rw [Nat.shiftRight_eq_div_pow,Int.toNat_natCast,Nat.and_comm]
  show ((((1:Int).toNat &&& (msk f n / 2 ^ k):Nat):Int) != 0)=_
  rw [Bool.eq_iff_iff,bne_iff_ne,bne_iff_ne]
  constructor
  · intro h z;exact h (by rw [show (1:Int).toNat=1 from rfl,z];rfl)
  · intro h z;exact h (by rw [show (1:Int).toNat=1 from rfl] at z;omega)
def pkF (rws:List Rw) (f:Nat→Bool) (n:Nat):List Int:=((List.range n).filter f).map fun k=>(rws.getD k ([],0)).2
theorem pkF_succ (rws:List Rw) (f:Nat→Bool) (n:Nat):pkF rws f (n+1)=pkF rws f n ++ (if f n then [(rws.getD n ([],0)).2] else []):=by
  unfold pkF
  rw [List.range_succ,List.filter_append,List.map_append]
  cases h:f n with
  | true=>rw [List.filter_cons_of_pos h];simp
  | false=>rw [List.filter_cons_of_neg (by rw [h];exact Bool.false_ne_true)];simp
theorem pkF_len (rws:List Rw) (f:Nat→Bool) (n:Nat):(pkF rws f n).length≤n:=by
  unfold pkF
  rw [List.length_map]
  exact Nat.le_trans (List.length_filter_le ..) (by simp)
theorem pkF_msk (rws:List Rw) (f:Nat→Bool) (n:Nat):pkF rws (bitOn ((msk f n:Nat):Int)) n=pkF rws f n:=by
  unfold pkF
  congr 1
  apply List.filter_congr
  intro k hk
  rw [bitOn_msk]
  simp [List.mem_range.mp hk]
def Tbl (cT cN cW:Addr) (H:Hp) (t:Addr) (rws:List Rw) (i:Nat) (o:Int × Int):Prop:=∃ (rl ou dx:Addr) (fs:List (Str × V)) (xs:List V) (wy:Str),H t=some (.ins cT dx fs)∧fs.lookup (Str.ofString "rows")=some (.ref rl)∧fs.lookup (Str.ofString "way")=some (.str wy)∧fs.lookup (Str.ofString "outcome")=some (.ref ou)∧H rl=some (.lst xs)∧RL NT H xs rws∧six[i]?=some wy∧Dom cN cW H ou o∧o.1≤o.2∧xs.length≤200
theorem Tbl.same {cT cN cW:Addr} {H H' : Hp} {t:Addr} {rws:List Rw} {i:Nat} {o:Int × Int} (h:Tbl cT cN cW H t rws i o) (s:Same H H'):Tbl cT cN cW H' t rws i o :=
  let ⟨rl,ou,dx,fs,xs,wy,h1,h2,h3,h4,h5,h6,h7,h8,h9,h10⟩:=h
  ⟨rl,ou,dx,fs,xs,wy,s _ _ h1,h2,h3,h4,s _ _ h5,h6.same s,h7,h8.same s,h9,h10⟩
def fitF (rws:List Rw) (cs:List Int) (k:Nat):Bool:=rfit (rws.getD k ([],0)).1 cs
theorem getD_at {rws:List Rw} {k:Nat} {w:Rw} (e:rws[k]?=some w):rws.getD k ([],0)=w:=by rw [List.getD_eq_getElem?_getD,e];rfl
def fl (rws:List Rw) (cs:List Int):List Int:=(rws.filter fun w=>rfit w.1 cs).map (·.2)
theorem fl_snoc (rws:List Rw) (w:Rw) (cs:List Int):fl (rws ++ [w]) cs=fl rws cs ++ (if rfit w.1 cs then [w.2] else []):=by
  unfold fl
  rw [List.filter_append,List.map_append]
  cases h:rfit w.1 cs <;> simp [List.filter_cons,h]
theorem pkF_take (rws:List Rw) (cs:List Int):∀ n,n≤rws.length→pkF rws (fitF rws cs) n=fl (rws.take n) cs
  | 0,_=>by simp [pkF,fl]
  | n+1,h=>by
    have ew:rws[n]?=some rws[n]:=List.getElem?_eq_getElem h
    rw [pkF_succ,pkF_take rws cs n (Nat.le_of_succ_le h),take_snoc ew,fl_snoc,getD_at ew]
    unfold fitF
    rw [getD_at ew]
theorem pkF_fl (rws:List Rw) (cs:List Int):pkF rws (fitF rws cs) rws.length=fl rws cs:=by
  rw [pkF_take rws cs _ (Nat.le_refl _),List.take_length]
def ord:List Nat:=[3,4,2,1,0,5]
def w6:List Str:=[Str.ofString "low",Str.ofString "high",Str.ofString "like",Str.ofString "only",Str.ofString "first",Str.ofString "sum"]
def dueL (lo hi:Int) (ns:List Int):List SI:=ord.map fun i=>ver (wf i lo hi) ns
def DL (H:Hp) (xs:List V) (ps:List SI):Prop:=RefL xs ps fun r p=>H r=some (.tup (tp p))
def TblX (cT:Addr) (H:Hp) (t:Addr) (nm wy:Str) (ou:Addr) (zs:List Str) (dv:List V):Prop:=∃ (dx na dl:Addr) (fs:List (Str × V)),H t=some (.ins cT dx fs)∧fs.lookup (Str.ofString "name")=some (.str nm)∧fs.lookup (Str.ofString "way")=some (.str wy)∧fs.lookup (Str.ofString "outcome")=some (.ref ou)∧fs.lookup (Str.ofString "names")=some (.ref na)∧fs.lookup (Str.ofString "domains")=some (.ref dl)∧H na=some (.lst (zs.map V.str))∧H dl=some (.lst dv)
theorem deq_lst {K:PySem.W.Frag} {H:Hp} {n:Nat} {a b:Addr} {xs ys:List V} (ha:SqL K H a xs) (hb:SqL K H b ys) (hl:xs.length=ys.length) (h:∀ (j:Nat) (x y:V),xs[j]?=some x→ys[j]?=some y→DEq K H n x y true):DEq K H (n+1) (.ref a) (.ref b) true:=by
  by_cases e:a=b
  · subst e;exact .same a
  · have:=DEq.lst (f:=fun _=>true) e ha hb hl h
    rw [show (List.range xs.length).all (fun _=>true)=true by simp] at this
    exact this
theorem deq_tup {K:PySem.W.Frag} {H:Hp} {n:Nat} {a b:Addr} {xs ys:List V} (ha:SqT K H a xs) (hb:SqT K H b ys) (hl:xs.length=ys.length) (h:∀ (j:Nat) (x y:V),xs[j]?=some x→ys[j]?=some y→DEq K H n x y true):DEq K H (n+1) (.ref a) (.ref b) true:=by
  by_cases e:a=b
  · subst e;exact .same a
  · have:=DEq.tup (f:=fun _=>true) e ha hb h
    rw [show ((List.range (min xs.length ys.length)).all (fun _=>true) && xs.length == ys.length)=true by simp [hl]] at this
    exact this
theorem deq_int {K:PySem.W.Frag} {H:Hp} {n:Nat} (i:Int):DEq K H n (.int i) (.int i) true:=by
  have:=DEq.flat (K:=K) (H:=H) (n:=n) (x:=.int i) (y:=.int i) rfl rfl
  rw [show eqV (.int i) (.int i)=true by simp [eqV]] at this
  exact this
theorem deq_pl {K:PySem.W.Frag} {H:Hp} {n:Nat} {xs ys:List V} {ps:Prs} (h:PL H xs ps) (h' : PL H ys ps) (j:Nat) (x y:V) (e1:xs[j]?=some x) (e2:ys[j]?=some y):DEq K H (n+1) x y true:=by
  obtain ⟨u,r,g1,rfl,h1⟩:=h.get e1
  obtain ⟨u',r',g2,rfl,h2⟩:=h'.get e2
  rw [g1] at g2
  cases g2
  refine deq_tup (SqT.of h1) (SqT.of h2) rfl fun j x y f1 f2=>?_
  rw [f1] at f2
  cases f2
  match j,f1 with
  | 0,f1=>cases f1;exact deq_int _
  | 1,f1=>cases f1;exact deq_int _
  | j+2,f1=>simp at f1
theorem deq_row {K:PySem.W.Frag} {H:Hp} {r r' : Addr} {w:Rw} (h:RowA NT H r w) (h' : RowA NT H r' w):DEq K H 60 (.ref r) (.ref r') true:=by
  obtain ⟨ce,cs,g1,_,g2,g3⟩:=h
  obtain ⟨ce',cs',g1',_,g2',g3'⟩:=h'
  refine deq_tup (n:=59) (SqT.of g1) (SqT.of g1') rfl fun j x y e1 e2=>?_
  match j,e1,e2 with
  | 0,e1,e2 =>
    cases e1;cases e2
    refine deq_lst (n:=58) (SqL.of g2) (SqL.of g2') (by rw [g3.1,g3'.1]) fun j x y f1 f2=>?_
    obtain ⟨l,ps,rfl,ep,_,ys,el,hp⟩:=RefL.get g3 f1
    obtain ⟨l',ps',rfl,ep',_,ys',el',hp'⟩:=RefL.get g3' f2
    rw [ep] at ep'
    cases ep'
    exact deq_lst (n:=57) (SqL.of el) (SqL.of el') (by rw [hp.length,hp'.length]) (deq_pl (n:=56) hp hp')
  | 1,e1,e2=>cases e1;cases e2;exact deq_int _
  | j+2,e1,e2=>simp at e1
theorem neDL_same {K:PySem.W.Frag} {H:Hp} {Q:VK} {a b:Addr} {xs ys:List V} (ha:SqL K H a xs) (hb:SqL K H b ys) (hl:xs.length=ys.length) (h:∀ (j:Nat) (x y:V),xs[j]?=some x→ys[j]?=some y→DEq K H 60 x y true) (q:Q (.bl false) H):rEqDL K true (.ref a) (.ref b) H Q:=by
  refine ⟨a,b,xs,ys,rfl,rfl,ha,hb,.inr ⟨hl,fun _=>true,h,?_⟩⟩
  rw [show (List.range xs.length).all (fun _=>true)=true by simp]
  exact q
theorem deq_rows {K:PySem.W.Frag} {H:Hp} {xs ys:List V} {rws:List Rw} (h:RL NT H xs rws) (h' : RL NT H ys rws) (j:Nat) (x y:V) (e1:xs[j]?=some x) (e2:ys[j]?=some y):DEq K H 60 x y true:=by
  obtain ⟨r,w,rfl,ew,hr⟩:=RefL.get h e1
  obtain ⟨r',w',rfl,ew',hr'⟩:=RefL.get h' e2
  rw [ew] at ew'
  cases ew'
  exact deq_row hr hr'
structure Col where
  prs:Prs
  w:Bool
  sd:Int
def ColN (N:Addr→Prop) (H:Hp) (l:Addr) (c:Col):Prop:=∃ (pl:Addr) (ts:List V),N l∧N pl∧H l=some (.lst [.ref pl,.bl c.w,.int c.sd])∧H pl=some (.lst ts)∧PL H ts c.prs
theorem ColN.same {N:Addr→Prop} {H H' : Hp} {l:Addr} {c:Col} (h:ColN N H l c) (s:Same H H'):ColN N H' l c:=let ⟨pl,ts,n,m,e,f,p⟩:=h;⟨pl,ts,n,m,s _ _ e,s _ _ f,p.mono s.tups⟩
theorem ColN.wk {N N' : Addr→Prop} {H:Hp} {l:Addr} {c:Col} (h:ColN N H l c) (k:∀ a,N a→N' a):ColN N' H l c:=let ⟨pl,ts,n,m,r⟩:=h;⟨pl,ts,k _ n,k _ m,r⟩
theorem ColN.any {N:Addr→Prop} {H:Hp} {l:Addr} {c:Col} (h:ColN N H l c):ColN NT H l c:=h.wk fun _ _=>trivial
theorem ColN.updN {N:Addr→Prop} {D:Addr} {H:Hp} {l:Addr} {c:Col} {zs:List V} {o:HO} (h:ColN N H l c) (n:¬ N D) (e:H D=some (.lst zs)):ColN N (upd H D o) l c :=
  let ⟨pl,ts,n1,n2,e1,e2,p⟩:=h
  ⟨pl,ts,n1,n2,(upd_ne (fun z=>n (by rw [← z];exact n1))).trans e1,(upd_ne (fun z=>n (by rw [← z];exact n2))).trans e2,p.mono (sameT_lst e)⟩
def ColsN (N:Addr→Prop) (H:Hp) (xs:List V) (cs:List Col):Prop:=RefL xs cs (ColN N H)
theorem ColsN.same {N:Addr→Prop} {H H' : Hp} {xs:List V} {cs:List Col} (h:ColsN N H xs cs) (s:Same H H'):ColsN N H' xs cs:=RefL.mono h fun _ _ p=>p.same s
theorem ColsN.any {N:Addr→Prop} {H:Hp} {xs:List V} {cs:List Col} (h:ColsN N H xs cs):ColsN NT H xs cs:=RefL.mono h fun _ _ p=>p.any
theorem ColsN.updN {N:Addr→Prop} {D:Addr} {H:Hp} {xs:List V} {cs:List Col} {zs:List V} {o:HO} (h:ColsN N H xs cs) (n:¬ N D) (e:H D=some (.lst zs)):ColsN N (upd H D o) xs cs:=RefL.mono h fun _ _ p=>p.updN n e
structure Ch (ps:Prs):Prop where
  le:∀ (i:Nat) (p:Int × Int),ps[i]?=some p→p.1≤p.2
  nxt:∀ (i:Nat) (p q:Int × Int),ps[i]?=some p→ps[i+1]?=some q→q.1=p.2+1
theorem Ch.nil:Ch []:=⟨fun i p e=>by simp at e,fun i p q e=>by simp at e⟩
theorem Ch.snoc {ps:Prs} {a b:Int} (h:Ch ps) (hab:a≤b) (hl:∀ p,ps[ps.length - 1]?=some p→a=p.2+1):Ch (ps ++ [(a,b)]):=by
  refine ⟨fun i p e=>?_,fun i p q e f=>?_⟩
  · by_cases hi:i < ps.length
    · rw [List.getElem?_append_left hi] at e;exact h.le i p e
    · have:i=ps.length:=by have:=(List.getElem?_eq_some_iff.mp e).1;simp at this;omega
      subst this;simp at e;subst e;exact hab
  · have hf:=(List.getElem?_eq_some_iff.mp f).1
    rw [List.length_append,List.length_singleton] at hf
    rw [List.getElem?_append_left (by omega)] at e
    by_cases hi:i+1 < ps.length
    · rw [List.getElem?_append_left hi] at f;exact h.nxt i p q e f
    · have:i=ps.length - 1:=by omega
      subst this
      rw [show ps.length - 1+1=ps.length by omega] at f
      simp at f;subst f
      exact hl p e
theorem Ch.mono {ps:Prs} (h:Ch ps) {i:Nat} {p:Int × Int} (e:ps[i]?=some p):∀ (d:Nat) (q:Int × Int),ps[i+d]?=some q→p.1≤q.1∧p.2≤q.2∧(0 < d→p.2 < q.1)
  | 0,q,f=>by rw [Nat.add_zero,e] at f;cases f;exact ⟨Int.le_refl _,Int.le_refl _,fun z=>absurd z (by omega)⟩
  | d+1,q,f=>by
    have hlt:i+d < ps.length:=by have:=(List.getElem?_eq_some_iff.mp f).1;omega
    obtain ⟨r,er⟩:∃ r,ps[i+d]?=some r:=⟨_,List.getElem?_eq_getElem hlt⟩
    obtain ⟨a,b,c⟩:=h.mono e d r er
    have n:=h.nxt (i+d) r q er f
    have l1:=h.le (i+d) r er
    have l2:=h.le _ q f
    have l3:=h.le _ p e
    omega
theorem Ch.lt {ps:Prs} (h:Ch ps) {i j:Nat} {p q:Int × Int} (e:ps[i]?=some p) (f:ps[j]?=some q) (hij:i < j):p.2 < q.1:=by
  have:=h.mono e (j - i) q (by rw [show i+(j - i)=j by omega];exact f)
  exact this.2.2 (by omega)
structure ColOk (c:Col):Prop where
  some_:1≤c.prs.length
  few:c.prs.length≤6
  ch:Ch c.prs
  w0:c.w=true→∀ p,c.prs[0]?=some p→p.1=0
  wl:c.w=true→∀ (i:Nat) (p:Int × Int),c.prs[i]?=some p→p.2 < 40
def Col.lo (c:Col):Int:=(c.prs.headD (0,0)).1
def Col.hi (c:Col):Int:=(c.prs.getLastD (0,0)).2
def Col.b (c:Col):Int × Int:=(c.lo,c.hi)
theorem ColOk.first {c:Col} (h:ColOk c):∃ p,c.prs[0]?=some p∧p.1=c.lo:=by
  have:=h.some_
  unfold Col.lo
  match c.prs,this with
  | p :: r,_=>exact ⟨p,rfl,rfl⟩
theorem ColOk.last {c:Col} (h:ColOk c):∃ p,c.prs[c.prs.length - 1]?=some p∧p.2=c.hi:=by
  have:=h.some_
  unfold Col.hi
  generalize c.prs=l at this ⊢
  rcases List.eq_nil_or_concat l with rfl | ⟨l',x,rfl⟩
  · simp at this
  · exact ⟨x,by simp,by simp⟩
theorem ColOk.inn {c:Col} (h:ColOk c) {i:Nat} {p:Int × Int} (e:c.prs[i]?=some p):c.lo≤p.1∧p.2≤c.hi:=by
  obtain ⟨p0,e0,f0⟩:=h.first
  obtain ⟨p1,e1,f1⟩:=h.last
  have hi:=(List.getElem?_eq_some_iff.mp e).1
  have a:=h.ch.mono e0 i p (by rw [Nat.zero_add];exact e)
  have b:=h.ch.mono e (c.prs.length - 1 - i) p1 (by rw [show i+(c.prs.length - 1 - i)=c.prs.length - 1 by omega];exact e1)
  omega
theorem ColOk.le {c:Col} (h:ColOk c):c.lo≤c.hi:=by
  obtain ⟨p0,e0,f0⟩:=h.first
  have:=h.inn e0
  have:=h.ch.le _ _ e0
  omega
structure Srt (ps:Prs):Prop where
  le:∀ (i:Nat) (p:Int × Int),ps[i]?=some p→p.1≤p.2
  lt:∀ (i j:Nat) (p q:Int × Int),i < j→ps[i]?=some p→ps[j]?=some q→p.2 < q.1
structure SpOk (prs:Prs) (b n:Nat) (ps:Prs):Prop where
  srt:Srt ps
  iff:∀ x:Int,inP ps x=true↔∃ (k:Nat) (p:Int × Int),k < n∧prs[k]?=some p∧b.testBit k=true∧p.1≤x∧x≤p.2
theorem inP_ex {ps:Prs} {x:Int} : inP ps x=true↔∃ (i:Nat) (p:Int × Int),ps[i]?=some p∧p.1≤x∧x≤p.2:=by
  unfold inP inR
  rw [List.any_eq_true]
  constructor
  · rintro ⟨p,hp,e⟩
    obtain ⟨i,ei⟩:=List.getElem?_of_mem hp
    simp at e
    exact ⟨i,p,ei,e.1,e.2⟩
  · rintro ⟨i,p,e,h1,h2⟩
    exact ⟨p,List.mem_of_getElem? e,by simp [h1,h2]⟩
theorem Srt.snoc {ps:Prs} {a b:Int} (h:Srt ps) (hab:a≤b) (hl:∀ (i:Nat) (p:Int × Int),ps[i]?=some p→p.2 < a):Srt (ps ++ [(a,b)]):=by
  have at_:∀ (i:Nat) (p:Int × Int),(ps ++ [(a,b)])[i]?=some p→ps[i]?=some p∧i < ps.length∨p=(a,b)∧i=ps.length:=fun i p e=>by
    by_cases hi:i < ps.length
    · rw [List.getElem?_append_left hi] at e;exact .inl ⟨e,hi⟩
    · have:i=ps.length:=by have:=(List.getElem?_eq_some_iff.mp e).1;simp at this;omega
      subst this;simp at e;exact .inr ⟨e.symm,rfl⟩
  refine ⟨fun i p e=>?_,fun i j p q hij e f=>?_⟩
  · rcases at_ i p e with ⟨e,_⟩ | ⟨rfl,_⟩
    · exact h.le i p e
    · exact hab
  · rcases at_ i p e with ⟨e,hi⟩ | ⟨rfl,hi⟩
    · rcases at_ j q f with ⟨f,hj⟩ | ⟨rfl,hj⟩
      · exact h.lt i j p q hij e f
      · exact hl i p e
    · have:=(List.getElem?_eq_some_iff.mp f).1
      simp at this
      omega
theorem SpOk.nil {prs:Prs} {b:Nat} : SpOk prs b 0 []:=⟨⟨fun i p e=>by simp at e,fun i j p q _ e=>by simp at e⟩,fun x=>⟨(fun h=>by cases h),fun ⟨k,p,hk,_⟩=>absurd hk (by omega)⟩⟩
theorem SpOk.skip {prs ps:Prs} {b n:Nat} (h:SpOk prs b n ps) (hb:b.testBit n=false):SpOk prs b (n+1) ps:=by
  refine ⟨h.srt,fun x=>(h.iff x).trans ⟨fun ⟨k,p,hk,r⟩=>⟨k,p,by omega,r⟩,fun ⟨k,p,hk,e,t,r⟩=>⟨k,p,?_,e,t,r⟩⟩⟩
  rcases Nat.lt_or_ge k n with z | z
  · exact z
  · have:k=n:=by omega
    subst this;rw [hb] at t;cases t
theorem SpOk.ahead {prs ps:Prs} {b n:Nat} (h:SpOk prs b n ps) (hc:Ch prs) {q:Int × Int} (e:prs[n]?=some q) {i:Nat} {p:Int × Int} (f:ps[i]?=some p):p.2 < q.1:=by
  have hle:=h.srt.le i p f
  obtain ⟨k,r,hk,er,_,r1,r2⟩:=(h.iff p.2).mp (inP_ex.mpr ⟨i,p,f,hle,Int.le_refl _⟩)
  have:=hc.lt er e hk
  omega
theorem SpOk.put {prs ps:Prs} {b n:Nat} (h:SpOk prs b n ps) (hc:Ch prs) (hb:b.testBit n=true) {q:Int × Int} (e:prs[n]?=some q):SpOk prs b (n+1) (ps ++ [(q.1,q.2)]):=by
  refine ⟨h.srt.snoc (hc.le n q e) fun i p f=>h.ahead hc e f,fun x=>?_⟩
  have es:inP (ps ++ [(q.1,q.2)]) x=(inP ps x || inR x (q.1,q.2)):=by unfold inP;rw [List.any_append];simp
  rw [es,Bool.or_eq_true,h.iff x]
  constructor
  · rintro (⟨k,p,hk,r⟩ | hr)
    · exact ⟨k,p,by omega,r⟩
    · unfold inR at hr
      simp at hr
      exact ⟨n,q,by omega,e,hb,hr.1,hr.2⟩
  · rintro ⟨k,p,hk,ep,t,r1,r2⟩
    rcases Nat.lt_or_ge k n with z | z
    · exact .inl ⟨k,p,z,ep,t,r1,r2⟩
    · have:k=n:=by omega
      subst this
      rw [e] at ep;cases ep
      exact .inr (by unfold inR;simp [r1,r2])
theorem SpOk.join {prs ps:Prs} {b n:Nat} {u:Int × Int} (h:SpOk prs b (n+1) (ps ++ [u])) (hc:Ch prs) (hb:b.testBit (n+1)=true) (hb0:b.testBit n=true) {p0 q:Int × Int} (e0:prs[n]?=some p0) (e:prs[n+1]?=some q) (eu:u.2=p0.2):SpOk prs b (n+2) (ps ++ [(u.1,q.2)]):=by
  have hq:=hc.le _ q e
  have hn:=hc.nxt n p0 q e0 e
  have hu:=h.srt.le ps.length u (by simp)
  have hS:Srt ps:=by
    refine ⟨fun i p e=>h.srt.le i p ?_,fun i j p r hij e f=>h.srt.lt i j p r hij ?_ ?_⟩
    · rw [List.getElem?_append_left (List.getElem?_eq_some_iff.mp e).1];exact e
    · rw [List.getElem?_append_left (List.getElem?_eq_some_iff.mp e).1];exact e
    · rw [List.getElem?_append_left (List.getElem?_eq_some_iff.mp f).1];exact f
  refine ⟨hS.snoc (by omega) fun i p f=>?_,fun x=>?_⟩
  · have hi:=(List.getElem?_eq_some_iff.mp f).1
    exact h.srt.lt i ps.length p u hi (by rw [List.getElem?_append_left hi];exact f) (by simp)
  have es:∀ v:Int × Int,inP (ps ++ [v]) x=(inP ps x || inR x v):=fun v=>by unfold inP;rw [List.any_append];simp
  have h1:=h.iff x
  rw [es u,Bool.or_eq_true] at h1
  rw [es (u.1,q.2),Bool.or_eq_true]
  have eR:inR x (u.1,q.2)=true↔u.1≤x∧x≤q.2:=by unfold inR;simp
  have eU:inR x u=true↔u.1≤x∧x≤u.2:=by unfold inR;simp
  rw [eU] at h1
  rw [eR]
  constructor
  · rintro (z | ⟨z1,z2⟩)
    · obtain ⟨k,p,hk,r⟩:=h1.mp (.inl z)
      exact ⟨k,p,by omega,r⟩
    · by_cases hx:x≤u.2
      · obtain ⟨k,p,hk,r⟩:=h1.mp (.inr ⟨z1,hx⟩)
        exact ⟨k,p,by omega,r⟩
      · exact ⟨n+1,q,by omega,e,hb,by omega,z2⟩
  · rintro ⟨k,p,hk,ep,t,r1,r2⟩
    rcases Nat.lt_or_ge k (n+1) with z | z
    · rcases h1.mpr ⟨k,p,z,ep,t,r1,r2⟩ with w | ⟨w1,w2⟩
      · exact .inl w
      · exact .inr ⟨w1,by omega⟩
    · have:k=n+1:=by omega
      subst this
      rw [e] at ep;cases ep
      exact .inr ⟨by omega,r2⟩
theorem SpOk.lastAt {prs ps:Prs} {b n:Nat} (h:SpOk prs b (n+1) ps) (hc:Ch prs) (hb:b.testBit n=true) {q:Int × Int} (e:prs[n]?=some q):∃ ps' u,ps=ps' ++ [u]∧u.2=q.2:=by
  have hq:=hc.le _ q e
  obtain ⟨i,p,f,f1,f2⟩:=inP_ex.mp ((h.iff q.2).mpr ⟨n,q,by omega,e,hb,hq,Int.le_refl _⟩)
  rcases List.eq_nil_or_concat ps with rfl | ⟨ps',u,rfl⟩
  · simp at f
  · rw [List.concat_eq_append] at h f
    refine ⟨ps',u,List.concat_eq_append,?_⟩
    have eu:(ps' ++ [u])[ps'.length]?=some u:=by simp
    have hu:=h.srt.le _ _ eu
    have top:∀ x,inP (ps' ++ [u]) x=true→x≤q.2:=fun x hx=>by
      obtain ⟨k,r,hk,er,_,_,r2⟩:=(h.iff x).mp hx
      rcases Nat.lt_or_ge k n with z | z
      · have:=hc.lt er e z;omega
      · have:k=n:=by omega
        subst this;rw [e] at er;cases er;exact r2
    have t:=top u.2 (inP_ex.mpr ⟨_,u,eu,hu,Int.le_refl _⟩)
    have hi:=(List.getElem?_eq_some_iff.mp f).1
    rw [List.length_append,List.length_singleton] at hi
    rcases Nat.lt_or_ge i ps'.length with z | z
    · have:=h.srt.lt i ps'.length p u z f eu
      omega
    · have:i=ps'.length:=by omega
      subst this
      rw [show (ps' ++ [u])[ps'.length]?=some u by simp] at f
      cases f
      omega
theorem bit_and (b k:Nat):(decide (V.int (Builtin.bitAnd ((b:Int) / 2 ^ k) 1)=V.int 1))=b.testBit k:=by
  have e:(b:Int) / 2 ^ k=((b / 2 ^ k:Nat):Int):=by simp
  rw [e,PyProof.Rows.bitAnd_pp (Int.natCast_nonneg _) (by decide)]
  unfold Nat.testBit
  rw [Nat.shiftRight_eq_div_pow,Int.toNat_natCast,Nat.and_comm]
  show decide (V.int (((1:Int).toNat &&& (b / 2 ^ k):Nat):Int)=V.int 1)=_
  rw [show (1:Int).toNat=1 from rfl]
  have h2:1 &&& (b / 2 ^ k)=(b / 2 ^ k) % 2:=by rw [Nat.and_comm];exact Nat.and_one_is_mod _
  rw [h2]
  have h3:=Nat.mod_lt (b / 2 ^ k) (show 0 < 2 by decide)
  by_cases z:b / 2 ^ k % 2=1
  · rw [z];decide
  · have z0:b / 2 ^ k % 2=0:=by omega
    rw [z0];decide
def mrg (prs:Prs) (b:Nat):Nat→Prs
  | 0=>[]
  | n+1=>if b.testBit n then (if (decide (0 < n) && b.testBit (n - 1)) then (mrg prs b n).dropLast ++ [(((mrg prs b n).getLastD (0,0)).1,(prs.getD n (0,0)).2)] else mrg prs b n ++ [prs.getD n (0,0)]) else mrg prs b n
theorem mrg_no {prs:Prs} {b n:Nat} (h:b.testBit n=false):mrg prs b (n+1)=mrg prs b n:=by
  show (if b.testBit n then _ else _)=_
  rw [h];rfl
theorem mrg_put {prs:Prs} {b n:Nat} {q:Int × Int} (h:b.testBit n=true) (hn:(decide (0 < n) && b.testBit (n - 1))=false) (e:prs[n]?=some q):mrg prs b (n+1)=mrg prs b n ++ [(q.1,q.2)]:=by
  show (if b.testBit n then _ else _)=_
  rw [h,if_pos rfl,hn,if_neg (by decide),List.getD_eq_getElem?_getD,e]
  rfl
theorem mrg_join {prs ps:Prs} {b n:Nat} {q u:Int × Int} (h:b.testBit (n+1)=true) (h0:b.testBit n=true) (is:ps ++ [u]=mrg prs b (n+1)) (e:prs[n+1]?=some q):mrg prs b (n+2)=ps ++ [(u.1,q.2)]:=by
  show (if b.testBit (n+1) then (if (decide (0 < n+1) && b.testBit (n+1 - 1)) then (mrg prs b (n+1)).dropLast ++ [(((mrg prs b (n+1)).getLastD (0,0)).1,(prs.getD (n+1) (0,0)).2)] else _) else _)=_
  rw [h,if_pos rfl,Nat.add_sub_cancel,h0,if_pos (by simp),← is,List.getD_eq_getElem?_getD,e]
  simp
abbrev BW:=List Nat × Int
def vN (bs:List Nat):List V:=bs.map fun b:Nat=>V.int (b:Int)
theorem vN_len (bs:List Nat):(vN bs).length=bs.length:=by unfold vN;rw [List.length_map]
theorem vN_at {bs:List Nat} {j b:Nat} (e:bs[j]?=some b):(vN bs)[j]?=some (.int (b:Int)):=by unfold vN;rw [List.getElem?_map,e];rfl
theorem vN_of {bs:List Nat} {j:Nat} {x:V} (e:(vN bs)[j]?=some x):∃ b:Nat,x=.int (b:Int)∧bs[j]?=some b:=by
  unfold vN at e
  rw [List.getElem?_map] at e
  cases q:bs[j]? with
  | none=>rw [q] at e;cases e
  | some b=>rw [q] at e;cases e;exact ⟨b,rfl,rfl⟩
theorem vN_app (bs cs:List Nat):vN bs ++ vN cs=vN (bs ++ cs):=by unfold vN;rw [List.map_append]
def BRowA (N:Addr→Prop) (H:Hp) (r:Addr) (w:BW):Prop:=∃ bl,H r=some (.tup [.ref bl,.int w.2])∧N bl∧H bl=some (.lst (vN w.1))
theorem BRowA.same {N:Addr→Prop} {H H' : Hp} {r:Addr} {w:BW} (h:BRowA N H r w) (s:Same H H'):BRowA N H' r w:=let ⟨bl,e,n,f⟩:=h;⟨bl,s _ _ e,n,s _ _ f⟩
theorem BRowA.wk {N N' : Addr→Prop} {H:Hp} {r:Addr} {w:BW} (h:BRowA N H r w) (k:∀ a,N a→N' a):BRowA N' H r w:=let ⟨bl,e,n,f⟩:=h;⟨bl,e,k _ n,f⟩
theorem BRowA.updN {N:Addr→Prop} {D:Addr} {H:Hp} {r:Addr} {w:BW} {zs:List V} {o:HO} (h:BRowA N H r w) (n:¬ N D) (e:H D=some (.lst zs)):BRowA N (upd H D o) r w :=
  let ⟨bl,f,m,g⟩:=h
  ⟨bl,(upd_ne (ne_of f e (by intro z;cases z))).trans f,m,(upd_ne (fun z=>n (by rw [← z];exact m))).trans g⟩
def BRL (N:Addr→Prop) (H:Hp) (xs:List V) (ws:List BW):Prop:=RefL xs ws (BRowA N H)
theorem BRL.same {N:Addr→Prop} {H H' : Hp} {xs:List V} {ws:List BW} (h:BRL N H xs ws) (s:Same H H'):BRL N H' xs ws:=RefL.mono h fun _ _ p=>p.same s
theorem BRL.wk {N N' : Addr→Prop} {H:Hp} {xs:List V} {ws:List BW} (h:BRL N H xs ws) (k:∀ a,N a→N' a):BRL N' H xs ws:=RefL.mono h fun _ _ p=>p.wk k
theorem BRL.updN {N:Addr→Prop} {D:Addr} {H:Hp} {xs:List V} {ws:List BW} {zs:List V} {o:HO} (h:BRL N H xs ws) (n:¬ N D) (e:H D=some (.lst zs)):BRL N (upd H D o) xs ws:=RefL.mono h fun _ _ p=>p.updN n e
structure BitOk (cs:List Col) (o:Col) (w:BW):Prop where
  len:w.1.length=cs.length
  lt:∀ (j b:Nat) (c:Col),w.1[j]?=some b→cs[j]?=some c→b < 2 ^ c.prs.length
  lo:o.lo≤w.2
  hi:w.2≤o.hi
theorem cutTake (xs:List V) (k:Nat):cutV xs none (some (k:Int))=xs.take k:=by
  unfold cutV
  have e:HT.sIx xs.length xs.length (some (k:Int))=min k xs.length:=by
    simp only [HT.sIx]
    split <;> omega
  have e2:HT.sIx xs.length 0 none=0:=by simp [HT.sIx]
  rw [e,e2,List.drop_zero,Nat.sub_zero]
  rcases Nat.le_total k xs.length with h | h
  · rw [Nat.min_eq_left h]
  · rw [Nat.min_eq_right h,List.take_length,List.take_of_length_le h]
theorem cutDrop (xs:List V) (k:Nat):cutV xs (some (k:Int)) none=xs.drop k:=by
  unfold cutV
  have e:HT.sIx xs.length 0 (some (k:Int))=min k xs.length:=by
    simp only [HT.sIx]
    split <;> omega
  have e2:HT.sIx xs.length xs.length none=xs.length:=by simp [HT.sIx]
  rw [e,e2,← List.length_drop,List.take_length]
  rcases Nat.le_total k xs.length with h | h
  · rw [Nat.min_eq_left h]
  · rw [Nat.min_eq_right h,List.drop_length,List.drop_of_length_le h]
theorem vN_take (bs:List Nat) (k:Nat):(vN bs).take k=vN (bs.take k):=by unfold vN;rw [List.map_take]
theorem vN_drop (bs:List Nat) (k:Nat):(vN bs).drop k=vN (bs.drop k):=by unfold vN;rw [List.map_drop]
theorem set_is {bs:List Nat} {k:Nat} (h:k < bs.length) (x:Nat):bs.take k ++ [x] ++ bs.drop (k+1)=bs.set k x:=by
  rw [List.set_eq_take_append_cons_drop,if_pos h];simp
theorem four {e v:Int} (he:0 < e) (hv:0≤v) {m:Int} : ∃ b:Nat,atI [V.int (v % (e+1)),.int (v % (e+1)),.int e,.int (v % e)] (m % 4)=some (.int (b:Int))∧(b:Int)≤e:=by
  have h0:=Int.emod_nonneg m (show (4:Int) ≠ 0 by decide)
  have h1:=Int.emod_lt_of_pos m (show (0:Int) < 4 by decide)
  have a0:=Int.emod_nonneg v (show e+1 ≠ 0 by omega)
  have a1:=Int.emod_lt_of_pos v (show 0 < e+1 by omega)
  have b0:=Int.emod_nonneg v (show e ≠ 0 by omega)
  have b1:=Int.emod_lt_of_pos v he
  generalize m % 4=k at h0 h1 ⊢
  generalize v % (e+1)=x at a0 a1 ⊢
  generalize v % e=y at b0 b1 ⊢
  have:k=0∨k=1∨k=2∨k=3:=by omega
  rcases this with rfl | rfl | rfl | rfl
  · exact ⟨x.toNat,by rw [Int.toNat_of_nonneg a0];rfl,by omega⟩
  · exact ⟨x.toNat,by rw [Int.toNat_of_nonneg a0];rfl,by omega⟩
  · exact ⟨e.toNat,by rw [Int.toNat_of_nonneg (by omega)];rfl,by omega⟩
  · exact ⟨y.toNat,by rw [Int.toNat_of_nonneg b0];rfl,by omega⟩
theorem end2 {p:Int × Int} {m:Int} : ∃ x:Int,atI [V.int p.1,V.int p.2] (m % 2)=some (.int x)∧(x=p.1∨x=p.2):=by
  have h0:=Int.emod_nonneg m (show (2:Int) ≠ 0 by decide)
  have h1:=Int.emod_lt_of_pos m (show (0:Int) < 2 by decide)
  generalize m % 2=k at h0 h1 ⊢
  have:k=0∨k=1:=by omega
  rcases this with rfl | rfl
  · exact ⟨_,rfl,.inl rfl⟩
  · exact ⟨_,rfl,.inr rfl⟩
theorem pl_at {H:Hp} {ts:List V} {ps:Prs} (h:PL H ts ps) {i:Int} (h0:0≤i) (h1:i < ((ts.length:Nat):Int)):∃ r p,atI ts i=some (.ref r)∧ps[i.toNat]?=some p∧H r=some (.tup [.int p.1,.int p.2]):=by
  obtain ⟨x,ex⟩:∃ x,ts[i.toNat]?=some x:=⟨_,List.getElem?_eq_getElem (by omega)⟩
  obtain ⟨p,r,f1,rfl,f2⟩:=h.get ex
  have:=atI_nat ex
  rw [Int.toNat_of_nonneg h0] at this
  exact ⟨r,p,this,f1,f2⟩
structure RwOf (cs:List Col) (w:BW) (x:Rw):Prop where
  code:x.2=w.2
  len:x.1.length=cs.length
  sp:∀ (j:Nat) (ps:Prs) (c:Col) (b:Nat),x.1[j]?=some ps→cs[j]?=some c→w.1[j]?=some b→SpOk c.prs b c.prs.length ps
  is:∀ (j:Nat) (ps:Prs) (c:Col) (b:Nat),x.1[j]?=some ps→cs[j]?=some c→w.1[j]?=some b→ps=mrg c.prs b c.prs.length
def RwsOf (cs:List Col) (ws:List BW) (rws:List Rw):Prop:=rws.length=ws.length∧∀ (k:Nat) (w:BW) (x:Rw),ws[k]?=some w→rws[k]?=some x→RwOf cs w x
theorem RwsOf.nil {cs:List Col} : RwsOf cs [] []:=⟨rfl,fun k w x e=>by simp at e⟩
theorem RwsOf.snoc {cs:List Col} {ws:List BW} {rws:List Rw} {w:BW} {x:Rw} (h:RwsOf cs ws rws) (hx:RwOf cs w x):RwsOf cs (ws ++ [w]) (rws ++ [x]):=by
  refine ⟨by simp [h.1],fun k w' x' e f=>?_⟩
  by_cases hk:k < ws.length
  · rw [List.getElem?_append_left hk] at e
    rw [List.getElem?_append_left (by rw [h.1];exact hk)] at f
    exact h.2 k w' x' e f
  · have hk2:k=ws.length:=by have:=(List.getElem?_eq_some_iff.mp e).1;simp at this;omega
    subst hk2
    simp at e
    subst e
    rw [← h.1] at f
    simp at f
    subst f
    exact hx
theorem RwOf.rowOk {cs:List Col} {oc:Col} {w:BW} {x:Rw} (h:RwOf cs w x) (hb:BitOk cs oc w) (hok:∀ c ∈ cs,ColOk c):RowOk (cs.map Col.b) oc.b x:=by
  refine ⟨by rw [h.len,List.length_map],fun j ps b e f p hp=>?_,by rw [h.code];exact hb.lo,by rw [h.code];exact hb.hi⟩
  rw [List.getElem?_map] at f
  cases ec:cs[j]? with
  | none=>rw [ec] at f;cases f
  | some c =>
    rw [ec] at f
    cases f
    have ok:=hok c (List.mem_of_getElem? ec)
    obtain ⟨bt,eb⟩:∃ bt,w.1[j]?=some bt:=⟨_,List.getElem?_eq_getElem (by rw [hb.len];exact (List.getElem?_eq_some_iff.mp ec).1)⟩
    have so:=h.sp j ps c bt e ec eb
    obtain ⟨i,ei⟩:=List.getElem?_of_mem hp
    have hle:=so.srt.le i p ei
    obtain ⟨k1,p1,_,e1,_,r1,_⟩:=(so.iff p.1).mp (inP_ex.mpr ⟨i,p,ei,Int.le_refl _,hle⟩)
    obtain ⟨k2,p2,_,e2,_,_,r2⟩:=(so.iff p.2).mp (inP_ex.mpr ⟨i,p,ei,hle,Int.le_refl _⟩)
    have i1:=ok.inn e1
    have i2:=ok.inn e2
    show c.lo≤p.1∧p.2≤c.hi
    omega
theorem RwsOf.rowOk {cs:List Col} {oc:Col} {ws:List BW} {rws:List Rw} (h:RwsOf cs ws rws) (hb:∀ w ∈ ws,BitOk cs oc w) (hok:∀ c ∈ cs,ColOk c):∀ x ∈ rws,RowOk (cs.map Col.b) oc.b x:=fun x hx=>by
  obtain ⟨k,ek⟩:=List.getElem?_of_mem hx
  obtain ⟨w,ew⟩:∃ w,ws[k]?=some w:=⟨_,List.getElem?_eq_getElem (by rw [← h.1];exact (List.getElem?_eq_some_iff.mp ek).1)⟩
  exact (h.2 k w x ew ek).rowOk (hb w (List.mem_of_getElem? ew)) hok
def grow (pts:List (List Nat)) (n:Nat):List (List Nat):=pts.flatMap fun p=>(List.range n).map fun k=>p ++ [k]
def prodP (ls:List Nat):List (List Nat):=ls.foldl grow [[]]
theorem prodP_snoc (ls:List Nat) (n:Nat):prodP (ls ++ [n])=grow (prodP ls) n:=by unfold prodP;rw [List.foldl_append];rfl
theorem mem_grow {pts:List (List Nat)} {n:Nat} {q:List Nat} : q ∈ grow pts n↔∃ p ∈ pts,∃ k,k < n∧q=p ++ [k]:=by
  unfold grow
  rw [List.mem_flatMap]
  constructor
  · rintro ⟨p,hp,h⟩
    obtain ⟨k,hk,rfl⟩:=List.mem_map.mp h
    exact ⟨p,hp,k,List.mem_range.mp hk,rfl⟩
  · rintro ⟨p,hp,k,hk,rfl⟩
    exact ⟨p,hp,List.mem_map.mpr ⟨k,List.mem_range.mpr hk,rfl⟩⟩
theorem grow_take {pts:List (List Nat)} {n a:Nat} {p:List Nat} (e:pts[a]?=some p):grow (pts.take (a+1)) n=grow (pts.take a) n ++ (List.range n).map fun k=>p ++ [k]:=by
  unfold grow
  rw [take_snoc e,List.flatMap_append]
  simp
theorem grow_len (pts:List (List Nat)) (n:Nat):(grow pts n).length=pts.length * n:=by
  unfold grow
  induction pts with
  | nil=>simp
  | cons p pts ih=>rw [List.flatMap_cons,List.length_append,ih,List.length_map,List.length_range,List.length_cons,Nat.succ_mul];omega
def PtOk (ls:List Nat) (p:List Nat):Prop:=p.length=ls.length∧∀ (j a m:Nat),p[j]?=some a→ls[j]?=some m→a < m
theorem mem_prodP:∀ {r ls:List Nat} (_:ls.reverse=r) {p:List Nat},p ∈ prodP ls↔PtOk ls p
  | [],ls,h,p=>by
    have:ls=[]:=List.reverse_eq_nil_iff.mp h
    subst this
    show p ∈ [[]]↔_
    rw [List.mem_singleton]
    constructor
    · rintro rfl;exact ⟨rfl,fun j a m e=>by simp at e⟩
    · rintro ⟨h,_⟩;exact List.length_eq_zero_iff.mp h
  | n :: r,ls,h,p=>by
    have e:ls=r.reverse ++ [n]:=by rw [← List.reverse_reverse ls,h,List.reverse_cons]
    subst e
    rw [prodP_snoc,mem_grow]
    have ih:∀ {p:List Nat},p ∈ prodP r.reverse↔PtOk r.reverse p:=mem_prodP (List.reverse_reverse r)
    constructor
    · rintro ⟨q,hq,k,hk,rfl⟩
      obtain ⟨l1,l2⟩:=ih.mp hq
      refine ⟨by rw [List.length_append,List.length_append,l1];rfl,fun j a m f g=>?_⟩
      by_cases hj:j < q.length
      · rw [List.getElem?_append_left hj] at f
        rw [List.getElem?_append_left (by rw [← l1];exact hj)] at g
        exact l2 j a m f g
      · have:j=q.length:=by have:=(List.getElem?_eq_some_iff.mp f).1;simp at this;omega
        subst this
        simp at f
        subst f
        rw [l1] at g
        simp at g
        subst g
        exact hk
    · rintro ⟨l1,l2⟩
      rw [List.length_append,List.length_singleton] at l1
      rcases List.eq_nil_or_concat p with rfl | ⟨q,k,rfl⟩
      · simp at l1
      · rw [List.concat_eq_append] at l1 l2 ⊢
        rw [List.length_append,List.length_singleton] at l1
        have lq:q.length=r.reverse.length:=by omega
        refine ⟨q,ih.mpr ⟨lq,fun j a m f g=>?_⟩,k,?_,rfl⟩
        · refine l2 j a m ?_ ?_
          · rw [List.getElem?_append_left (List.getElem?_eq_some_iff.mp f).1];exact f
          · rw [List.getElem?_append_left (List.getElem?_eq_some_iff.mp g).1];exact g
        · refine l2 q.length k n (by simp) ?_
          rw [lq];simp
theorem PtOk.iff {ls p:List Nat} : p ∈ prodP ls↔PtOk ls p:=mem_prodP rfl
def PtL (N:Addr→Prop) (H:Hp) (xs:List V) (pts:List (List Nat)):Prop:=RefL xs pts fun r p=>N r∧H r=some (.lst (vN p))
theorem PtL.same {N:Addr→Prop} {H H' : Hp} {xs:List V} {pts:List (List Nat)} (h:PtL N H xs pts) (s:Same H H'):PtL N H' xs pts:=RefL.mono h fun _ _ p=>⟨p.1,s _ _ p.2⟩
theorem PtL.updN {N:Addr→Prop} {D:Addr} {H:Hp} {xs:List V} {pts:List (List Nat)} {o:HO} (h:PtL N H xs pts) (n:¬ N D):PtL N (upd H D o) xs pts:=RefL.mono h fun _ _ p=>⟨p.1,(upd_ne (fun z=>n (by rw [← z];exact p.1))).trans p.2⟩
theorem PtL.any {N:Addr→Prop} {H:Hp} {xs:List V} {pts:List (List Nat)} (h:PtL N H xs pts):PtL NT H xs pts:=RefL.mono h fun _ _ p=>⟨trivial,p.2⟩
theorem small2000 {n:Nat} (h:n≤2000):n < sizeLine:=Nat.lt_of_le_of_lt h (by decide)
def lens (cs:List Col):List Nat:=cs.map fun c=>c.prs.length
def AtP (cs:List Col) (p:List Nat) (cd:List Int):Prop:=cd.length=cs.length∧∀ (j:Nat) (x:Int) (c:Col) (a:Nat),cd[j]?=some x→cs[j]?=some c→p[j]?=some a→∃ pr,c.prs[a]?=some pr∧(x=pr.1∨x=pr.2)
def bfit (bs p:List Nat):Bool:=(List.range p.length).all fun j=>(bs.getD j 0).testBit (p.getD j 0)
theorem bfit_iff {bs p:List Nat} (hl:bs.length=p.length):bfit bs p=true↔∀ (j a b:Nat),p[j]?=some a→bs[j]?=some b→b.testBit a=true:=by
  unfold bfit
  rw [List.all_eq_true]
  constructor
  · intro h j a b e f
    have:=h j (List.mem_range.mpr (List.getElem?_eq_some_iff.mp e).1)
    rw [List.getD_eq_getElem?_getD,List.getD_eq_getElem?_getD,e,f] at this
    exact this
  · intro h j hj
    have hj:=List.mem_range.mp hj
    have e:=List.getElem?_eq_getElem hj
    have f:=List.getElem?_eq_getElem (l:=bs) (i:=j) (by omega)
    rw [List.getD_eq_getElem?_getD,List.getD_eq_getElem?_getD,e,f]
    exact h j _ _ e f
theorem SpOk.atPair {prs ps:Prs} {b:Nat} (h:SpOk prs b prs.length ps) (hc:Ch prs) {a:Nat} {pr:Int × Int} (e:prs[a]?=some pr) {x:Int} (h1:pr.1≤x) (h2:x≤pr.2):inP ps x=true↔b.testBit a=true:=by
  rw [h.iff x]
  constructor
  · rintro ⟨k,p,hk,ep,t,r1,r2⟩
    rcases Nat.lt_trichotomy k a with z | z | z
    · have:=hc.lt ep e z;omega
    · subst z;exact t
    · have:=hc.lt e ep z;omega
  · intro t
    exact ⟨a,pr,(List.getElem?_eq_some_iff.mp e).1,e,t,h1,h2⟩
theorem lens_len (cs:List Col):(lens cs).length=cs.length:=by unfold lens;rw [List.length_map]
theorem rfit_eq {cs:List Col} {oc:Col} {w:BW} {x:Rw} {p:List Nat} {cd:List Int} (h:RwOf cs w x) (hb:BitOk cs oc w) (hok:∀ c ∈ cs,ColOk c) (hp:PtOk (lens cs) p) (hc:AtP cs p cd):rfit x.1 cd=bfit w.1 p:=by
  have lp:p.length=cs.length:=by rw [hp.1,lens_len]
  rw [Bool.eq_iff_iff,bfit_iff (by rw [hb.len,lp])]
  unfold rfit
  rw [List.all_eq_true]
  have key:∀ (j a b:Nat),p[j]?=some a→w.1[j]?=some b→∀ z,cd[j]?=some z→(inP (x.1.getD j []) z=true↔b.testBit a=true):=fun j a b ep ew z ez=>by
    have hj:j < cs.length:=by rw [← lp];exact (List.getElem?_eq_some_iff.mp ep).1
    have ec:=List.getElem?_eq_getElem hj
    have ex:=List.getElem?_eq_getElem (l:=x.1) (i:=j) (by rw [h.len];exact hj)
    have ok:=hok _ (List.mem_of_getElem? ec)
    obtain ⟨pr,e1,e2⟩:=hc.2 j z _ a ez ec ep
    have hle:=ok.ch.le _ _ e1
    rw [List.getD_eq_getElem?_getD,ex]
    exact (h.sp j _ _ b ex ec ew).atPair ok.ch e1 (by rcases e2 with rfl | rfl <;> omega) (by rcases e2 with rfl | rfl <;> omega)
  constructor
  · intro hh j a b ep ew
    have hj:j < cd.length:=by rw [hc.1,← lp];exact (List.getElem?_eq_some_iff.mp ep).1
    have ez:=List.getElem?_eq_getElem hj
    have:=hh j (List.mem_range.mpr hj)
    rw [List.getD_eq_getElem?_getD (l:=cd),ez] at this
    exact (key j a b ep ew _ ez).mp this
  · intro hh j hj
    have hj:=List.mem_range.mp hj
    have ez:=List.getElem?_eq_getElem hj
    have ep:=List.getElem?_eq_getElem (l:=p) (i:=j) (by rw [lp,← hc.1];exact hj)
    have ew:=List.getElem?_eq_getElem (l:=w.1) (i:=j) (by rw [hb.len,← hc.1];exact hj)
    rw [List.getD_eq_getElem?_getD (l:=cd),ez]
    exact (key j _ _ ep ew _ ez).mpr (hh j _ _ ep ew)
def bF (ws:List BW) (p:List Nat) (k:Nat):Bool:=bfit (ws.getD k ([],0)).1 p
def cnt (ws:List BW) (p:List Nat):List Nat:=(List.range ws.length).filter (bF ws p)
theorem most4 {h:Int} : ∃ v:Int,atI [V.int 6,.int 4,.int 3,.int 2] (1+h % 4 - 1)=some (.int v)∧1≤v∧v≤6:=by
  have h0:=Int.emod_nonneg h (show (4:Int) ≠ 0 by decide)
  have h1:=Int.emod_lt_of_pos h (show (0:Int) < 4 by decide)
  generalize h % 4=k at h0 h1 ⊢
  have:k=0∨k=1∨k=2∨k=3:=by omega
  rcases this with rfl | rfl | rfl | rfl
  · exact ⟨_,rfl,by decide,by decide⟩
  · exact ⟨_,rfl,by decide,by decide⟩
  · exact ⟨_,rfl,by decide,by decide⟩
  · exact ⟨_,rfl,by decide,by decide⟩
def DomX (cN cW:Addr) (H:Hp) (a:Addr) (c:Col):Prop:=(c.w=false∧∃ dx fs,H a=some (.ins cN dx fs)∧fs.lookup (Str.ofString "low")=some (.int c.lo)∧fs.lookup (Str.ofString "high")=some (.int c.hi)∧fs.lookup (Str.ofString "has_code")=none) ∨
  (c.w=true∧∃ dx fs l,H a=some (.ins cW dx fs)∧fs.lookup (Str.ofString "low")=some (.int c.lo)∧fs.lookup (Str.ofString "high")=some (.int c.hi)∧fs.lookup (Str.ofString "has_code")=none∧fs.lookup (Str.ofString "words")=some (.ref l)∧H l=some (.lst ((wds c.sd (c.hi+1).toNat).map V.str)))
theorem DomX.same {cN cW:Addr} {H H' : Hp} {a:Addr} {c:Col} (h:DomX cN cW H a c) (s:Same H H'):DomX cN cW H' a c:=by
  rcases h with ⟨w,dx,fs,e,r⟩ | ⟨w,dx,fs,l,e,r1,r2,r3,r4,r5⟩
  · exact .inl ⟨w,dx,fs,s _ _ e,r⟩
  · exact .inr ⟨w,dx,fs,l,s _ _ e,r1,r2,r3,r4,s _ _ r5⟩
theorem DomX.dom {cN cW:Addr} {H:Hp} {a:Addr} {c:Col} (h:DomX cN cW H a c):Dom cN cW H a c.b:=by
  rcases h with ⟨w,dx,fs,e,r1,r2,r3⟩ | ⟨w,dx,fs,l,e,r1,r2,r3,_⟩
  · exact ⟨cN,.inl rfl,dx,fs,e,r1,r2,r3⟩
  · exact ⟨cW,.inr rfl,dx,fs,e,r1,r2,r3⟩
def prm {α:Type} (os:List Nat) (xs:List α):List α:=os.filterMap (xs[·]?)
structure Pm (os:List Nat) (n:Nat):Prop where
  len:os.length=n
  lt:∀ k ∈ os,k < n
  nd:os.Nodup
  all:∀ k,k < n→k ∈ os
def TF (cT:Addr) (H:Hp) (t:Addr) (nm wy:Str) (ou:Addr) (zs:List Str) (dv:List V) (rws:List Rw):Prop:=∃ (rl dx na dl:Addr) (fs:List (Str × V)) (xs:List V),H t=some (.ins cT dx fs)∧fs.lookup (Str.ofString "rows")=some (.ref rl)∧fs.lookup (Str.ofString "name")=some (.str nm)∧fs.lookup (Str.ofString "way")=some (.str wy)∧fs.lookup (Str.ofString "outcome")=some (.ref ou)∧fs.lookup (Str.ofString "names")=some (.ref na)∧fs.lookup (Str.ofString "domains")=some (.ref dl)∧H na=some (.lst (zs.map V.str))∧H dl=some (.lst dv)∧H rl=some (.lst xs)∧RL NT H xs rws∧xs.length≤200
theorem TF.same {cT:Addr} {H H' : Hp} {t:Addr} {nm wy:Str} {ou:Addr} {zs:List Str} {dv:List V} {rws:List Rw} (h:TF cT H t nm wy ou zs dv rws) (s:Same H H'):TF cT H' t nm wy ou zs dv rws :=
  let ⟨rl,dx,na,dl,fs,xs,h1,h2,h3,h4,h5,h6,h7,h8,h9,h10,h11,r⟩:=h
  ⟨rl,dx,na,dl,fs,xs,s _ _ h1,h2,h3,h4,h5,h6,h7,s _ _ h8,s _ _ h9,s _ _ h10,h11.same s,r⟩
theorem TF.tbl {cT cN cW:Addr} {H:Hp} {t:Addr} {nm wy:Str} {ou:Addr} {zs:List Str} {dv:List V} {rws:List Rw} {i:Nat} {o:Int × Int} (h:TF cT H t nm wy ou zs dv rws) (hi:six[i]?=some wy) (ho:Dom cN cW H ou o) (hl:o.1≤o.2):Tbl cT cN cW H t rws i o :=
  let ⟨rl,dx,_,_,fs,xs,h1,h2,_,h4,h5,_,_,_,_,h10,h11,h12⟩:=h
  ⟨rl,ou,dx,fs,xs,wy,h1,h2,h4,h5,h10,h11,hi,ho,hl,h12⟩
def trn (os:List Nat) (x:Rw):Rw:=(prm os x.1,x.2)
structure TOk (cN cW:Addr) (H:Hp) (nm wy:Str) (ou:Addr) (zs:List Str) (dv:List V) (rws:List Rw) (bs:Prs) (o:Int × Int):Prop where
  words:∀ z ∈ nm :: zs,isw z=true
  once:(nm :: zs).Nodup
  one:1≤zs.length
  four:zs.length≤4
  way:wy ∈ six
  sum:wy=Str.ofString "sum" → ∃ dx fs,H ou=some (.ins cN dx fs)
  doms:RefL dv bs (Dom cN cW H)
  out:Dom cN cW H ou o
  len:bs.length=zs.length
  rows:∀ w ∈ rws,RowOk bs o w
  few:rws.length≤200
theorem TOk.same {cN cW:Addr} {H H' : Hp} {nm wy:Str} {ou:Addr} {zs:List Str} {dv:List V} {rws:List Rw} {bs:Prs} {o:Int × Int} (h:TOk cN cW H nm wy ou zs dv rws bs o) (s:Same H H'):TOk cN cW H' nm wy ou zs dv rws bs o :=
  ⟨h.words,h.once,h.one,h.four,h.way,fun z=>let ⟨dx,fs,e⟩:=h.sum z;⟨dx,fs,s _ _ e⟩,RefL.mono h.doms fun _ _ p=>p.same s,h.out.same s,h.len,h.rows,h.few⟩
theorem hide_upd {H:Hp} {D:Addr} {o:HO} : hide (upd H D o) D=hide H D:=by
  funext b
  unfold hide
  by_cases h:b=D
  · rw [if_pos h,if_pos h]
  · rw [if_neg h,if_neg h,upd_ne h]
theorem hide_mono {H H' : Hp} {D:Addr} (s:Same H H'):Same (hide H D) (hide H' D):=fun b o e=>by
  unfold hide at e ⊢
  by_cases h:b=D
  · rw [if_pos h] at e;cases e
  · rw [if_neg h] at e ⊢;exact s b o e
theorem hide_le (H:Hp) (D:Addr):Same (hide H D) H:=fun b o e=>by
  unfold hide at e
  by_cases h:b=D
  · rw [if_pos h] at e;cases e
  · rw [if_neg h] at e;exact e
theorem DomX.hide {cN cW:Addr} {H:Hp} {a D:Addr} {c:Col} {zs:List V} (h:DomX cN cW H a c) (e:H D=some (.lst zs)) (hz:∀ x ∈ zs,∃ r,x=.ref r) (hn:c.w=true→0≤c.hi):DomX cN cW (My.hide H D) a c:=by
  rcases h with ⟨w,dx,fs,e1,r⟩ | ⟨w,dx,fs,l,e1,r1,r2,r3,r4,r5⟩
  · exact .inl ⟨w,dx,fs,hide_of e1 (ne_of e1 e (by intro z;cases z)),r⟩
  · refine .inr ⟨w,dx,fs,l,hide_of e1 (ne_of e1 e (by intro z;cases z)),r1,r2,r3,r4,hide_of r5 fun z=>?_⟩
    rw [z,e] at r5
    injection r5 with r5
    injection r5 with r5
    have h0:=hn w
    have hl:0 < (wds c.sd (c.hi+1).toNat).length:=by unfold wds;simp;omega
    obtain ⟨r,hr⟩:=hz (.str (wds c.sd (c.hi+1).toNat)[0]) (by rw [r5];exact List.mem_map.mpr ⟨_,List.getElem_mem hl,rfl⟩)
    cases hr
def pc (ws:List BW) (p:List Nat):List Int:=(ws.filter fun w=>bfit w.1 p).map (·.2)
theorem pc_snoc (ws:List BW) (w:BW) (p:List Nat):pc (ws ++ [w]) p=pc ws p ++ (if bfit w.1 p then [w.2] else []):=by
  unfold pc
  rw [List.filter_append,List.map_append]
  cases h:bfit w.1 p <;> simp [List.filter_cons,h]
theorem pc_len (ws:List BW) (p:List Nat):(pc ws p).length≤ws.length:=by
  unfold pc
  rw [List.length_map]
  exact List.length_filter_le ..
theorem sne {a b:Str} (h:a ≠ b):¬ (V.str a=V.str b):=fun e=>by injection e with e;exact h e
theorem inP_dropI {ps:Prs} {i:Nat} {p:Int × Int} (e:ps[i]?=some p) {x:Int} : inP (ps.drop i) x=true↔(p.1≤x∧x≤p.2)∨inP (ps.drop (i+1)) x=true:=by
  have hi:=(List.getElem?_eq_some_iff.mp e).1
  have:ps.drop i=p :: ps.drop (i+1):=by
    rw [List.drop_eq_getElem_cons hi]
    congr 1
    rw [List.getElem?_eq_getElem hi] at e
    exact Option.some.inj e
  rw [this]
  unfold inP inR
  rw [List.any_cons,Bool.or_eq_true,Bool.and_eq_true,decide_eq_true_iff,decide_eq_true_iff]
theorem inP_dropE {ps:Prs} {i:Nat} {x:Int} : inP (ps.drop i) x=true↔∃ (j:Nat) (p:Int × Int),i≤j∧ps[j]?=some p∧p.1≤x∧x≤p.2:=by
  rw [inP_ex]
  constructor
  · rintro ⟨j,p,e,r⟩
    rw [List.getElem?_drop] at e
    exact ⟨i+j,p,by omega,e,r⟩
  · rintro ⟨j,p,hj,e,r⟩
    exact ⟨j - i,p,by rw [List.getElem?_drop,show i+(j - i)=j by omega];exact e,r⟩
def Tog (pss qss:List Prs):Prop:=∀ (j:Nat) (ps qs:Prs),pss[j]?=some ps→qss[j]?=some qs→∃ x,inP ps x=true∧inP qs x=true
def SrtL (pss:List Prs):Prop:=∀ ps ∈ pss,Srt ps
theorem mrg_ok {prs:Prs} (hc:Ch prs) (b:Nat):∀ n,n≤prs.length→SpOk prs b n (mrg prs b n)∧Apart (mrg prs b n)
  | 0,_=>⟨SpOk.nil,⟨(fun p hp=>by cases hp),List.Pairwise.nil⟩⟩
  | n+1,h=>by
    obtain ⟨ok,ap⟩:=mrg_ok hc b n (by omega)
    obtain ⟨q,e⟩:∃ q,prs[n]?=some q:=⟨_,List.getElem?_eq_getElem (by omega)⟩
    cases hb:b.testBit n with
    | false=>rw [mrg_no hb];exact ⟨ok.skip hb,ap⟩
    | true =>
      cases hd:(decide (0 < n) && b.testBit (n - 1)) with
      | false =>
        rw [mrg_put hb hd e]
        refine ⟨ok.put hc hb e,ap.snoc (p:=(q.1,q.2)) (hc.le n q e) fun r hr=>?_⟩
        obtain ⟨i,ei⟩:=List.getElem?_of_mem hr
        have hle:=ok.srt.le i r ei
        obtain ⟨k,p,hk,ep,tk,k1,k2⟩:=(ok.iff r.2).mp (inP_ex.mpr ⟨i,r,ei,hle,Int.le_refl _⟩)
        have hk1:k < n - 1:=by
          rcases Nat.lt_or_ge k (n - 1) with z | z
          · exact z
          · have z2:k=n - 1:=by omega
            have z3:decide (0 < n)=true:=decide_eq_true (by omega)
            rw [← z2,tk,z3] at hd
            cases hd
        obtain ⟨p1,e1⟩:∃ p1,prs[n - 1]?=some p1:=⟨_,List.getElem?_eq_getElem (by omega)⟩
        have a1:=hc.lt ep e1 hk1
        have a2:=hc.le _ p1 e1
        have a3:=hc.nxt (n - 1) p1 q e1 (by rw [show n - 1+1=n by omega];exact e)
        show r.2+2≤q.1
        omega
      | true =>
        rw [Bool.and_eq_true,decide_eq_true_iff] at hd
        obtain ⟨m,rfl⟩:∃ m,n=m+1:=⟨n - 1,by omega⟩
        have hb0:b.testBit m=true:=hd.2
        obtain ⟨p0,e0⟩:∃ p0,prs[m]?=some p0:=⟨_,List.getElem?_eq_getElem (by omega)⟩
        obtain ⟨ps',u,eps,eu⟩:=ok.lastAt hc hb0 e0
        rw [mrg_join hb hb0 eps.symm e]
        rw [eps] at ok ap
        refine ⟨ok.join hc hb hb0 e0 e eu,?_⟩
        obtain ⟨a1,a2,a3⟩:=ap.init
        refine a1.snoc (p:=(u.1,q.2)) ?_ a3
        have:=hc.nxt m p0 q e0 e
        have:=hc.le _ q e
        show u.1≤q.2
        omega
theorem mrg_bit {prs:Prs} (hc:Ch prs) {b n k:Nat} {p:Int × Int} (hn:n≤prs.length) (hk:k < n) (e:prs[k]?=some p):inP (mrg prs b n) p.1=b.testBit k:=by
  have ok:=(mrg_ok hc b n hn).1
  rw [Bool.eq_iff_iff,ok.iff]
  constructor
  · rintro ⟨j,q,hj,eq_,tj,h1,h2⟩
    have:j=k:=by
      rcases Nat.lt_trichotomy j k with z | z | z
      · have:=hc.lt eq_ e z;omega
      · exact z
      · have:=hc.lt e eq_ z
        have:=hc.le _ _ e
        omega
    rw [← this];exact tj
  · intro t;exact ⟨k,p,hk,e,t,Int.le_refl _,hc.le _ _ e⟩
theorem mrg_len {prs:Prs} {b:Nat} : ∀ n,(mrg prs b n).length≤n
  | 0=>Nat.le_refl _
  | n+1=>by
    have ih:=mrg_len (prs:=prs) (b:=b) n
    show (if b.testBit n then (if (decide (0 < n) && b.testBit (n - 1)) then _ else _) else _:Prs).length≤n+1
    split
    · split
      · simp only [List.length_append,List.length_dropLast,List.length_singleton];omega
      · simp only [List.length_append,List.length_singleton];omega
    · omega
def mg (c:Col) (b:Nat):Prs:=mrg c.prs b c.prs.length
theorem mg_ap {c:Col} (ok:ColOk c) (b:Nat):Apart (mg c b):=(mrg_ok ok.ch b _ (Nat.le_refl _)).2
theorem mg_srt {c:Col} (ok:ColOk c) (b:Nat):Srt (mg c b):=(mrg_ok ok.ch b _ (Nat.le_refl _)).1.srt
theorem mg_iff {c:Col} (ok:ColOk c) (b:Nat) (x:Int):inP (mg c b) x=true↔∃ (k:Nat) (p:Int × Int),k < c.prs.length∧c.prs[k]?=some p∧b.testBit k=true∧p.1≤x∧x≤p.2:=(mrg_ok ok.ch b _ (Nat.le_refl _)).1.iff x
theorem mg_len {c:Col} (ok:ColOk c) (b:Nat):(mg c b).length≤6:=Nat.le_trans (mrg_len _) ok.few
theorem bit_out {b n k:Nat} (h:b < 2 ^ n) (hk:n≤k):b.testBit k=false:=Nat.testBit_lt_two_pow (Nat.lt_of_lt_of_le h (Nat.pow_le_pow_right (by decide) hk))
theorem mg_inj {c:Col} (ok:ColOk c) {b b' : Nat} (hb:b < 2 ^ c.prs.length) (hb' : b' < 2 ^ c.prs.length) (e:mg c b=mg c b'):b=b':=by
  refine Nat.eq_of_testBit_eq fun k=>?_
  by_cases hk:k < c.prs.length
  · have ep:=List.getElem?_eq_getElem hk
    have h1:=mrg_bit (b:=b) ok.ch (Nat.le_refl _) hk ep
    have h2:=mrg_bit (b:=b') ok.ch (Nat.le_refl _) hk ep
    have h3:inP (mg c b) (c.prs[k]).1=b.testBit k:=h1
    have h4:inP (mg c b') (c.prs[k]).1=b'.testBit k:=h2
    rw [← h3,← h4,e]
  · rw [bit_out hb (by omega),bit_out hb' (by omega)]
theorem mg_or {c:Col} (ok:ColOk c) {b b' : Nat} {R:Prs} (ap:Apart R) (h:∀ n,inP R n=(inP (mg c b) n || inP (mg c b') n)):R=mg c (b ||| b'):=by
  refine Apart.uniq ap (mg_ap ok _) fun n=>?_
  rw [h n,Bool.eq_iff_iff,Bool.or_eq_true,mg_iff ok,mg_iff ok,mg_iff ok]
  constructor
  · rintro (⟨k,p,hk,e,t,r⟩ | ⟨k,p,hk,e,t,r⟩)
    · exact ⟨k,p,hk,e,by rw [Nat.testBit_or,t,Bool.true_or],r⟩
    · exact ⟨k,p,hk,e,by rw [Nat.testBit_or,t,Bool.or_true],r⟩
  · rintro ⟨k,p,hk,e,t,r⟩
    rw [Nat.testBit_or,Bool.or_eq_true] at t
    rcases t with t | t
    · exact .inl ⟨k,p,hk,e,t,r⟩
    · exact .inr ⟨k,p,hk,e,t,r⟩
theorem mg_meet {c:Col} (ok:ColOk c) {b b' : Nat} (hb:b < 2 ^ c.prs.length):(∃ x,inP (mg c b) x=true∧inP (mg c b') x=true)↔b &&& b' ≠ 0:=by
  constructor
  · rintro ⟨x,h1,h2⟩ z
    obtain ⟨k,p,hk,e,t,r1,r2⟩:=(mg_iff ok b x).mp h1
    obtain ⟨j,q,hj,f,u,s1,s2⟩:=(mg_iff ok b' x).mp h2
    have:j=k:=by
      rcases Nat.lt_trichotomy j k with z | z | z
      · have:=ok.ch.lt f e z;omega
      · exact z
      · have:=ok.ch.lt e f z;omega
    subst this
    have:=Nat.testBit_and b b' j
    rw [z,t,u,Nat.zero_testBit] at this
    cases this
  · intro z
    obtain ⟨k,hk⟩:=Nat.exists_testBit_of_ne_zero z
    rw [Nat.testBit_and,Bool.and_eq_true] at hk
    have hkl:k < c.prs.length:=by
      rcases Nat.lt_or_ge k c.prs.length with g | g
      · exact g
      · rw [bit_out hb g] at hk;exact absurd hk.1 (by decide)
    have ep:=List.getElem?_eq_getElem hkl
    refine ⟨(c.prs[k]).1,?_,?_⟩
    · exact (mrg_bit (b:=b) ok.ch (Nat.le_refl _) hkl ep).trans hk.1
    · exact (mrg_bit (b:=b') ok.ch (Nat.le_refl _) hkl ep).trans hk.2
def cel (cs:List Col) (bs:List Nat):List Prs:=List.zipWith mg cs bs
def rwo (cs:List Col) (w:BW):Rw:=(cel cs w.1,w.2)
theorem cel_get {cs:List Col} {bs:List Nat} {j:Nat} {c:Col} {b:Nat} (e:cs[j]?=some c) (f:bs[j]?=some b):(cel cs bs)[j]?=some (mg c b):=by
  unfold cel;rw [List.getElem?_zipWith,e,f]
theorem cel_of {cs:List Col} {bs:List Nat} {j:Nat} {ps:Prs} (h:(cel cs bs)[j]?=some ps):∃ c b,cs[j]?=some c∧bs[j]?=some b∧ps=mg c b:=by
  unfold cel at h
  rw [List.getElem?_zipWith] at h
  cases ec:cs[j]? with
  | none=>rw [ec] at h;cases h
  | some c =>
    cases eb:bs[j]? with
    | none=>rw [ec,eb] at h;cases h
    | some b=>rw [ec,eb] at h;cases h;exact ⟨c,b,rfl,rfl,rfl⟩
theorem cel_len {cs:List Col} {bs:List Nat} (h:bs.length=cs.length):(cel cs bs).length=cs.length:=by unfold cel;rw [List.length_zipWith];omega
theorem RwOf.rwo {cs:List Col} {w:BW} {x:Rw} (h:RwOf cs w x) (hl:w.1.length=cs.length):x=My.rwo cs w:=by
  have e1:x.1=cel cs w.1:=by
    refine List.ext_getElem? fun j=>?_
    by_cases hj:j < cs.length
    · have ex:=List.getElem?_eq_getElem (l:=x.1) (i:=j) (by rw [h.len];exact hj)
      have ec:=List.getElem?_eq_getElem hj
      have ew:=List.getElem?_eq_getElem (l:=w.1) (i:=j) (by rw [hl];exact hj)
      rw [cel_get ec ew,ex,h.is j _ _ _ ex ec ew];rfl
    · rw [List.getElem?_eq_none (by rw [h.len];omega),List.getElem?_eq_none (by rw [cel_len hl];omega)]
  cases x with
  | mk x1 x2=>rw [show x1=cel cs w.1 from e1,show x2=w.2 from h.code];rfl
theorem RwsOf.rwo {cs:List Col} {ws:List BW} {rws:List Rw} (h:RwsOf cs ws rws) (hl:∀ w ∈ ws,w.1.length=cs.length):rws=ws.map (My.rwo cs):=by
  refine List.ext_getElem? fun k=>?_
  rw [List.getElem?_map]
  by_cases hk:k < ws.length
  · have ew:=List.getElem?_eq_getElem hk
    have ex:=List.getElem?_eq_getElem (l:=rws) (i:=k) (by rw [h.1];exact hk)
    rw [ex,ew,(h.2 k _ _ ew ex).rwo (hl _ (List.mem_of_getElem? ew))];rfl
  · rw [List.getElem?_eq_none (by rw [h.1];omega),List.getElem?_eq_none (by omega)];rfl
theorem rwo_of {cs:List Col} {w:BW} (hok:∀ c ∈ cs,ColOk c) (hl:w.1.length=cs.length):RwOf cs w (rwo cs w):=by
  have key:∀ (j:Nat) (ps:Prs) (c:Col) (b:Nat),(cel cs w.1)[j]?=some ps→cs[j]?=some c→w.1[j]?=some b→ps=mg c b:=fun j ps c b e f g=>by
    rw [cel_get f g] at e;exact (Option.some.inj e).symm
  refine ⟨rfl,cel_len hl,fun j ps c b e f g=>?_,fun j ps c b e f g=>key j ps c b e f g⟩
  rw [key j ps c b e f g]
  exact (mrg_ok (hok c (List.mem_of_getElem? f)).ch b _ (Nat.le_refl _)).1
theorem rwos_of {cs:List Col} {ws:List BW} (hok:∀ c ∈ cs,ColOk c) (hl:∀ w ∈ ws,w.1.length=cs.length):RwsOf cs ws (ws.map (rwo cs)):=by
  refine ⟨List.length_map _,fun k w x e f=>?_⟩
  rw [List.getElem?_map,e] at f
  cases f
  exact rwo_of hok (hl w (List.mem_of_getElem? e))
theorem beside {α:Type} {xs ys:List α} (hl:xs.length=ys.length) (c:Nat):(xs.take c=ys.take c∧xs.drop (c+1)=ys.drop (c+1))↔∀ j,j ≠ c→xs[j]?=ys[j]?:=by
  constructor
  · rintro ⟨h1,h2⟩ j hj
    rcases Nat.lt_or_ge j c with g | g
    · have:=congrArg (fun l:List α=>l[j]?) h1
      simpa [List.getElem?_take,g] using this
    · have:=congrArg (fun l:List α=>l[j - (c+1)]?) h2
      simp only [List.getElem?_drop] at this
      rw [show c+1+(j - (c+1))=j by omega] at this
      exact this
  · intro h
    constructor
    · refine List.ext_getElem? fun j=>?_
      rw [List.getElem?_take,List.getElem?_take]
      split
      · exact h j (by omega)
      · rfl
    · refine List.ext_getElem? fun j=>?_
      rw [List.getElem?_drop,List.getElem?_drop]
      exact h _ (by omega)
def Bd (cs:List Col) (bs:List Nat):Prop:=bs.length=cs.length∧∀ (j b:Nat) (c:Col),bs[j]?=some b→cs[j]?=some c→b < 2 ^ c.prs.length
theorem cel_beside {cs:List Col} {bs bs' : List Nat} (hok:∀ c ∈ cs,ColOk c) (h:Bd cs bs) (h' : Bd cs bs') (c:Nat):(∀ j,j ≠ c→(cel cs bs)[j]?=(cel cs bs')[j]?)↔∀ j,j ≠ c→bs[j]?=bs'[j]?:=by
  constructor
  · intro g j hj
    by_cases hl:j < cs.length
    · have ec:=List.getElem?_eq_getElem hl
      have e1:=List.getElem?_eq_getElem (l:=bs) (i:=j) (by rw [h.1];exact hl)
      have e2:=List.getElem?_eq_getElem (l:=bs') (i:=j) (by rw [h'.1];exact hl)
      have:=g j hj
      rw [cel_get ec e1,cel_get ec e2] at this
      rw [e1,e2,mg_inj (hok _ (List.mem_of_getElem? ec)) (h.2 j _ _ e1 ec) (h'.2 j _ _ e2 ec) (Option.some.inj this)]
    · rw [List.getElem?_eq_none (by rw [h.1];omega),List.getElem?_eq_none (by rw [h'.1];omega)]
  · intro g j hj
    unfold cel
    rw [List.getElem?_zipWith,List.getElem?_zipWith,g j hj]
theorem getD_some {α:Type} {xs:List α} {j:Nat} {x d:α} (e:xs[j]?=some x):xs.getD j d=x:=by rw [List.getD_eq_getElem?_getD,e];rfl
def JnR (cnt:Bool) (x y:Rw) (c:Nat):Prop:=c < x.1.length∧(∀ j,j ≠ c→x.1[j]?=y.1[j]?)∧(cnt=true→¬ ∃ z,inP (x.1.getD c []) z=true∧inP (y.1.getD c []) z=true)
def Jn (cnt:Bool) (w w' : BW) (c:Nat):Prop:=c < w.1.length∧(∀ j,j ≠ c→w.1[j]?=w'.1[j]?)∧(cnt=true→w.1.getD c 0 &&& w'.1.getD c 0=0)
theorem jn_iff {cnt:Bool} {cs:List Col} {w w' : BW} (hok:∀ c ∈ cs,ColOk c) (h:Bd cs w.1) (h' : Bd cs w'.1) (c:Nat):JnR cnt (rwo cs w) (rwo cs w') c↔Jn cnt w w' c:=by
  unfold JnR Jn
  rw [show (rwo cs w).1=cel cs w.1 from rfl,show (rwo cs w').1=cel cs w'.1 from rfl,cel_len h.1,cel_beside hok h h',h.1]
  by_cases hc:c < cs.length
  · have ec:=List.getElem?_eq_getElem hc
    have e1:=List.getElem?_eq_getElem (l:=w.1) (i:=c) (by rw [h.1];exact hc)
    have e2:=List.getElem?_eq_getElem (l:=w'.1) (i:=c) (by rw [h'.1];exact hc)
    rw [getD_some (cel_get ec e1),getD_some (cel_get ec e2),getD_some e1,getD_some e2,mg_meet (hok _ (List.mem_of_getElem? ec)) (h.2 c _ _ e1 ec)]
    simp only [ne_eq,Decidable.not_not]
  · exact ⟨fun z=>absurd z.1 hc,fun z=>absurd z.1 hc⟩
def Fs (J:Nat→Prop) (c:Nat):Prop:=J c∧∀ d,d < c→¬ J d
theorem Fs.uniq {J:Nat→Prop} {c d:Nat} (h:Fs J c) (h' : Fs J d):c=d:=by
  rcases Nat.lt_trichotomy c d with g | g | g
  · exact absurd h.1 (h'.2 c g)
  · exact g
  · exact absurd h'.1 (h.2 d g)
theorem Fs.congr {J J' : Nat→Prop} {c:Nat} (h:Fs J c) (k:∀ c,J c↔J' c):Fs J' c:=⟨(k c).mp h.1,fun d hd z=>h.2 d hd ((k d).mpr z)⟩
def NoJ (cnt:Bool) (w w' : BW):Prop:=w.2=w'.2→∀ c,¬ Jn cnt w w' c
def jnw (w w' : BW) (c:Nat):BW:=(w.1.set c (w.1.getD c 0 ||| w'.1.getD c 0),w.2)
def Clr (cnt:Bool) (ws:List BW) (k:Nat):Prop:=∀ (j:Nat) (u v:BW),j < k→ws[j]?=some u→ws[j+1]?=some v→NoJ cnt u v
def StK (cnt:Bool) (ws ws' : List BW):Prop:=∃ (k:Nat) (w w' : BW) (c:Nat),ws[k]?=some w∧ws[k+1]?=some w'∧w.2=w'.2∧Fs (Jn cnt w w') c∧Clr cnt ws k∧ws'=ws.take k ++ [jnw w w' c] ++ ws.drop (k+2)
inductive Nf (cnt:Bool):List BW→List BW→Prop where
  | fin {ws:List BW} (h:Clr cnt ws ws.length):Nf cnt ws ws
  | go {ws ws' r:List BW} (h:StK cnt ws ws') (t:Nf cnt ws' r):Nf cnt ws r
theorem StK.uniq {cnt:Bool} {ws a b:List BW} (h:StK cnt ws a) (h' : StK cnt ws b):a=b:=by
  obtain ⟨k,w,w',c,e1,e2,e3,f,cl,rfl⟩:=h
  obtain ⟨k2,u,u',d,g1,g2,g3,f',cl',rfl⟩:=h'
  have hk:k=k2:=by
    rcases Nat.lt_trichotomy k k2 with z | z | z
    · exact absurd f.1 (cl' k w w' z e1 e2 e3 c)
    · exact z
    · exact absurd f'.1 (cl k2 u u' z g1 g2 g3 d)
  subst hk
  rw [e1] at g1;rw [e2] at g2
  cases g1;cases g2
  rw [f.uniq f']
theorem StK.no {cnt:Bool} {ws a:List BW} (h:StK cnt ws a) (z:Clr cnt ws ws.length):False:=by
  obtain ⟨k,w,w',c,e1,e2,e3,f,cl,rfl⟩:=h
  exact z k w w' (List.getElem?_eq_some_iff.mp e1).1 e1 e2 e3 c f.1
theorem Nf.uniq {cnt:Bool} {ws a b:List BW} (h:Nf cnt ws a) (h' : Nf cnt ws b):a=b:=by
  induction h with
  | fin z =>
    cases h' with
    | fin _=>rfl
    | go s _=>exact (s.no z).elim
  | go s _ ih =>
    cases h' with
    | fin z=>exact (s.no z).elim
    | go s' t'=>exact ih (by rw [s.uniq s'];exact t')
theorem StK.len {cnt:Bool} {ws a:List BW} (h:StK cnt ws a):a.length+1=ws.length:=by
  obtain ⟨k,w,w',c,e1,e2,e3,f,cl,rfl⟩:=h
  have:=(List.getElem?_eq_some_iff.mp e2).1
  simp only [List.length_append,List.length_take,List.length_drop,List.length_singleton]
  omega
theorem Nf.clr {cnt:Bool} {ws r:List BW} (h:Nf cnt ws r):Clr cnt r r.length:=by
  induction h with
  | fin z=>exact z
  | go _ _ ih=>exact ih
theorem Nf.len {cnt:Bool} {ws r:List BW} (h:Nf cnt ws r):r.length≤ws.length:=by
  induction h with
  | fin _=>exact Nat.le_refl _
  | go s _ ih=>have:=s.len;omega
theorem BitOk.bd {cs:List Col} {oc:Col} {w:BW} (h:BitOk cs oc w):Bd cs w.1:=⟨h.len,h.lt⟩
theorem jnw_ok {cs:List Col} {oc:Col} {w w' : BW} {c:Nat} (h:BitOk cs oc w) (h' : BitOk cs oc w'):BitOk cs oc (jnw w w' c):=by
  refine ⟨by show (w.1.set c _).length=_;rw [List.length_set];exact h.len,fun j b col e f=>?_,h.lo,h.hi⟩
  have e' : (w.1.set c (w.1.getD c 0 ||| w'.1.getD c 0))[j]?=some b:=e
  clear e
  rw [List.getElem?_set] at e'
  by_cases hj:c=j
  · subst hj
    rw [if_pos rfl] at e'
    by_cases hl:c < w.1.length
    · rw [if_pos hl] at e'
      have e1:=List.getElem?_eq_getElem hl
      have e2:=List.getElem?_eq_getElem (l:=w'.1) (i:=c) (by rw [h'.len,← h.len];exact hl)
      rw [getD_some e1,getD_some e2] at e'
      cases e'
      exact Nat.or_lt_two_pow (h.lt _ _ _ e1 f) (h'.lt _ _ _ e2 f)
    · rw [if_neg hl] at e';cases e'
  · rw [if_neg hj] at e'
    exact h.lt j b col e' f
theorem mem_step {α:Type} {ws:List α} {k:Nat} {x:α} {P:α→Prop} (h:∀ w ∈ ws,P w) (hx:P x):∀ w ∈ ws.take k ++ [x] ++ ws.drop (k+2),P w:=fun w hw=>by
  rcases List.mem_append.mp hw with hw | hw
  · rcases List.mem_append.mp hw with hw | hw
    · exact h w (List.mem_of_mem_take hw)
    · rw [show w=x by simpa using hw];exact hx
  · exact h w (List.mem_of_mem_drop hw)
theorem StK.ok {cnt:Bool} {ws a:List BW} {cs:List Col} {oc:Col} (h:StK cnt ws a) (hb:∀ w ∈ ws,BitOk cs oc w):∀ w ∈ a,BitOk cs oc w:=by
  obtain ⟨k,w,w',c,e1,e2,e3,f,cl,rfl⟩:=h
  exact mem_step hb (jnw_ok (hb _ (List.mem_of_getElem? e1)) (hb _ (List.mem_of_getElem? e2)))
theorem Nf.ok {cnt:Bool} {ws r:List BW} {cs:List Col} {oc:Col} (h:Nf cnt ws r) (hb:∀ w ∈ ws,BitOk cs oc w):∀ w ∈ r,BitOk cs oc w:=by
  induction h with
  | fin _=>exact hb
  | go s _ ih=>exact ih (s.ok hb)
theorem bfit_all {bs p:List Nat} : bfit bs p=true↔∀ j,j < p.length→(bs.getD j 0).testBit (p.getD j 0)=true:=by
  unfold bfit
  rw [List.all_eq_true]
  exact ⟨fun h j hj=>h j (List.mem_range.mpr hj),fun h j hj=>h j (List.mem_range.mp hj)⟩
theorem getD_eq {xs ys:List Nat} {j:Nat} (h:xs[j]?=ys[j]?):xs.getD j 0=ys.getD j 0:=by rw [List.getD_eq_getElem?_getD,List.getD_eq_getElem?_getD,h]
theorem jnw_at {w w' : BW} {c:Nat} (hc:c < w.1.length) (j:Nat):(jnw w w' c).1.getD j 0=if j=c then w.1.getD c 0 ||| w'.1.getD c 0 else w.1.getD j 0:=by
  show (w.1.set c _).getD j 0=_
  rw [List.getD_eq_getElem?_getD,List.getElem?_set]
  by_cases h:j=c
  · subst h;rw [if_pos rfl,if_pos hc,if_pos rfl];rfl
  · rw [if_neg (fun z=>h z.symm),if_neg h,List.getD_eq_getElem?_getD]
theorem bfit_jn {cnt:Bool} {w w' : BW} {c:Nat} {p:List Nat} (h:Jn cnt w w' c) (hp:w.1.length=p.length):bfit (jnw w w' c).1 p=(bfit w.1 p || bfit w'.1 p):=by
  rw [Bool.eq_iff_iff,Bool.or_eq_true,bfit_all,bfit_all,bfit_all]
  have oth:∀ j,j ≠ c→w.1.getD j 0=w'.1.getD j 0:=fun j hj=>getD_eq (h.2.1 j hj)
  constructor
  · intro g
    have gc:=g c (by rw [← hp];exact h.1)
    rw [jnw_at h.1,if_pos rfl,Nat.testBit_or,Bool.or_eq_true] at gc
    rcases gc with gc | gc
    · refine .inl fun j hj=>?_
      by_cases z:j=c
      · rw [z];exact gc
      · have:=g j hj;rw [jnw_at h.1,if_neg z] at this;exact this
    · refine .inr fun j hj=>?_
      by_cases z:j=c
      · rw [z];exact gc
      · have:=g j hj;rw [jnw_at h.1,if_neg z,oth j z] at this;exact this
  · rintro (g | g) j hj
    · rw [jnw_at h.1]
      split
      · rename_i z;subst z;rw [Nat.testBit_or,g j hj,Bool.true_or]
      · exact g j hj
    · rw [jnw_at h.1]
      split
      · rename_i z;subst z;rw [Nat.testBit_or,g j hj,Bool.or_true]
      · rename_i z;rw [oth j z];exact g j hj
theorem bfit_not {w w' : BW} {c:Nat} {p:List Nat} (h:Jn true w w' c) (hp:w.1.length=p.length):¬ (bfit w.1 p=true∧bfit w'.1 p=true):=by
  rintro ⟨g1,g2⟩
  have a:=bfit_all.mp g1 c (by rw [← hp];exact h.1)
  have b:=bfit_all.mp g2 c (by rw [← hp];exact h.1)
  have:=Nat.testBit_and (w.1.getD c 0) (w'.1.getD c 0) (p.getD c 0)
  rw [h.2.2 rfl,a,b,Nat.zero_testBit] at this
  cases this
theorem pc_app (a b:List BW) (p:List Nat):pc (a ++ b) p=pc a p ++ pc b p:=by unfold pc;rw [List.filter_append,List.map_append]
theorem pc_one (w:BW) (p:List Nat):pc [w] p=if bfit w.1 p then [w.2] else []:=by
  have:=pc_snoc [] w p
  simpa [pc] using this
theorem split_at2 {α:Type} {ws:List α} {k:Nat} {x y:α} (e:ws[k]?=some x) (f:ws[k+1]?=some y):ws=ws.take k ++ [x] ++ [y] ++ ws.drop (k+2):=by
  rw [← take_snoc e,← take_snoc f,List.take_append_drop]
theorem pc_step {cnt:Bool} {ws a:List BW} {p:List Nat} (h:StK cnt ws a) (hp:∀ w ∈ ws,w.1.length=p.length):∃ (A B x y:List Int) (c:Int),pc ws p=A ++ x ++ B∧pc a p=A ++ y ++ B∧(x=y∨(cnt=false∧x=[c,c]∧y=[c])):=by
  obtain ⟨k,w,w',c,e1,e2,e3,f,cl,rfl⟩:=h
  refine ⟨pc (ws.take k) p,pc (ws.drop (k+2)) p,pc [w] p ++ pc [w'] p,pc [jnw w w' c] p,w.2,?_,?_,?_⟩
  · conv=>lhs;rw [split_at2 e1 e2]
    rw [pc_app,pc_app,pc_app,List.append_assoc (pc (ws.take k) p)]
  · rw [pc_app,pc_app]
  · have hl:=hp w (List.mem_of_getElem? e1)
    rw [pc_one,pc_one,pc_one,bfit_jn f.1 hl,← e3,show (jnw w w' c).2=w.2 from rfl]
    cases g1:bfit w.1 p with
    | false=>cases g2:bfit w'.1 p <;> exact .inl rfl
    | true =>
      cases g2:bfit w'.1 p with
      | false=>exact .inl rfl
      | true =>
        cases cnt with
        | false=>exact .inr ⟨rfl,rfl,rfl⟩
        | true=>exact absurd ⟨g1,g2⟩ (bfit_not f.1 hl)
theorem least_same {n m:Int} {ns ms:List Int} (h:∀ x,x ∈ n :: ns↔x ∈ m :: ms):least (n :: ns)=least (m :: ms):=least_un ((h _).mp least_is.1) fun b hb=>least_is.2 b ((h b).mpr hb)
theorem great_same {n m:Int} {ns ms:List Int} (h:∀ x,x ∈ n :: ns↔x ∈ m :: ms):great (n :: ns)=great (m :: ms):=great_un ((h _).mp great_is.1) fun b hb=>great_is.2 b ((h b).mpr hb)
def cn (i:Nat):Bool:=decide (i=1∨i=5)
theorem wf_same {i:Nat} (hi:i < 6) (hc:cn i=false) {lo hi' n:Int} {ns ms:List Int} (h:∀ x,x ∈ n :: ns↔x ∈ n :: ms):wf i lo hi' (n :: ns)=wf i lo hi' (n :: ms):=by
  match i,hi,hc with
  | 0,_,_=>rfl
  | 1,_,hc=>cases hc
  | 2,_,_ =>
    show fLike _=fLike _
    unfold fLike
    rw [least_same h,great_same h]
  | 3,_,_ =>
    show fLow _=fLow _
    unfold fLow
    rw [least_same h]
  | 4,_,_ =>
    show fHigh _=fHigh _
    unfold fHigh
    rw [great_same h]
  | 5,_,hc=>cases hc
theorem ver_dup {i:Nat} (hi:i < 6) (hc:cn i=false) {lo hi' c:Int} {A B:List Int} : ver (wf i lo hi') (A ++ [c] ++ B)=ver (wf i lo hi') (A ++ [c,c] ++ B):=by
  cases A with
  | nil=>exact wf_same hi hc fun x=>by simp
  | cons a A=>exact wf_same hi hc fun x=>by simp
theorem nf_ver {i:Nat} (hi:i < 6) {lo hi' : Int} {ws r:List BW} {p:List Nat} {cs:List Col} {oc:Col} (h:Nf (cn i) ws r) (hb:∀ w ∈ ws,BitOk cs oc w) (hp:p.length=cs.length):ver (wf i lo hi') (pc r p)=ver (wf i lo hi') (pc ws p):=by
  generalize hcn:cn i=cnt at h
  induction h with
  | fin _=>rfl
  | go s _ ih =>
    rw [ih (s.ok hb)]
    obtain ⟨A,B,x,y,c,e1,e2,e3⟩:=pc_step s (p:=p) fun w hw=>by rw [(hb w hw).len,hp]
    rw [e1,e2]
    rcases e3 with rfl | ⟨z,rfl,rfl⟩
    · rfl
    · exact ver_dup hi (by rw [hcn,z])
theorem cel_set {cs:List Col} {bs:List Nat} {c v:Nat} {col:Col} (hl:bs.length=cs.length) (e:cs[c]?=some col):(cel cs bs).take c ++ [mg col v] ++ (cel cs bs).drop (c+1)=cel cs (bs.set c v):=by
  have hc:=(List.getElem?_eq_some_iff.mp e).1
  have hcl:=cel_len hl
  refine List.ext_getElem? fun j=>?_
  have er:(cel cs (bs.set c v))[j]?=if j=c then some (mg col v) else (cel cs bs)[j]?:=by
    by_cases hj:j=c
    · subst hj
      rw [if_pos rfl]
      exact cel_get e (by rw [List.getElem?_set,if_pos rfl,if_pos (by rw [hl];exact hc)])
    · rw [if_neg hj]
      unfold cel
      rw [List.getElem?_zipWith,List.getElem?_zipWith,List.getElem?_set,if_neg (fun z=>hj z.symm)]
  rw [er,List.append_assoc]
  have ht:((cel cs bs).take c).length=c:=by rw [List.length_take,hcl];omega
  rcases Nat.lt_trichotomy j c with z | z | z
  · rw [if_neg (by omega),List.getElem?_append_left (by omega),List.getElem?_take,if_pos z]
  · rw [if_pos z,List.getElem?_append_right (by omega),ht,z,Nat.sub_self];rfl
  · rw [if_neg (by omega),List.getElem?_append_right (by omega),ht]
    obtain ⟨d,hd⟩:∃ d,j - c=d+1:=⟨j - c - 1,by omega⟩
    rw [hd]
    show ((cel cs bs).drop (c+1))[d]?=_
    rw [List.getElem?_drop]
    congr 1
    omega
theorem pl_uniq {H:Hp} {xs:List V} {ps qs:Prs} (h:PL H xs ps) (h' : PL H xs qs):ps=qs:=by
  refine List.ext_getElem? fun j=>?_
  by_cases hj:j < xs.length
  · have ex:=List.getElem?_eq_getElem hj
    obtain ⟨p,r,e1,e2,e3⟩:=h.get ex
    obtain ⟨q,r',f1,f2,f3⟩:=h'.get ex
    rw [e2] at f2
    injection f2 with f2
    subst f2
    rw [e3] at f3
    have z:p.1=q.1∧p.2=q.2:=by simpa using f3
    rw [e1,f1,Prod.ext z.1 z.2]
  · rw [List.getElem?_eq_none (by rw [← h.length];omega),List.getElem?_eq_none (by rw [← h'.length];omega)]
theorem eqV_int (a b:Int):eqV (.int a) (.int b)=decide (a=b):=by
  by_cases h:a=b
  · rw [decide_eq_true h,h];simp [eqV]
  · rw [decide_eq_false h];simp [eqV,h]
theorem deq_pr {K:PySem.W.Frag} {H:Hp} {n:Nat} {r r' : Addr} {p q:Int × Int} (h:H r=some (.tup [.int p.1,.int p.2])) (h' : H r'=some (.tup [.int q.1,.int q.2])):DEq K H (n+1) (.ref r) (.ref r') (decide (p=q)):=by
  by_cases e:r=r'
  · subst e
    rw [h] at h'
    have z:p.1=q.1∧p.2=q.2:=by simpa using h'
    rw [decide_eq_true (Prod.ext z.1 z.2)]
    exact .same r
  · have d:=DEq.tup (K:=K) (n:=n) (f:=fun j=>if j=0 then decide (p.1=q.1) else decide (p.2=q.2)) e (SqT.of h) (SqT.of h') fun j x y e1 e2=>by
      match j,e1,e2 with
      | 0,e1,e2 =>
        cases e1;cases e2
        show DEq K H n _ _ (decide (p.1=q.1))
        rw [← eqV_int]
        exact .flat rfl rfl
      | 1,e1,e2 =>
        cases e1;cases e2
        show DEq K H n _ _ (decide (p.2=q.2))
        rw [← eqV_int]
        exact .flat rfl rfl
      | j+2,e1,_=>simp at e1
    have eb:((List.range (min [V.int p.1,V.int p.2].length [V.int q.1,V.int q.2].length)).all (fun j=>if j=0 then decide (p.1=q.1) else decide (p.2=q.2)) && [V.int p.1,V.int p.2].length == [V.int q.1,V.int q.2].length)=decide (p=q):=by
      rw [Bool.eq_iff_iff,Bool.and_eq_true,List.all_eq_true,decide_eq_true_iff]
      constructor
      · rintro ⟨h1,_⟩
        have a:decide (p.1=q.1)=true:=h1 0 (List.mem_range.mpr (by simp))
        have b:decide (p.2=q.2)=true:=h1 1 (List.mem_range.mpr (by simp))
        exact Prod.ext (of_decide_eq_true a) (of_decide_eq_true b)
      · rintro rfl
        refine ⟨fun j _=>?_,by simp⟩
        split <;> exact decide_eq_true rfl
    rw [eb] at d
    exact d
theorem all_get {α:Type} [DecidableEq α] {xs ys:List α} {n:Nat} (h1:xs.length=n) (h2:ys.length=n):(List.range n).all (fun j=>decide (xs[j]?=ys[j]?))=decide (xs=ys):=by
  rw [Bool.eq_iff_iff,List.all_eq_true,decide_eq_true_iff]
  constructor
  · intro h
    refine List.ext_getElem? fun j=>?_
    by_cases hj:j < n
    · exact of_decide_eq_true (h j (List.mem_range.mpr hj))
    · rw [List.getElem?_eq_none (by omega),List.getElem?_eq_none (by omega)]
  · rintro rfl j _
    exact decide_eq_true rfl
theorem dec_some {α:Type} [DecidableEq α] {x y:Option α} {a b:α} (e:x=some a) (f:y=some b):decide (x=y)=decide (a=b):=by
  subst e f
  by_cases h:a=b
  · rw [decide_eq_true h,decide_eq_true (by rw [h])]
  · rw [decide_eq_false h,decide_eq_false (fun z=>h (Option.some.inj z))]
theorem deq_sp {K:PySem.W.Frag} {H:Hp} {n:Nat} {l l' : Addr} {ps qs:Prs} (h:SpA NT H l ps) (h' : SpA NT H l' qs):DEq K H (n+2) (.ref l) (.ref l') (decide (ps=qs)):=by
  obtain ⟨_,ys,e,hp⟩:=h
  obtain ⟨_,zs,e',hq⟩:=h'
  by_cases z:l=l'
  · subst z
    rw [e] at e'
    injection e' with e'
    injection e' with e'
    subst e'
    rw [decide_eq_true (pl_uniq hp hq)]
    exact .same l
  · by_cases hl:ys.length=zs.length
    · have d:=DEq.lst (K:=K) (n:=n+1) (f:=fun j=>decide (ps[j]?=qs[j]?)) z (SqL.of e) (SqL.of e') hl fun j x y e1 e2=>by
        obtain ⟨p,r,g1,rfl,g2⟩:=hp.get e1
        obtain ⟨q,r',k1,rfl,k2⟩:=hq.get e2
        show DEq K H (n+1) _ _ (decide (ps[j]?=qs[j]?))
        rw [dec_some g1 k1]
        exact deq_pr g2 k2
      rw [all_get hp.length.symm (by rw [hl];exact hq.length.symm)] at d
      exact d
    · rw [decide_eq_false (fun w=>hl (by rw [hp.length,hq.length,w]))]
      exact .lst_ne z (SqL.of e) (SqL.of e') hl
theorem eqDL_cl {K:PySem.W.Frag} {H:Hp} {Q:VK} {a b:Addr} {xs ys:List V} {pss qss:List Prs} (ha:H a=some (.lst xs)) (hb:H b=some (.lst ys)) (hp:CL NT H xs pss) (hq:CL NT H ys qss) (q:Q (.bl (decide (pss=qss))) H):rEqDL K false (.ref a) (.ref b) H Q:=by
  refine ⟨a,b,xs,ys,rfl,rfl,SqL.of ha,SqL.of hb,?_⟩
  by_cases hl:xs.length=ys.length
  · refine .inr ⟨hl,fun j=>decide (pss[j]?=qss[j]?),fun j x y e1 e2=>?_,?_⟩
    · obtain ⟨l,ps,rfl,g1,g2⟩:=RefL.get hp e1
      obtain ⟨l',qs,rfl,k1,k2⟩:=RefL.get hq e2
      show DEq K H 60 _ _ (decide (pss[j]?=qss[j]?))
      rw [dec_some g1 k1]
      exact deq_sp (n:=58) g2 k2
    · show Q (.bl ((List.range xs.length).all fun j=>decide (pss[j]?=qss[j]?))) H
      rw [all_get hp.1.symm (by rw [hl];exact hq.1.symm)]
      exact q
  · refine .inl ⟨hl,?_⟩
    rw [decide_eq_false (fun w=>hl (by rw [hp.1,hq.1,w]))] at q
    exact q
theorem eqL_vN {K:PySem.W.Frag} {H:Hp} {Q:VK} {a b:Addr} {xs ys:List Nat} (ha:H a=some (.lst (vN xs))) (hb:H b=some (.lst (vN ys))) (q:Q (.bl (decide (xs=ys))) H):rEqL K false (.ref a) (.ref b) H Q:=by
  refine ⟨a,b,vN xs,vN ys,rfl,rfl,SqL.of ha,SqL.of hb,?_⟩
  by_cases hl:xs.length=ys.length
  · refine .inr ⟨by rw [vN_len,vN_len,hl],fun j=>decide (xs[j]?=ys[j]?),fun j x y e1 e2=>?_,?_⟩
    · obtain ⟨n,rfl,g1⟩:=vN_of e1
      obtain ⟨m,rfl,k1⟩:=vN_of e2
      show EqI K H _ _ (decide (xs[j]?=ys[j]?))
      rw [dec_some g1 k1]
      have e:decide (n=m)=eqV (.int (n:Int)) (.int (m:Int)):=by
        rw [eqV_int]
        by_cases h:n=m
        · rw [decide_eq_true h,decide_eq_true (by rw [h])]
        · rw [decide_eq_false h,decide_eq_false (by omega)]
      rw [e]
      exact .flat rfl rfl
    · show Q (.bl ((List.range (vN xs).length).all fun j=>decide (xs[j]?=ys[j]?))) H
      rw [vN_len,all_get rfl hl.symm]
      exact q
  · refine .inl ⟨by rw [vN_len,vN_len];exact hl,?_⟩
    rw [decide_eq_false (fun w=>hl (by rw [w]))] at q
    exact q
theorem RefL.take {α:Type} {xs:List V} {as:List α} {P:Addr→α→Prop} (h:RefL xs as P) (k:Nat):RefL (xs.take k) (as.take k) P:=⟨by rw [List.length_take,List.length_take,h.1],fun j a e=>by
  rw [List.getElem?_take] at e
  by_cases hj:j < k
  · rw [if_pos hj] at e
    obtain ⟨r,e1,p⟩:=h.2 j a e
    exact ⟨r,by rw [List.getElem?_take,if_pos hj];exact e1,p⟩
  · rw [if_neg hj] at e;cases e⟩
theorem RefL.drop {α:Type} {xs:List V} {as:List α} {P:Addr→α→Prop} (h:RefL xs as P) (k:Nat):RefL (xs.drop k) (as.drop k) P:=⟨by rw [List.length_drop,List.length_drop,h.1],fun j a e=>by
  rw [List.getElem?_drop] at e
  obtain ⟨r,e1,p⟩:=h.2 _ a e
  exact ⟨r,by rw [List.getElem?_drop];exact e1,p⟩⟩
theorem RefL.app {α:Type} {xs ys:List V} {as bs:List α} {P:Addr→α→Prop} (h:RefL xs as P) (h' : RefL ys bs P):RefL (xs ++ ys) (as ++ bs) P:=⟨by rw [List.length_append,List.length_append,h.1,h'.1],fun j a e=>by
  by_cases hj:j < as.length
  · rw [List.getElem?_append_left hj] at e
    obtain ⟨r,e1,p⟩:=h.2 j a e
    exact ⟨r,by rw [List.getElem?_append_left (by rw [h.1];exact hj)];exact e1,p⟩
  · rw [List.getElem?_append_right (by omega)] at e
    obtain ⟨r,e1,p⟩:=h'.2 _ a e
    exact ⟨r,by rw [List.getElem?_append_right (by rw [h.1];omega),h.1];exact e1,p⟩⟩
theorem RefL.one {α:Type} {r:Addr} {a:α} {P:Addr→α→Prop} (p:P r a):RefL [.ref r] [a] P:=RefL.snoc RefL.nil p
theorem cnt_in {i:Nat} {wy:Str} (h:six[i]?=some wy):inV (.str wy) [.str (Str.ofString "only"),.str (Str.ofString "sum")]=cn i:=by
  match i,h with
  | 0,h=>cases h;decide
  | 1,h=>cases h;decide
  | 2,h=>cases h;decide
  | 3,h=>cases h;decide
  | 4,h=>cases h;decide
  | 5,h=>cases h;decide
  | k+6,h=>simp [six] at h
theorem cel_srt {cs:List Col} (hok:∀ c ∈ cs,ColOk c) (bs:List Nat):SrtL (cel cs bs):=fun ps hps=>by
  obtain ⟨j,e⟩:=List.getElem?_of_mem hps
  obtain ⟨c,b,ec,_,rfl⟩:=cel_of e
  exact mg_srt (hok c (List.mem_of_getElem? ec)) b
theorem row_jn {cs:List Col} {oc:Col} {w w' : BW} {c:Nat} {R:Prs} (hok:∀ c ∈ cs,ColOk c) (hb:BitOk cs oc w) (hb' : BitOk cs oc w') (hc:c < cs.length) (ap:Apart R) (h:∀ n,inP R n=(inP ((rwo cs w).1.getD c []) n || inP ((rwo cs w').1.getD c []) n)):((rwo cs w).1.take c ++ [R] ++ (rwo cs w).1.drop (c+1),(rwo cs w).2)=rwo cs (jnw w w' c):=by
  have ec:=List.getElem?_eq_getElem hc
  have e1:=List.getElem?_eq_getElem (l:=w.1) (i:=c) (by rw [hb.len];exact hc)
  have e2:=List.getElem?_eq_getElem (l:=w'.1) (i:=c) (by rw [hb'.len];exact hc)
  have hR:R=mg cs[c] (w.1.getD c 0 ||| w'.1.getD c 0):=by
    refine mg_or (hok _ (List.mem_of_getElem? ec)) ap fun n=>?_
    rw [h n,show (rwo cs w).1=cel cs w.1 from rfl,show (rwo cs w').1=cel cs w'.1 from rfl,getD_some (cel_get ec e1),getD_some (cel_get ec e2),getD_some e1,getD_some e2]
  show (_,w.2)=(cel cs (w.1.set c _),w.2)
  rw [← cel_set hb.len ec,← hR]
  rfl
theorem Clr.succ {cnt:Bool} {ws:List BW} {k:Nat} {w w' : BW} (h:Clr cnt ws k) (e:ws[k]?=some w) (f:ws[k+1]?=some w') (n:NoJ cnt w w'):Clr cnt ws (k+1):=fun j u v hj e1 e2=>by
  by_cases z:j < k
  · exact h j u v z e1 e2
  · have:j=k:=by omega
    subst this
    rw [e] at e1;rw [f] at e2
    cases e1;cases e2
    exact n
theorem Clr.all {cnt:Bool} {ws:List BW} {k:Nat} (h:Clr cnt ws k) (hk:ws.length≤k+1):Clr cnt ws ws.length:=fun j u v _ e1 e2=>h j u v (by have:=(List.getElem?_eq_some_iff.mp e2).1;omega) e1 e2
theorem fl_pc {cs:List Col} {oc:Col} {ws:List BW} {rws:List Rw} {p:List Nat} {cd:List Int} (h:RwsOf cs ws rws) (hb:∀ w ∈ ws,BitOk cs oc w) (hok:∀ c ∈ cs,ColOk c) (hp:PtOk (lens cs) p) (hc:AtP cs p cd):fl rws cd=pc ws p:=by
  have key:∀ n,n≤ws.length→fl (rws.take n) cd=pc (ws.take n) p:=fun n=>by
    induction n with
    | zero=>intro _;rfl
    | succ n ih =>
      intro hn
      have ew:=List.getElem?_eq_getElem (l:=ws) (i:=n) (by omega)
      have ex:=List.getElem?_eq_getElem (l:=rws) (i:=n) (by rw [h.1];omega)
      have ro:=h.2 n _ _ ew ex
      have bo:=hb _ (List.mem_of_getElem? ew)
      rw [take_snoc ew,take_snoc ex,fl_snoc,pc_snoc,ih (by omega),rfit_eq ro bo hok hp hc,ro.code]
  have:=key ws.length (Nat.le_refl _)
  rw [List.take_length,← h.1,List.take_length] at this
  exact this
theorem vN_set (bs:List Nat) (c v:Nat):(vN bs).set c (.int (v:Int))=vN (bs.set c v):=by unfold vN;rw [List.map_set]
theorem ixN_nat {n c:Nat} (h:c < n):ixN n (c:Int)=some c:=by
  unfold ixN
  rw [if_pos (by omega),if_pos (by omega)]
  congr 1
theorem not_not_ (x:Int):Builtin.bitNot (Builtin.bitNot x)=x:=by unfold Builtin.bitNot;omega
theorem or_nat (a b:Nat):Builtin.bitOr (a:Int) (b:Int)=((a ||| b:Nat):Int):=by
  show Builtin.bitNot (Builtin.bitAnd (Builtin.bitNot (a:Int)) (Builtin.bitNot (b:Int)))=_
  rw [PyProof.Rows.bitAnd_nn (by unfold Builtin.bitNot;omega) (by unfold Builtin.bitNot;omega),not_not_,not_not_,not_not_,Int.toNat_natCast,Int.toNat_natCast]
theorem and_nat (a b:Nat):Builtin.bitAnd (a:Int) (b:Int)=((a &&& b:Nat):Int):=by
  rw [PyProof.Rows.bitAnd_pp (Int.natCast_nonneg _) (Int.natCast_nonneg _)];rfl
def J33 (K:PySem.W.Frag) (qA qB qC qD qE qF qG qH qI qJ qK qL qM qN:Addr):Sp:=fun vs H Q _=>∃ (z g:Str),vs=[.str z,.str g]∧Q (.bl (allIn z g)) H
def J37 (K:PySem.W.Frag) (qA qB qC qD qE qF qG qH qI qJ qK qL qM qN:Addr):Sp:=fun vs H Q _=>∃ i:Int,vs=[.int i]∧Q (.bl true) H
def J31 (K:PySem.W.Frag) (qA qB qC qD qE qF qG qH qI qJ qK qL qM qN:Addr):Sp:=fun vs H Q _=>∃ (a b:Addr) (c:Col),vs=[.ref a,.ref b]∧DomX qI qJ H a c∧DomX qI qJ H b c∧Q (.bl true) H
def J73 (K:PySem.W.Frag) (qA qB qC qD qE qF qG qH qI qJ qK qL qM qN:Addr):Sp:=fun vs H Q _=>∃ (a:Addr) (xs:List V) (ps:List (Int × Int)),vs=[.ref a]∧SqL K H a xs∧PL H xs ps∧xs.length < 64 ∧
  ∀ (r:Addr) (H' : Hp) (ys:List V) (R:List (Int × Int)),Same H H'→H r=none→H' r=some (.lst ys)→PL H' ys R→TidI R ps→ys.length≤xs.length→Q (.ref r) H'
def J36 (K:PySem.W.Frag) (qA qB qC qD qE qF qG qH qI qJ qK qL qM qN:Addr):Sp:=fun vs H Q _=>∃ (a:Addr) (xs:List V) (ps:List (Int × Int)) (n:Int),vs=[.ref a,.int n]∧SqL K H a xs∧PL H xs ps∧Q (.bl (inP ps n)) H
def J67 (K:PySem.W.Frag) (qA qB qC qD qE qF qG qH qI qJ qK qL qM qN:Addr):Sp:=fun vs H Q _=>∃ (a b:Addr) (ys zs:List V) (ps qs:Prs),vs=[.ref a,.ref b]∧H a=some (.lst ys)∧PL H ys ps∧H b=some (.lst zs)∧PL H zs qs∧Srt ps∧Srt qs∧∀ r:Bool,(r=true↔∃ x,inP ps x=true∧inP qs x=true)→Q (.bl r) H
def J69 (K:PySem.W.Frag) (qA qB qC qD qE qF qG qH qI qJ qK qL qM qN:Addr):Sp:=fun vs H Q _=>∃ (p r:Addr) (xs ys:List V),vs=[.ref p,.ref r]∧SqL K H p xs∧SqL K H r ys∧1≤xs.length∧xs.length≤4∧ys.length≤200∧Q .non H
def J68 (K:PySem.W.Frag) (qA qB qC qD qE qF qG qH qI qJ qK qL qM qN:Addr):Sp:=fun vs H Q _=>∃ (cl:Addr) (xs:List V) (w:Rw),vs=[.ref cl,.int w.2]∧H cl=some (.lst xs)∧CL NT H xs w.1∧w.1.length≤100∧∀ (r:Addr) (H' : Hp),Same H H'→H r=none→RowA (fun a=>H a=none) H' r w→Q (.ref r) H'
def J32 (K:PySem.W.Frag) (qA qB qC qD qE qF qG qH qI qJ qK qL qM qN:Addr):Sp:=fun vs H Q _=>∃ (a b:Addr) (xs ys:List V) (pss qss:List Prs) (c:Nat),vs=[.ref a,.ref b,.int (c:Int)]∧H a=some (.lst xs)∧CL NT H xs pss∧H b=some (.lst ys)∧CL NT H ys qss∧pss.length=qss.length∧∀ (r:Bool) (H' : Hp),Same H H'→(r=true↔∀ j,j ≠ c→pss[j]?=qss[j]?)→Q (.bl r) H'
def J76 (K:PySem.W.Frag) (qA qB qC qD qE qF qG qH qI qJ qK qL qM qN:Addr):Sp:=fun vs H Q _=>∃ (a l:Addr) (xs:List V) (pss:List Prs) (c:Nat) (ps:Prs),vs=[.ref a,.int (c:Int),.ref l]∧H a=some (.lst xs)∧CL NT H xs pss∧pss.length≤100∧SpA NT H l ps∧∀ (b:Addr) (ys:List V) (H' : Hp),Same H H'→H' b=some (.lst ys)→CL NT H' ys (pss.take c ++ [ps] ++ pss.drop (c+1))→Q (.ref b) H'
def J47 (K:PySem.W.Frag) (qA qB qC qD qE qF qG qH qI qJ qK qL qM qN:Addr):Sp:=fun vs H Q _=>∃ (a:Addr) (ns:List Int) (k:Int),vs=[.ref a,.int k]∧SqL K H a (ns.map V.int)∧0≤k∧∀ r:Int,Q (.int r) H
def J56 (K:PySem.W.Frag) (qA qB qC qD qE qF qG qH qI qJ qK qL qM qN:Addr):Sp:=fun vs H Q _=>∃ c k:Int,vs=[.int c,.int k]∧0≤k∧k≤100∧∀ r:Int,0≤r→Q (.int r) H
def J64 (K:PySem.W.Frag) (qA qB qC qD qE qF qG qH qI qJ qK qL qM qN:Addr):Sp:=fun vs H Q _=>∃ c k:Int,vs=[.int c,.int k]∧Q (.str (wd c k)) H
def J61 (K:PySem.W.Frag) (qA qB qC qD qE qF qG qH qI qJ qK qL qM qN:Addr):Sp:=fun vs H Q _=>∃ (pl:Addr) (ts:List V) (prs:Prs) (b:Nat),vs=[.ref pl,.int (b:Int)]∧H pl=some (.lst ts)∧PL H ts prs∧Ch prs∧prs.length≤6∧∀ (l:Addr) (ps:Prs) (H' : Hp),Same H H'→SpA (fun a=>H a=none) H' l ps→SpOk prs b prs.length ps→ps=mrg prs b prs.length→Q (.ref l) H'
def J57 (K:PySem.W.Frag) (qA qB qC qD qE qF qG qH qI qJ qK qL qM qN:Addr):Sp:=fun vs H Q _=>∃ (cl:Addr) (xs:List V) (cs:List Col),vs=[.ref cl]∧H cl=some (.lst xs)∧ColsN NT H xs cs∧(∀ c ∈ cs,ColOk c)∧cs.length≤4∧∀ (l:Addr) (zs:List V) (H' : Hp),Same H H'→H' l=some (.lst zs)→PtL NT H' zs (prodP (lens cs))→Q (.ref l) H'
def J48 (K:PySem.W.Frag) (qA qB qC qD qE qF qG qH qI qJ qK qL qM qN:Addr):Sp:=fun vs H Q _=>∃ (cl pl:Addr) (xs:List V) (cs:List Col) (p:List Nat) (tn:Int),vs=[.ref cl,.ref pl,.int tn]∧H cl=some (.lst xs)∧ColsN NT H xs cs∧(∀ c ∈ cs,ColOk c)∧cs.length≤4∧H pl=some (.lst (vN p))∧PtOk (lens cs) p∧∀ (l:Addr) (cd:List Int) (H' : Hp),Same H H'→H' l=some (.lst (cd.map V.int))→AtP cs p cd→Q (.ref l) H'
def J52 (K:PySem.W.Frag) (qA qB qC qD qE qF qG qH qI qJ qK qL qM qN:Addr):Sp:=fun vs H Q _=>∃ (r pl:Addr) (w:BW) (p:List Nat),vs=[.ref r,.ref pl]∧BRowA NT H r w∧H pl=some (.lst (vN p))∧w.1.length=p.length∧p.length≤100∧∀ H',Same H H'→Q (.bl (bfit w.1 p)) H'
def J63 (K:PySem.W.Frag) (qA qB qC qD qE qF qG qH qI qJ qK qL qM qN:Addr):Sp:=fun vs H Q _=>∃ (tn:Int) (ol:Addr) (oc:Col),vs=[.int tn,.ref ol]∧ColN NT H ol oc∧∀ (wy:Str) (i:Nat) (H' : Hp),Same H H'→six[i]?=some wy→(wy=Str.ofString "sum" → oc.w=false)→Q (.str wy) H'
def J59 (K:PySem.W.Frag) (qA qB qC qD qE qF qG qH qI qJ qK qL qM qN:Addr):Sp:=fun vs H Q _=>∃ (r d:Addr) (p:SI),vs=[.ref r,.ref d]∧SqT K H r (tp p)∧SqT K H d (tp p)∧Q (.bl true) H
def J53 (K:PySem.W.Frag) (qA qB qC qD qE qF qG qH qI qJ qK qL qM qN:Addr):Sp:=fun vs H Q _=>∃ (r r' : Addr) (w w' : BW) (wy:Str) (i:Nat),vs=[.str wy,.ref r,.ref r']∧BRowA NT H r w∧BRowA NT H r' w'∧six[i]?=some wy∧w.1.length=w'.1.length∧w.1.length≤4∧(∀ (c:Nat) (H' : Hp),Same H H'→w.2=w'.2→Fs (Jn (cn i) w w') c→Q (.int (c:Int)) H')∧(∀ H',Same H H'→NoJ (cn i) w w'→Q (.int (-1)) H')
def J18 (K:PySem.W.Frag) (qA qB qC qD qE qF qG qH qI qJ qK qL qM qN:Addr):Sp:=fun vs H Q _=>∃ (x dx:Addr) (z:Str),vs=[.ref x,.str z]∧H x=some (.ins qB dx [])∧Q .non (upd H x (.ins qB dx [("called",.str z)]))
def J22 (K:PySem.W.Frag) (qA qB qC qD qE qF qG qH qI qJ qK qL qM qN:Addr):Sp:=fun vs H Q _=>∃ (x dx:Addr) (z:Str),vs=[.ref x,.str z]∧H x=some (.ins qC dx [])∧Q .non (upd H x (.ins qC dx [("called",.str z)]))
def J20 (K:PySem.W.Frag) (qA qB qC qD qE qF qG qH qI qJ qK qL qM qN:Addr):Sp:=fun vs H Q _=>∃ (x dx:Addr) (z:Str),vs=[.ref x,.str z]∧H x=some (.ins qD dx [])∧Q .non (upd H x (.ins qD dx [("called",.str z)]))
def J21 (K:PySem.W.Frag) (qA qB qC qD qE qF qG qH qI qJ qK qL qM qN:Addr):Sp:=fun vs H Q _=>∃ (x dx:Addr) (z:Str),vs=[.ref x,.str z]∧H x=some (.ins qE dx [])∧Q .non (upd H x (.ins qE dx [("called",.str z)]))
def J19 (K:PySem.W.Frag) (qA qB qC qD qE qF qG qH qI qJ qK qL qM qN:Addr):Sp:=fun vs H Q _=>∃ (x dx:Addr) (z:Str),vs=[.ref x,.str z]∧H x=some (.ins qF dx [])∧Q .non (upd H x (.ins qF dx [("called",.str z)]))
def J23 (K:PySem.W.Frag) (qA qB qC qD qE qF qG qH qI qJ qK qL qM qN:Addr):Sp:=fun vs H Q _=>∃ (x dx:Addr) (z:Str),vs=[.ref x,.str z]∧H x=some (.ins qG dx [])∧Q .non (upd H x (.ins qG dx [("called",.str z)]))
def J0 (K:PySem.W.Frag) (qA qB qC qD qE qF qG qH qI qJ qK qL qM qN:Addr):Sp:=fun vs H Q _=>∃ (x dx:Addr) (lo hi:Int),vs=[.ref x,.int lo,.int hi]∧H x=some (.ins qI dx [])∧Q .non (mkd qI H x dx lo hi)
def J1 (K:PySem.W.Frag) (qA qB qC qD qE qF qG qH qI qJ qK qL qM qN:Addr):Sp:=fun vs H Q _=>∃ (x dx:Addr) (lo hi:Int),vs=[.ref x,.int lo,.int hi]∧H x=some (.ins qJ dx [])∧Q .non (mkd qJ H x dx lo hi)
def J5 (K:PySem.W.Frag) (qA qB qC qD qE qF qG qH qI qJ qK qL qM qN:Addr):Sp:=spCh K qB qI qJ 0
def J14 (K:PySem.W.Frag) (qA qB qC qD qE qF qG qH qI qJ qK qL qM qN:Addr):Sp:=spCh K qC qI qJ 1
def J9 (K:PySem.W.Frag) (qA qB qC qD qE qF qG qH qI qJ qK qL qM qN:Addr):Sp:=spCh K qD qI qJ 2
def J11 (K:PySem.W.Frag) (qA qB qC qD qE qF qG qH qI qJ qK qL qM qN:Addr):Sp:=spCh K qE qI qJ 3
def J7 (K:PySem.W.Frag) (qA qB qC qD qE qF qG qH qI qJ qK qL qM qN:Addr):Sp:=spCh K qF qI qJ 4
def J16 (K:PySem.W.Frag) (qA qB qC qD qE qF qG qH qI qJ qK qL qM qN:Addr):Sp:=spCh K qG qI qJ 5
def J38 (K:PySem.W.Frag) (qA qB qC qD qE qF qG qH qI qJ qK qL qM qN:Addr):Sp:=fun vs H Q _=>∃ (z:Str),vs=[.str z]∧z.length≤1000∧Q (.bl (isw z)) H
def J34 (K:PySem.W.Frag) (qA qB qC qD qE qF qG qH qI qJ qK qL qM qN:Addr):Sp:=fun vs H Q _=>∃ (a b:Addr) (xs ys:List V) (A B:List (Int × Int)),vs=[.ref a,.ref b]∧H a=some (.lst xs)∧H b=some (.lst ys)∧PL H xs A∧PL H ys B∧xs.length+ys.length < 64 ∧
  ∀ (r:Addr) (H' : Hp) (zs:List V) (R:List (Int × Int)),Same H H'→H r=none→H' r=some (.lst zs)→PL H' zs R→Apart R→(∀ n,inP R n=(inP A n || inP B n))→zs.length≤xs.length+ys.length→Q (.ref r) H'
def J35 (K:PySem.W.Frag) (qA qB qC qD qE qF qG qH qI qJ qK qL qM qN:Addr):Sp:=fun vs H Q _=>∃ (t rl c dx:Addr) (fs:List (Str × V)) (xs:List V) (rws:List Rw) (k:Nat) (w:Rw) (cs:List Int),vs=[.ref t,.int k,.ref c]∧H t=some (.ins qK dx fs)∧fs.lookup (Str.ofString "rows")=some (.ref rl)∧H rl=some (.lst xs)∧RL NT H xs rws∧rws[k]?=some w∧SqL K H c (cs.map V.int)∧w.1.length=cs.length∧∀ H',Same H H'→Q (.bl (rfit w.1 cs)) H'
def J66 (K:PySem.W.Frag) (qA qB qC qD qE qF qG qH qI qJ qK qL qM qN:Addr):Sp:=fun vs H Q _=>∃ (a b:Addr) (ys zs:List V) (ps qs:Prs) (wy:Str) (i:Nat),vs=[.ref a,.ref b,.str wy]∧H a=some (.lst ys)∧PL H ys ps∧H b=some (.lst zs)∧PL H zs qs∧Srt ps∧Srt qs∧six[i]?=some wy∧∀ r:Bool,(r=true↔(cn i=true→¬ ∃ x,inP ps x=true∧inP qs x=true))→Q (.bl r) H
def J60 (K:PySem.W.Frag) (qA qB qC qD qE qF qG qH qI qJ qK qL qM qN:Addr):Sp:=fun vs H Q _=>∃ (a:Addr) (ns:List Int) (m:Int),vs=[.ref a,.int m]∧SqL K H a (ns.map V.int)∧ns.length≤900∧1≤m∧m≤200∧∀ (l:Addr) (ms:List Int) (H' : Hp),Same H H'→H' l=some (.lst (ms.map V.int))→((ms.length:Nat):Int)≤m→ms.length≤ns.length→(∀ x ∈ ms,0≤x)→Q (.ref l) H'
def J49 (K:PySem.W.Frag) (qA qB qC qD qE qF qG qH qI qJ qK qL qM qN:Addr):Sp:=fun vs H Q _=>∃ m most:Int,vs=[.int m,.int most]∧1≤most∧most≤6∧∀ (l:Addr) (c:Col) (H' : Hp),Same H H'→ColN (fun a=>H a=none) H' l c→ColOk c→Q (.ref l) H'
def J45 (K:PySem.W.Frag) (qA qB qC qD qE qF qG qH qI qJ qK qL qM qN:Addr):Sp:=fun vs H Q _=>∃ (m:Int) (cl ol la:Addr) (xs:List V) (cs:List Col) (oc:Col),vs=[.int m,.ref cl,.ref ol,.ref la]∧H cl=some (.lst xs)∧ColsN NT H xs cs∧(∀ c ∈ cs,ColOk c)∧1≤cs.length∧cs.length≤4∧ColN NT H ol oc∧ColOk oc∧0≤m∧(H la=some (.lst [])∨∃ w,BRowA NT H la w∧BitOk cs oc w)∧∀ (r:Addr) (w:BW) (H' : Hp),Same H H'→BRowA (fun a=>H a=none) H' r w→BitOk cs oc w→Q (.ref r) H'
def J58 (K:PySem.W.Frag) (qA qB qC qD qE qF qG qH qI qJ qK qL qM qN:Addr):Sp:=fun vs H Q _=>∃ (l cl:Addr) (zs xs:List V) (ws:List BW) (cs:List Col),vs=[.ref l,.ref cl]∧H l=some (.lst zs)∧BRL NT H zs ws∧ws.length≤200∧H cl=some (.lst xs)∧ColsN NT H xs cs∧(∀ c ∈ cs,ColOk c)∧cs.length≤4∧(∀ w ∈ ws,w.1.length=cs.length)∧∀ (l' : Addr) (zs' : List V) (rws:List Rw) (H' : Hp),Same H H'→H' l'=some (.lst zs')→RL (fun a=>H a=none) H' zs' rws→RwsOf cs ws rws→Q (.ref l') H'
def J51 (K:PySem.W.Frag) (qA qB qC qD qE qF qG qH qI qJ qK qL qM qN:Addr):Sp:=fun vs H Q _=>∃ (wy:Str) (i:Nat) (bl_ ol pl:Addr) (zs:List V) (ws:List BW) (oc:Col) (p:List Nat),vs=[.str wy,.ref bl_,.ref ol,.ref pl]∧six[i]?=some wy∧H bl_=some (.lst zs)∧BRL NT H zs ws∧ws.length≤200∧ColN NT H ol oc∧ColOk oc∧H pl=some (.lst (vN p))∧(∀ w ∈ ws,w.1.length=p.length)∧p.length≤100∧∀ (r:Addr) (H' : Hp),Same H H'→H' r=some (.tup (tp (ver (wf i oc.lo oc.hi) (pc ws p))))→Q (.ref r) H'
def J54 (K:PySem.W.Frag) (qA qB qC qD qE qF qG qH qI qJ qK qL qM qN:Addr):Sp:=fun vs H Q _=>∃ (bl_:Addr) (zs:List V) (ws:List BW) (wy:Str) (i:Nat) (cs:List Col) (oc:Col),vs=[.str wy,.ref bl_]∧H bl_=some (.lst zs)∧BRL NT H zs ws∧ws.length≤200∧six[i]?=some wy∧cs.length≤4∧(∀ w ∈ ws,BitOk cs oc w)∧∀ (l:Addr) (zs' : List V) (r:List BW) (H' : Hp),Same H H'→H' l=some (.lst zs')→BRL NT H' zs' r→Nf (cn i) ws r→Q (.ref l) H'
def J55 (K:PySem.W.Frag) (qA qB qC qD qE qF qG qH qI qJ qK qL qM qN:Addr):Sp:=fun vs H Q _=>∃ (f t rl ou:Addr) (nm wy:Str) (zs:List Str) (dv rx:List V) (rws rws0:List Rw) (cs:List Col) (oc:Col),vs=[.ref f,.ref t,.ref rl]∧TF qK H f nm wy ou zs dv rws∧TF qK H t nm wy ou zs dv rws0∧H rl=some (.lst rx)∧RL NT H rx rws∧RefL dv cs (DomX qI qJ H)∧DomX qI qJ H ou oc∧∀ H',Same H H'→Q (.bl true) H'
def J4 (K:PySem.W.Frag) (qA qB qC qD qE qF qG qH qI qJ qK qL qM qN:Addr):Sp:=fnew qB (Str.ofString "first")
def J13 (K:PySem.W.Frag) (qA qB qC qD qE qF qG qH qI qJ qK qL qM qN:Addr):Sp:=fnew qC (Str.ofString "only")
def J8 (K:PySem.W.Frag) (qA qB qC qD qE qF qG qH qI qJ qK qL qM qN:Addr):Sp:=fnew qD (Str.ofString "like")
def J10 (K:PySem.W.Frag) (qA qB qC qD qE qF qG qH qI qJ qK qL qM qN:Addr):Sp:=fnew qE (Str.ofString "low")
def J6 (K:PySem.W.Frag) (qA qB qC qD qE qF qG qH qI qJ qK qL qM qN:Addr):Sp:=fnew qF (Str.ofString "high")
def J15 (K:PySem.W.Frag) (qA qB qC qD qE qF qG qH qI qJ qK qL qM qN:Addr):Sp:=fnew qG (Str.ofString "sum")
def J2 (K:PySem.W.Frag) (qA qB qC qD qE qF qG qH qI qJ qK qL qM qN:Addr):Sp:=fun vs H Q _=>∃ (a:Addr) (b:Int × Int) (i:Int),vs=[.ref a,.int i]∧DomC qI H a b.1 b.2∧b.1≤i∧i≤b.2∧Q (.bl true) H
def J3 (K:PySem.W.Frag) (qA qB qC qD qE qF qG qH qI qJ qK qL qM qN:Addr):Sp:=fun vs H Q _=>∃ (a:Addr) (b:Int × Int) (i:Int),vs=[.ref a,.int i]∧DomC qJ H a b.1 b.2∧b.1≤i∧i≤b.2∧Q (.bl true) H
def J12 (K:PySem.W.Frag) (qA qB qC qD qE qF qG qH qI qJ qK qL qM qN:Addr):Sp:=fun vs H Q _=>∃ (x dx:Addr) (lo hi:Int),vs=[.ref x,.int lo,.int hi]∧H x=some (.ins qI dx [])∧lo≤hi∧Q .non (mkd qI H x dx lo hi)
def J24 (K:PySem.W.Frag) (qA qB qC qD qE qF qG qH qI qJ qK qL qM qN:Addr):Sp:=spVe K qB qI qJ 0
def J28 (K:PySem.W.Frag) (qA qB qC qD qE qF qG qH qI qJ qK qL qM qN:Addr):Sp:=spVe K qC qI qJ 1
def J26 (K:PySem.W.Frag) (qA qB qC qD qE qF qG qH qI qJ qK qL qM qN:Addr):Sp:=spVe K qD qI qJ 2
def J27 (K:PySem.W.Frag) (qA qB qC qD qE qF qG qH qI qJ qK qL qM qN:Addr):Sp:=spVe K qE qI qJ 3
def J25 (K:PySem.W.Frag) (qA qB qC qD qE qF qG qH qI qJ qK qL qM qN:Addr):Sp:=spVe K qF qI qJ 4
def J29 (K:PySem.W.Frag) (qA qB qC qD qE qF qG qH qI qJ qK qL qM qN:Addr):Sp:=spVe K qG qI qJ 5
def J70 (K:PySem.W.Frag) (qA qB qC qD qE qF qG qH qI qJ qK qL qM qN:Addr):Sp:=fun vs H Q _=>∃ (p:Addr) (zs:List Str),vs=[.ref p]∧SqL K H p (zs.map V.str)∧(∀ z ∈ zs,isw z=true)∧zs.Nodup∧zs.length≤100∧∀ H',Same H H'→Q .non H'
def J71 (K:PySem.W.Frag) (qA qB qC qD qE qF qG qH qI qJ qK qL qM qN:Addr):Sp:=fun vs H Q _=>∃ (dl ou cl:Addr) (dv xs:List V) (bs:Prs) (o:Int × Int) (w:Rw),vs=[.ref dl,.ref ou,.ref cl,.int w.2]∧SqL K H dl dv∧RefL dv bs (Dom qI qJ H)∧Dom qI qJ H ou o∧H cl=some (.lst xs)∧CL NT H xs w.1∧RowOk bs o w∧∀ H',Same H H'→Q .non H'
def J65 (K:PySem.W.Frag) (qA qB qC qD qE qF qG qH qI qJ qK qL qM qN:Addr):Sp:=fun vs H Q _=>∃ (t c:Addr) (rws:List Rw) (i:Nat) (o:Int × Int) (cs:List Int),vs=[.ref t,.ref c]∧Tbl qK qI qJ H t rws i o∧SqL K H c (cs.map V.int)∧(∀ w ∈ rws,w.1.length=cs.length)∧∀ H',Same H H'→Q (.int ((msk (fitF rws cs) rws.length:Nat):Int)) H'
def J41 (K:PySem.W.Frag) (qA qB qC qD qE qF qG qH qI qJ qK qL qM qN:Addr):Sp:=fun vs H Q _=>∃ (r r' : Addr) (x y:Rw) (wy:Str) (i:Nat),vs=[.ref r,.ref r',.str wy]∧RowA NT H r x∧RowA NT H r' y∧six[i]?=some wy∧x.1.length=y.1.length∧x.1.length≤4∧SrtL x.1∧SrtL y.1∧(∀ (c:Nat) (H' : Hp),Same H H'→x.2=y.2→Fs (JnR (cn i) x y) c→Q (.int (c:Int)) H')∧(∀ H',Same H H'→(x.2=y.2→∀ c,¬ JnR (cn i) x y c)→Q .non H')
def J40 (K:PySem.W.Frag) (qA qB qC qD qE qF qG qH qI qJ qK qL qM qN:Addr):Sp:=fun vs H Q _=>∃ (r r' : Addr) (x y:Rw) (c:Nat),vs=[.ref r,.ref r',.int (c:Int)]∧RowA NT H r x∧RowA NT H r' y∧c < x.1.length∧c < y.1.length∧x.1.length≤4∧(x.1.getD c []).length≤6∧(y.1.getD c []).length≤6∧∀ (t:Addr) (R:Prs) (H' : Hp),Same H H'→RowA NT H' t (x.1.take c ++ [R] ++ x.1.drop (c+1),x.2)→Apart R→(∀ n,inP R n=(inP (x.1.getD c []) n || inP (y.1.getD c []) n))→Q (.ref t) H'
def J46 (K:PySem.W.Frag) (qA qB qC qD qE qF qG qH qI qJ qK qL qM qN:Addr):Sp:=fun vs H Q _=>∃ (sl cl ol:Addr) (ns:List Int) (xs:List V) (cs:List Col) (oc:Col),vs=[.ref sl,.ref cl,.ref ol]∧H sl=some (.lst (ns.map V.int))∧ns.length≤200∧(∀ n ∈ ns,0≤n)∧H cl=some (.lst xs)∧ColsN NT H xs cs∧(∀ c ∈ cs,ColOk c)∧1≤cs.length∧cs.length≤4∧ColN NT H ol oc∧ColOk oc∧∀ (l:Addr) (zs:List V) (ws:List BW) (H' : Hp),Same H H'→H' l=some (.lst zs)→BRL (fun a=>H a=none) H' zs ws→ws.length=ns.length→(∀ w ∈ ws,BitOk cs oc w)→Q (.ref l) H'
def J30 (K:PySem.W.Frag) (qA qB qC qD qE qF qG qH qI qJ qK qL qM qN:Addr):Sp:=fun vs H Q _=>∃ (x dx p:Addr) (zs:List Str),vs=[.ref x,.ref p]∧H x=some (.ins qJ dx [])∧H p=some (.lst (zs.map V.str))∧Good zs ∧
  ∀ (H' : Hp) (l:Addr),(∀ b o,b ≠ x→H b=some o→H' b=some o)→H' x=some (.ins qJ dx [("low",.int 0),("high",.int (hiW zs)),("words",.ref l)])→H' l=some (.lst (zs.map V.str))→Q .non H'
def J75 (K:PySem.W.Frag) (qA qB qC qD qE qF qG qH qI qJ qK qL qM qN:Addr):Sp:=fun vs H Q _=>∃ z:Str,vs=[.str z]∧z ∈ six∧(∀ i:Nat,six[i]?=some z→∀ (x C:Addr) (H' : Hp),Same H H'→(cl6 qB qC qD qE qF qG)[i]?=some C→WyN C H' x z→Q (.ref x) H')
def J39 (K:PySem.W.Frag) (qA qB qC qD qE qF qG qH qI qJ qK qL qM qN:Addr):Sp:=fun vs H Q _=>∃ (rl:Addr) (rx:List V) (wy:Str) (i:Nat) (cs:List Col) (oc:Col) (ws:List BW),vs=[.ref rl,.str wy]∧H rl=some (.lst rx)∧RL NT H rx (ws.map (rwo cs))∧ws.length≤200∧six[i]?=some wy∧(∀ c ∈ cs,ColOk c)∧cs.length≤4∧(∀ w ∈ ws,BitOk cs oc w)∧(∀ (l:Addr) (zs:List V) (ws' : List BW) (H' : Hp),Same H H'→H' l=some (.lst zs)→RL NT H' zs (ws'.map (rwo cs))→StK (cn i) ws ws'→Q (.ref l) H')∧(∀ H',Same H H'→Clr (cn i) ws ws.length→Q .non H')
def J72 (K:PySem.W.Frag) (qA qB qC qD qE qF qG qH qI qJ qK qL qM qN:Addr):Sp:=fun vs H Q _=>∃ (z:Str) (ou:Addr),vs=[.str z,.ref ou]∧z ∈ six∧(z=Str.ofString "sum" → ∃ dx fs,H ou=some (.ins qI dx fs))∧∀ H',Same H H'→Q .non H'
def J42 (K:PySem.W.Frag) (qA qB qC qD qE qF qG qH qI qJ qK qL qM qN:Addr):Sp:=fun vs H Q _=>∃ (t:Addr) (rws:List Rw) (i:Nat) (o:Int × Int) (m:Int),vs=[.ref t,.int m]∧Tbl qK qI qJ H t rws i o∧∀ (r:Addr) (H' : Hp),Same H H'→SqT K H' r (tp (ver (wf i o.1 o.2) (pkF rws (bitOn m) rws.length)))→Q (.ref r) H'
def J50 (K:PySem.W.Frag) (qA qB qC qD qE qF qG qH qI qJ qK qL qM qN:Addr):Sp:=fun vs H Q _=>∃ (l:Addr) (c:Col),vs=[.ref l]∧ColN NT H l c∧ColOk c∧∀ (a:Addr) (H' : Hp),Same H H'→DomX qI qJ H' a c→Q (.ref a) H'
def J74 (K:PySem.W.Frag) (qA qB qC qD qE qF qG qH qI qJ qK qL qM qN:Addr):Sp:=fun vs H Q _=>∃ (t c:Addr) (rws:List Rw) (i:Nat) (o:Int × Int) (cs:List Int),vs=[.ref t,.ref c]∧Tbl qK qI qJ H t rws i o∧SqL K H c (cs.map V.int)∧(∀ w ∈ rws,w.1.length=cs.length)∧∀ (r:Addr) (H' : Hp),Same H H'→SqT K H' r (tp (ver (wf i o.1 o.2) (pkF rws (fitF rws cs) rws.length)))→Q (.ref r) H'
def J17 (K:PySem.W.Frag) (qA qB qC qD qE qF qG qH qI qJ qK qL qM qN:Addr):Sp:=fun vs H Q _=>∃ (x dx na dl ou rl:Addr) (nm wy:Str) (zs:List Str) (dv rx:List V) (bs:Prs) (o:Int × Int) (rws:List Rw),vs=[.ref x,.str nm,.ref na,.ref dl,.ref ou,.str wy,.ref rl]∧H x=some (.ins qK dx [])∧H na=some (.lst (zs.map V.str))∧(∀ z ∈ nm :: zs,isw z=true)∧(nm :: zs).Nodup∧1≤zs.length∧zs.length≤4∧wy ∈ six∧(wy=Str.ofString "sum" → ∃ dx fs,H ou=some (.ins qI dx fs))∧H dl=some (.lst dv)∧RefL dv bs (Dom qI qJ H)∧Dom qI qJ H ou o∧H rl=some (.lst rx)∧RL NT H rx rws∧rx.length≤200∧bs.length≤4∧(∀ w ∈ rws,RowOk bs o w) ∧
  ∀ (H' : Hp) (fs:List (Str × V)) (rl' : Addr) (xs' : List V),(∀ b o,b ≠ x→H b=some o→H' b=some o)→H' x=some (.ins qK dx fs)→fs.lookup (Str.ofString "rows")=some (.ref rl')→fs.lookup (Str.ofString "way")=some (.str wy)→fs.lookup (Str.ofString "outcome")=some (.ref ou)→fs.lookup (Str.ofString "name")=some (.str nm)→(∃ na' dl' : Addr,fs.lookup (Str.ofString "names")=some (.ref na')∧fs.lookup (Str.ofString "domains")=some (.ref dl')∧H' na'=some (.lst (zs.map V.str))∧H' dl'=some (.lst dv))→H' rl'=some (.lst xs')→RL NT H' xs' rws→Q .non H'
def J77 (K:PySem.W.Frag) (qA qB qC qD qE qF qG qH qI qJ qK qL qM qN:Addr):Sp:=fun vs H Q _=>∃ (t rl ou:Addr) (nm wy:Str) (zs:List Str) (dv rx:List V) (rws0 rws:List Rw) (bs:Prs) (o:Int × Int),vs=[.ref t,.ref rl]∧TF qK H t nm wy ou zs dv rws0∧TOk qI qJ H nm wy ou zs dv rws bs o∧H rl=some (.lst rx)∧RL NT H rx rws∧∀ (t' : Addr) (H' : Hp),Same H H'→TF qK H' t' nm wy ou zs dv rws→Q (.ref t') H'
def J62 (K:PySem.W.Frag) (qA qB qC qD qE qF qG qH qI qJ qK qL qM qN:Addr):Sp:=fun vs H Q _=>∃ (h:Int) (cl ol bl_:Addr) (wy:Str) (xs zs:List V) (cs:List Col) (oc:Col) (ws:List BW) (i:Nat),vs=[.int h,.ref cl,.ref ol,.str wy,.ref bl_]∧H cl=some (.lst xs)∧ColsN NT H xs cs∧(∀ c ∈ cs,ColOk c)∧1≤cs.length∧cs.length≤4∧ColN NT H ol oc∧ColOk oc∧six[i]?=some wy∧(wy=Str.ofString "sum" → oc.w=false)∧H bl_=some (.lst zs)∧BRL NT H zs ws∧ws.length≤200∧(∀ w ∈ ws,BitOk cs oc w)∧∀ (t ou:Addr) (dv:List V) (rws:List Rw) (H' : Hp),Same H H'→TF qK H' t (wd (h / 16) 0) wy ou ((List.range cs.length).map fun j:Nat=>wd (h / 16) (1+(0+(j:Int)))) dv rws→TOk qI qJ H' (wd (h / 16) 0) wy ou ((List.range cs.length).map fun j:Nat=>wd (h / 16) (1+(0+(j:Int)))) dv rws (cs.map Col.b) oc.b→RefL dv cs (DomX qI qJ H')→DomX qI qJ H' ou oc→RwsOf cs ws rws→Q (.ref t) H'
def J43 (K:PySem.W.Frag) (qA qB qC qD qE qF qG qH qI qJ qK qL qM qN:Addr):Sp:=fun vs H Q _=>∃ (t ou:Addr) (nm wy:Str) (zs:List Str) (dv:List V) (cs:List Col) (oc:Col) (ws:List BW) (i:Nat),vs=[.ref t]∧TF qK H t nm wy ou zs dv (ws.map (rwo cs))∧TOk qI qJ H nm wy ou zs dv (ws.map (rwo cs)) (cs.map Col.b) oc.b∧six[i]?=some wy∧(∀ c ∈ cs,ColOk c)∧cs.length≤4∧(∀ w ∈ ws,BitOk cs oc w)∧∀ (t' : Addr) (r:List BW) (H' : Hp),Same H H'→Nf (cn i) ws r→TF qK H' t' nm wy ou zs dv (r.map (rwo cs))→TOk qI qJ H' nm wy ou zs dv (r.map (rwo cs)) (cs.map Col.b) oc.b→Q (.ref t') H'
def J44 (K:PySem.W.Frag):Sp:=fun vs H Q _=>∃ (a:Addr) (ns:List Int),vs=[.ref a]∧SqL K H a (ns.map V.int)∧ns.length≤63∧∀ H',Q (.bl true) H'
section
variable {P:Program} {w:World} {K:PySem.W.Frag} {mg:Str→Option Value} {base:Heap} {f:Addr} {fd:FuncData} {qA qB qC qD qE qF qG qH qI qJ qK qL qM qN:Addr}
theorem O_33 (F:Fun K "all_among" "all_among" Y33 f fd) (bl:Bl K mg qA qB qC qD qE qF qG qH qI qJ qK qL qM qN)  : FnOk P w K mg base CX0 1 f fd ["text", "signs"] (J33 K qA qB qC qD qE qF qG qH qI qJ qK qL qM qN):=by
  refine F.ok Z33 (fun vs H Q E h=>?_) (fun cdv A outer s H vs Q E hr h=>?_)
  · obtain ⟨z,g,rfl,q⟩:=h
    rfl
  obtain ⟨z,g,rfl,q⟩:=h
  refine ⟨_,(pss_cons (ps_for PassesOwn.never rfl (pi_str (pv 0)) (pg_name (i:=2) Z33.nd rfl (Or.inl rfl))
     (pss_one (ps_if (pt_cmpR op_notin_str (pv 2) (pv 1) (by with_unfolding_all rfl))
     (pss_one (ps_ret pe_bl))
     pss_nil)))
     (pss_one (ps_ret pe_bl))),?_⟩
  refine ⟨_,rfl,z,rfl,for_str (fun i σ H'=>(∃ c2:Option V,σ=[some (.str z),some (.str g),c2])∧H'=H∧(z.cps.toList.take i).all (sg g)=true) ⟨⟨_,rfl⟩,rfl,rfl⟩ (fun i c σ H' e h=>?_) (fun σ H' h=>?_)⟩
  · obtain ⟨⟨c2,rfl⟩,e0,ha⟩:=h
    rw [e0]
    refine ⟨_,rfl,_,rfl,_,_,rfl,rfl,_,rfl,?_⟩
    refine ite2 (fun d=>?_) (fun d=>?_)
    · have z2:allIn z g=false:=all_no e (not_sg d)
      rw [z2] at q;exact q
    · exact ⟨⟨_,rfl⟩,rfl,all_succ e (is_sg d) ha⟩
  · obtain ⟨⟨c2,rfl⟩,e0,ha⟩:=h
    rw [e0]
    rw [all_done ha] at q;exact q
theorem O_42 (F:Fun K "is_whole" "is_whole" Y37 f fd) (bl:Bl K mg qA qB qC qD qE qF qG qH qI qJ qK qL qM qN)  : FnOk P w K mg base CX0 1 f fd ["value"] (J37 K qA qB qC qD qE qF qG qH qI qJ qK qL qM qN):=by
  refine F.ok Z37 (fun vs H Q E h=>?_) (fun cdv A outer s H vs Q E hr h=>?_)
  · obtain ⟨i,rfl,q⟩:=h
    rfl
  obtain ⟨i,rfl,q⟩:=h
  refine ⟨_,(pss_one (ps_ret (pe_and (pe_callB call_isiG rfl bl.isinstance_ PyProof.Rows.boot_isinstance (pa_cons (pv 0) (pa_cons (pe_bltn (v:=.ty "int") rfl bl.int_ PyProof.Rows.boot_int rfl) pa_nil))) (pe_one (pe_not (pe_callB call_isiG rfl bl.isinstance_ PyProof.Rows.boot_isinstance (pa_cons (pv 0) (pa_cons (pe_bltn (v:=.ty "bool") rfl bl.bool_ PyProof.Rows.boot_bool rfl) pa_nil)))))))),?_⟩
  exact ⟨_,rfl,_,_,_,_,true,rfl,.ty _,.inl (.int _),(by first | rfl | with_unfolding_all rfl | decide +kernel),_,rfl,iteT ⟨_,rfl,_,_,_,_,false,rfl,.ty _,.inl (.int _),(by first | rfl | with_unfolding_all rfl | decide +kernel),_,rfl,q⟩⟩
theorem O_31 (F:Fun K "alike" "alike" Y31 f fd) (bl:Bl K mg qA qB qC qD qE qF qG qH qI qJ qK qL qM qN)  : FnOk P w K mg base CX0 1 f fd ["one", "other"] (J31 K qA qB qC qD qE qF qG qH qI qJ qK qL qM qN):=by
  refine F.ok Z31 (fun vs H Q E h=>?_) (fun cdv A outer s H vs Q E hr h=>?_)
  · obtain ⟨a,b,c,rfl,ha,hb,q⟩:=h
    rfl
  obtain ⟨a,b,c,rfl,ha,hb,q⟩:=h
  refine ⟨_,(pss_cons (ps_if (PW.pt (pw_and (pt_val (pe_callB call_isiG rfl bl.isinstance_ PyProof.Rows.boot_isinstance (pa_cons (pv 0) (pa_cons (pe_glob (v:=.ref qI) rfl bl.Numbers_ rfl) pa_nil)))) (pw_and1 (pt_val (pe_callB call_isiG rfl bl.isinstance_ PyProof.Rows.boot_isinstance (pa_cons (pv 1) (pa_cons (pe_glob (v:=.ref qI) rfl bl.Numbers_ rfl) pa_nil)))))))
     (pss_one (ps_ret (pe_and (pe_cmpR op_eq (pe_fld (pv 0) rfl) (pe_fld (pv 1) rfl) (nomark _)) (pe_one (pe_cmpR op_eq (pe_fld (pv 0) rfl) (pe_fld (pv 1) rfl) (nomark _))))))
     pss_nil)
     (pss_cons (ps_if (PW.pt (pw_and (pt_val (pe_callB call_isiG rfl bl.isinstance_ PyProof.Rows.boot_isinstance (pa_cons (pv 0) (pa_cons (pe_glob (v:=.ref qJ) rfl bl.Words_ rfl) pa_nil)))) (pw_and1 (pt_val (pe_callB call_isiG rfl bl.isinstance_ PyProof.Rows.boot_isinstance (pa_cons (pv 1) (pa_cons (pe_glob (v:=.ref qJ) rfl bl.Words_ rfl) pa_nil)))))))
     (pss_one (ps_ret (pe_cmpR (op_eqL hr) (pe_fld (pv 0) rfl) (pe_fld (pv 1) rfl) (nomark _))))
     pss_nil)
     (pss_one (ps_ret pe_bl)))),?_⟩
  rcases ha with ⟨w1,dx,fs,e,r1,r2,r3⟩ | ⟨w1,dx,fs,l,e,r1,r2,r3,r4,r5⟩
  · rcases hb with ⟨w2,dx2,fs2,e2,t1,t2,t3⟩ | ⟨w2,_⟩
    · refine ⟨_,rfl,_,_,_,_,true,rfl,.ref _,bl.t_Numbers.ty e,bl.f_nn,_,rfl,iteT ?_⟩
      refine ⟨_,rfl,_,_,_,_,true,rfl,.ref _,bl.t_Numbers.ty e2,bl.f_nn,_,rfl,iteT ?_⟩
      refine ⟨_,rfl,a,_,_,_,_,rfl,e,bl.k_Numbers,bl.na_Numbers_low,r1,_,rfl,b,_,_,_,_,rfl,e2,bl.k_Numbers,bl.na_Numbers_low,t1,rfl,_,rfl,iteTS rfl ?_⟩
      refine ⟨_,rfl,a,_,_,_,_,rfl,e,bl.k_Numbers,bl.na_Numbers_high,r2,_,rfl,b,_,_,_,_,rfl,e2,bl.k_Numbers,bl.na_Numbers_high,t2,rfl,?_⟩
      rw [decide_eq_true rfl]
      exact q
    · rw [w1] at w2;cases w2
  · rcases hb with ⟨w2,_⟩ | ⟨w2,dx2,fs2,l2,e2,t1,t2,t3,t4,t5⟩
    · rw [w1] at w2;cases w2
    · refine ⟨_,rfl,_,_,_,_,false,rfl,.ref _,bl.t_Words.ty e,bl.f_wn,_,rfl,iteF (iteF ?_)⟩
      refine ⟨_,rfl,_,_,_,_,true,rfl,.ref _,bl.t_Words.ty e,bl.f_ww,_,rfl,iteT ?_⟩
      refine ⟨_,rfl,_,_,_,_,true,rfl,.ref _,bl.t_Words.ty e2,bl.f_ww,_,rfl,iteT ?_⟩
      refine ⟨_,rfl,a,_,_,_,_,rfl,e,bl.k_Words,bl.na_Words_words,r4,_,rfl,b,_,_,_,_,rfl,e2,bl.k_Words,bl.na_Words_words,t4,?_⟩
      exact rEqL_same (SqL.of r5) (SqL.of t5) (fun x hx=>.inl (List.all_eq_true.mp (flat_strs _) x hx)) q
theorem O_80 (F:Fun K "tidy" "tidy" Y73 f fd) (bl:Bl K mg qA qB qC qD qE qF qG qH qI qJ qK qL qM qN)  : FnOk P w K mg base CX0 1 f fd ["pairs"] (J73 K qA qB qC qD qE qF qG qH qI qJ qK qL qM qN):=by
  refine F.ok Z73 (fun vs H Q E h=>?_) (fun cdv A outer s H vs Q E hr h=>?_)
  · obtain ⟨a,xs,ps,rfl,hS,hP,h64,q⟩:=h
    rfl
  obtain ⟨a,xs,ps,rfl,hS,hP,h64,q⟩:=h
  refine ⟨_,(pss_cons (ps_set (i:=1) Z73.nd rfl (Or.inl rfl) (pe_lst pa_nil))
     (pss_cons (ps_for PassesOwn.never rfl (pi_list (pe_callB call_sorted_pairs rfl bl.sorted_ PyProof.Rows.boot_sorted (pa_cons (pv 0) pa_nil))) (pg_tup rfl (pgs_cons (pg_name (i:=2) Z73.nd rfl (Or.inl rfl)) (pgs_cons (pg_name (i:=3) Z73.nd rfl (Or.inl rfl)) pgs_nil)))
     (pss_cons (ps_if (pt_cmpR op_gt (pv 2) (pv 3) (nomark _))
     (pss_one ps_continue)
     pss_nil)
     (pss_one (ps_if (PW.pt (pw_and (pt_truth (pv 1) (by intro _;rfl)) (pw_and1 (pt_cmpR op_le (pv 2) (pe_op op_add (pe_ix ix_tup (pe_ix ix_list (pv 1) (pe_un un_neg pe_int) (fun _ _=>rfl)) pe_int (fun _ _=>rfl)) pe_int) (nomark _)))))
     (pss_one (ps_asg (pe_tup (pa_cons (pe_ix ix_tup (pe_ix ix_list (pv 1) (pe_un un_neg pe_int) (fun _ _=>rfl)) pe_int (fun _ _=>rfl)) (pa_cons (pe_callB (call_max2 rfl) rfl bl.max_ PyProof.Rows.boot_max (pa_cons (pe_ix ix_tup (pe_ix ix_list (pv 1) (pe_un un_neg pe_int) (fun _ _=>rfl)) pe_int (fun _ _=>rfl)) (pa_cons (pv 3) pa_nil))) pa_nil))) (pg_sub (pv 1) (pe_un un_neg pe_int) set_list)))
     (pss_one (ps_expr (pe_bm PySem.F.plainAttrs_list PySem.F.slot_list_append PySem.F.type_list_append mt_append (pv 1) (pa_cons (pe_tup (pa_cons (pv 2) (pa_cons (pv 3) pa_nil))) pa_nil))))))))
     (pss_one (ps_ret (pv 1))))),?_⟩
  refine ⟨(by show 0≤sizeLine;decide),fun sp hsp=>?_⟩
  have s0:Same H (upd H sp (.lst [])):=same_new hsp _
  refine ⟨_,rfl,a,xs,ps,rfl,s0.seq hS,hP.mono s0.tups,h64,fun D zs qs hD hZ hperm hsort=>?_⟩
  have eD:H D=none:=s0.free hD
  have nDs:sp ≠ D:=ne_of_none upd_same hD
  have hlen:zs.length=xs.length:=by rw [hZ.length,hperm.length_eq,← hP.length]
  refine ⟨D,rfl,⟨_,SqL.of upd_same⟩,for_list (xs:=zs) (fun i σ H'=>∃ (c2 c3:Option V) (ys:List V) (R:List (Int × Int)),σ=[some (.ref a),some (.ref sp),c2,c3]∧Same H H'∧H' D=some (.lst zs)∧H' sp=some (.lst ys)∧PL H' ys R∧PL H' zs qs∧TidI R (qs.take i)∧ys.length≤i)
    ⟨none,none,[],[],rfl,s0.trans (same_new hD _),upd_same,ret_r1 upd_same hD,.nil,hZ,TidI.nil,Nat.zero_le _⟩
    (fun i σ H' _ h=>by obtain ⟨_,_,_,_,_,_,e,_⟩:=h;exact SqL.of e) (fun i x σ H' e h=>?_) (fun σ H' h=>?_)⟩
  · obtain ⟨c2,c3,ys,R,rfl,sm,eZ,eY,hY,hZ',ti,hl⟩:=h
    obtain ⟨p,r,e1,rfl,hr'⟩:=hZ'.get e
    have hle:=sorted_le hsort e1
    have hi:i < zs.length:=(List.getElem?_eq_some_iff.mp e).1
    refine ⟨r,_,rfl,SqT.of hr',rfl,_,_,rfl,_,_,rfl,rfl,?_⟩
    refine ⟨_,rfl,_,rfl,_,_,rfl,rfl,_,rfl,?_⟩
    refine ite2 (fun c=>?_) (fun c=>?_)
    · have c' : p.2 < p.1:=dec_t c
      exact ⟨_,_,ys,R,rfl,sm,eZ,eY,hY,hZ',by rw [take_snoc e1];exact ti.skip c',by omega⟩
    have c' : p.1≤p.2:=Int.not_lt.mp (dec_f c)
    have put:(∀ r0 ∈ R,r0.2+2≤p.1)→∀ t,H' t=none→∃ (c2 c3:Option V) (ys2:List V) (R2:List (Int × Int)),[some (V.ref a),some (V.ref sp),some (V.int p.1),some (V.int p.2)]=[some (.ref a),some (.ref sp),c2,c3]∧Same H (upd (upd H' t (.tup [.int p.1,.int p.2])) sp (.lst (ys ++ [.ref t])))∧upd (upd H' t (.tup [.int p.1,.int p.2])) sp (.lst (ys ++ [.ref t])) D=some (.lst zs) ∧
        upd (upd H' t (.tup [.int p.1,.int p.2])) sp (.lst (ys ++ [.ref t])) sp=some (.lst ys2)∧PL (upd (upd H' t (.tup [.int p.1,.int p.2])) sp (.lst (ys ++ [.ref t]))) ys2 R2∧PL (upd (upd H' t (.tup [.int p.1,.int p.2])) sp (.lst (ys ++ [.ref t]))) zs qs∧TidI R2 (qs.take (i+1))∧ys2.length≤i+1:=fun hgap t ht=>by
      have e3:upd H' t (.tup [.int p.1,.int p.2]) sp=some (.lst ys):=ret_r1 eY ht
      have st1:SameT H' (upd (upd H' t (.tup [.int p.1,.int p.2])) sp (.lst (ys ++ [.ref t]))):=(sameT_new ht).trans (sameT_lst e3)
      refine ⟨_,_,ys ++ [.ref t],R ++ [p],rfl,(sm.trans (same_new ht _)).upd hsp,by rw [upd_ne nDs.symm];exact ret_r1 eZ ht,upd_same,(hY.mono st1).snoc (sameT_lst e3 _ _ upd_same),hZ'.mono st1,by rw [take_snoc e1];exact ti.add c' hgap,?_⟩
      rw [List.length_append,List.length_singleton];omega
    refine ⟨_,rfl,!ys.isEmpty,.inl ⟨ys,SqL.of eY,rfl⟩,?_⟩
    by_cases hne:ys=[]
    · have hR:R=[]:=by
        have:=hY.length
        rw [hne] at this
        exact List.eq_nil_of_length_eq_zero this.symm
      have eE:(!ys.isEmpty)=false:=by rw [hne];rfl
      rw [eE]
      refine iteF (iteF ?_)
      refine ⟨_,rfl,.inl ⟨rfl,_,SqL.of eY⟩,_,rfl,_,rfl,(by show 2≤sizeLine;decide),fun t ht=>?_⟩
      refine ⟨sp,ys,_,rfl,rfl,ret_r1 eY ht,small1000 (by omega),?_⟩
      exact put (by rw [hR];intro r0 h0;cases h0) t ht
    · obtain ⟨ys',rl,R',l,rfl,rfl,hY2,hrl⟩:=PL.last hY hne
      have eE:(!(ys' ++ [V.ref rl]).isEmpty)=true:=by cases ys' <;> rfl
      rw [eE]
      refine iteT ?_
      refine ⟨_,rfl,_,rfl,_,rfl,sp,_,_,_,rfl,rfl,SqL.of eY,atI_last _ _,rl,_,_,_,rfl,rfl,SqT.of hrl,z1 _ _,_,_,rfl,rfl,_,_,rfl,rfl,_,rfl,?_⟩
      refine ite2 (fun d=>?_) (fun d=>?_)
      · have d' : p.1≤l.2+1:=dec_t d
        have hl1:l.1≤p.1:=by
          obtain ⟨q0,hq0,e0⟩:=ti.low l (by simp)
          rw [e0];exact hle q0 hq0
        refine ⟨_,rfl,_,rfl,sp,_,_,_,rfl,rfl,SqL.of eY,atI_last _ _,rl,_,_,_,rfl,rfl,SqT.of hrl,z0 _ _,_,rfl,_,rfl,sp,_,_,_,rfl,rfl,SqL.of eY,atI_last _ _,rl,_,_,_,rfl,rfl,SqT.of hrl,z1 _ _,_,rfl,_,_,rfl,(by show 2≤sizeLine;decide),fun t ht=>?_⟩
        have e3:upd H' t (.tup [.int l.1,.int (if p.2 > l.2 then p.2 else l.2)]) sp=some (.lst (ys' ++ [.ref rl])):=ret_r1 eY ht
        refine ⟨_,rfl,_,rfl,sp,_,_,_,rfl,rfl,e3,ixN_last (by simp),?_⟩
        rw [set_last]
        have st1:SameT H' (upd (upd H' t (.tup [.int l.1,.int (if p.2 > l.2 then p.2 else l.2)])) sp (.lst (ys' ++ [.ref t]))):=(sameT_new ht).trans (sameT_lst e3)
        refine ⟨_,_,ys' ++ [.ref t],R' ++ [(l.1,if p.2 > l.2 then p.2 else l.2)],rfl,(sm.trans (same_new ht _)).upd hsp,by rw [upd_ne nDs.symm];exact ret_r1 eZ ht,upd_same,(hY2.mono st1).snoc (sameT_lst e3 _ _ upd_same),hZ'.mono st1,?_,?_⟩
        · rw [take_snoc e1]
          exact ti.join hl1 d' c' (by split <;> omega)
        · rw [List.length_append,List.length_singleton] at hl ⊢;omega
      · have d' : ¬ p.1≤l.2+1:=dec_f d
        refine ⟨_,rfl,.inl ⟨rfl,_,SqL.of eY⟩,_,rfl,_,rfl,(by show 2≤sizeLine;decide),fun t ht=>?_⟩
        refine ⟨sp,_,_,rfl,rfl,ret_r1 eY ht,small1000 (by omega),?_⟩
        exact put (ti.ap.last (by omega)) t ht
  · obtain ⟨c2,c3,ys,R,rfl,sm,eZ,eY,hY,hZ',ti,hl⟩:=h
    rw [hZ'.length,List.take_length] at ti
    exact ⟨_,rfl,q sp H' ys R sm hsp eY hY (ti.perm hperm) (by omega)⟩
theorem O_41 (F:Fun K "holds" "holds" Y36 f fd) (bl:Bl K mg qA qB qC qD qE qF qG qH qI qJ qK qL qM qN)  : FnOk P w K mg base CX0 1 f fd ["spans", "number"] (J36 K qA qB qC qD qE qF qG qH qI qJ qK qL qM qN):=by
  refine F.ok Z36 (fun vs H Q E h=>?_) (fun cdv A outer s H vs Q E hr h=>?_)
  · obtain ⟨a,xs,ps,n,rfl,hS,hP,q⟩:=h
    rfl
  obtain ⟨a,xs,ps,n,rfl,hS,hP,q⟩:=h
  refine ⟨_,(pss_cons (ps_for PassesOwn.never rfl (pi_list (pv 0)) (pg_tup rfl (pgs_cons (pg_name (i:=2) Z36.nd rfl (Or.inl rfl)) (pgs_cons (pg_name (i:=3) Z36.nd rfl (Or.inl rfl)) pgs_nil)))
     (pss_one (ps_if (pt_chain op_le op_le (pv 2) (pv 1) (pv 3))
     (pss_one (ps_ret pe_bl))
     pss_nil)))
     (pss_one (ps_ret pe_bl))),?_⟩
  refine ⟨_,rfl,a,rfl,⟨_,hS⟩,for_list (xs:=xs) (fun i σ H'=>(∃ c2 c3,σ=[some (.ref a),some (.int n),c2,c3])∧H'=H∧(ps.take i).any (inR n)=false) ⟨⟨_,_,rfl⟩,rfl,rfl⟩ (fun i σ H' _ h=>by obtain ⟨_,e,_⟩:=h;rw [e];exact hS) (fun i x σ H' e h=>?_) (fun σ H' h=>?_)⟩
  · obtain ⟨⟨c2,c3,rfl⟩,e0,hn⟩:=h
    rw [e0]
    obtain ⟨p,r,e1,rfl,hr'⟩:=hP.get e
    refine ⟨r,_,rfl,SqT.of hr',rfl,_,_,rfl,_,_,rfl,rfl,?_⟩
    refine ⟨_,rfl,_,rfl,_,_,rfl,rfl,_,rfl,?_⟩
    refine ite2 (fun c=>?_) (fun c=>?_)
    · refine ⟨_,rfl,_,_,rfl,rfl,_,rfl,?_⟩
      refine ite2 (fun d=>?_) (fun d=>?_)
      · have z2:inP ps n=true:=any_of_get e1 (in_t c d)
        rw [z2] at q;exact q
      · exact ⟨⟨_,_,rfl⟩,rfl,any_take_succ e1 hn (in_f2 d)⟩
    · exact ⟨_,rfl,iteF ⟨⟨_,_,rfl⟩,rfl,any_take_succ e1 hn (in_f1 c)⟩⟩
  · obtain ⟨⟨c2,c3,rfl⟩,e0,hn⟩:=h
    rw [e0]
    have z:inP ps n=false:=by
      rw [hP.length,List.take_length] at hn
      exact hn
    rw [z] at q;exact q
theorem O_72 (F:Fun K "meet" "meet" Y67 f fd) (bl:Bl K mg qA qB qC qD qE qF qG qH qI qJ qK qL qM qN)  : FnOk P w K mg base CX0 1 f fd ["ones", "others"] (J67 K qA qB qC qD qE qF qG qH qI qJ qK qL qM qN):=by
  refine F.ok Z67 (fun vs H Q E h=>?_) (fun cdv A outer s H vs Q E hr h=>?_)
  · obtain ⟨a,b,ys,zs,ps,qs,rfl,ha,hp,hb,hq,sp,sq,q⟩:=h
    rfl
  obtain ⟨a,b,ys,zs,ps,qs,rfl,ha,hp,hb,hq,sp,sq,q⟩:=h
  refine ⟨_,(pss_cons (ps_set (i:=2) Z67.nd rfl (Or.inl rfl) pe_int)
     (pss_cons (ps_set (i:=3) Z67.nd rfl (Or.inl rfl) pe_int)
     (pss_cons (ps_while PassesOwn.never (PW.pt (pw_and (pt_cmpR op_lt (pv 2) (pe_callB call_len_seq rfl bl.len_ PySem.boot_len (pa_cons (pv 0) pa_nil)) (nomark _)) (pw_and1 (pt_cmpR op_lt (pv 3) (pe_callB call_len_seq rfl bl.len_ PySem.boot_len (pa_cons (pv 1) pa_nil)) (nomark _)))))
     (pss_cons (ps_set (i:=4) Z67.nd rfl (Or.inl rfl) (pe_ix ix_list (pv 0) (pv 2) (fun _ _=>rfl)))
     (pss_cons (ps_set (i:=5) Z67.nd rfl (Or.inl rfl) (pe_ix ix_list (pv 1) (pv 3) (fun _ _=>rfl)))
     (pss_one (ps_if (pt_cmpR op_lt (pe_ix ix_tup (pv 4) pe_int (fun _ _=>rfl)) (pe_ix ix_tup (pv 5) pe_int (fun _ _=>rfl)) (nomark _))
     (pss_one (ps_aug (i:=2) Z67.nd rfl (Or.inl rfl) pe_int ip_add))
     (pss_one (ps_if (pt_cmpR op_lt (pe_ix ix_tup (pv 5) pe_int (fun _ _=>rfl)) (pe_ix ix_tup (pv 4) pe_int (fun _ _=>rfl)) (nomark _))
     (pss_one (ps_aug (i:=3) Z67.nd rfl (Or.inl rfl) pe_int ip_add))
     (pss_one (ps_ret pe_bl)))))))))
     (pss_one (ps_ret pe_bl))))),?_⟩
  have hyl:=hp.length
  have hzl:=hq.length
  refine ⟨fun m σ H'=>H'=H∧∃ (i j:Nat) (c4 c5:Option V),m=(ps.length - i)+(qs.length - j)∧(∀ x,inP ps x=true→inP qs x=true→inP (ps.drop i) x=true∧inP (qs.drop j) x=true)∧σ=[some (.ref a),some (.ref b),some (.int (i:Int)),some (.int (j:Int)),c4,c5],⟨_,rfl,0,0,_,_,rfl,(fun x h1 h2=>⟨h1,h2⟩),rfl⟩,?_⟩
  rintro m σ H' ⟨rfl,i,j,c4,c5,hm,hrest,rfl⟩
  have none_:(ps.length≤i∨qs.length≤j)→Q (.bl false) H':=fun h=>q false ⟨(fun z=>by cases z),fun ⟨x,h1,h2⟩=>by
    obtain ⟨g1,g2⟩:=hrest x h1 h2
    rcases h with h | h
    · rw [List.drop_of_length_le h] at g1;cases g1
    · rw [List.drop_of_length_le h] at g2;cases g2⟩
  refine ⟨_,rfl,_,rfl,a,_,rfl,.inl (SqL.of ha),_,_,rfl,rfl,_,rfl,ite2 (fun g1=>?_) (fun g1=>iteF (none_ (.inl ?_)))⟩
  rotate_left
  · have:¬ ((i:Int) < ((ys.length:Nat):Int)):=fun z=>g1 (decide_eq_true z)
    omega
  have g1:(i:Int) < ((ys.length:Nat):Int):=of_decide_eq_true g1
  refine ⟨_,rfl,_,rfl,b,_,rfl,.inl (SqL.of hb),_,_,rfl,rfl,_,rfl,ite2 (fun g2=>?_) (fun g2=>none_ (.inr ?_))⟩
  rotate_left
  · have:¬ ((j:Int) < ((zs.length:Nat):Int)):=fun z=>g2 (decide_eq_true z)
    omega
  have g2:(j:Int) < ((zs.length:Nat):Int):=of_decide_eq_true g2
  obtain ⟨y,ey⟩:∃ y,ys[i]?=some y:=⟨_,List.getElem?_eq_getElem (by omega)⟩
  obtain ⟨z,ez⟩:∃ z,zs[j]?=some z:=⟨_,List.getElem?_eq_getElem (by omega)⟩
  obtain ⟨u,ru,eu,rfl,hu⟩:=hp.get ey
  obtain ⟨v,rv,ev,rfl,hv⟩:=hq.get ez
  have lu:=sp.le _ _ eu
  have lv:=sq.le _ _ ev
  refine ⟨fun σ' H2=>∃ m',m' < m∧(H2=H'∧∃ (i j:Nat) (c4 c5:Option V),m'=(ps.length - i)+(qs.length - j)∧(∀ x,inP ps x=true→inP qs x=true→inP (ps.drop i) x=true∧inP (qs.drop j) x=true)∧σ'=[some (.ref a),some (.ref b),some (.int (i:Int)),some (.int (j:Int)),c4,c5]),(fun _ _ h=>h),?_⟩
  refine ⟨_,rfl,_,rfl,a,_,_,_,rfl,rfl,SqL.of ha,atI_nat ey,?_⟩
  refine ⟨_,rfl,_,rfl,b,_,_,_,rfl,rfl,SqL.of hb,atI_nat ez,?_⟩
  refine ⟨_,rfl,ru,_,_,_,rfl,rfl,SqT.of hu,z1 _ _,_,rfl,rv,_,_,_,rfl,rfl,SqT.of hv,z0 _ _,_,_,rfl,rfl,_,rfl,ite2 (fun g=>?_) (fun g=>?_)⟩
  · have g:u.2 < v.1:=of_decide_eq_true g
    refine ⟨_,rfl,_,_,rfl,rfl,_,?_,rfl,i+1,j,_,_,rfl,fun x h1 h2=>?_,rfl⟩
    · omega
    · obtain ⟨r1,r2⟩:=hrest x h1 h2
      refine ⟨?_,r2⟩
      rcases (inP_dropI eu).mp r1 with ⟨w1,w2⟩ | w
      · obtain ⟨k,p,hk,ep,w3,w4⟩:=inP_dropE.mp r2
        rcases Nat.lt_or_ge j k with hjk | hjk
        · have:=sq.lt j k v p hjk ev ep
          omega
        · have:k=j:=by omega
          subst this
          rw [ev] at ep;cases ep
          omega
      · exact w
  · have g:v.1≤u.2:=by have:¬ (u.2 < v.1):=fun z=>g (decide_eq_true z);omega
    refine ⟨_,rfl,rv,_,_,_,rfl,rfl,SqT.of hv,z1 _ _,_,rfl,ru,_,_,_,rfl,rfl,SqT.of hu,z0 _ _,_,_,rfl,rfl,_,rfl,ite2 (fun g'=>?_) (fun g'=>?_)⟩
    · have g' : v.2 < u.1:=of_decide_eq_true g'
      refine ⟨_,rfl,_,_,rfl,rfl,_,?_,rfl,i,j+1,_,_,rfl,fun x h1 h2=>?_,rfl⟩
      · omega
      · obtain ⟨r1,r2⟩:=hrest x h1 h2
        refine ⟨r1,?_⟩
        rcases (inP_dropI ev).mp r2 with ⟨w1,w2⟩ | w
        · obtain ⟨k,p,hk,ep,w3,w4⟩:=inP_dropE.mp r1
          rcases Nat.lt_or_ge i k with hjk | hjk
          · have:=sp.lt i k u p hjk eu ep
            omega
          · have:k=i:=by omega
            subst this
            rw [eu] at ep;cases ep
            omega
        · exact w
    · have g' : u.1≤v.2:=by have:¬ (v.2 < u.1):=fun z=>g' (decide_eq_true z);omega
      refine q true ⟨fun _=>?_,fun _=>rfl⟩
      by_cases hh:u.1≤v.1
      · exact ⟨v.1,inP_ex.mpr ⟨i,u,eu,by omega,by omega⟩,inP_ex.mpr ⟨j,v,ev,by omega,by omega⟩⟩
      · exact ⟨u.1,inP_ex.mpr ⟨i,u,eu,by omega,by omega⟩,inP_ex.mpr ⟨j,v,ev,by omega,by omega⟩⟩
theorem O_75 (F:Fun K "refuse_counts" "refuse_counts" Y69 f fd) (bl:Bl K mg qA qB qC qD qE qF qG qH qI qJ qK qL qM qN)  : FnOk P w K mg base CX0 1 f fd ["names", "rows"] (J69 K qA qB qC qD qE qF qG qH qI qJ qK qL qM qN):=by
  refine F.ok Z69 (fun vs H Q E h=>?_) (fun cdv A outer s H vs Q E hr h=>?_)
  · obtain ⟨p,r,xs,ys,rfl,hP,hR,h1,h4,h200,q⟩:=h
    rfl
  obtain ⟨p,r,xs,ys,rfl,hP,hR,h1,h4,h200,q⟩:=h
  refine ⟨_,(pss_cons (ps_if (pt_not (pt_chain op_le op_le pe_int (pe_callB call_len_seq rfl bl.len_ PySem.boot_len (pa_cons (pv 0) pa_nil)) (pe_gl rfl bl.MOST_COLUMNS_)))
     (pss_one ps_never)
     pss_nil)
     (pss_one (ps_if (pt_cmpR op_gt (pe_callB call_len_seq rfl bl.len_ PySem.boot_len (pa_cons (pv 1) pa_nil)) (pe_gl rfl bl.MOST_ROWS_) (nomark _))
     (pss_one ps_never)
     pss_nil))),?_⟩
  refine ⟨_,rfl,p,_,rfl,.inl (hP),_,_,rfl,rfl,_,rfl,iteTS (by omega) ?_⟩
  refine ⟨_,_,rfl,rfl,_,rfl,?_⟩
  rw [decide_eq_true (show ((xs.length:Nat):Int)≤4 by omega)]
  refine iteF ?_
  exact ⟨_,rfl,r,_,rfl,.inl (hR),_,_,rfl,rfl,_,rfl,iteFS (by omega) q⟩
theorem O_73 (F:Fun K "own_row" "own_row" Y68 f fd) (bl:Bl K mg qA qB qC qD qE qF qG qH qI qJ qK qL qM qN)  : FnOk P w K mg base CX0 1 f fd ["cells", "code"] (J68 K qA qB qC qD qE qF qG qH qI qJ qK qL qM qN):=by
  refine F.ok Z68 (fun vs H Q E h=>?_) (fun cdv A outer s H vs Q E hr h=>?_)
  · obtain ⟨cl,xs,w_,rfl,hC,hcl,h100,q⟩:=h
    rfl
  obtain ⟨cl,xs,w_,rfl,hC,hcl,h100,q⟩:=h
  refine ⟨_,(pss_one (ps_ret (pe_tup (pa_cons (pe_comp (pi_list (pv 0)) (cmpOk_plain rfl (by decide +kernel) (by decide +kernel) (by decide +kernel) rfl) rfl (fun _ _ _ _=>pif_nil) (fun _ _ _ _=>(pe_callTy (call_list_ofK (K:=K) rfl) rfl bl.list_ PyProof.Rows.boot_list (pa_cons (pv 0) pa_nil)))) (pa_cons (pv 1) pa_nil))))),?_⟩
  refine ⟨_,rfl,cl,rfl,⟨_,SqL.of hC⟩,comp_list (xs:=xs) (fun D i zs H'=>Same H H'∧H' D=some (.lst zs)∧CL (Fr H D) H' zs (w_.1.take i))
    (fun D hD=>⟨same_new hD _,upd_same,RefL.nil⟩) (fun D i zs H' hD _ h=>SqL.of (h.1 _ _ hC)) (fun D i x zs H' hD e h=>?_) (fun D zs H' hD h=>?_)⟩
  · obtain ⟨sm,eD,hz⟩:=h
    obtain ⟨l,ps,rfl,ep,hl⟩:=RefL.get hcl e
    obtain ⟨_,ys,el,hp⟩:=hl.same sm
    have hi:i < xs.length:=(List.getElem?_eq_some_iff.mp e).1
    have hlz:zs.length < sizeLine:=by
      have h1:=hz.1
      rw [List.length_take] at h1
      exact small1000 (by omega)
    refine ⟨_,rfl,l,_,rfl,.inl (SqL.of el),fun l2 hl2=>?_⟩
    have s2:=same_new hl2 (.lst ys)
    have e2:upd H' l2 (.lst ys) l2=some (.lst ys):=upd_same
    have eD2:=s2 _ _ eD
    generalize upd H' l2 (.lst ys)=H2 at s2 e2 eD2 ⊢
    have n2:H l2=none:=sm.free hl2
    have nD:l2 ≠ D:=fun z=>by rw [z,eD] at hl2;cases hl2
    refine CYes.mk hi eD2 hlz ⟨(sm.trans s2).upd hD,upd_same,?_⟩
    rw [take_snoc ep]
    exact CL.updN (RefL.snoc (hz.same s2) ⟨⟨n2,nD⟩,ys,e2,hp.mono s2.tups⟩) Fr.out eD2
  · obtain ⟨sm,eD,hz⟩:=h
    rw [hcl.1,List.take_length] at hz
    refine ⟨_,rfl,small2,fun r hr'=>q r _ (sm.trans (same_new hr' _)) (sm.free hr') ⟨D,zs,upd_same,hD,same_new hr' _ _ _ eD,?_⟩⟩
    exact (hz.same (same_new hr' _)).wk fun a h=>h.1
theorem O_32 (F:Fun K "alike_beside" "alike_beside" Y32 f fd) (bl:Bl K mg qA qB qC qD qE qF qG qH qI qJ qK qL qM qN)  : FnOk P w K mg base CX0 1 f fd ["cells", "others", "column"] (J32 K qA qB qC qD qE qF qG qH qI qJ qK qL qM qN):=by
  refine F.ok Z32 (fun vs H Q E h=>?_) (fun cdv A outer s H vs Q E hr h=>?_)
  · obtain ⟨a,b,xs,ys,pss,qss,c,rfl,ha,hp,hb,hq,hl,q⟩:=h
    rfl
  obtain ⟨a,b,xs,ys,pss,qss,c,rfl,ha,hp,hb,hq,hl,q⟩:=h
  refine ⟨_,(pss_one (ps_ret (pe_and (pe_cmpR (op_eqDL hr) (pe_slice sl_list (pv 0) po_none (po_some (pv 2))) (pe_slice sl_list (pv 1) po_none (po_some (pv 2))) (nomark _)) (pe_one (pe_cmpR (op_eqDL hr) (pe_slice sl_list (pv 0) (po_some (pe_op op_add (pv 2) pe_int)) po_none) (pe_slice sl_list (pv 1) (po_some (pe_op op_add (pv 2) pe_int)) po_none) (nomark _)))))),?_⟩
  refine ⟨_,rfl,_,rfl,_,rfl,a,xs,rfl,SqL.of ha,fun c1 hc1=>?_⟩
  rw [cutTake]
  have t1:=same_new hc1 (.lst (xs.take c))
  have g1:upd H c1 (.lst (xs.take c)) c1=some (.lst (xs.take c)):=upd_same
  generalize upd H c1 (.lst (xs.take c))=H1 at t1 g1 ⊢
  refine ⟨_,rfl,_,rfl,_,rfl,b,ys,rfl,SqL.of (t1 _ _ hb),fun c2 hc2=>?_⟩
  rw [cutTake]
  have t2:=same_new hc2 (.lst (ys.take c))
  have g2:upd H1 c2 (.lst (ys.take c)) c2=some (.lst (ys.take c)):=upd_same
  generalize upd H1 c2 (.lst (ys.take c))=H2 at t2 g2 ⊢
  have t12:=t1.trans t2
  refine eqDL_cl (t2 _ _ g1) g2 (CL.same (RefL.take hp c) t12) (CL.same (RefL.take hq c) t12) ⟨_,rfl,?_⟩
  refine ite2 (fun e1=>?_) (fun e1=>q false H2 t12 ⟨(fun z=>by cases z),fun z=>absurd (decide_eq_true ((beside hl c).mpr z).1) e1⟩)
  have e1:=of_decide_eq_true e1
  refine ⟨_,rfl,_,rfl,_,_,rfl,rfl,_,rfl,a,xs,rfl,SqL.of (t12 _ _ ha),fun c3 hc3=>?_⟩
  rw [show ((c:Int)+1)=((c+1:Nat):Int) by omega,cutDrop]
  have t3:=same_new hc3 (.lst (xs.drop (c+1)))
  have g3:upd H2 c3 (.lst (xs.drop (c+1))) c3=some (.lst (xs.drop (c+1))):=upd_same
  generalize upd H2 c3 (.lst (xs.drop (c+1)))=H3 at t3 g3 ⊢
  have t13:=t12.trans t3
  refine ⟨_,rfl,_,rfl,_,_,rfl,rfl,_,rfl,b,ys,rfl,SqL.of (t13 _ _ hb),fun c4 hc4=>?_⟩
  rw [show ((c:Int)+1)=((c+1:Nat):Int) by omega,cutDrop]
  have t4:=same_new hc4 (.lst (ys.drop (c+1)))
  have g4:upd H3 c4 (.lst (ys.drop (c+1))) c4=some (.lst (ys.drop (c+1))):=upd_same
  generalize upd H3 c4 (.lst (ys.drop (c+1)))=H4 at t4 g4 ⊢
  have t14:=t13.trans t4
  refine eqDL_cl (t4 _ _ g3) g4 (CL.same (RefL.drop hp (c+1)) t14) (CL.same (RefL.drop hq (c+1)) t14) (q _ H4 t14 ?_)
  rw [decide_eq_true_iff]
  exact ⟨fun z=>(beside hl c).mp ⟨e1,z⟩,fun z=>((beside hl c).mpr z).2⟩
theorem O_83 (F:Fun K "with_cell" "with_cell" Y76 f fd) (bl:Bl K mg qA qB qC qD qE qF qG qH qI qJ qK qL qM qN)  : FnOk P w K mg base CX0 1 f fd ["cells", "column", "spans"] (J76 K qA qB qC qD qE qF qG qH qI qJ qK qL qM qN):=by
  refine F.ok Z76 (fun vs H Q E h=>?_) (fun cdv A outer s H vs Q E hr h=>?_)
  · obtain ⟨a,l,xs,pss,c,ps,rfl,ha,hp,h100,hs,q⟩:=h
    rfl
  obtain ⟨a,l,xs,pss,c,ps,rfl,ha,hp,h100,hs,q⟩:=h
  refine ⟨_,(pss_one (ps_ret (pe_op op_cat (pe_op op_cat (pe_slice sl_list (pv 0) po_none (po_some (pv 1))) (pe_lst (pa_cons (pv 2) pa_nil))) (pe_slice sl_list (pv 0) (po_some (pe_op op_add (pv 1) pe_int)) po_none)))),?_⟩
  have hxl:xs.length=pss.length:=hp.1
  refine ⟨_,rfl,_,rfl,_,rfl,a,xs,rfl,SqL.of ha,fun c1 hc1=>?_⟩
  rw [cutTake]
  have t1:=same_new hc1 (.lst (xs.take c))
  have g1:upd H c1 (.lst (xs.take c)) c1=some (.lst (xs.take c)):=upd_same
  generalize upd H c1 (.lst (xs.take c))=H1 at t1 g1 ⊢
  refine ⟨_,rfl,(by show 1≤sizeLine;decide),fun c2 hc2=>?_⟩
  have t2:=same_new hc2 (.lst [V.ref l])
  have g2:upd H1 c2 (.lst [V.ref l]) c2=some (.lst [V.ref l]):=upd_same
  generalize upd H1 c2 (.lst [V.ref l])=H2 at t2 g2 ⊢
  refine ⟨c1,c2,_,_,rfl,rfl,t2 _ _ g1,g2,Nat.le_of_lt (small1000 (by rw [List.length_take,List.length_singleton];omega)),fun c3 hc3=>?_⟩
  have t3:=same_new hc3 (.lst (xs.take c ++ [V.ref l]))
  have g3:upd H2 c3 (.lst (xs.take c ++ [V.ref l])) c3=some (.lst (xs.take c ++ [V.ref l])):=upd_same
  generalize upd H2 c3 (.lst (xs.take c ++ [V.ref l]))=H3 at t3 g3 ⊢
  have t13:=(t1.trans t2).trans t3
  refine ⟨_,rfl,_,rfl,_,_,rfl,rfl,_,rfl,a,xs,rfl,SqL.of (t13 _ _ ha),fun c4 hc4=>?_⟩
  rw [show ((c:Int)+1)=((c+1:Nat):Int) by omega,cutDrop]
  have t4:=same_new hc4 (.lst (xs.drop (c+1)))
  have g4:upd H3 c4 (.lst (xs.drop (c+1))) c4=some (.lst (xs.drop (c+1))):=upd_same
  generalize upd H3 c4 (.lst (xs.drop (c+1)))=H4 at t4 g4 ⊢
  refine ⟨c3,c4,_,_,rfl,rfl,t4 _ _ g3,g4,Nat.le_of_lt (small1000 (by rw [List.length_append,List.length_take,List.length_drop,List.length_singleton];omega)),fun c5 hc5=>?_⟩
  have t5:=same_new hc5 (.lst (xs.take c ++ [V.ref l] ++ xs.drop (c+1)))
  have sA:=(t13.trans t4).trans t5
  exact q c5 _ _ sA upd_same (RefL.app (RefL.app (CL.same (RefL.take hp c) sA) (RefL.one (hs.same sA))) (CL.same (RefL.drop hp (c+1)) sA))
theorem O_52 (F:Fun K "_law_cell_at" "_law_cell_at" Y47 f fd) (bl:Bl K mg qA qB qC qD qE qF qG qH qI qJ qK qL qM qN)  : FnOk P w K mg base CX0 1 f fd ["script", "k"] (J47 K qA qB qC qD qE qF qG qH qI qJ qK qL qM qN):=by
  refine F.ok Z47 (fun vs H Q E h=>?_) (fun cdv A outer s H vs Q E hr h=>?_)
  · obtain ⟨a,ns,k,rfl,hS,h0,q⟩:=h
    rfl
  obtain ⟨a,ns,k,rfl,hS,h0,q⟩:=h
  refine ⟨_,(pss_cons (ps_if (pt_cmpR op_lt (pv 1) (pe_callB call_len_seq rfl bl.len_ PySem.boot_len (pa_cons (pv 0) pa_nil)) (nomark _))
     (pss_one (ps_ret (pe_ix ix_list (pv 0) (pv 1) (fun _ _=>rfl))))
     pss_nil)
     (pss_one (ps_ret pe_int))),?_⟩
  refine ⟨_,rfl,_,rfl,a,_,rfl,.inl hS,_,_,rfl,rfl,_,rfl,?_⟩
  refine ite2 (fun c=>?_) (fun c=>?_)
  · have c' : k < (((ns.map V.int).length:Nat):Int):=dec_t c
    rw [List.length_map] at c'
    have hk:k.toNat < ns.length:=by omega
    have hv:atI (ns.map V.int) k=some (.int ns[k.toNat]):=by
      have z:atI (ns.map V.int) ((k.toNat:Nat):Int)=some (.int ns[k.toNat]):=atI_nat (by rw [List.getElem?_map,List.getElem?_eq_getElem hk];rfl)
      rw [show ((k.toNat:Nat):Int)=k by omega] at z
      exact z
    exact ⟨_,rfl,_,rfl,a,_,_,_,rfl,rfl,hS,hv,q _⟩
  · exact q 0
theorem O_61 (F:Fun K "_law_mixed" "_law_mixed" Y56 f fd) (bl:Bl K mg qA qB qC qD qE qF qG qH qI qJ qK qL qM qN)  : FnOk P w K mg base CX0 1 f fd ["cell", "k"] (J56 K qA qB qC qD qE qF qG qH qI qJ qK qL qM qN):=by
  refine F.ok Z56 (fun vs H Q E h=>?_) (fun cdv A outer s H vs Q E hr h=>?_)
  · obtain ⟨c,k,rfl,h0,h1,q⟩:=h
    rfl
  obtain ⟨c,k,rfl,h0,h1,q⟩:=h
  refine ⟨_,(pss_cut (ps_set (i:=2) Z56.nd rfl (Or.inl rfl) (pe_op op_mulO (pe_op op_add (pe_op op_mod (pv 0) (pe_op op_pow pe_int pe_int)) pe_int) (pe_op op_add pe_int (pe_op op_mul (pe_op op_mul pe_int (pv 1)) (pv 1)))))
     (pss_cut (ps_set (i:=2) Z56.nd rfl (Or.inl rfl) (pe_op op_add (pv 2) (pe_op op_mul pe_int (pv 1))))
     (pss_one (ps_ret (pe_op op_mod (pe_op op_mulO (pv 2) (pv 2)) (pe_op op_add (pe_op op_pow pe_int pe_int) pe_int)))))),?_⟩
  have a0:=Int.emod_nonneg c (Int.ne_of_gt (p10 (60:Int).toNat))
  have a1:=Int.emod_lt_of_pos c (p10 (60:Int).toNat)
  have t60:(10:Int) ^ (60:Int).toNat < 2 ^ 200:=by decide
  have kk:0≤2 * k * k∧2 * k * k≤20000:=by
    have z1:0≤2 * k:=by omega
    have z2:=Int.mul_nonneg z1 h0
    have z3:2 * k * k≤2 * k * 100:=Int.mul_le_mul_of_nonneg_left h1 z1
    omega
  refine ⟨fun σ' H'=>H'=H∧∃ b:Int,0≤b∧b < 2 ^ 400∧σ'=[some (.int c),some (.int k),some (.int b)],?_,?_⟩
  · have hA:0≤c % 10 ^ (60:Int).toNat+1∧c % 10 ^ (60:Int).toNat+1≤2 ^ 200:=⟨by omega,by omega⟩
    have hB:0≤31415926535897932384626433832795028841971+2 * k * k∧31415926535897932384626433832795028841971+2 * k * k < 2 ^ 140:=by
      have:(31415926535897932384626433832795028841971:Int)+20000 < 2 ^ 140:=by decide
      omega
    have hM:IntMulOk (c % 10 ^ (60:Int).toNat+1) (31415926535897932384626433832795028841971+2 * k * k):=by
      refine mul_bits (m:=201) (n:=140) ?_ ?_ (by decide) (by decide)
      · have:(2:Int) ^ 200 < ((2 ^ 201:Nat):Int):=by decide
        omega
      · have:(2:Int) ^ 140=((2 ^ 140:Nat):Int):=by decide
        omega
    refine ⟨_,rfl,_,_,rfl,rfl,⟨by decide,by decide,by decide⟩,_,_,rfl,rfl,p10 _,_,_,rfl,rfl,_,rfl,_,_,rfl,rfl,.inl ⟨by decide,by decide⟩,_,rfl,_,_,rfl,rfl,.inr ⟨by omega,by omega⟩,_,_,rfl,rfl,_,_,rfl,rfl,hM,rfl,_,Int.mul_nonneg hA.1 hB.1,?_,rfl⟩
    have z:=Int.mul_le_mul hA.2 (Int.le_of_lt hB.2) hB.1 (by decide)
    have z2:(2:Int) ^ 200 * 2 ^ 140 < 2 ^ 400:=by decide
    omega
  rintro σ1 H1 ⟨rfl,b,b0,b1,rfl⟩
  refine ⟨fun σ' H'=>H'=H1∧∃ b:Int,0≤b∧b < 2 ^ 401∧σ'=[some (.int c),some (.int k),some (.int b)],?_,?_⟩
  · refine ⟨_,rfl,_,rfl,_,_,rfl,rfl,.inl ⟨by decide,by decide⟩,_,_,rfl,rfl,rfl,_,by omega,?_,rfl⟩
    have z2:(2:Int) ^ 400+7919 * 100 < 2 ^ 401:=by decide
    omega
  rintro σ2 H2 ⟨rfl,b',b2,b3,rfl⟩
  have hM:IntMulOk b' b':=by
    have e:(2:Int) ^ 401=((2 ^ 401:Nat):Int):=by decide
    refine mul_bits (m:=401) (n:=401) ?_ ?_ (by decide) (by decide) <;> omega
  have hp:(0:Int) < 10 ^ (60:Int).toNat+9:=by have:=p10 (60:Int).toNat;omega
  exact ⟨_,rfl,_,rfl,_,_,rfl,rfl,hM,_,_,rfl,rfl,⟨by decide,by decide,by decide⟩,_,_,rfl,rfl,_,_,rfl,rfl,hp,q _ (Int.emod_nonneg _ (Int.ne_of_gt hp))⟩
theorem O_69 (F:Fun K "_law_word" "_law_word" Y64 f fd) (bl:Bl K mg qA qB qC qD qE qF qG qH qI qJ qK qL qM qN)  : FnOk P w K mg base CX0 1 f fd ["cell", "k"] (J64 K qA qB qC qD qE qF qG qH qI qJ qK qL qM qN):=by
  refine F.ok Z64 (fun vs H Q E h=>?_) (fun cdv A outer s H vs Q E hr h=>?_)
  · obtain ⟨c,k,rfl,q⟩:=h
    rfl
  obtain ⟨c,k,rfl,q⟩:=h
  refine ⟨_,(pss_cut (ps_set (i:=2) Z64.nd rfl (Or.inl rfl) (pe_op op_rep_str (pe_ix ix_str pe_str (pe_op op_mod (pv 0) pe_int) (fun _ _=>rfl)) (pe_op op_mod (pe_op op_fdiv (pv 0) pe_int) pe_int)))
     (pss_cut (ps_set (i:=3) Z64.nd rfl (Or.inl rfl) (pe_op op_rep_str (pe_ix ix_str pe_str (pe_op op_mod (pe_op op_fdiv (pv 0) pe_int) pe_int) (fun _ _=>rfl)) (pe_op op_mod (pv 1) pe_int)))
     (pss_one (ps_ret (pe_op op_add_str (pe_op op_add_str (pe_op op_add_str (pv 2) (pe_ix ix_str pe_str (pe_op op_mod (pe_op op_fdiv (pv 1) pe_int) pe_int) (fun _ _=>rfl))) (pe_ix ix_str pe_str (pe_op op_mod (pv 1) pe_int) (fun _ _=>rfl))) (pv 3)))))),?_⟩
  have m1:∀ (x:Nat) (n:Int),0≤n→n < 10→MulOk ⟨#[x]⟩ n:=fun x n h0 h1=>by
    have:n=0∨n=1∨n=2∨n=3∨n=4∨n=5∨n=6∨n=7∨n=8∨n=9:=by omega
    have e:(⟨#[x]⟩:Str).length=1:=rfl
    unfold MulOk
    rw [e]
    rcases this with rfl | rfl | rfl | rfl | rfl | rfl | rfl | rfl | rfl | rfl <;> decide
  have a0:=Int.emod_nonneg c (show (26:Int) ≠ 0 by decide)
  have a1:=Int.emod_lt_of_pos c (show (0:Int) < 26 by decide)
  have b0:=Int.emod_nonneg (c / 26) (show (6:Int) ≠ 0 by decide)
  have b1:=Int.emod_lt_of_pos (c / 26) (show (0:Int) < 6 by decide)
  have d0:=Int.emod_nonneg (c / 156) (show (26:Int) ≠ 0 by decide)
  have d1:=Int.emod_lt_of_pos (c / 156) (show (0:Int) < 26 by decide)
  have e0:=Int.emod_nonneg k (show (5:Int) ≠ 0 by decide)
  have e1:=Int.emod_lt_of_pos k (show (0:Int) < 5 by decide)
  have f0:=Int.emod_nonneg (k / 7) (show (7:Int) ≠ 0 by decide)
  have f1:=Int.emod_lt_of_pos (k / 7) (show (0:Int) < 7 by decide)
  have g0:=Int.emod_nonneg k (show (7:Int) ≠ 0 by decide)
  have g1:=Int.emod_lt_of_pos k (show (0:Int) < 7 by decide)
  refine ⟨fun σ' H'=>H'=H∧σ'=[some (.int c),some (.int k),some (.str ⟨(List.replicate (c / 26 % 6).toNat (97+(c % 26).toNat)).toArray⟩),none],?_,?_⟩
  · refine ⟨_,rfl,_,_,rfl,rfl,(by show (0:Int) < 26;decide),_,_,_,rfl,rfl,(by decide),lets_at abc26 a0 a1,_,rfl,_,_,rfl,rfl,⟨by decide,by decide⟩,_,_,rfl,rfl,(by show (0:Int) < 6;decide),_,_,rfl,rfl,m1 _ _ b0 (by omega),rfl,?_⟩
    rw [mul1]
    rfl
  rintro σ1 H1 ⟨rfl,rfl⟩
  refine ⟨fun σ' H'=>H'=H1∧σ'=[some (.int c),some (.int k),some (.str ⟨(List.replicate (c / 26 % 6).toNat (97+(c % 26).toNat)).toArray⟩),some (.str ⟨(List.replicate (k % 5).toNat (97+(c / 156 % 26).toNat)).toArray⟩)],?_,?_⟩
  · refine ⟨_,rfl,_,_,rfl,rfl,⟨by decide,by decide⟩,_,_,rfl,rfl,(by show (0:Int) < 26;decide),_,_,_,rfl,rfl,(by decide),lets_at abc26 d0 d1,_,rfl,_,_,rfl,rfl,(by show (0:Int) < 5;decide),_,_,rfl,rfl,m1 _ _ e0 (by omega),rfl,?_⟩
    rw [mul1]
    rfl
  rintro σ2 H2 ⟨rfl,rfl⟩
  have n1:(⟨(List.replicate (c / 26 % 6).toNat (97+(c % 26).toNat)).toArray⟩:Str).length≤6:=by simp [Str.length];omega
  have n2:(⟨(List.replicate (k % 5).toNat (97+(c / 156 % 26).toNat)).toArray⟩:Str).length≤6:=by simp [Str.length];omega
  have o1:∀ x:Nat,(⟨#[x]⟩:Str).length=1:=fun _=>rfl
  refine ⟨_,rfl,_,rfl,_,_,rfl,rfl,⟨by decide,by decide⟩,_,_,rfl,rfl,(by show (0:Int) < 7;decide),_,_,_,rfl,rfl,(by decide),lets_at abc7 f0 f1,_,_,rfl,rfl,big (by rw [o1];omega),_,rfl,_,_,rfl,rfl,(by show (0:Int) < 7;decide),_,_,_,rfl,rfl,(by decide),lets_at abc7 g0 g1,_,_,rfl,rfl,big (by rw [len_app,o1,o1];omega),_,rfl,_,_,rfl,rfl,big (by rw [len_app,len_app,o1,o1];omega),?_⟩
  have e:∀ (A B:List Nat) (x y:Nat),(⟨A.toArray⟩:Str) ++ (⟨#[x]⟩:Str) ++ (⟨#[y]⟩:Str) ++ (⟨B.toArray⟩:Str)=⟨(A ++ ([x,y] ++ B)).toArray⟩:=fun A B x y=>by
    show Str.append (Str.append (Str.append _ _) _) _=_
    unfold Str.append
    simp
  show Q (.str (_ ++ _ ++ _ ++ _)) H2
  rw [e]
  exact q
theorem O_66 (F:Fun K "_law_spans" "_law_spans" Y61 f fd) (bl:Bl K mg qA qB qC qD qE qF qG qH qI qJ qK qL qM qN)  : FnOk P w K mg base CX0 1 f fd ["pairs", "bits"] (J61 K qA qB qC qD qE qF qG qH qI qJ qK qL qM qN):=by
  refine F.ok Z61 (fun vs H Q E h=>?_) (fun cdv A outer s H vs Q E hr h=>?_)
  · obtain ⟨pl,ts,prs,b,rfl,hpl,hp,hch,h6,q⟩:=h
    rfl
  obtain ⟨pl,ts,prs,b,rfl,hpl,hp,hch,h6,q⟩:=h
  refine ⟨_,(pss_cons (ps_set (i:=2) Z61.nd rfl (Or.inl rfl) (pe_lst pa_nil))
     (pss_cons (ps_for PassesOwn.never rfl (pi_enum rfl bl.enumerate_ (pa_cons (pv 0) pa_nil)) (pg_tup rfl (pgs_cons (pg_name (i:=3) Z61.nd rfl (Or.inl rfl)) (pgs_cons (pg_name (i:=4) Z61.nd rfl (Or.inl rfl)) pgs_nil)))
     (pss_one (ps_if (pt_cmpR op_eq (pe_op op_and (pe_op op_shr (pv 1) (pv 3)) pe_int) pe_int (nomark _))
     (pss_one (ps_if (PW.pt (pw_and (pt_cmpR op_gt (pv 3) pe_int (nomark _)) (pw_and1 (pt_cmpR op_eq (pe_op op_and (pe_op op_shr (pv 1) (pe_op op_sub (pv 3) pe_int)) pe_int) pe_int (nomark _)))))
     (pss_one (ps_asg (pe_tup (pa_cons (pe_ix ix_tup (pe_ix ix_list (pv 2) (pe_un un_neg pe_int) (fun _ _=>rfl)) pe_int (fun _ _=>rfl)) (pa_cons (pe_ix ix_tup (pv 4) pe_int (fun _ _=>rfl)) pa_nil))) (pg_sub (pv 2) (pe_un un_neg pe_int) set_list)))
     (pss_one (ps_expr (pe_bm PySem.F.plainAttrs_list PySem.F.slot_list_append PySem.F.type_list_append mt_append (pv 2) (pa_cons (pv 4) pa_nil))))))
     pss_nil)))
     (pss_one (ps_ret (pv 2))))),?_⟩
  have htl:=hp.length
  refine ⟨(by show 0≤sizeLine;decide),fun sp hsp=>?_⟩
  have s0:Same H (upd H sp (.lst [])):=same_new hsp _
  have e0:upd H sp (.lst []) sp=some (.lst []):=upd_same
  generalize upd H sp (.lst [])=H0 at s0 e0 ⊢
  refine ⟨_,rfl,pl,rfl,⟨_,SqL.of (s0 _ _ hpl)⟩,for_enum (xs:=ts) (fun i σ H'=>Same H H'∧∃ (ys:List V) (ps:Prs) (c3 c4:Option V),H' sp=some (.lst ys)∧PL H' ys ps∧SpOk prs b i ps∧ps=mrg prs b i∧ys.length≤i∧σ=[some (.ref pl),some (.int (b:Int)),some (.ref sp),c3,c4]) ⟨s0,[],[],_,_,e0,.nil,SpOk.nil,rfl,Nat.le_refl _,rfl⟩ (fun i σ H' hh=>SqL.of (hh.1 _ _ hpl)) (fun i y σ H' T ey hh hT=>?_) (fun σ H' hh=>?_)⟩
  · obtain ⟨sm,ys,ps,c3,c4,es,hP,ok,his,hly,rfl⟩:=hh
    obtain ⟨u,ru,eu,rfl,hu⟩:=hp.get ey
    have hi:i < prs.length:=(List.getElem?_eq_some_iff.mp eu).1
    have s2:=sm.trans (same_new hT (.tup [.int (i:Int),.ref ru]))
    have eT:upd H' T (.tup [.int (i:Int),.ref ru]) T=some (.tup [.int (i:Int),.ref ru]):=upd_same
    have es2:upd H' T (.tup [.int (i:Int),.ref ru]) sp=some (.lst ys):=ret_r1 es hT
    have hP2:=hP.mono (same_new hT (.tup [.int (i:Int),.ref ru])).tups
    have hu2:=s2 _ _ hu
    generalize upd H' T (.tup [.int (i:Int),.ref ru])=H2 at s2 eT es2 hP2 hu2 ⊢
    refine ⟨T,_,rfl,SqT.of eT,rfl,_,_,rfl,_,_,rfl,rfl,?_⟩
    refine ⟨_,rfl,_,rfl,_,_,rfl,rfl,(by show (0:Int)≤(i:Int);omega),_,_,rfl,rfl,rfl,_,rfl,?_⟩
    have eb:=bit_and b i
    refine ite2 (fun g=>?_) (fun g=>⟨s2,ys,ps,_,_,es2,hP2,ok.skip (by rw [← eb];exact Bool.eq_false_iff.mpr g),by rw [his,mrg_no (by rw [← eb];exact Bool.eq_false_iff.mpr g)],by omega,rfl⟩)
    have gb:b.testBit i=true:=by rw [← eb];exact g
    refine ⟨_,rfl,_,_,rfl,rfl,_,rfl,?_⟩
    refine ite2 (fun g1=>?_) (fun g1=>iteF ?e1)
    have g1' : (0:Int) < (i:Int):=dec_t g1
    obtain ⟨n,rfl⟩:∃ n,i=n+1:=⟨i - 1,by omega⟩
    have eb0:=bit_and b n
    refine ⟨_,rfl,_,rfl,_,_,rfl,rfl,_,_,rfl,rfl,(by show (0:Int)≤((n+1:Nat):Int) - 1;omega),_,_,rfl,rfl,rfl,_,rfl,?_⟩
    have en:(((n+1:Nat):Int) - 1).toNat=n:=by omega
    rw [en]
    refine ite2 (fun g2=>?_) (fun g2=>?e2)
    have gb0:b.testBit n=true:=by rw [← eb0];exact g2
    obtain ⟨p0,ep0⟩:∃ p0,prs[n]?=some p0:=⟨_,List.getElem?_eq_getElem (by omega)⟩
    obtain ⟨ps',v,eps,ev⟩:=ok.lastAt hch gb0 ep0
    obtain ⟨ys',r,ps2,p2,ey',eq',hP',er⟩:=hP2.last (by intro z;rw [z] at hP2;have:=hP2.length;rw [eps] at this;simp at this)
    rw [eq'] at eps
    obtain ⟨rfl,hv⟩:=List.append_inj' eps rfl
    have hv:p2=v:=by simpa using hv
    subst hv
    subst ey' eq'
    refine ⟨_,rfl,_,rfl,sp,_,_,_,rfl,rfl,SqL.of es2,atI_last _ _,r,_,_,_,rfl,rfl,SqT.of er,z0 _ _,_,rfl,ru,_,_,_,rfl,rfl,SqT.of hu2,z1 _ _,small2,fun t ht=>?_⟩
    have x1:upd H2 t (.tup [.int p2.1,.int u.2]) sp=some (.lst (ys' ++ [.ref r])):=ret_r1 es2 ht
    refine ⟨_,rfl,_,rfl,sp,_,_,_,rfl,rfl,x1,ixN_last (by simp),?_⟩
    rw [set_last]
    have st:SameT H2 (upd (upd H2 t (.tup [.int p2.1,.int u.2])) sp (.lst (ys' ++ [.ref t]))):=(sameT_new ht).trans (sameT_lst x1)
    refine ⟨(s2.trans (same_new ht _)).upd hsp,ys' ++ [.ref t],ps2 ++ [(p2.1,u.2)],_,_,upd_same,(hP'.mono st).snoc (sameT_lst x1 _ _ upd_same),ok.join hch gb gb0 ep0 eu ev,?_,?_,rfl⟩
    · rw [mrg_join gb gb0 his eu]
    · rw [List.length_append,List.length_singleton] at hly ⊢
      omega
    all_goals
      refine ⟨_,rfl,.inl ⟨rfl,_,SqL.of es2⟩,_,rfl,sp,_,_,rfl,rfl,es2,small1000 (by omega),?_⟩
      have st:SameT H2 (upd H2 sp (.lst (ys ++ [.ref ru]))):=sameT_lst es2
      exact ⟨s2.upd hsp,ys ++ [.ref ru],ps ++ [(u.1,u.2)],_,_,upd_same,(hP2.mono st).snoc (st _ _ hu2),ok.put hch gb eu,by rw [his,mrg_put gb (by first | (rw [show i=0 by (have:¬ ((0:Int) < (i:Int)):=fun z=>g1 (decide_eq_true z));omega];rfl) | (rw [show n+1 - 1=n by omega,← eb0,Bool.eq_false_iff.mpr g2,Bool.and_false])) eu],by rw [List.length_append,List.length_singleton];omega,rfl⟩
  · obtain ⟨sm,ys,ps,c3,c4,es,hP,ok,his,hly,rfl⟩:=hh
    rw [htl] at ok his
    exact ⟨_,rfl,q sp ps H' sm ⟨hsp,ys,es,hP⟩ ok his⟩
theorem O_62 (F:Fun K "_law_points" "_law_points" Y57 f fd) (bl:Bl K mg qA qB qC qD qE qF qG qH qI qJ qK qL qM qN)  : FnOk P w K mg base CX0 1 f fd ["columns"] (J57 K qA qB qC qD qE qF qG qH qI qJ qK qL qM qN):=by
  refine F.ok Z57 (fun vs H Q E h=>?_) (fun cdv A outer s H vs Q E hr h=>?_)
  · obtain ⟨cl,xs,cs,rfl,hcl,hcs,hok,h4,q⟩:=h
    rfl
  obtain ⟨cl,xs,cs,rfl,hcl,hcs,hok,h4,q⟩:=h
  refine ⟨_,(pss_cons (ps_set (i:=1) Z57.nd rfl (Or.inl rfl) (pe_lst (pa_cons (pe_lst pa_nil) pa_nil)))
     (pss_cons (ps_for PassesOwn.never rfl (pi_list (pv 0)) (pg_name (i:=2) Z57.nd rfl (Or.inl rfl))
     (pss_cons (ps_set (i:=3) Z57.nd rfl (Or.inl rfl) (pe_lst pa_nil))
     (pss_cut (ps_for PassesOwn.never rfl (pi_list (pv 1)) (pg_name (i:=4) Z57.nd rfl (Or.inl rfl))
     (pss_one (ps_for PassesOwn.never rfl (pi_range1 rfl bl.range_ (pa_cons (pe_callB call_len_seq rfl bl.len_ PySem.boot_len (pa_cons (pe_ix ix_list (pv 2) pe_int (fun _ _=>rfl)) pa_nil)) pa_nil)) (pg_name (i:=5) Z57.nd rfl (Or.inl rfl))
     (pss_one (ps_expr (pe_bm PySem.F.plainAttrs_list PySem.F.slot_list_append PySem.F.type_list_append mt_append (pv 3) (pa_cons (pe_op op_cat (pv 4) (pe_lst (pa_cons (pv 5) pa_nil))) pa_nil)))))))
     (pss_one (ps_set (i:=1) Z57.nd rfl (Or.inl rfl) (pv 3))))))
     (pss_one (ps_ret (pv 1))))),?_⟩
  have hxl:xs.length=cs.length:=hcs.1
  refine ⟨(by show 0≤sizeLine;decide),fun a0 ha0=>?_⟩
  have s0:=same_new ha0 (.lst (vN []))
  have e0:upd H a0 (.lst (vN [])) a0=some (.lst (vN [])):=upd_same
  have ee:upd H a0 (.lst [])=upd H a0 (.lst (vN [])):=rfl
  rw [ee]
  clear ee
  generalize upd H a0 (.lst (vN []))=H0 at s0 e0 ⊢
  refine ⟨(by show 1≤sizeLine;decide),fun p0 hp0=>?_⟩
  have s1:=s0.trans (same_new hp0 (.lst [.ref a0]))
  have e1:upd H0 p0 (.lst [.ref a0]) p0=some (.lst [.ref a0]):=upd_same
  have e1a:=same_new hp0 (.lst [.ref a0]) _ _ e0
  generalize upd H0 p0 (.lst [.ref a0])=H1 at s1 e1 e1a ⊢
  have st0:PtL NT H1 [.ref a0] [[]]:=⟨rfl,fun j p e=>by
    match j,e with
    | 0,e=>cases e;exact ⟨a0,rfl,trivial,e1a⟩
    | j+1,e=>simp at e⟩
  refine ⟨_,rfl,cl,rfl,⟨_,SqL.of (s1 _ _ hcl)⟩,for_list (xs:=xs) (fun i σ H'=>Same H H'∧∃ (pl:Addr) (zs:List V) (c2 c3 c4 c5:Option V),H' pl=some (.lst zs)∧PtL NT H' zs (prodP ((lens cs).take i))∧zs.length≤6 ^ i∧σ=[some (.ref cl),some (.ref pl),c2,c3,c4,c5]) ⟨s1,p0,_,_,_,_,_,e1,st0,by show 1≤6 ^ 0;decide,rfl⟩ (fun i σ H' _ h=>SqL.of (h.1 _ _ hcl)) (fun i y σ H' ey hh=>?_) (fun σ H' hh=>?_)⟩
  · obtain ⟨sm,pl,zs,c2,c3,c4,c5,epl,hpt,hsz,rfl⟩:=hh
    obtain ⟨lc,c,rfl,ec,cpl,ts,_,_,g1,g2,g3⟩:=RefL.get (hcs.same sm) ey
    have hi:i < cs.length:=(List.getElem?_eq_some_iff.mp ec).1
    have ok:=hok c (List.mem_of_getElem? ec)
    have k6:=ok.few
    have htl:=g3.length
    have hlen6:6 ^ i≤216:=by
      have:i≤3:=by omega
      exact Nat.le_trans (Nat.pow_le_pow_right (by decide) this) (by decide)
    refine ⟨(by show 0≤sizeLine;decide),fun M hM=>?_⟩
    have u1:=same_new hM (.lst [])
    have eM:upd H' M (.lst []) M=some (.lst []):=upd_same
    generalize upd H' M (.lst [])=H2 at u1 eM ⊢
    have hptl:zs.length=(prodP ((lens cs).take i)).length:=hpt.1
    refine ⟨fun σ' H3=>Same H' H3∧∃ (ys:List V) (c4 c5:Option V),H3 M=some (.lst ys)∧PtL (· ≠ M) H3 ys (grow (prodP ((lens cs).take i)) c.prs.length)∧σ'=[some (.ref cl),some (.ref pl),some (.ref lc),some (.ref M),c4,c5],?_,?_⟩
    · refine ⟨_,rfl,pl,rfl,⟨_,SqL.of (u1 _ _ epl)⟩,for_list (xs:=zs) (fun a σ H3=>Same H' H3∧∃ (ys:List V) (c4 c5:Option V),H3 M=some (.lst ys)∧PtL (· ≠ M) H3 ys (grow ((prodP ((lens cs).take i)).take a) c.prs.length)∧σ=[some (.ref cl),some (.ref pl),some (.ref lc),some (.ref M),c4,c5]) ⟨u1,[],_,_,eM,RefL.nil,rfl⟩ (fun a σ H3 _ h=>SqL.of (h.1 _ _ epl)) (fun a y σ H3 ey2 h3=>?_) (fun σ H3 h3=>?_)⟩
      · obtain ⟨t3,ys,c4,c5,eM3,hy,rfl⟩:=h3
        obtain ⟨r,p,rfl,ep,_,hr3⟩:=RefL.get (hpt.same t3) ey2
        have ha:a < zs.length:=(List.getElem?_eq_some_iff.mp ey2).1
        refine ⟨_,rfl,lc,_,_,_,rfl,rfl,SqL.of (t3 _ _ g1),rfl,cpl,_,rfl,.inl (SqL.of (t3 _ _ g2)),_,rfl,(by show -(2 ^ 62)≤((ts.length:Nat):Int);omega),(by show ((ts.length:Nat):Int) < 2 ^ 62;omega),for_range (fun b σ H4=>Same H' H4∧∃ (ys:List V) (c5:Option V),H4 M=some (.lst ys)∧PtL (· ≠ M) H4 ys (grow ((prodP ((lens cs).take i)).take a) c.prs.length ++ (List.range b).map fun k=>p ++ [k])∧σ=[some (.ref cl),some (.ref pl),some (.ref lc),some (.ref M),some (.ref r),c5]) ⟨t3,ys,_,eM3,by simpa using hy,rfl⟩ (fun b σ H4 hb h4_=>?_) (fun σ H4 h4_=>?_)⟩
        · obtain ⟨t4,ys4,c5',eM4,hy4,rfl⟩:=h4_
          have hr4:H4 r=some (.lst (vN p)):=by
            obtain ⟨r',p',er',ep',_,hr'⟩:=RefL.get hpt ey2
            cases er'
            rw [ep] at ep';cases ep'
            exact t4 _ _ hr'
          have hb2:b < c.prs.length:=by first | omega | (rw [← htl];omega)
          have hys:ys4.length≤2000:=by
            have h1:=hy4.1
            rw [List.length_append,grow_len,List.length_take,List.length_map,List.length_range] at h1
            have h2:min a (prodP ((lens cs).take i)).length * c.prs.length≤216 * 6:=Nat.mul_le_mul (by omega) k6
            omega
          have hpl:p.length≤4:=by
            have:=(PtOk.iff.mp (List.mem_of_getElem? ep)).1
            rw [List.length_take] at this
            unfold lens at this
            rw [List.length_map] at this
            omega
          refine ⟨_,rfl,.inl ⟨rfl,_,SqL.of eM4⟩,_,rfl,_,rfl,(by show 1≤sizeLine;decide),fun k1 hk1=>?_⟩
          have v1:=same_new hk1 (.lst (vN [b]))
          have f1:upd H4 k1 (.lst (vN [b])) k1=some (.lst (vN [b])):=upd_same
          have ee:upd H4 k1 (.lst [V.int (0+(b:Int))])=upd H4 k1 (.lst (vN [b])):=by rw [Int.zero_add];rfl
          rw [ee]
          clear ee
          generalize upd H4 k1 (.lst (vN [b]))=H5 at v1 f1 ⊢
          refine ⟨r,k1,_,_,rfl,rfl,v1 _ _ hr4,f1,Nat.le_of_lt (small1000 (by rw [vN_len,vN_len];simp;omega)),fun k2 hk2=>?_⟩
          rw [vN_app]
          have v2:=same_new hk2 (.lst (vN (p ++ [b])))
          have f2:upd H5 k2 (.lst (vN (p ++ [b]))) k2=some (.lst (vN (p ++ [b]))):=upd_same
          have eM5:=v1 _ _ eM4
          have nk:k2 ≠ M:=fun z=>by rw [z,eM5] at hk2;cases hk2
          generalize upd H5 k2 (.lst (vN (p ++ [b])))=H6 at v2 f2 ⊢
          have eM6:=v2 _ _ eM5
          refine ⟨M,_,_,rfl,rfl,eM6,small2000 hys,?_⟩
          have hy6:PtL (· ≠ M) H6 (ys4 ++ [.ref k2]) (grow ((prodP ((lens cs).take i)).take a) c.prs.length ++ ((List.range b).map fun k=>p ++ [k]) ++ [p ++ [b]]):=RefL.snoc (hy4.same (v1.trans v2)) ⟨nk,f2⟩
          refine ⟨((t4.trans v1).trans v2).upd hM,ys4 ++ [.ref k2],_,upd_same,?_,rfl⟩
          rw [List.range_succ,List.map_append,List.map_singleton,← List.append_assoc]
          exact hy6.updN (fun z=>z rfl)
        · obtain ⟨t4,ys4,c5',eM4,hy4,rfl⟩:=h4_
          refine ⟨t4,ys4,_,_,eM4,?_,rfl⟩
          rw [grow_take ep]
          rw [htl] at hy4
          exact hy4
      · obtain ⟨t3,ys,c4,c5,eM3,hy,rfl⟩:=h3
        rw [hptl,List.take_length] at hy
        exact ⟨t3,ys,_,_,eM3,hy,rfl⟩
    rintro σ3 H3 ⟨t3,ys,c4',c5',eM3,hy,rfl⟩
    have el:(lens cs)[i]?=some c.prs.length:=by unfold lens;rw [List.getElem?_map,ec];rfl
    have hyl:=hy.1
    rw [grow_len] at hyl
    refine ⟨_,rfl,sm.trans t3,M,ys,_,_,_,_,eM3,?_,?_,rfl⟩
    · rw [take_snoc el,prodP_snoc]
      exact hy.any
    · rw [hyl,← hptl,Nat.pow_succ]
      exact Nat.mul_le_mul hsz k6
  · obtain ⟨sm,pl,zs,c2,c3,c4,c5,epl,hpt,hsz,rfl⟩:=hh
    have:(lens cs).length=cs.length:=by unfold lens;rw [List.length_map]
    rw [hxl,← this,List.take_length] at hpt
    exact ⟨_,rfl,q pl zs H' sm epl hpt⟩
theorem O_53 (F:Fun K "_law_codes" "_law_codes" Y48 f fd) (bl:Bl K mg qA qB qC qD qE qF qG qH qI qJ qK qL qM qN)  : FnOk P w K mg base CX0 1 f fd ["columns", "point", "turn"] (J48 K qA qB qC qD qE qF qG qH qI qJ qK qL qM qN):=by
  refine F.ok Z48 (fun vs H Q E h=>?_) (fun cdv A outer s H vs Q E hr h=>?_)
  · obtain ⟨cl,pl,xs,cs,p,tn,rfl,hcl,hcs,hok,h4,hpl,hpt,q⟩:=h
    rfl
  obtain ⟨cl,pl,xs,cs,p,tn,rfl,hcl,hcs,hok,h4,hpl,hpt,q⟩:=h
  refine ⟨_,(pss_one (ps_ret (pe_compG (pi_zip rfl bl.zip_ (pa_cons (pv 0) (pa_cons (pv 1) pa_nil))) (cmpOkG_free (N:=["column", "k", "turn"]) (k:=2) (fr:=[2]) (cl:=[("turn",s.heap.objs.size+1)]) rfl rfl (by decide +kernel) (by decide +kernel) rfl rfl (List.forall_mem_cons.mpr ⟨rfl,List.forall_mem_nil _⟩) rfl) rfl (fun _ _ _ _=>(gTupK (K:=K) (n:=2) rfl rfl (pgs_cons (pg_name (i:=0) (show (["column", "k", "turn"]:List Str).Nodup by decide +kernel) rfl (Or.inl rfl) (Or.inr rfl)) (pgs_cons (pg_name (i:=1) (show (["column", "k", "turn"]:List Str).Nodup by decide +kernel) rfl (Or.inl rfl) (Or.inr rfl)) pgs_nil)))) (fun _ _ _ _=>pif_nil) (fun _ _ _ _=>(pe_ix (ix_tupK (K:=K) rfl) (pe_ix (ix_listK (K:=K) rfl) (pe_ix (ix_listK (K:=K) rfl) (pv 0) pe_int (fun _ _=>rfl)) (pv 1) (fun _ _=>rfl)) (pe_op op_mod (pe_op op_add (pv 1) (pv 2)) pe_int) (fun _ _=>rfl)))))),?_⟩
  have hxl:xs.length=cs.length:=hcs.1
  have hpl_:p.length=cs.length:=by rw [hpt.1];unfold lens;rw [List.length_map]
  have hmin:min xs.length (vN p).length=cs.length:=by rw [vN_len];omega
  refine ⟨_,rfl,_,rfl,cl,pl,rfl,⟨_,SqL.of hcl⟩,⟨_,SqL.of hpl⟩,compG_zip (xs:=xs) (ys:=vN p) (fun D i ys H2=>Same H H2∧H2 D=some (.lst ys)∧∃ cd:List Int,ys=cd.map V.int∧cd.length=i∧∀ (j:Nat) (x:Int) (c:Col) (a:Nat),cd[j]?=some x→cs[j]?=some c→p[j]?=some a→∃ pr,c.prs[a]?=some pr∧(x=pr.1∨x=pr.2))
    (fun D hD=>⟨same_new hD _,upd_same,[],rfl,rfl,(fun j x c a e=>by simp at e)⟩) (fun D i ys H2 hD _ h=>⟨SqL.of (h.1 _ _ hcl),SqL.of (h.1 _ _ hpl)⟩) (fun D j x y ys H2 T hD ex ey2 h hT ts hts=>?_) (fun D ys H2 hD h=>?_)⟩
  · obtain ⟨s2,eD,cd,rfl,hlen,hat⟩:=h
    obtain ⟨lc,c,rfl,ec,cpl,tp_,_,_,g1,g2,g3⟩:=RefL.get (hcs.same s2) ex
    obtain ⟨a,rfl,ea⟩:=vN_of ey2
    obtain ⟨t0,t1,rfl⟩:∃ t0 t1,ts=[t0,t1]:=by
      match ts,hts with
      | [t0,t1],_=>exact ⟨t0,t1,rfl⟩
    have s3:=same_new hT (.tup [.ref lc,.int (a:Int)])
    have eT:upd H2 T (.tup [.ref lc,.int (a:Int)]) T=some (.tup [.ref lc,.int (a:Int)]):=upd_same
    generalize upd H2 T (.tup [.ref lc,.int (a:Int)])=H3 at s3 eT ⊢
    have hac:a < c.prs.length:=hpt.2 j a _ ea (by unfold lens;rw [List.getElem?_map,ec];rfl)
    obtain ⟨rp,pr,e1,e2,e3⟩:=pl_at g3 (i:=(a:Int)) (by omega) (by rw [g3.length];omega)
    rw [Int.toNat_natCast] at e2
    obtain ⟨x,ex2,hx⟩:=end2 (p:=pr) (m:=(a:Int)+tn)
    refine ⟨T,_,rfl,SqT.of eT,rfl,_,_,rfl,_,_,rfl,rfl,⟨[some (.ref lc),some (.int (a:Int))],rfl,rfl⟩,?_⟩
    have hj:j < min xs.length (vN p).length:=by
      have:=(List.getElem?_eq_some_iff.mp ex).1
      rw [hmin,← hxl];exact this
    have eD3:=s3 _ _ eD
    refine ⟨_,rfl,lc,_,_,_,rfl,rfl,SqL.of (s3 _ _ g1),rfl,_,rfl,cpl,_,_,_,rfl,rfl,SqL.of (s3 _ _ g2),e1,_,rfl,_,rfl,_,_,rfl,rfl,_,_,rfl,rfl,(by show (0:Int) < 2;decide),rp,_,_,_,rfl,rfl,SqT.of (s3 _ _ e3),ex2,CYes.mk hj eD3 (small1000 (by rw [List.length_map];omega)) ⟨(s2.trans s3).upd hD,upd_same,cd ++ [x],by simp,by simp [hlen],fun j' x' c' a' f1 f2 f3=>?_⟩⟩
    by_cases hj' : j' < cd.length
    · rw [List.getElem?_append_left hj'] at f1
      exact hat j' x' c' a' f1 f2 f3
    · have hj2:j'=cd.length:=by have:=(List.getElem?_eq_some_iff.mp f1).1;simp at this;omega
      subst hj2
      simp at f1
      subst f1
      rw [hlen] at f2 f3
      rw [ec] at f2
      rw [ea] at f3
      cases f2;cases f3
      exact ⟨pr,e2,hx⟩
  · obtain ⟨s2,eD,cd,rfl,hlen,hat⟩:=h
    rw [hmin] at hlen
    exact q D cd H2 s2 eD ⟨hlen,hat⟩
theorem O_57 (F:Fun K "_law_fit" "_law_fit" Y52 f fd) (bl:Bl K mg qA qB qC qD qE qF qG qH qI qJ qK qL qM qN)  : FnOk P w K mg base CX0 1 f fd ["bit_row", "point"] (J52 K qA qB qC qD qE qF qG qH qI qJ qK qL qM qN):=by
  refine F.ok Z52 (fun vs H Q E h=>?_) (fun cdv A outer s H vs Q E hr h=>?_)
  · obtain ⟨r,pl,w_,p,rfl,⟨bl0,f1,_,f2⟩,hpl,hlen,h100,q⟩:=h
    rfl
  obtain ⟨r,pl,w_,p,rfl,⟨bl0,f1,_,f2⟩,hpl,hlen,h100,q⟩:=h
  refine ⟨_,(pss_one (ps_ret (pe_callB (call_all_bools rfl) rfl bl.all_ PyProof.Rows.boot_all (pa_cons (pe_compG (pi_zip rfl bl.zip_ (pa_cons (pe_ix ix_tup (pv 0) pe_int (fun _ _=>rfl)) (pa_cons (pv 1) pa_nil))) (cmpOkG_plain (N:=["bit", "k"]) (k:=2) rfl rfl (by decide +kernel) (by decide +kernel) (by decide +kernel)) rfl (fun _ _ _ _=>(gTupK (K:=K) (n:=2) rfl rfl (pgs_cons (pg_name (i:=0) (show (["bit", "k"]:List Str).Nodup by decide +kernel) rfl (Or.inl rfl) (Or.inr rfl)) (pgs_cons (pg_name (i:=1) (show (["bit", "k"]:List Str).Nodup by decide +kernel) rfl (Or.inl rfl) (Or.inr rfl)) pgs_nil)))) (fun _ _ _ _=>pif_nil) (fun _ _ _ _=>(pe_cmpR op_eq (pe_op op_and (pe_op op_shr (pv 0) (pv 1)) pe_int) pe_int (nomark _)))) pa_nil)))),?_⟩
  have hmin:min (vN w_.1).length (vN p).length=p.length:=by rw [vN_len,vN_len];omega
  refine ⟨_,rfl,r,_,_,_,rfl,rfl,SqT.of f1,rfl,_,rfl,bl0,pl,rfl,⟨_,SqL.of f2⟩,⟨_,SqL.of hpl⟩,compG_zip (xs:=vN w_.1) (ys:=vN p) (fun D i ys H2=>Same H H2∧H2 D=some (.lst ys)∧ys=((List.range i).map fun j=>(w_.1.getD j 0).testBit (p.getD j 0)).map V.bl)
    (fun D hD=>⟨same_new hD _,upd_same,rfl⟩) (fun D i ys H2 hD _ h=>⟨SqL.of (h.1 _ _ f2),SqL.of (h.1 _ _ hpl)⟩) (fun D j x y ys H2 T hD ex ey2 h hT ts hts=>?_) (fun D ys H2 hD h=>?_)⟩
  · obtain ⟨s2,eD,rfl⟩:=h
    obtain ⟨b,rfl,eb⟩:=vN_of ex
    obtain ⟨a,rfl,ea⟩:=vN_of ey2
    obtain ⟨t0,t1,rfl⟩:∃ t0 t1,ts=[t0,t1]:=by
      match ts,hts with
      | [t0,t1],_=>exact ⟨t0,t1,rfl⟩
    have s3:=same_new hT (.tup [.int (b:Int),.int (a:Int)])
    have eT:upd H2 T (.tup [.int (b:Int),.int (a:Int)]) T=some (.tup [.int (b:Int),.int (a:Int)]):=upd_same
    generalize upd H2 T (.tup [.int (b:Int),.int (a:Int)])=H3 at s3 eT ⊢
    refine ⟨T,_,rfl,SqT.of eT,rfl,_,_,rfl,_,_,rfl,rfl,⟨[some (.int (b:Int)),some (.int (a:Int))],rfl,rfl⟩,?_⟩
    have hj:j < min (vN w_.1).length (vN p).length:=by
      have:=(List.getElem?_eq_some_iff.mp ea).1
      rw [hmin];exact this
    have hj2:j < p.length:=by rw [hmin] at hj;exact hj
    have eD3:=s3 _ _ eD
    refine ⟨_,rfl,_,rfl,_,_,rfl,rfl,(by show (0:Int)≤(a:Int);omega),_,_,rfl,rfl,rfl,CYes.mk hj eD3 (small1000 (by rw [List.length_map,List.length_map,List.length_range];omega)) ⟨(s2.trans s3).upd hD,upd_same,?_⟩⟩
    have g1:w_.1.getD j 0=b:=by rw [List.getD_eq_getElem?_getD,eb];rfl
    have g2:p.getD j 0=a:=by rw [List.getD_eq_getElem?_getD,ea];rfl
    rw [List.range_succ,List.map_append,List.map_append]
    congr 1
    show [V.bl (decide (V.int (Builtin.bitAnd ((b:Int) / 2 ^ a) 1)=V.int 1))]=[V.bl ((w_.1.getD j 0).testBit (p.getD j 0))]
    rw [bit_and,g1,g2]
  · obtain ⟨s2,eD,rfl⟩:=h
    rw [hmin] at eD
    refine ⟨D,_,rfl,SqL.of eD,?_⟩
    have e:(((List.range p.length).map fun j=>(w_.1.getD j 0).testBit (p.getD j 0)).all id)=bfit w_.1 p:=by unfold bfit;rw [List.all_map];rfl
    rw [e]
    exact q H2 s2
theorem O_68 (F:Fun K "_law_way" "_law_way" Y63 f fd) (bl:Bl K mg qA qB qC qD qE qF qG qH qI qJ qK qL qM qN)  : FnOk P w K mg base CX0 1 f fd ["turn", "out"] (J63 K qA qB qC qD qE qF qG qH qI qJ qK qL qM qN):=by
  refine F.ok Z63 (fun vs H Q E h=>?_) (fun cdv A outer s H vs Q E hr h=>?_)
  · obtain ⟨tn,ol,oc,rfl,⟨pl,ts,_,_,e1,e2,hp⟩,q⟩:=h
    rfl
  obtain ⟨tn,ol,oc,rfl,⟨pl,ts,_,_,e1,e2,hp⟩,q⟩:=h
  refine ⟨_,(pss_cut (ps_set (i:=2) Z63.nd rfl (Or.inl rfl) (pe_ix ix_list (pe_lst (pa_cons pe_str (pa_cons pe_str (pa_cons pe_str (pa_cons pe_str (pa_cons pe_str (pa_cons pe_str pa_nil))))))) (pe_op op_mod (pv 0) pe_int) (fun _ _=>rfl)))
     (pss_cons (ps_if (PW.pt (pw_and (pt_cmpR op_eq (pv 2) pe_str (nomark _)) (pw_and1 (pt_val (pe_ix ix_list (pv 1) pe_int (fun _ _=>rfl))))))
     (pss_one (ps_set (i:=2) Z63.nd rfl (Or.inl rfl) pe_str))
     pss_nil)
     (pss_one (ps_ret (pv 2))))),?_⟩
  have k0:=Int.emod_nonneg tn (show (6:Int) ≠ 0 by decide)
  have k1:=Int.emod_lt_of_pos tn (show (0:Int) < 6 by decide)
  refine ⟨fun σ' H'=>Same H H'∧∃ (wy:Str) (i:Nat),six[i]?=some wy∧σ'=[some (.int tn),some (.ref ol),some (.str wy)],?_,?_⟩
  · refine ⟨(by show 6≤sizeLine;decide),fun p hp_=>?_⟩
    obtain ⟨wy,i,hw,hi⟩:∃ (wy:Str) (i:Nat),atI [V.str (Str.ofString "first"),.str (Str.ofString "only"),.str (Str.ofString "like"),.str (Str.ofString "low"),.str (Str.ofString "high"),.str (Str.ofString "sum")] (tn % 6)=some (.str wy)∧six[i]?=some wy:=by
      generalize tn % 6=k at k0 k1 ⊢
      have:k=0∨k=1∨k=2∨k=3∨k=4∨k=5:=by omega
      rcases this with rfl | rfl | rfl | rfl | rfl | rfl
      · exact ⟨_,0,rfl,rfl⟩
      · exact ⟨_,1,rfl,rfl⟩
      · exact ⟨_,2,rfl,rfl⟩
      · exact ⟨_,3,rfl,rfl⟩
      · exact ⟨_,4,rfl,rfl⟩
      · exact ⟨_,5,rfl,rfl⟩
    exact ⟨_,rfl,_,_,rfl,rfl,(by show (0:Int) < 6;decide),p,_,_,_,rfl,rfl,SqL.of upd_same,hw,same_new hp_ _,wy,i,hi,rfl⟩
  rintro σ1 H1 ⟨s1,wy,i,hi,rfl⟩
  refine ⟨_,rfl,rfl,_,rfl,?_⟩
  by_cases g:wy=Str.ofString "sum"
  · subst g
    refine iteTS rfl ?_
    refine ⟨_,rfl,ol,_,_,_,rfl,rfl,SqL.of (s1 _ _ e1),rfl,_,rfl,?_⟩
    cases hw:oc.w with
    | true=>exact iteT ⟨_,rfl,q _ 0 H1 s1 rfl fun z=>absurd z (by decide)⟩
    | false=>exact iteF ⟨_,rfl,q _ i H1 s1 hi fun _=>hw⟩
  · exact iteFS (fun e=>by injection e with e;exact g e) (iteF ⟨_,rfl,q _ i H1 s1 hi fun z=>absurd z g⟩)
theorem O_64 (F:Fun K "_law_same" "_law_same" Y59 f fd) (bl:Bl K mg qA qB qC qD qE qF qG qH qI qJ qK qL qM qN)  : FnOk P w K mg base CX0 1 f fd ["found", "due"] (J59 K qA qB qC qD qE qF qG qH qI qJ qK qL qM qN):=by
  refine F.ok Z59 (fun vs H Q E h=>?_) (fun cdv A outer s H vs Q E hr h=>?_)
  · obtain ⟨r,d,p,rfl,hr',hd,q⟩:=h
    rfl
  obtain ⟨r,d,p,rfl,hr',hd,q⟩:=h
  refine ⟨_,(pss_cons (ps_if (PW.pt (pw_or (pt_not (pt_val (pe_callB call_isiG rfl bl.isinstance_ PyProof.Rows.boot_isinstance (pa_cons (pv 0) (pa_cons (pe_bltn (v:=.ty "tuple") rfl bl.tuple_ PyProof.Rows.boot_tuple rfl) pa_nil))))) (pw_or (pt_cmpR op_ne (pe_callB call_len_seq rfl bl.len_ PySem.boot_len (pa_cons (pv 0) pa_nil)) pe_int (nomark _)) (pw_or1 (pt_not (pt_val (pe_callB call_isiG rfl bl.isinstance_ PyProof.Rows.boot_isinstance (pa_cons (pe_ix ix_tup (pv 0) pe_int (fun _ _=>rfl)) (pa_cons (pe_bltn (v:=.ty "str") rfl bl.str_ PyProof.Rows.boot_str rfl) pa_nil)))))))))
     (pss_one (ps_ret pe_bl))
     pss_nil)
     (pss_one (ps_ret (pe_and (pe_callB call_isiG rfl bl.isinstance_ PyProof.Rows.boot_isinstance (pa_cons (pe_ix ix_tup (pv 0) pe_int (fun _ _=>rfl)) (pa_cons (pe_bltn (v:=.ty "int") rfl bl.int_ PyProof.Rows.boot_int rfl) pa_nil))) (pe_and (pe_not (pe_callB call_isiG rfl bl.isinstance_ PyProof.Rows.boot_isinstance (pa_cons (pe_ix ix_tup (pv 0) pe_int (fun _ _=>rfl)) (pa_cons (pe_bltn (v:=.ty "bool") rfl bl.bool_ PyProof.Rows.boot_bool rfl) pa_nil)))) (pe_one (pe_cmpR (op_eqT hr) (pv 0) (pv 1) (nomark _)))))))),?_⟩
  refine ⟨_,rfl,_,_,_,_,true,rfl,.ty _,.inr ⟨r,_,rfl,hr',rfl⟩,(by first | rfl | with_unfolding_all rfl | decide +kernel),_,rfl,iteF ?_⟩
  refine ⟨_,rfl,r,_,rfl,.inr (hr'),rfl,_,rfl,iteNS rfl ?_⟩
  refine ⟨_,rfl,r,_,_,_,rfl,rfl,hr',rfl,_,_,_,_,true,rfl,.ty _,.inl (.str _),(by first | rfl | with_unfolding_all rfl | decide +kernel),_,rfl,iteF ?_⟩
  refine ⟨_,rfl,r,_,_,_,rfl,rfl,hr',rfl,_,_,_,_,true,rfl,.ty _,.inl (.int _),(by first | rfl | with_unfolding_all rfl | decide +kernel),_,rfl,iteT ?_⟩
  refine ⟨_,rfl,r,_,_,_,rfl,rfl,hr',rfl,_,_,_,_,false,rfl,.ty _,.inl (.int _),(by first | rfl | with_unfolding_all rfl | decide +kernel),_,rfl,true,rfl,iteT ?_⟩
  refine ⟨_,rfl,_,rfl,?_⟩
  refine rEqT_same hr' hd (fun x hx=>?_) q
  rcases List.mem_cons.mp hx with rfl | hx
  · rfl
  · rw [show x=.int p.2 by simpa using hx];rfl
theorem O_58 (F:Fun K "_law_joint" "_law_joint" Y53 f fd) (bl:Bl K mg qA qB qC qD qE qF qG qH qI qJ qK qL qM qN)  : FnOk P w K mg base CX0 1 f fd ["way", "one", "other"] (J53 K qA qB qC qD qE qF qG qH qI qJ qK qL qM qN):=by
  refine F.ok Z53 (fun vs H Q E h=>?_) (fun cdv A outer s H vs Q E hr h=>?_)
  · obtain ⟨r,r',w_,w',wy,i,rfl,⟨ba,er,_,eba⟩,⟨bb,er',_,ebb⟩,hi,hl,h4,q1,q2⟩:=h
    rfl
  obtain ⟨r,r',w_,w',wy,i,rfl,⟨ba,er,_,eba⟩,⟨bb,er',_,ebb⟩,hi,hl,h4,q1,q2⟩:=h
  refine ⟨_,(pss_cons (ps_if (pt_cmpR op_ne (pe_ix ix_tup (pv 1) pe_int (fun _ _=>rfl)) (pe_ix ix_tup (pv 2) pe_int (fun _ _=>rfl)) (nomark _))
     (pss_one (ps_ret (pe_un un_neg pe_int)))
     pss_nil)
     (pss_cons (ps_for PassesOwn.never rfl (pi_range1 rfl bl.range_ (pa_cons (pe_callB call_len_seq rfl bl.len_ PySem.boot_len (pa_cons (pe_ix ix_tup (pv 1) pe_int (fun _ _=>rfl)) pa_nil)) pa_nil)) (pg_name (i:=3) Z53.nd rfl (Or.inl rfl))
     (pss_cons (ps_set (i:=4) Z53.nd rfl (Or.inl rfl) (pe_op op_cat (pe_slice sl_list (pe_ix ix_tup (pv 1) pe_int (fun _ _=>rfl)) po_none (po_some (pv 3))) (pe_slice sl_list (pe_ix ix_tup (pv 1) pe_int (fun _ _=>rfl)) (po_some (pe_op op_add (pv 3) pe_int)) po_none)))
     (pss_cons (ps_set (i:=5) Z53.nd rfl (Or.inl rfl) (pe_cmpR (op_eqL hr) (pv 4) (pe_op op_cat (pe_slice sl_list (pe_ix ix_tup (pv 2) pe_int (fun _ _=>rfl)) po_none (po_some (pv 3))) (pe_slice sl_list (pe_ix ix_tup (pv 2) pe_int (fun _ _=>rfl)) (po_some (pe_op op_add (pv 3) pe_int)) po_none)) (nomark _)))
     (pss_one (ps_if (PW.pt (pw_and (pt_val (pv 5)) (pw_and1 (PW.pt (pw_or (pt_cmpR op_notIn_seq (pv 0) (pe_lst (pa_cons pe_str (pa_cons pe_str pa_nil))) (by with_unfolding_all rfl)) (pw_or1 (pt_cmpR op_eq (pe_op op_and (pe_ix ix_list (pe_ix ix_tup (pv 1) pe_int (fun _ _=>rfl)) (pv 3) (fun _ _=>rfl)) (pe_ix ix_list (pe_ix ix_tup (pv 2) pe_int (fun _ _=>rfl)) (pv 3) (fun _ _=>rfl))) pe_int (nomark _))))))))
     (pss_one (ps_ret (pv 3)))
     pss_nil)))))
     (pss_one (ps_ret (pe_un un_neg pe_int))))),?_⟩
  have hvl:(vN w_.1).length=w_.1.length:=vN_len _
  refine ⟨_,rfl,r,_,_,_,rfl,rfl,SqT.of er,rfl,_,rfl,r',_,_,_,rfl,rfl,SqT.of er',rfl,rfl,_,rfl,?_⟩
  by_cases hc:w_.2=w'.2
  rotate_left
  · rw [decide_eq_false (fun z=>hc (V.int.inj z))]
    exact iteT ⟨_,rfl,q2 H (Same.refl _) fun z=>absurd z hc⟩
  refine iteNS (by rw [hc]) ?_
  refine ⟨_,rfl,r,_,_,_,rfl,rfl,SqT.of er,rfl,ba,_,rfl,.inl (SqL.of eba),_,rfl,(by show -(2 ^ 62)≤(((vN w_.1).length:Nat):Int);omega),(by show (((vN w_.1).length:Nat):Int) < 2 ^ 62;omega),for_range (fun k σ H'=>Same H H'∧(∀ d,d < k→¬ Jn (cn i) w_ w' d)∧∃ c3 c4 c5:Option V,σ=[some (.str wy),some (.ref r),some (.ref r'),c3,c4,c5]) ⟨Same.refl _,(fun d hd=>absurd hd (by omega)),_,_,_,rfl⟩ (fun k σ H' hk hh=>?_) (fun σ H' hh=>?_)⟩
  · obtain ⟨sm,hno,c3,c4,c5,rfl⟩:=hh
    have hk' : k < w_.1.length:=by omega
    obtain ⟨b,eb⟩:∃ b,w_.1[k]?=some b:=⟨_,List.getElem?_eq_getElem hk'⟩
    obtain ⟨b',eb'⟩:∃ b',w'.1[k]?=some b':=⟨_,List.getElem?_eq_getElem (by omega)⟩
    have step:∀ H2,Same H H2→¬ Jn (cn i) w_ w' k→Same H H2∧(∀ d,d < k+1→¬ Jn (cn i) w_ w' d):=fun H2 s nk=>⟨s,fun d hd z=>by
      by_cases hdk:d < k
      · exact hno d hdk z
      · have:d=k:=by omega
        subst this
        exact nk z⟩
    have zk:(0+(k:Int))=(k:Int):=Int.zero_add _
    have zk1:(0+(k:Int)+1)=((k+1:Nat):Int):=by omega
    refine ⟨_,rfl,r,_,_,_,rfl,rfl,SqT.of (sm _ _ er),rfl,_,rfl,_,rfl,ba,_,rfl,SqL.of (sm _ _ eba),fun d1 hd1=>?_⟩
    rw [zk,cutTake,vN_take]
    have t1:=same_new hd1 (.lst (vN (w_.1.take k)))
    have g1:upd H' d1 (.lst (vN (w_.1.take k))) d1=some (.lst (vN (w_.1.take k))):=upd_same
    generalize upd H' d1 (.lst (vN (w_.1.take k)))=H1 at t1 g1 ⊢
    have s1:=sm.trans t1
    refine ⟨_,rfl,r,_,_,_,rfl,rfl,SqT.of (s1 _ _ er),rfl,_,rfl,_,_,rfl,rfl,_,rfl,ba,_,rfl,SqL.of (s1 _ _ eba),fun d2 hd2=>?_⟩
    rw [show ((k:Int)+1)=((k+1:Nat):Int) by omega,cutDrop,vN_drop]
    have t2:=same_new hd2 (.lst (vN (w_.1.drop (k+1))))
    have g2:upd H1 d2 (.lst (vN (w_.1.drop (k+1)))) d2=some (.lst (vN (w_.1.drop (k+1)))):=upd_same
    generalize upd H1 d2 (.lst (vN (w_.1.drop (k+1))))=H2 at t2 g2 ⊢
    refine ⟨d1,d2,_,_,rfl,rfl,t2 _ _ g1,g2,Nat.le_of_lt (small1000 (by rw [vN_len,vN_len,List.length_take,List.length_drop];omega)),fun d3 hd3=>?_⟩
    rw [vN_app]
    have t3:=same_new hd3 (.lst (vN (w_.1.take k ++ w_.1.drop (k+1))))
    have g3:upd H2 d3 (.lst (vN (w_.1.take k ++ w_.1.drop (k+1)))) d3=some (.lst (vN (w_.1.take k ++ w_.1.drop (k+1)))):=upd_same
    generalize upd H2 d3 (.lst (vN (w_.1.take k ++ w_.1.drop (k+1))))=H3 at t3 g3 ⊢
    have s3:=(s1.trans t2).trans t3
    refine ⟨_,rfl,_,rfl,r',_,_,_,rfl,rfl,SqT.of (s3 _ _ er'),rfl,_,rfl,_,rfl,bb,_,rfl,SqL.of (s3 _ _ ebb),fun d4 hd4=>?_⟩
    rw [cutTake,vN_take]
    have t4:=same_new hd4 (.lst (vN (w'.1.take k)))
    have g4:upd H3 d4 (.lst (vN (w'.1.take k))) d4=some (.lst (vN (w'.1.take k))):=upd_same
    generalize upd H3 d4 (.lst (vN (w'.1.take k)))=H4 at t4 g4 ⊢
    have s4:=s3.trans t4
    refine ⟨_,rfl,r',_,_,_,rfl,rfl,SqT.of (s4 _ _ er'),rfl,_,rfl,_,_,rfl,rfl,_,rfl,bb,_,rfl,SqL.of (s4 _ _ ebb),fun d5 hd5=>?_⟩
    rw [show ((k:Int)+1)=((k+1:Nat):Int) by omega,cutDrop,vN_drop]
    have t5:=same_new hd5 (.lst (vN (w'.1.drop (k+1))))
    have g5:upd H4 d5 (.lst (vN (w'.1.drop (k+1)))) d5=some (.lst (vN (w'.1.drop (k+1)))):=upd_same
    generalize upd H4 d5 (.lst (vN (w'.1.drop (k+1))))=H5 at t5 g5 ⊢
    refine ⟨d4,d5,_,_,rfl,rfl,t5 _ _ g4,g5,Nat.le_of_lt (small1000 (by rw [vN_len,vN_len,List.length_take,List.length_drop];omega)),fun d6 hd6=>?_⟩
    rw [vN_app]
    have t6:=same_new hd6 (.lst (vN (w'.1.take k ++ w'.1.drop (k+1))))
    have g6:upd H5 d6 (.lst (vN (w'.1.take k ++ w'.1.drop (k+1)))) d6=some (.lst (vN (w'.1.take k ++ w'.1.drop (k+1)))):=upd_same
    generalize upd H5 d6 (.lst (vN (w'.1.take k ++ w'.1.drop (k+1))))=H6 at t6 g6 ⊢
    have s6:=(s4.trans t5).trans t6
    refine eqL_vN (t6 _ _ (t5 _ _ (t4 _ _ g3))) g6 ?_
    have hbes:(w_.1.take k ++ w_.1.drop (k+1)=w'.1.take k ++ w'.1.drop (k+1))↔∀ j,j ≠ k→w_.1[j]?=w'.1[j]?:=by
      rw [← beside hl k]
      constructor
      · intro z
        exact List.append_inj z (by rw [List.length_take,List.length_take,hl])
      · rintro ⟨z1,z2⟩
        rw [z1,z2]
    refine ⟨_,rfl,_,rfl,ite2 (fun e1=>?_) (fun e1=>?_)⟩
    rotate_left
    · obtain ⟨a1,a2⟩:=step H6 s6 fun z=>e1 (decide_eq_true (hbes.mpr z.2.1))
      exact iteF ⟨a1,a2,_,_,_,rfl⟩
    have e1:=hbes.mp (of_decide_eq_true e1)
    refine ⟨_,rfl,(by show 2≤sizeLine;decide),fun d7 hd7=>?_⟩
    have t7:=same_new hd7 (.lst [V.str (Str.ofString "only"),.str (Str.ofString "sum")])
    have g7:upd H6 d7 (.lst [V.str (Str.ofString "only"),.str (Str.ofString "sum")]) d7=some (.lst [V.str (Str.ofString "only"),.str (Str.ofString "sum")]):=upd_same
    have ee:upd H6 d7 (.lst [V.str "only",.str "sum"])=upd H6 d7 (.lst [V.str (Str.ofString "only"),.str (Str.ofString "sum")]):=rfl
    rw [ee]
    clear ee
    generalize upd H6 d7 (.lst [V.str (Str.ofString "only"),.str (Str.ofString "sum")])=H7 at t7 g7 ⊢
    have s7:=s6.trans t7
    refine ⟨d7,_,rfl,.inl (SqL.of g7),rfl,rfl,!(cn i),by rw [← cnt_in hi];rfl,?_⟩
    cases hcn:cn i with
    | false =>
      refine iteT (iteT ⟨_,rfl,?_⟩)
      exact q1 k H7 s7 hc ⟨⟨hk',e1,fun z=>by rw [hcn] at z;cases z⟩,hno⟩
    | true =>
      refine iteF ⟨_,rfl,r,_,_,_,rfl,rfl,SqT.of (s7 _ _ er),rfl,_,rfl,ba,_,_,_,rfl,rfl,SqL.of (s7 _ _ eba),atI_nat (vN_at eb),_,rfl,r',_,_,_,rfl,rfl,SqT.of (s7 _ _ er'),rfl,_,rfl,bb,_,_,_,rfl,rfl,SqL.of (s7 _ _ ebb),atI_nat (vN_at eb'),_,_,rfl,rfl,rfl,_,rfl,?_⟩
      refine ite2 (fun g=>⟨_,rfl,?_⟩) (fun g=>?_)
      · have g:Builtin.bitAnd (b:Int) (b' : Int)=0:=V.int.inj (of_decide_eq_true g)
        rw [and_nat] at g
        exact q1 k H7 s7 hc ⟨⟨hk',e1,fun _=>by rw [getD_some eb,getD_some eb'];omega⟩,hno⟩
      · obtain ⟨a1,a2⟩:=step H7 s7 fun z=>g (decide_eq_true (by
          have z3:=z.2.2 hcn
          rw [getD_some eb,getD_some eb'] at z3
          show V.int (Builtin.bitAnd (b:Int) (b' : Int))=V.int 0
          rw [and_nat,z3];rfl))
        exact ⟨a1,by rw [hcn] at a2;exact a2,_,_,_,rfl⟩
  · obtain ⟨sm,hno,c3,c4,c5,rfl⟩:=hh
    refine ⟨_,rfl,q2 H' sm fun _ c z=>hno c ?_ z⟩
    have:=z.1
    omega
theorem O_18 (F:Fun K "__init__" "Way.__init__" Y18 f fd) (bl:Bl K mg qA qB qC qD qE qF qG qH qI qJ qK qL qM qN)  : FnOk P w K mg base CX0 1 f fd ["self", "called"] (J18 K qA qB qC qD qE qF qG qH qI qJ qK qL qM qN):=by
  refine F.ok Z18 (fun vs H Q E h=>?_) (fun cdv A outer s H vs Q E hr h=>?_)
  · obtain ⟨x,dx,z,rfl,hx,q⟩:=h
    rfl
  obtain ⟨x,dx,z,rfl,hx,q⟩:=h
  refine ⟨_,(pss_one (ps_fld (pv 0) (pv 1) rfl)),?_⟩
  exact ⟨_,rfl,_,rfl,x,_,dx,_,rfl,hx,bl.k_First,bl.na_First_called,(by show 0 < 1000;decide),q⟩
theorem O_22 (F:Fun K "__init__" "Way.__init__" Y22 f fd) (bl:Bl K mg qA qB qC qD qE qF qG qH qI qJ qK qL qM qN)  : FnOk P w K mg base CX0 1 f fd ["self", "called"] (J22 K qA qB qC qD qE qF qG qH qI qJ qK qL qM qN):=by
  refine F.ok Z22 (fun vs H Q E h=>?_) (fun cdv A outer s H vs Q E hr h=>?_)
  · obtain ⟨x,dx,z,rfl,hx,q⟩:=h
    rfl
  obtain ⟨x,dx,z,rfl,hx,q⟩:=h
  refine ⟨_,(pss_one (ps_fld (pv 0) (pv 1) rfl)),?_⟩
  exact ⟨_,rfl,_,rfl,x,_,dx,_,rfl,hx,bl.k_Only,bl.na_Only_called,(by show 0 < 1000;decide),q⟩
theorem O_20 (F:Fun K "__init__" "Way.__init__" Y20 f fd) (bl:Bl K mg qA qB qC qD qE qF qG qH qI qJ qK qL qM qN)  : FnOk P w K mg base CX0 1 f fd ["self", "called"] (J20 K qA qB qC qD qE qF qG qH qI qJ qK qL qM qN):=by
  refine F.ok Z20 (fun vs H Q E h=>?_) (fun cdv A outer s H vs Q E hr h=>?_)
  · obtain ⟨x,dx,z,rfl,hx,q⟩:=h
    rfl
  obtain ⟨x,dx,z,rfl,hx,q⟩:=h
  refine ⟨_,(pss_one (ps_fld (pv 0) (pv 1) rfl)),?_⟩
  exact ⟨_,rfl,_,rfl,x,_,dx,_,rfl,hx,bl.k_Like,bl.na_Like_called,(by show 0 < 1000;decide),q⟩
theorem O_21 (F:Fun K "__init__" "Way.__init__" Y21 f fd) (bl:Bl K mg qA qB qC qD qE qF qG qH qI qJ qK qL qM qN)  : FnOk P w K mg base CX0 1 f fd ["self", "called"] (J21 K qA qB qC qD qE qF qG qH qI qJ qK qL qM qN):=by
  refine F.ok Z21 (fun vs H Q E h=>?_) (fun cdv A outer s H vs Q E hr h=>?_)
  · obtain ⟨x,dx,z,rfl,hx,q⟩:=h
    rfl
  obtain ⟨x,dx,z,rfl,hx,q⟩:=h
  refine ⟨_,(pss_one (ps_fld (pv 0) (pv 1) rfl)),?_⟩
  exact ⟨_,rfl,_,rfl,x,_,dx,_,rfl,hx,bl.k_Low,bl.na_Low_called,(by show 0 < 1000;decide),q⟩
theorem O_19 (F:Fun K "__init__" "Way.__init__" Y19 f fd) (bl:Bl K mg qA qB qC qD qE qF qG qH qI qJ qK qL qM qN)  : FnOk P w K mg base CX0 1 f fd ["self", "called"] (J19 K qA qB qC qD qE qF qG qH qI qJ qK qL qM qN):=by
  refine F.ok Z19 (fun vs H Q E h=>?_) (fun cdv A outer s H vs Q E hr h=>?_)
  · obtain ⟨x,dx,z,rfl,hx,q⟩:=h
    rfl
  obtain ⟨x,dx,z,rfl,hx,q⟩:=h
  refine ⟨_,(pss_one (ps_fld (pv 0) (pv 1) rfl)),?_⟩
  exact ⟨_,rfl,_,rfl,x,_,dx,_,rfl,hx,bl.k_High,bl.na_High_called,(by show 0 < 1000;decide),q⟩
theorem O_23 (F:Fun K "__init__" "Way.__init__" Y23 f fd) (bl:Bl K mg qA qB qC qD qE qF qG qH qI qJ qK qL qM qN)  : FnOk P w K mg base CX0 1 f fd ["self", "called"] (J23 K qA qB qC qD qE qF qG qH qI qJ qK qL qM qN):=by
  refine F.ok Z23 (fun vs H Q E h=>?_) (fun cdv A outer s H vs Q E hr h=>?_)
  · obtain ⟨x,dx,z,rfl,hx,q⟩:=h
    rfl
  obtain ⟨x,dx,z,rfl,hx,q⟩:=h
  refine ⟨_,(pss_one (ps_fld (pv 0) (pv 1) rfl)),?_⟩
  exact ⟨_,rfl,_,rfl,x,_,dx,_,rfl,hx,bl.k_Sum,bl.na_Sum_called,(by show 0 < 1000;decide),q⟩
theorem O_0 (F:Fun K "__init__" "Domain.__init__" Y0 f fd) (bl:Bl K mg qA qB qC qD qE qF qG qH qI qJ qK qL qM qN)  : FnOk P w K mg base CX0 1 f fd ["self", "low", "high"] (J0 K qA qB qC qD qE qF qG qH qI qJ qK qL qM qN):=by
  refine F.ok Z0 (fun vs H Q E h=>?_) (fun cdv A outer s H vs Q E hr h=>?_)
  · obtain ⟨x,dx,lo,hi,rfl,hx,q⟩:=h
    rfl
  obtain ⟨x,dx,lo,hi,rfl,hx,q⟩:=h
  refine ⟨_,(pss_cons (ps_fld (pv 0) (pv 1) rfl)
     (pss_one (ps_fld (pv 0) (pv 2) rfl))),?_⟩
  refine ⟨_,rfl,_,rfl,x,_,dx,_,rfl,hx,bl.k_Numbers,bl.na_Numbers_low,(by show 0 < 1000;decide),_,rfl,_,rfl,x,_,dx,_,rfl,upd_same,bl.k_Numbers,bl.na_Numbers_high,(by show 1 < 1000;decide),?_⟩
  show Q .non (upd (upd H x (.ins qI dx [("low",.int lo)])) x (.ins qI dx (putF "high" (.int hi) [("low",.int lo)])))
  rw [put2]
  exact q
theorem O_1 (F:Fun K "__init__" "Domain.__init__" Y1 f fd) (bl:Bl K mg qA qB qC qD qE qF qG qH qI qJ qK qL qM qN)  : FnOk P w K mg base CX0 1 f fd ["self", "low", "high"] (J1 K qA qB qC qD qE qF qG qH qI qJ qK qL qM qN):=by
  refine F.ok Z1 (fun vs H Q E h=>?_) (fun cdv A outer s H vs Q E hr h=>?_)
  · obtain ⟨x,dx,lo,hi,rfl,hx,q⟩:=h
    rfl
  obtain ⟨x,dx,lo,hi,rfl,hx,q⟩:=h
  refine ⟨_,(pss_cons (ps_fld (pv 0) (pv 1) rfl)
     (pss_one (ps_fld (pv 0) (pv 2) rfl))),?_⟩
  refine ⟨_,rfl,_,rfl,x,_,dx,_,rfl,hx,bl.k_Words,bl.na_Words_low,(by show 0 < 1000;decide),_,rfl,_,rfl,x,_,dx,_,rfl,upd_same,bl.k_Words,bl.na_Words_high,(by show 1 < 1000;decide),?_⟩
  show Q .non (upd (upd H x (.ins qJ dx [("low",.int lo)])) x (.ins qJ dx (putF "high" (.int hi) [("low",.int lo)])))
  rw [put2]
  exact q
theorem O_5 (F:Fun K "chosen" "First.chosen" Y5 f fd) (bl:Bl K mg qA qB qC qD qE qF qG qH qI qJ qK qL qM qN)  : FnOk P w K mg base CX0 1 f fd ["self", "codes", "outcome"] (J5 K qA qB qC qD qE qF qG qH qI qJ qK qL qM qN):=by
  refine F.ok Z5 (fun vs H Q E h=>?_) (fun cdv A outer s H vs Q E hr h=>?_)
  · obtain ⟨x,c,o,n,ns,b,rfl,⟨dx,z,hx⟩,ho,hle,hS,hn,q⟩:=h
    rfl
  obtain ⟨x,c,o,n,ns,b,rfl,⟨dx,z,hx⟩,ho,hle,hS,hn,q⟩:=h
  refine ⟨_,(pss_one (ps_ret (pe_tup (pa_cons pe_str (pa_cons (pe_ix ix_list (pv 1) pe_int (fun _ _=>rfl)) pa_nil))))),?_⟩
  exact ⟨_,rfl,c,_,_,_,rfl,rfl,hS,at0 n ns,small2,fun t ht=>q t _ (same_new ht _) (SqT.of upd_same)⟩
theorem O_14 (F:Fun K "chosen" "Only.chosen" Y14 f fd) (bl:Bl K mg qA qB qC qD qE qF qG qH qI qJ qK qL qM qN)  : FnOk P w K mg base CX0 1 f fd ["self", "codes", "outcome"] (J14 K qA qB qC qD qE qF qG qH qI qJ qK qL qM qN):=by
  refine F.ok Z14 (fun vs H Q E h=>?_) (fun cdv A outer s H vs Q E hr h=>?_)
  · obtain ⟨x,c,o,n,ns,b,rfl,⟨dx,z,hx⟩,ho,hle,hS,hn,q⟩:=h
    rfl
  obtain ⟨x,c,o,n,ns,b,rfl,⟨dx,z,hx⟩,ho,hle,hS,hn,q⟩:=h
  refine ⟨_,(pss_one (ps_ret (pe_ifExp (pt_cmpR op_eq (pe_callB call_len_seq rfl bl.len_ PySem.boot_len (pa_cons (pv 1) pa_nil)) pe_int (nomark _)) (pe_tup (pa_cons pe_str (pa_cons (pe_ix ix_list (pv 1) pe_int (fun _ _=>rfl)) pa_nil))) (pe_glob (v:=.ref qM) rfl bl.CLASH_ rfl)))),?_⟩
  refine ⟨_,rfl,c,_,rfl,.inl (hS),rfl,_,rfl,?_⟩
  refine ite2 (fun g=>?_) (fun g=>?_)
  · have e:wf 1 b.1 b.2 (n :: ns)=say n:=by
      have g':=dec_t g
      simp at g'
      show fOnly _=_
      unfold fOnly
      rw [if_pos (by rw [List.length_cons];omega)]
      rfl
    rw [e] at q
    exact ⟨_,rfl,c,_,_,_,rfl,rfl,hS,at0 n ns,small2,fun t ht=>q t _ (same_new ht _) (SqT.of upd_same)⟩
  · have e:wf 1 b.1 b.2 (n :: ns)=clash:=by
      have g':=dec_f g
      simp at g'
      show fOnly _=_
      unfold fOnly
      rw [if_neg (by rw [List.length_cons];omega)]
    rw [e] at q
    exact q _ _ (Same.refl _) (bl.q_CLASH.sq _)
theorem O_9 (F:Fun K "chosen" "Like.chosen" Y9 f fd) (bl:Bl K mg qA qB qC qD qE qF qG qH qI qJ qK qL qM qN)  : FnOk P w K mg base CX0 1 f fd ["self", "codes", "outcome"] (J9 K qA qB qC qD qE qF qG qH qI qJ qK qL qM qN):=by
  refine F.ok Z9 (fun vs H Q E h=>?_) (fun cdv A outer s H vs Q E hr h=>?_)
  · obtain ⟨x,c,o,n,ns,b,rfl,⟨dx,z,hx⟩,ho,hle,hS,hn,q⟩:=h
    rfl
  obtain ⟨x,c,o,n,ns,b,rfl,⟨dx,z,hx⟩,ho,hle,hS,hn,q⟩:=h
  refine ⟨_,(pss_one (ps_ret (pe_ifExp (pt_cmpR op_eq (pe_callB call_len_setI rfl bl.len_ PySem.boot_len (pa_cons (pe_callTy (call_set_ints rfl) rfl bl.set_ PyProof.Rows.boot_set (pa_cons (pv 1) pa_nil)) pa_nil)) pe_int (nomark _)) (pe_tup (pa_cons pe_str (pa_cons (pe_ix ix_list (pv 1) pe_int (fun _ _=>rfl)) pa_nil))) (pe_glob (v:=.ref qM) rfl bl.CLASH_ rfl)))),?_⟩
  refine ⟨_,rfl,c,_,rfl,hS,(by rw [List.length_cons];omega),fun l hl=>?_⟩
  refine ⟨l,_,rfl,upd_same,(by rw [List.length_cons];omega),rfl,_,rfl,?_⟩
  have sl:Same H (upd H l (SetI P w l (n :: ns))):=same_new hl _
  refine ite2 (fun g=>?_) (fun g=>?_)
  · have g' : V.int _=V.int _:=dec_t g
    have g2:cntK (n :: ns) (n :: ns).length=1:=by injection g' with g';omega
    have g3:=cntK_same.mp g2
    have e:wf 2 b.1 b.2 (n :: ns)=say n:=by
      show fLike _=_
      unfold fLike
      rw [if_pos (like_same.mp g3),like_head g3]
    rw [e] at q
    exact ⟨_,rfl,c,_,_,_,rfl,rfl,sl.seq hS,at0 n ns,small2,fun t ht=>q t _ (sl.trans (same_new ht _)) (SqT.of upd_same)⟩
  · have g2:¬ cntK (n :: ns) (n :: ns).length=1:=fun z=>(dec_f g) (by rw [z];rfl)
    have e:wf 2 b.1 b.2 (n :: ns)=clash:=by
      show fLike _=_
      unfold fLike
      rw [if_neg fun z=>g2 (cntK_same.mpr (like_same.mpr z))]
    rw [e] at q
    exact q _ _ sl (bl.q_CLASH.sq _)
theorem O_11 (F:Fun K "chosen" "Low.chosen" Y11 f fd) (bl:Bl K mg qA qB qC qD qE qF qG qH qI qJ qK qL qM qN)  : FnOk P w K mg base CX0 1 f fd ["self", "codes", "outcome"] (J11 K qA qB qC qD qE qF qG qH qI qJ qK qL qM qN):=by
  refine F.ok Z11 (fun vs H Q E h=>?_) (fun cdv A outer s H vs Q E hr h=>?_)
  · obtain ⟨x,c,o,n,ns,b,rfl,⟨dx,z,hx⟩,ho,hle,hS,hn,q⟩:=h
    rfl
  obtain ⟨x,c,o,n,ns,b,rfl,⟨dx,z,hx⟩,ho,hle,hS,hn,q⟩:=h
  refine ⟨_,(pss_one (ps_ret (pe_tup (pa_cons pe_str (pa_cons (pe_callB (call_min_list rfl) rfl bl.min_ PyProof.Rows.boot_min (pa_cons (pv 1) pa_nil)) pa_nil))))),?_⟩
  refine ⟨_,rfl,c,_,rfl,hS,Nat.succ_pos _,fun m h1 h2=>⟨small2,fun t ht=>q t _ (same_new ht _) (SqT.of ?_)⟩⟩
  rw [upd_same,least_un h1 h2]
  rfl
theorem O_7 (F:Fun K "chosen" "High.chosen" Y7 f fd) (bl:Bl K mg qA qB qC qD qE qF qG qH qI qJ qK qL qM qN)  : FnOk P w K mg base CX0 1 f fd ["self", "codes", "outcome"] (J7 K qA qB qC qD qE qF qG qH qI qJ qK qL qM qN):=by
  refine F.ok Z7 (fun vs H Q E h=>?_) (fun cdv A outer s H vs Q E hr h=>?_)
  · obtain ⟨x,c,o,n,ns,b,rfl,⟨dx,z,hx⟩,ho,hle,hS,hn,q⟩:=h
    rfl
  obtain ⟨x,c,o,n,ns,b,rfl,⟨dx,z,hx⟩,ho,hle,hS,hn,q⟩:=h
  refine ⟨_,(pss_one (ps_ret (pe_tup (pa_cons pe_str (pa_cons (pe_callB (call_max_list rfl) rfl bl.max_ PyProof.Rows.boot_max (pa_cons (pv 1) pa_nil)) pa_nil))))),?_⟩
  refine ⟨_,rfl,c,_,rfl,hS,Nat.succ_pos _,fun m h1 h2=>⟨small2,fun t ht=>q t _ (same_new ht _) (SqT.of ?_)⟩⟩
  rw [upd_same,great_un h1 h2]
  rfl
theorem O_16 (F:Fun K "chosen" "Sum.chosen" Y16 f fd) (bl:Bl K mg qA qB qC qD qE qF qG qH qI qJ qK qL qM qN)  : FnOk P w K mg base CX0 1 f fd ["self", "codes", "outcome"] (J16 K qA qB qC qD qE qF qG qH qI qJ qK qL qM qN):=by
  refine F.ok Z16 (fun vs H Q E h=>?_) (fun cdv A outer s H vs Q E hr h=>?_)
  · obtain ⟨x,c,o,n,ns,b,rfl,⟨dx,z,hx⟩,⟨C,hC,dy,fs,ho,hlo,hhi,_⟩,hle,hS,hn,q⟩:=h
    rfl
  obtain ⟨x,c,o,n,ns,b,rfl,⟨dx,z,hx⟩,⟨C,hC,dy,fs,ho,hlo,hhi,_⟩,hle,hS,hn,q⟩:=h
  refine ⟨_,(pss_one (ps_ret (pe_tup (pa_cons pe_str (pa_cons (pe_callB (call_max2 rfl) rfl bl.max_ PyProof.Rows.boot_max (pa_cons (pe_fld (pv 2) rfl) (pa_cons (pe_callB (call_min2 rfl) rfl bl.min_ PyProof.Rows.boot_min (pa_cons (pe_fld (pv 2) rfl) (pa_cons (pe_callB (call_sum_ints rfl) rfl bl.sum_ PyProof.Rows.boot_sum (pa_cons (pv 1) pa_nil)) pa_nil))) pa_nil))) pa_nil))))),?_⟩
  have hk:Cls K C∧NoAttr K C (Str.ofString "low")∧NoAttr K C (Str.ofString "high"):=by
    rcases hC with rfl | rfl
    · exact ⟨bl.k_Numbers,bl.na_Numbers_low,bl.na_Numbers_high⟩
    · exact ⟨bl.k_Words,bl.na_Words_low,bl.na_Words_high⟩
  refine ⟨_,rfl,o,_,_,_,_,rfl,ho,hk.1,hk.2.1,hlo,_,rfl,o,_,_,_,_,rfl,ho,hk.1,hk.2.2,hhi,_,rfl,c,_,rfl,hS,_,_,rfl,_,_,rfl,?_⟩
  refine ⟨small2,fun t ht=>q t _ (same_new ht _) (SqT.of ?_)⟩
  rw [upd_same]
  have e:near b.1 b.2 (n :: ns).sum=if (if (n :: ns).sum < b.2 then (n :: ns).sum else b.2) > b.1 then (if (n :: ns).sum < b.2 then (n :: ns).sum else b.2) else b.1:=by
    unfold near
    generalize (n :: ns).sum=t
    split <;> split <;> split <;> first | rfl | omega | (split <;> omega)
  show _=some (HO.tup (tp (say (near b.1 b.2 (n :: ns).sum))))
  rw [e]
  rfl
theorem O_43 (F:Fun K "is_word" "is_word" Y38 f fd) (bl:Bl K mg qA qB qC qD qE qF qG qH qI qJ qK qL qM qN) (c_all_among:Callee P w K mg base 1 "all_among" ["text", "signs"] (J33 K qA qB qC qD qE qF qG qH qI qJ qK qL qM qN)):FnOk P w K mg base CX0 2 f fd ["text"] (J38 K qA qB qC qD qE qF qG qH qI qJ qK qL qM qN):=by
  refine F.ok Z38 (fun vs H Q E h=>?_) (fun cdv A outer s H vs Q E hr h=>?_)
  · obtain ⟨z,rfl,hz,q⟩:=h
    rfl
  obtain ⟨z,rfl,hz,q⟩:=h
  refine ⟨_,(pss_one (ps_ret (pe_and (pe_chain op_le op_le pe_int (pe_callB call_len_str rfl bl.len_ PySem.boot_len (pa_cons (pv 0) pa_nil)) (pe_gl rfl bl.MOST_SIGNS_)) (pe_and (pe_cmpR op_ne (pv 0) pe_str (nomark _)) (pe_one (pe_fn c_all_among hr rfl (pa_cons (pv 0) (pa_cons (pe_gl rfl bl.SMALL_LETTERS_) pa_nil)))))))),?_⟩
  refine ⟨_,rfl,_,rfl,big hz,_,_,rfl,rfl,_,rfl,?_⟩
  refine ite2 (fun g1=>?_) (fun g1=>?_)
  · refine ⟨_,_,rfl,rfl,_,rfl,?_⟩
    refine ite2 (fun g2=>?_) (fun g2=>?_)
    · refine ⟨_,rfl,rfl,_,rfl,?_⟩
      refine ite2 (fun g3=>?_) (fun g3=>?_)
      · refine ⟨_,rfl,z,lets,rfl,?_⟩
        have e:isw z=allIn z lets:=by unfold isw;rw [g1,g2,g3];rfl
        rw [e] at q;exact q
      · have e:isw z=false:=by unfold isw;rw [Bool.eq_false_iff.mpr g3,Bool.false_and,Bool.and_false,Bool.and_false]
        rw [e] at q;exact q
    · have e:isw z=false:=by unfold isw;rw [Bool.eq_false_iff.mpr g2,Bool.false_and,Bool.and_false]
      rw [e] at q;exact q
  · have e:isw z=false:=by unfold isw;rw [Bool.eq_false_iff.mpr g1,Bool.false_and]
    rw [e] at q;exact ⟨_,rfl,iteF q⟩
theorem O_39 (F:Fun K "either" "either" Y34 f fd) (bl:Bl K mg qA qB qC qD qE qF qG qH qI qJ qK qL qM qN) (c_tidy:Callee P w K mg base 1 "tidy" ["pairs"] (J73 K qA qB qC qD qE qF qG qH qI qJ qK qL qM qN)):FnOk P w K mg base CX0 2 f fd ["ones", "others"] (J34 K qA qB qC qD qE qF qG qH qI qJ qK qL qM qN):=by
  refine F.ok Z34 (fun vs H Q E h=>?_) (fun cdv A outer s H vs Q E hr h=>?_)
  · obtain ⟨a,b,xs,ys,A0,B0,rfl,hA,hB,PA,PB,h64,q⟩:=h
    rfl
  obtain ⟨a,b,xs,ys,A0,B0,rfl,hA,hB,PA,PB,h64,q⟩:=h
  refine ⟨_,(pss_one (ps_ret (pe_fn c_tidy hr rfl (pa_cons (pe_op op_cat (pv 0) (pv 1)) pa_nil)))),?_⟩
  refine ⟨_,rfl,_,rfl,a,b,xs,ys,rfl,rfl,hA,hB,Nat.le_of_lt (small1000 (by omega)),fun c hc=>?_⟩
  have s1:Same H (upd H c (.lst (xs ++ ys))):=same_new hc _
  refine ⟨c,xs ++ ys,A0 ++ B0,rfl,SqL.of upd_same,PL.app (PA.mono s1.tups) (PB.mono s1.tups),by rw [List.length_append];exact h64,fun r H' zs R s2 hr' e P ti l=>?_⟩
  refine q r H' zs R (s1.trans s2) (s1.free hr') e P ti.ap (fun n=>?_) (by rw [List.length_append] at l;exact l)
  rw [ti.mem n];unfold inP;rw [List.any_append]
theorem O_40 (F:Fun K "fits" "fits" Y35 f fd) (bl:Bl K mg qA qB qC qD qE qF qG qH qI qJ qK qL qM qN) (c_holds:Callee P w K mg base 1 "holds" ["spans", "number"] (J36 K qA qB qC qD qE qF qG qH qI qJ qK qL qM qN)):FnOk P w K mg base CX0 2 f fd ["table", "k", "codes"] (J35 K qA qB qC qD qE qF qG qH qI qJ qK qL qM qN):=by
  refine F.ok Z35 (fun vs H Q E h=>?_) (fun cdv A outer s H vs Q E hr h=>?_)
  · obtain ⟨t,rl,c,dx,fs,xs,rws,k,w_,cs,rfl,ht,hf,hl,hR,ek,hS,hlen,q⟩:=h
    rfl
  obtain ⟨t,rl,c,dx,fs,xs,rws,k,w_,cs,rfl,ht,hf,hl,hR,ek,hS,hlen,q⟩:=h
  refine ⟨_,(pss_cons (ps_set (i:=3) Z35.nd rfl (Or.inl rfl) (pe_ix ix_tup (pe_ix ix_list (pe_fld (pv 0) rfl) (pv 1) (fun _ _=>rfl)) pe_int (fun _ _=>rfl)))
     (pss_cons (ps_for PassesOwn.never rfl (pi_zip rfl bl.zip_ (pa_cons (pv 3) (pa_cons (pv 2) pa_nil))) (pg_tup rfl (pgs_cons (pg_name (i:=4) Z35.nd rfl (Or.inl rfl)) (pgs_cons (pg_name (i:=5) Z35.nd rfl (Or.inl rfl)) pgs_nil)))
     (pss_one (ps_if (pt_not (pt_val (pe_fn c_holds hr rfl (pa_cons (pv 4) (pa_cons (pv 5) pa_nil)))))
     (pss_one (ps_ret pe_bl))
     pss_nil)))
     (pss_one (ps_ret pe_bl)))),?_⟩
  obtain ⟨r,er,ce,cv,e1,_,e2,hcl⟩:=hR.2 k w_ ek
  refine ⟨_,rfl,t,_,_,_,_,rfl,ht,bl.k_Table,bl.na_Table_rows,hf,_,rfl,rl,_,_,_,rfl,rfl,SqL.of hl,atI_nat er,r,_,_,_,rfl,rfl,SqT.of e1,rfl,?_⟩
  refine ⟨_,rfl,_,rfl,ce,c,rfl,⟨_,SqL.of e2⟩,⟨_,hS⟩,for_zip (xs:=cv) (ys:=cs.map V.int) (fun i σ H'=>Same H H'∧(∀ j,j < i→inP (w_.1.getD j []) (cs.getD j 0)=true)∧∃ c4 c5:Option V,σ=[some (.ref t),some (.int k),some (.ref c),some (.ref ce),c4,c5]) ⟨Same.refl _,(fun j h=>absurd h (Nat.not_lt_zero j)),_,_,rfl⟩ (fun i σ H' h=>⟨SqL.of (h.1 _ _ e2),h.1.seq hS⟩) (fun i x y σ H' T ex ey h hT=>?_) (fun σ H' h=>?_)⟩
  · obtain ⟨sm,hall,c4,c5,rfl⟩:=h
    have s2:=sm.trans (same_new hT (.tup [x,y]))
    have eT:upd H' T (.tup [x,y]) T=some (.tup [x,y]):=upd_same
    generalize upd H' T (.tup [x,y])=H2 at s2 eT ⊢
    obtain ⟨l,ps,rfl,ep,hl'⟩:=RefL.get hcl ex
    obtain ⟨_,ys,el,hp⟩:=hl'.same s2
    obtain ⟨n,rfl,en⟩:=of_map ey
    refine ⟨T,_,rfl,SqT.of eT,rfl,_,_,rfl,_,_,rfl,rfl,?_⟩
    refine ⟨_,rfl,_,rfl,l,ys,ps,n,rfl,SqL.of el,hp,_,rfl,?_⟩
    have g1:w_.1.getD i []=ps:=by rw [List.getD_eq_getElem?_getD,ep];rfl
    have g2:cs.getD i 0=n:=by rw [List.getD_eq_getElem?_getD,en];rfl
    cases hin:inP ps n with
    | true =>
      refine iteF ⟨s2,fun j hj=>?_,_,_,rfl⟩
      by_cases hji:j < i
      · exact hall j hji
      · have:j=i:=by omega
        subst this
        rw [g1,g2];exact hin
    | false =>
      refine iteT ?_
      have e:rfit w_.1 cs=false:=by
        unfold rfit
        rw [List.all_eq_false]
        refine ⟨i,List.mem_range.mpr (List.getElem?_eq_some_iff.mp en).1,?_⟩
        rw [g1,g2,hin];decide
      have q2:=q H2 s2
      rw [e] at q2
      exact q2
  · obtain ⟨sm,hall,c4,c5,rfl⟩:=h
    have e:rfit w_.1 cs=true:=by
      unfold rfit
      rw [List.all_eq_true]
      intro j hj
      refine hall j ?_
      have h1:=hcl.1
      rw [List.length_map]
      have:=List.mem_range.mp hj
      omega
    have q2:=q H' sm
    rw [e] at q2
    exact q2
theorem O_71 (F:Fun K "may_join" "may_join" Y66 f fd) (bl:Bl K mg qA qB qC qD qE qF qG qH qI qJ qK qL qM qN) (c_meet:Callee P w K mg base 1 "meet" ["ones", "others"] (J67 K qA qB qC qD qE qF qG qH qI qJ qK qL qM qN)):FnOk P w K mg base CX0 2 f fd ["spans", "others", "way"] (J66 K qA qB qC qD qE qF qG qH qI qJ qK qL qM qN):=by
  refine F.ok Z66 (fun vs H Q E h=>?_) (fun cdv A outer s H vs Q E hr h=>?_)
  · obtain ⟨a,b,ys,zs,ps,qs,wy,i,rfl,ha,hp,hb,hq,sp,sq,hi,q⟩:=h
    rfl
  obtain ⟨a,b,ys,zs,ps,qs,wy,i,rfl,ha,hp,hb,hq,sp,sq,hi,q⟩:=h
  refine ⟨_,(pss_one (ps_ret (pe_or (pe_cmpR op_notIn_seq (pv 2) (pe_glob (v:=.ref qN) rfl bl.COUNTING_WAYS_ rfl) (by with_unfolding_all rfl)) (pe_one (pe_not (pe_fn c_meet hr rfl (pa_cons (pv 0) (pa_cons (pv 1) pa_nil)))))))),?_⟩
  refine ⟨_,rfl,qN,_,rfl,.inr (bl.q_COUNTING_WAYS.sq _),rfl,rfl,!(cn i),by rw [← cnt_in hi];rfl,?_⟩
  cases hc:cn i with
  | false=>exact iteT (q true ⟨(fun _ z=>by rw [hc] at z;cases z),fun _=>rfl⟩)
  | true =>
    refine iteF ⟨_,rfl,_,rfl,a,b,ys,zs,ps,qs,rfl,ha,hp,hb,hq,sp,sq,fun r hr_=>⟨_,rfl,q (!r) ?_⟩⟩
    cases r with
    | true=>exact ⟨(fun z=>by cases z),fun z=>absurd (hr_.mp rfl) (z hc)⟩
    | false=>exact ⟨(fun _ _ w=>by have:=hr_.mpr w;cases this),fun _=>rfl⟩
theorem O_65 (F:Fun K "_law_seeds" "_law_seeds" Y60 f fd) (bl:Bl K mg qA qB qC qD qE qF qG qH qI qJ qK qL qM qN) (c__law_mixed:Callee P w K mg base 1 "_law_mixed" ["cell", "k"] (J56 K qA qB qC qD qE qF qG qH qI qJ qK qL qM qN)):FnOk P w K mg base CX0 2 f fd ["cells", "most"] (J60 K qA qB qC qD qE qF qG qH qI qJ qK qL qM qN):=by
  refine F.ok Z60 (fun vs H Q E h=>?_) (fun cdv A outer s H vs Q E hr h=>?_)
  · obtain ⟨a,ns,m,rfl,hS,h900,hm1,hm2,q⟩:=h
    rfl
  obtain ⟨a,ns,m,rfl,hS,h900,hm1,hm2,q⟩:=h
  refine ⟨_,(pss_cons (ps_set (i:=2) Z60.nd rfl (Or.inl rfl) (pe_lst pa_nil))
     (pss_cons (ps_for PassesOwn.never rfl (pi_enum rfl bl.enumerate_ (pa_cons (pv 0) pa_nil)) (pg_tup rfl (pgs_cons (pg_name (i:=3) Z60.nd rfl (Or.inl rfl)) (pgs_cons (pg_name (i:=4) Z60.nd rfl (Or.inl rfl)) pgs_nil)))
     (pss_one (ps_if (pt_cmpR op_lt (pv 3) (pv 1) (nomark _))
     (pss_one (ps_expr (pe_bm PySem.F.plainAttrs_list PySem.F.slot_list_append PySem.F.type_list_append mt_append (pv 2) (pa_cons (pe_fn c__law_mixed hr rfl (pa_cons (pv 4) (pa_cons (pe_op op_mod (pv 3) pe_int) pa_nil))) pa_nil))))
     (pss_cons (ps_set (i:=5) Z60.nd rfl (Or.inl rfl) (pe_op op_mod (pv 3) (pv 1)))
     (pss_one (ps_asg (pe_fn c__law_mixed hr rfl (pa_cons (pe_op op_add (pe_ix ix_list (pv 2) (pv 5) (fun _ _=>rfl)) (pe_op op_mod (pv 4) (pe_op op_pow pe_int pe_int))) (pa_cons (pe_op op_mod (pv 3) pe_int) pa_nil))) (pg_sub (pv 2) (pv 5) set_list)))))))
     (pss_one (ps_ret (pv 2))))),?_⟩
  refine ⟨(by show 0≤sizeLine;decide),fun l hl=>?_⟩
  have s0:Same H (upd H l (.lst ([].map V.int))):=same_new hl _
  have e0:upd H l (.lst ([].map V.int)) l=some (.lst ([].map V.int)):=upd_same
  have ee:upd H l (.lst [])=upd H l (.lst ([].map V.int)):=rfl
  rw [ee]
  clear ee
  generalize upd H l (.lst ([].map V.int))=H0 at s0 e0 ⊢
  refine ⟨_,rfl,a,rfl,⟨_,s0.seq hS⟩,for_enum (xs:=ns.map V.int) (fun i σ H'=>Same H H'∧∃ (ms:List Int) (c3 c4 c5:Option V),H' l=some (.lst (ms.map V.int))∧ms.length≤i∧((ms.length:Nat):Int)≤m∧((i:Int) ≥ m→((ms.length:Nat):Int)=m)∧((i:Int) < m→ms.length=i)∧(∀ x ∈ ms,0≤x)∧σ=[some (.ref a),some (.int m),some (.ref l),c3,c4,c5]) ⟨s0,[],_,_,_,e0,Nat.le_refl _,by show ((0:Nat):Int)≤m;omega,(fun h=>by omega),(fun h=>rfl),(fun x h=>by cases h),rfl⟩ (fun i σ H' hh=>hh.1.seq hS) (fun i y σ H' T ey hh hT=>?_) (fun σ H' hh=>?_)⟩
  · obtain ⟨sm,ms,c3,c4,c5,el,hl1,hl2,hl3,hl4,hnn,rfl⟩:=hh
    obtain ⟨c,rfl,_⟩:=of_map ey
    have hin:i < ns.length:=by have:=(List.getElem?_eq_some_iff.mp ey).1;rw [List.length_map] at this;exact this
    have s2:=sm.trans (same_new hT (.tup [.int (i:Int),.int c]))
    have eT:upd H' T (.tup [.int (i:Int),.int c]) T=some (.tup [.int (i:Int),.int c]):=upd_same
    have el2:upd H' T (.tup [.int (i:Int),.int c]) l=some (.lst (ms.map V.int)):=ret_r1 el hT
    generalize upd H' T (.tup [.int (i:Int),.int c])=H2 at s2 eT el2 ⊢
    have k0:=Int.emod_nonneg (i:Int) (show (50:Int) ≠ 0 by decide)
    have k1:=Int.emod_lt_of_pos (i:Int) (show (0:Int) < 50 by decide)
    refine ⟨T,_,rfl,SqT.of eT,rfl,_,_,rfl,_,_,rfl,rfl,?_⟩
    refine ⟨_,rfl,_,rfl,_,_,rfl,rfl,_,rfl,?_⟩
    refine ite2 (fun g=>?_) (fun g=>?_)
    · have g:(i:Int) < m:=of_decide_eq_true g
      have hl5:=hl4 g
      refine ⟨_,rfl,.inl ⟨rfl,_,SqL.of el2⟩,_,rfl,_,rfl,_,_,rfl,rfl,(by show (0:Int) < 50;decide),c,_,rfl,k0,by omega,fun r hr0=>?_⟩
      refine ⟨l,_,_,rfl,rfl,el2,small1000 (by rw [List.length_map];omega),s2.upd hl,ms ++ [r],_,_,_,by rw [upd_same,List.map_append];rfl,by simp;omega,by simp;omega,(fun h=>by simp;omega),(fun h=>by simp;omega),(fun x hx=>(List.mem_append.mp hx).elim (hnn x) fun z=>by rw [show x=r by simpa using z];exact hr0),rfl⟩
    · have g:m≤(i:Int):=by have:¬ ((i:Int) < m):=fun z=>g (decide_eq_true z);omega
      have hl5:=hl3 g
      have hmp:(0:Int) < m:=by omega
      have j0:=Int.emod_nonneg (i:Int) (Int.ne_of_gt hmp)
      have j1:=Int.emod_lt_of_pos (i:Int) hmp
      obtain ⟨x,ex⟩:∃ x,ms[((i:Int) % m).toNat]?=some x:=⟨_,List.getElem?_eq_getElem (by omega)⟩
      have ix:atI (ms.map V.int) ((i:Int) % m)=some (.int x):=by
        have:=atI_nat (get_map ex)
        rw [Int.toNat_of_nonneg j0] at this
        exact this
      refine ⟨_,rfl,_,rfl,_,_,rfl,rfl,hmp,?_⟩
      refine ⟨_,rfl,_,rfl,l,_,_,_,rfl,rfl,SqL.of el2,ix,_,rfl,_,_,rfl,rfl,⟨by decide,by decide,by decide⟩,_,_,rfl,rfl,p10 _,_,_,rfl,rfl,_,rfl,_,_,rfl,rfl,(by show (0:Int) < 50;decide),_,_,rfl,k0,by omega,fun r hr0=>?_⟩
      refine ⟨_,rfl,_,rfl,l,_,_,((i:Int) % m).toNat,rfl,rfl,el2,?_,?_⟩
      · unfold ixN
        rw [if_pos j0,if_pos (by rw [List.length_map];omega)]
      · refine ⟨s2.upd hl,ms.set ((i:Int) % m).toNat r,_,_,_,by rw [upd_same,List.map_set],by simp;omega,by simp;omega,(fun h=>by simp;omega),(fun h=>by omega),(fun x hx=>(List.mem_or_eq_of_mem_set hx).elim (hnn x) fun z=>by rw [z];exact hr0),rfl⟩
  · obtain ⟨sm,ms,c3,c4,c5,el,hl1,hl2,hl3,hl4,hnn,rfl⟩:=hh
    rw [List.length_map] at hl1
    exact ⟨_,rfl,q l ms H' sm el hl2 hl1 hnn⟩
theorem O_54 (F:Fun K "_law_column" "_law_column" Y49 f fd) (bl:Bl K mg qA qB qC qD qE qF qG qH qI qJ qK qL qM qN) (c__law_mixed:Callee P w K mg base 1 "_law_mixed" ["cell", "k"] (J56 K qA qB qC qD qE qF qG qH qI qJ qK qL qM qN)):FnOk P w K mg base CX0 2 f fd ["m", "most"] (J49 K qA qB qC qD qE qF qG qH qI qJ qK qL qM qN):=by
  refine F.ok Z49 (fun vs H Q E h=>?_) (fun cdv A outer s H vs Q E hr h=>?_)
  · obtain ⟨m,most,rfl,hm1,hm6,q⟩:=h
    rfl
  obtain ⟨m,most,rfl,hm1,hm6,q⟩:=h
  refine ⟨_,(pss_cut (ps_set (i:=2) Z49.nd rfl (Or.inl rfl) (pe_cmpR op_eq (pe_op op_mod (pv 0) pe_int) pe_int (nomark _)))
     (pss_cut (ps_set (i:=3) Z49.nd rfl (Or.inl rfl) (pe_op op_sub (pe_op op_mod (pe_op op_fdiv (pv 0) pe_int) (pe_op op_mul pe_int (pe_op op_pow pe_int pe_int))) (pe_op op_pow pe_int pe_int)))
     (pss_cut (ps_if (pt_cmpR op_eq (pe_op op_mod (pv 0) pe_int) pe_int (nomark _))
     (pss_one (ps_set (i:=3) Z49.nd rfl (Or.inl rfl) (pe_op op_sub pe_int (pe_op op_mod (pe_op op_fdiv (pv 0) pe_int) pe_int))))
     pss_nil)
     (pss_cut (ps_if (pt_val (pv 2))
     (pss_one (ps_set (i:=3) Z49.nd rfl (Or.inl rfl) pe_int))
     pss_nil)
     (pss_cut (ps_set (i:=4) Z49.nd rfl (Or.inl rfl) (pe_lst pa_nil))
     (pss_cons (ps_for PassesOwn.never rfl (pi_range1 rfl bl.range_ (pa_cons (pe_op op_add pe_int (pe_op op_mod (pe_op op_fdiv (pv 0) pe_int) (pv 1))) pa_nil)) (pg_name (i:=5) Z49.nd rfl (Or.inl rfl))
     (pss_cut (ps_set (i:=0) Z49.nd rfl (Or.inl rfl) (pe_fn c__law_mixed hr rfl (pa_cons (pv 0) (pa_cons (pe_op op_add pe_int (pv 5)) pa_nil))))
     (pss_cut (ps_set (i:=6) Z49.nd rfl (Or.inl rfl) (pe_ix ix_list (pe_lst (pa_cons pe_int (pa_cons pe_int (pa_cons (pe_op op_add pe_int (pe_op op_mod (pe_op op_fdiv (pv 0) pe_int) pe_int)) (pa_cons (pe_op op_add pe_int (pe_op op_mod (pe_op op_fdiv (pv 0) pe_int) (pe_op op_pow pe_int pe_int))) pa_nil))))) (pe_op op_mod (pv 0) pe_int) (fun _ _=>rfl)))
     (pss_cut (ps_if (pt_val (pv 2))
     (pss_one (ps_set (i:=6) Z49.nd rfl (Or.inl rfl) (pe_op op_add pe_int (pe_op op_mod (pv 0) pe_int))))
     pss_nil)
     (pss_cons (ps_expr (pe_bm PySem.F.plainAttrs_list PySem.F.slot_list_append PySem.F.type_list_append mt_append (pv 4) (pa_cons (pe_tup (pa_cons (pv 3) (pa_cons (pe_op op_sub (pe_op op_add (pv 3) (pv 6)) pe_int) pa_nil))) pa_nil)))
     (pss_one (ps_set (i:=3) Z49.nd rfl (Or.inl rfl) (pe_op op_add (pv 3) (pv 6)))))))))
     (pss_one (ps_ret (pe_lst (pa_cons (pv 4) (pa_cons (pv 2) (pa_cons (pe_op op_fdiv (pv 0) pe_int) pa_nil)))))))))))),?_⟩
  have hmp:(0:Int) < most:=by omega
  refine ⟨fun σ' H'=>H'=H∧∃ w:Bool,σ'=[some (.int m),some (.int most),some (.bl w),none,none,none,none],⟨_,rfl,_,_,rfl,rfl,(by show (0:Int) < 3;decide),rfl,rfl,_,rfl⟩,?_⟩
  rintro σ1 H1 ⟨rfl,w_,rfl⟩
  have p59b:(0:Int) < 2 * 10 ^ (59:Int).toNat:=by have:=p10 (59:Int).toNat;omega
  refine ⟨fun σ' H'=>H'=H1∧∃ a:Int,σ'=[some (.int m),some (.int most),some (.bl w_),some (.int a),none,none,none],⟨_,rfl,_,_,rfl,rfl,⟨by decide,by decide⟩,_,_,rfl,rfl,⟨by decide,by decide,by decide⟩,_,_,rfl,rfl,.inl ⟨by decide,by decide⟩,_,_,rfl,rfl,p59b,_,_,rfl,rfl,⟨by decide,by decide,by decide⟩,_,_,rfl,rfl,rfl,_,rfl⟩,?_⟩
  rintro σ2 H2 ⟨rfl,a1,rfl⟩
  refine ⟨fun σ' H'=>H'=H2∧∃ a:Int,σ'=[some (.int m),some (.int most),some (.bl w_),some (.int a),none,none,none],⟨_,rfl,_,_,rfl,rfl,(by show (0:Int) < 3;decide),rfl,_,rfl,ite2 (fun _=>⟨_,rfl,_,_,rfl,rfl,⟨by decide,by decide⟩,_,_,rfl,rfl,(by show (0:Int) < 5;decide),_,_,rfl,rfl,rfl,_,rfl⟩) (fun _=>⟨rfl,_,rfl⟩)⟩,?_⟩
  rintro σ3 H3 ⟨rfl,a2,rfl⟩
  refine ⟨fun σ' H'=>H'=H3∧∃ a:Int,(w_=true→a=0)∧σ'=[some (.int m),some (.int most),some (.bl w_),some (.int a),none,none,none],⟨_,rfl,_,rfl,?_⟩,?_⟩
  · cases w_ with
    | true=>exact iteT ⟨rfl,0,(fun _=>rfl),rfl⟩
    | false=>exact iteF ⟨rfl,a2,(fun h=>by cases h),rfl⟩
  rintro σ4 H4 ⟨rfl,a0,ha0,rfl⟩
  refine ⟨fun σ' H'=>Same H4 H'∧∃ pl:Addr,H4 pl=none∧H' pl=some (.lst [])∧σ'=[some (.int m),some (.int most),some (.bl w_),some (.int a0),some (.ref pl),none,none],⟨(by show 0≤sizeLine;decide),fun l hl=>⟨same_new hl _,l,hl,upd_same,rfl⟩⟩,?_⟩
  rintro σ5 H5 ⟨s5,pl,npl,epl,rfl⟩
  have n0:=Int.emod_nonneg (m / 3) (Int.ne_of_gt hmp)
  have n1:=Int.emod_lt_of_pos (m / 3) hmp
  refine ⟨_,rfl,_,_,rfl,rfl,⟨by decide,by decide⟩,_,rfl,_,_,rfl,rfl,hmp,_,_,rfl,rfl,_,rfl,(by show -(2 ^ 62)≤1+m / 3 % most;omega),(by show 1+m / 3 % most < 2 ^ 62;omega),for_range (fun i σ H'=>Same H4 H'∧∃ (m2 at_:Int) (c5 c6:Option V) (ys:List V) (ps:Prs),H' pl=some (.lst ys)∧PL H' ys ps∧ps.length=i∧Ch ps∧(∀ p,ps[ps.length - 1]?=some p→at_=p.2+1)∧(w_=true→(∀ p,ps[0]?=some p→p.1=0)∧(i=0→at_=0)∧at_≤3 * (i:Int)∧∀ (j:Nat) (p:Int × Int),ps[j]?=some p→p.2 < 3 * (i:Int))∧σ=[some (.int m2),some (.int most),some (.bl w_),some (.int at_),some (.ref pl),c5,c6]) ⟨s5,m,a0,_,_,[],[],epl,.nil,rfl,Ch.nil,(fun p e=>by simp at e),(fun hw=>⟨(fun p e=>by simp at e),(fun _=>ha0 hw),(by rw [ha0 hw];decide),(fun j p e=>by simp at e)⟩),rfl⟩ (fun i σ H' hi h=>?_) (fun σ H' h=>?_)⟩
  · obtain ⟨sm,m2,at_,c5,c6,ys,ps,es,hp,hlen,hch,hlast,hw,rfl⟩:=h
    have hi6:i < 6:=by omega
    refine ⟨fun σ' H6=>H6=H'∧∃ m3:Int,σ'=[some (.int m3),some (.int most),some (.bl w_),some (.int at_),some (.ref pl),some (.int (0+(i:Int))),c6],⟨_,rfl,_,rfl,_,_,rfl,rfl,_,_,rfl,(by show (0:Int)≤10+(0+(i:Int));omega),(by show (10:Int)+(0+(i:Int))≤100;omega),fun r _=>⟨rfl,r,rfl⟩⟩,?_⟩
    rintro σ6 H6 ⟨rfl,m3,rfl⟩
    refine ⟨fun σ' H7=>Same H6 H7∧∃ wd_:Int,1≤wd_∧σ'=[some (.int m3),some (.int most),some (.bl w_),some (.int at_),some (.ref pl),some (.int (0+(i:Int))),some (.int wd_)],?_,?_⟩
    · refine ⟨_,rfl,_,_,rfl,rfl,⟨by decide,by decide⟩,_,_,rfl,rfl,(by show (0:Int) < 9;decide),_,_,rfl,rfl,_,rfl,_,_,rfl,rfl,⟨by decide,by decide⟩,_,_,rfl,rfl,⟨by decide,by decide,by decide⟩,_,_,rfl,rfl,p10 _,_,_,rfl,rfl,(by show 4≤sizeLine;decide),fun p hp_=>?_⟩
      have h0:=Int.emod_nonneg m3 (show (4:Int) ≠ 0 by decide)
      have h1:=Int.emod_lt_of_pos m3 (show (0:Int) < 4 by decide)
      have b1:=Int.emod_nonneg (m3 / 4) (show (9:Int) ≠ 0 by decide)
      have b2:=Int.emod_nonneg (m3 / 4) (Int.ne_of_gt (p10 (58:Int).toNat))
      obtain ⟨v,hv,hv1⟩:∃ v:Int,atI [V.int 1,.int 2,.int (1+m3 / 4 % 9),.int (1+m3 / 4 % 10 ^ (58:Int).toNat)] (m3 % 4)=some (.int v)∧1≤v:=by
        generalize m3 % 4=k at h0 h1 ⊢
        generalize m3 / 4 % 9=x1 at b1 ⊢
        generalize m3 / 4 % 10 ^ (58:Int).toNat=x2 at b2 ⊢
        have:k=0∨k=1∨k=2∨k=3:=by omega
        rcases this with rfl | rfl | rfl | rfl
        · exact ⟨_,rfl,by decide⟩
        · exact ⟨_,rfl,by decide⟩
        · exact ⟨_,rfl,by omega⟩
        · exact ⟨_,rfl,by omega⟩
      exact ⟨_,rfl,_,_,rfl,rfl,(by show (0:Int) < 4;decide),p,_,_,_,rfl,rfl,SqL.of upd_same,hv,same_new hp_ _,v,hv1,rfl⟩
    rintro σ7 H7 ⟨s7,v7,hv7,rfl⟩
    refine ⟨fun σ' H8=>H8=H7∧∃ v:Int,1≤v∧(w_=true→v≤3)∧σ'=[some (.int m3),some (.int most),some (.bl w_),some (.int at_),some (.ref pl),some (.int (0+(i:Int))),some (.int v)],⟨_,rfl,_,rfl,?_⟩,?_⟩
    · have h0:=Int.emod_nonneg m3 (show (3:Int) ≠ 0 by decide)
      have h1:=Int.emod_lt_of_pos m3 (show (0:Int) < 3 by decide)
      cases w_ with
      | true=>exact iteT ⟨_,rfl,_,_,rfl,rfl,(by show (0:Int) < 3;decide),_,_,rfl,rfl,rfl,_,by omega,fun _=>by omega,rfl⟩
      | false=>exact iteF ⟨rfl,v7,hv7,(fun h=>by cases h),rfl⟩
    rintro σ8 H8 ⟨rfl,v,hv1,hv3,rfl⟩
    have es7:=s7 _ _ es
    refine ⟨_,rfl,.inl ⟨rfl,_,SqL.of es7⟩,_,rfl,_,rfl,_,rfl,_,_,rfl,rfl,_,_,rfl,rfl,small2,fun t ht=>?_⟩
    have x1:upd H8 t (.tup [.int at_,.int (at_+v - 1)]) pl=some (.lst ys):=ret_r1 es7 ht
    have hyl:ys.length=i:=by rw [hp.length,hlen]
    refine ⟨pl,_,_,rfl,rfl,x1,small1000 (by omega),?_⟩
    have st:SameT H8 (upd (upd H8 t (.tup [.int at_,.int (at_+v - 1)])) pl (.lst (ys ++ [.ref t]))):=(sameT_new ht).trans (sameT_lst x1)
    have atp:∀ (j:Nat) (p:Int × Int),(ps ++ [(at_,at_+v - 1)])[j]?=some p→ps[j]?=some p∧j < ps.length∨p=(at_,at_+v - 1)∧j=ps.length:=fun j p e=>by
      by_cases hj:j < ps.length
      · rw [List.getElem?_append_left hj] at e;exact .inl ⟨e,hj⟩
      · have:j=ps.length:=by have:=(List.getElem?_eq_some_iff.mp e).1;simp at this;omega
        subst this;simp at e;exact .inr ⟨e.symm,rfl⟩
    refine ⟨_,rfl,_,rfl,_,_,rfl,rfl,((sm.trans s7).trans (same_new ht _)).upd npl,m3,_,_,_,ys ++ [.ref t],ps ++ [(at_,at_+v - 1)],upd_same,((hp.mono s7.tups).mono st).snoc (sameT_lst x1 _ _ upd_same),by simp [hlen],hch.snoc (by omega) hlast,?_,fun hw'=>?_,rfl⟩
    · intro p e
      rw [List.length_append,List.length_singleton,Nat.add_sub_cancel] at e
      simp at e
      subst e
      show at_+v=at_+v - 1+1
      omega
    · obtain ⟨w1,w2,w3,w4⟩:=hw hw'
      have v3:=hv3 hw'
      refine ⟨fun p e=>?_,fun h=>by omega,by omega,fun j p e=>?_⟩
      · rcases atp 0 p e with ⟨e,_⟩ | ⟨rfl,hz⟩
        · exact w1 p e
        · exact w2 (by omega)
      · rcases atp j p e with ⟨e,_⟩ | ⟨rfl,hz⟩
        · have:=w4 j p e;omega
        · show at_+v - 1 < _
          omega
  · obtain ⟨sm,m2,at_,c5,c6,ys,ps,es,hp,hlen,hch,hlast,hw,rfl⟩:=h
    have hn1:1≤(1+m / 3 % most).toNat∧(1+m / 3 % most).toNat≤6:=by omega
    refine ⟨_,rfl,_,rfl,_,rfl,_,_,rfl,rfl,⟨by decide,by decide⟩,(by show 3≤sizeLine;decide),fun l hl=>q l ⟨ps,w_,m2 / 8⟩ _ (sm.trans (same_new hl _)) ⟨pl,ys,sm.free hl,npl,upd_same,ret_r1 es hl,hp.mono (same_new hl _).tups⟩ ⟨by show 1≤ps.length;omega,by show ps.length≤6;omega,hch,fun h=>(hw h).1,fun h j p e=>?_⟩⟩
    have:=(hw h).2.2.2 j p e
    omega
theorem O_50 (F:Fun K "_law_bit_row" "_law_bit_row" Y45 f fd) (bl:Bl K mg qA qB qC qD qE qF qG qH qI qJ qK qL qM qN) (c__law_mixed:Callee P w K mg base 1 "_law_mixed" ["cell", "k"] (J56 K qA qB qC qD qE qF qG qH qI qJ qK qL qM qN)):FnOk P w K mg base CX0 2 f fd ["m", "columns", "out", "last"] (J45 K qA qB qC qD qE qF qG qH qI qJ qK qL qM qN):=by
  refine F.ok Z45 (fun vs H Q E h=>?_) (fun cdv A outer s H vs Q E hr h=>?_)
  · obtain ⟨m,cl,ol,la,xs,cs,oc,rfl,hcl,hcs,hok,h1,h4,⟨opl,ots,_,_,eol,eopl,hop⟩,ook,hm0,hla,q⟩:=h
    rfl
  obtain ⟨m,cl,ol,la,xs,cs,oc,rfl,hcl,hcs,hok,h1,h4,⟨opl,ots,_,_,eol,eopl,hop⟩,ook,hm0,hla,q⟩:=h
  refine ⟨_,(pss_cut (ps_set (i:=4) Z45.nd rfl (Or.inl rfl) (pe_lst pa_nil))
     (pss_cons (ps_set (i:=5) Z45.nd rfl (Or.inl rfl) (pv 0))
     (pss_cut (ps_for PassesOwn.never rfl (pi_enum rfl bl.enumerate_ (pa_cons (pv 1) pa_nil)) (pg_tup rfl (pgs_cons (pg_name (i:=6) Z45.nd rfl (Or.inl rfl)) (pgs_cons (pg_name (i:=7) Z45.nd rfl (Or.inl rfl)) pgs_nil)))
     (pss_cut (ps_set (i:=0) Z45.nd rfl (Or.inl rfl) (pe_fn c__law_mixed hr rfl (pa_cons (pv 0) (pa_cons (pe_op op_add pe_int (pv 6)) pa_nil))))
     (pss_cut (ps_set (i:=8) Z45.nd rfl (Or.inl rfl) (pe_op op_sub (pe_op op_shl pe_int (pe_callB call_len_seq rfl bl.len_ PySem.boot_len (pa_cons (pe_ix ix_list (pv 7) pe_int (fun _ _=>rfl)) pa_nil))) pe_int))
     (pss_one (ps_expr (pe_bm PySem.F.plainAttrs_list PySem.F.slot_list_append PySem.F.type_list_append mt_append (pv 4) (pa_cons (pe_ix ix_list (pe_lst (pa_cons (pe_op op_mod (pe_op op_fdiv (pv 0) pe_int) (pe_op op_add (pv 8) pe_int)) (pa_cons (pe_op op_mod (pe_op op_fdiv (pv 0) pe_int) (pe_op op_add (pv 8) pe_int)) (pa_cons (pv 8) (pa_cons (pe_op op_mod (pe_op op_fdiv (pv 0) pe_int) (pv 8)) pa_nil))))) (pe_op op_mod (pv 0) pe_int) (fun _ _=>rfl)) pa_nil)))))))
     (pss_cut (ps_set (i:=9) Z45.nd rfl (Or.inl rfl) (pe_ix ix_tup (pe_ix ix_list (pe_ix ix_list (pv 2) pe_int (fun _ _=>rfl)) (pe_op op_mod (pe_op op_fdiv (pv 0) pe_int) (pe_callB call_len_seq rfl bl.len_ PySem.boot_len (pa_cons (pe_ix ix_list (pv 2) pe_int (fun _ _=>rfl)) pa_nil))) (fun _ _=>rfl)) (pe_op op_mod (pe_op op_fdiv (pv 0) pe_int) pe_int) (fun _ _=>rfl)))
     (pss_cut (ps_if (PW.pt (pw_and (pt_cmpR op_gt (pe_callB call_len_seq rfl bl.len_ PySem.boot_len (pa_cons (pv 3) pa_nil)) pe_int (nomark _)) (pw_and1 (pt_cmpR op_eq (pe_op op_mod (pv 5) pe_int) pe_int (nomark _)))))
     (pss_cut (ps_set (i:=10) Z45.nd rfl (Or.inl rfl) (pe_op op_mod (pe_op op_fdiv (pv 5) pe_int) (pe_callB call_len_seq rfl bl.len_ PySem.boot_len (pa_cons (pv 1) pa_nil))))
     (pss_cons (ps_set (i:=4) Z45.nd rfl (Or.inl rfl) (pe_op op_cat (pe_op op_cat (pe_slice sl_list (pe_ix ix_tup (pv 3) pe_int (fun _ _=>rfl)) po_none (po_some (pv 10))) (pe_lst (pa_cons (pe_ix ix_list (pv 4) (pv 10) (fun _ _=>rfl)) pa_nil))) (pe_slice sl_list (pe_ix ix_tup (pv 3) pe_int (fun _ _=>rfl)) (po_some (pe_op op_add (pv 10) pe_int)) po_none)))
     (pss_one (ps_if (pt_cmpR op_gt (pe_op op_mod (pe_op op_fdiv (pv 5) pe_int) pe_int) pe_int (nomark _))
     (pss_one (ps_set (i:=9) Z45.nd rfl (Or.inl rfl) (pe_ix ix_tup (pv 3) pe_int (fun _ _=>rfl))))
     pss_nil))))
     pss_nil)
     (pss_one (ps_ret (pe_tup (pa_cons (pv 4) (pa_cons (pv 9) pa_nil)))))))))),?_⟩
  have hxl:xs.length=cs.length:=hcs.1
  refine ⟨fun σ' H'=>Same H H'∧∃ bl:Addr,H bl=none∧H' bl=some (.lst (vN []))∧σ'=[some (.int m),some (.ref cl),some (.ref ol),some (.ref la),some (.ref bl),none,none,none,none,none,none],⟨(by show 0≤sizeLine;decide),fun l hl=>⟨same_new hl _,l,hl,upd_same,rfl⟩⟩,?_⟩
  rintro σ1 H1 ⟨s1,bl,nbl,ebl,rfl⟩
  refine ⟨_,rfl,fun σ' H'=>Same H H'∧∃ (m2:Int) (bs:List Nat) (c6 c7 c8:Option V),0≤m2∧H' bl=some (.lst (vN bs))∧bs.length=cs.length∧(∀ (j b:Nat) (c:Col),bs[j]?=some b→cs[j]?=some c→b < 2 ^ c.prs.length)∧σ'=[some (.int m2),some (.ref cl),some (.ref ol),some (.ref la),some (.ref bl),some (.int m),c6,c7,c8,none,none],?_,?_⟩
  · refine ⟨_,rfl,cl,rfl,⟨_,SqL.of (s1 _ _ hcl)⟩,for_enum (xs:=xs) (fun i σ H'=>Same H H'∧∃ (m2:Int) (bs:List Nat) (c6 c7 c8:Option V),0≤m2∧H' bl=some (.lst (vN bs))∧bs.length=i∧(∀ (j b:Nat) (c:Col),bs[j]?=some b→cs[j]?=some c→b < 2 ^ c.prs.length)∧σ=[some (.int m2),some (.ref cl),some (.ref ol),some (.ref la),some (.ref bl),some (.int m),c6,c7,c8,none,none]) ⟨s1,m,[],_,_,_,hm0,ebl,rfl,(fun j b c e=>by simp at e),rfl⟩ (fun i σ H' hh=>SqL.of (hh.1 _ _ hcl)) (fun i y σ H' T ey hh hT=>?_) (fun σ H' hh=>by rw [hxl] at hh;exact hh)⟩
    obtain ⟨sm,m2,bs,c6,c7,c8,hm2,eb,hlen,hlt,rfl⟩:=hh
    obtain ⟨l,c,rfl,ec,pl,ts,_,_,el,epl,hp⟩:=RefL.get hcs ey
    have hi:i < xs.length:=(List.getElem?_eq_some_iff.mp ey).1
    have ok:=hok c (List.mem_of_getElem? ec)
    have k1:=ok.some_
    have k6:=ok.few
    have s2:=sm.trans (same_new hT (.tup [.int (i:Int),.ref l]))
    have eT:upd H' T (.tup [.int (i:Int),.ref l]) T=some (.tup [.int (i:Int),.ref l]):=upd_same
    have eb2:upd H' T (.tup [.int (i:Int),.ref l]) bl=some (.lst (vN bs)):=ret_r1 eb hT
    generalize upd H' T (.tup [.int (i:Int),.ref l])=H2 at s2 eT eb2 ⊢
    refine ⟨T,_,rfl,SqT.of eT,rfl,_,_,rfl,_,_,rfl,rfl,?_⟩
    refine ⟨fun σ' H3=>H3=H2∧∃ m3:Int,0≤m3∧σ'=[some (.int m3),some (.ref cl),some (.ref ol),some (.ref la),some (.ref bl),some (.int m),some (.int (i:Int)),some (.ref l),c8,none,none],⟨_,rfl,_,rfl,_,_,rfl,rfl,_,_,rfl,(by show (0:Int)≤20+(i:Int);omega),(by show (20:Int)+(i:Int)≤100;omega),fun r hr0=>⟨rfl,r,hr0,rfl⟩⟩,?_⟩
    rintro σ3 H3 ⟨rfl,m3,hm3,rfl⟩
    have htl:=hp.length
    refine ⟨fun σ' H4=>H4=H3∧σ'=[some (.int m3),some (.ref cl),some (.ref ol),some (.ref la),some (.ref bl),some (.int m),some (.int (i:Int)),some (.ref l),some (.int (((2 ^ c.prs.length:Nat):Int) - 1)),none,none],?_,?_⟩
    · refine ⟨_,rfl,l,_,_,_,rfl,rfl,SqL.of (s2 _ _ el),rfl,pl,_,rfl,.inl (SqL.of (s2 _ _ epl)),_,_,rfl,rfl,⟨by omega,by omega,by decide⟩,_,_,rfl,rfl,rfl,?_⟩
      rw [htl,Int.toNat_natCast]
      simp
    rintro σ4 H4 ⟨rfl,rfl⟩
    have he:(0:Int) < ((2 ^ c.prs.length:Nat):Int) - 1:=by
      have:=Nat.pow_le_pow_right (show 0 < 2 by decide) k1
      rw [Nat.pow_one] at this
      generalize 2 ^ c.prs.length=W at this ⊢
      omega
    have hv0:0≤m3 / 8:=Int.ediv_nonneg hm3 (by decide)
    obtain ⟨b,hb,hbe⟩:=four he hv0 (m:=m3)
    refine ⟨_,rfl,.inl ⟨rfl,_,SqL.of eb2⟩,_,rfl,_,_,rfl,rfl,⟨by decide,by decide⟩,_,rfl,_,_,rfl,rfl,_,_,rfl,rfl,(by omega),_,rfl,_,_,rfl,rfl,⟨by decide,by decide⟩,_,rfl,_,_,rfl,rfl,_,_,rfl,rfl,(by omega),_,rfl,_,rfl,_,_,rfl,rfl,⟨by decide,by decide⟩,_,rfl,_,_,rfl,rfl,he,(by show 4≤sizeLine;decide),fun p hp_=>?_⟩
    refine ⟨_,rfl,_,_,rfl,rfl,(by show (0:Int) < 4;decide),p,_,_,_,rfl,rfl,SqL.of upd_same,hb,bl,_,_,rfl,rfl,ret_r1 eb2 hp_,small1000 (by rw [vN_len];omega),?_⟩
    refine ⟨(s2.trans (same_new hp_ _)).upd nbl,m3,bs ++ [b],_,_,_,hm3,by rw [upd_same,← vN_app];rfl,by simp [hlen],fun j b' c' e1 e2=>?_,rfl⟩
    by_cases hj:j < bs.length
    · rw [List.getElem?_append_left hj] at e1
      exact hlt j b' c' e1 e2
    · have hj2:j=bs.length:=by have:=(List.getElem?_eq_some_iff.mp e1).1;simp at this;omega
      subst hj2
      simp at e1
      subst e1
      rw [hlen,ec] at e2
      cases e2
      generalize 2 ^ c.prs.length=W at hbe ⊢
      omega
  rintro σ5 H5 ⟨s5,m5,bs,c6,c7,c8,hm5,eb,hlen,hlt,rfl⟩
  have hotl:=hop.length
  have o1:=ook.some_
  have hop0:(0:Int) < ((ots.length:Nat):Int):=by omega
  refine ⟨fun σ' H'=>H'=H5∧∃ cd:Int,oc.lo≤cd∧cd≤oc.hi∧σ'=[some (.int m5),some (.ref cl),some (.ref ol),some (.ref la),some (.ref bl),some (.int m),c6,c7,c8,some (.int cd),none],?_,?_⟩
  · obtain ⟨rp,p,e1,e2,e3⟩:=pl_at hop (Int.emod_nonneg (m5 / 9) (Int.ne_of_gt hop0)) (Int.emod_lt_of_pos (m5 / 9) hop0)
    obtain ⟨x,ex,hx⟩:=end2 (p:=p) (m:=m5 / 7)
    have hin:=ook.inn e2
    have hle:=ook.ch.le _ _ e2
    refine ⟨_,rfl,ol,_,_,_,rfl,rfl,SqL.of (s5 _ _ eol),rfl,_,rfl,_,_,rfl,rfl,⟨by decide,by decide⟩,_,rfl,ol,_,_,_,rfl,rfl,SqL.of (s5 _ _ eol),rfl,opl,_,rfl,.inl (SqL.of (s5 _ _ eopl)),_,_,rfl,rfl,hop0,opl,_,_,_,rfl,rfl,SqL.of (s5 _ _ eopl),e1,_,rfl,_,_,rfl,rfl,⟨by decide,by decide⟩,_,_,rfl,rfl,(by show (0:Int) < 2;decide),rp,_,_,_,rfl,rfl,SqT.of (s5 _ _ e3),ex,rfl,x,?_,?_,rfl⟩
    · rcases hx with rfl | rfl <;> omega
    · rcases hx with rfl | rfl <;> omega
  rintro σ6 H6 ⟨rfl,cd,cd0,cd1,rfl⟩
  refine ⟨fun σ' H'=>Same H H'∧∃ (bl2:Addr) (w:BW) (c10:Option V),H bl2=none∧H' bl2=some (.lst (vN w.1))∧BitOk cs oc w∧σ'=[some (.int m5),some (.ref cl),some (.ref ol),some (.ref la),some (.ref bl2),some (.int m),c6,c7,c8,some (.int w.2),c10],?_,?_⟩
  · have plain:Same H H6∧∃ (bl2:Addr) (w:BW) (c10:Option V),H bl2=none∧H6 bl2=some (.lst (vN w.1))∧BitOk cs oc w∧([some (.int m5),some (.ref cl),some (.ref ol),some (.ref la),some (.ref bl),some (.int m),c6,c7,c8,some (.int cd),none]:St)=[some (.int m5),some (.ref cl),some (.ref ol),some (.ref la),some (.ref bl2),some (.int m),c6,c7,c8,some (.int w.2),c10]:=⟨s5,bl,(bs,cd),none,nbl,eb,⟨hlen,hlt,cd0,cd1⟩,rfl⟩
    rcases hla with hla | ⟨w0,⟨bl0,f1,_,f2⟩,ok0⟩
    · exact ⟨_,rfl,la,_,rfl,.inl (SqL.of (s5 _ _ hla)),_,_,rfl,rfl,_,rfl,iteFS (by simp) (iteF plain)⟩
    · have f1':=s5 _ _ f1
      have f2':=s5 _ _ f2
      refine ⟨_,rfl,la,_,rfl,.inr (SqT.of f1'),_,_,rfl,rfl,_,rfl,iteTS (by simp) ?_⟩
      refine ⟨_,rfl,_,_,rfl,rfl,(by show (0:Int) < 2;decide),rfl,_,rfl,ite2 (fun _=>?_) (fun _=>plain)⟩
      have hxp:(0:Int) < ((xs.length:Nat):Int):=by omega
      have a0:=Int.emod_nonneg (m / 2) (Int.ne_of_gt hxp)
      have a1:=Int.emod_lt_of_pos (m / 2) hxp
      refine ⟨fun σ' H'=>H'=H6∧∃ k:Nat,k < cs.length∧σ'=[some (.int m5),some (.ref cl),some (.ref ol),some (.ref la),some (.ref bl),some (.int m),c6,c7,c8,some (.int cd),some (.int (k:Int))],⟨_,rfl,_,_,rfl,rfl,⟨by decide,by decide⟩,_,rfl,cl,_,rfl,.inl (SqL.of (s5 _ _ hcl)),_,_,rfl,rfl,hxp,rfl,(m / 2 % ((xs.length:Nat):Int)).toNat,by omega,by rw [Int.toNat_of_nonneg a0];rfl⟩,?_⟩
      rintro σ7 H7 ⟨rfl,k,hk,rfl⟩
      obtain ⟨b,ebk⟩:∃ b,bs[k]?=some b:=⟨_,List.getElem?_eq_getElem (by omega)⟩
      refine ⟨_,rfl,la,_,_,_,rfl,rfl,SqT.of f1',rfl,_,rfl,_,rfl,bl0,_,rfl,SqL.of f2',fun c1 hc1=>?_⟩
      rw [cutTake,vN_take]
      have t1:=same_new hc1 (.lst (vN (w0.1.take k)))
      have g1:upd H7 c1 (.lst (vN (w0.1.take k))) c1=some (.lst (vN (w0.1.take k))):=upd_same
      generalize upd H7 c1 (.lst (vN (w0.1.take k)))=H8 at t1 g1 ⊢
      refine ⟨_,rfl,_,rfl,bl,_,_,_,rfl,rfl,SqL.of (t1 _ _ eb),atI_nat (vN_at ebk),(by show 1≤sizeLine;decide),fun c2 hc2=>?_⟩
      have t2:=same_new hc2 (.lst (vN [b]))
      have g2:upd H8 c2 (.lst (vN [b])) c2=some (.lst (vN [b])):=upd_same
      have ee:upd H8 c2 (.lst [V.int (b:Int)])=upd H8 c2 (.lst (vN [b])):=rfl
      rw [ee]
      clear ee
      generalize upd H8 c2 (.lst (vN [b]))=H9 at t2 g2 ⊢
      have lw:=ok0.len
      refine ⟨c1,c2,_,_,rfl,rfl,t2 _ _ g1,g2,Nat.le_of_lt (small1000 (by rw [vN_len,vN_len,List.length_take];simp;omega)),fun c3 hc3=>?_⟩
      rw [vN_app]
      have t3:=same_new hc3 (.lst (vN (w0.1.take k ++ [b])))
      have g3:upd H9 c3 (.lst (vN (w0.1.take k ++ [b]))) c3=some (.lst (vN (w0.1.take k ++ [b]))):=upd_same
      generalize upd H9 c3 (.lst (vN (w0.1.take k ++ [b])))=H10 at t3 g3 ⊢
      have t10:=(t1.trans t2).trans t3
      refine ⟨_,rfl,la,_,_,_,rfl,rfl,SqT.of (t10 _ _ f1'),rfl,_,rfl,_,_,rfl,rfl,_,rfl,bl0,_,rfl,SqL.of (t10 _ _ f2'),fun c4 hc4=>?_⟩
      rw [show ((k:Int)+1)=((k+1:Nat):Int) by omega,cutDrop,vN_drop]
      have t4:=same_new hc4 (.lst (vN (w0.1.drop (k+1))))
      have g4:upd H10 c4 (.lst (vN (w0.1.drop (k+1)))) c4=some (.lst (vN (w0.1.drop (k+1)))):=upd_same
      generalize upd H10 c4 (.lst (vN (w0.1.drop (k+1))))=H11 at t4 g4 ⊢
      refine ⟨c3,c4,_,_,rfl,rfl,t4 _ _ g3,g4,Nat.le_of_lt (small1000 (by rw [vN_len,vN_len,List.length_append,List.length_take,List.length_drop];simp;omega)),fun c5 hc5=>?_⟩
      rw [vN_app,set_is (by omega)]
      have t5:=same_new hc5 (.lst (vN (w0.1.set k b)))
      have g5:upd H11 c5 (.lst (vN (w0.1.set k b))) c5=some (.lst (vN (w0.1.set k b))):=upd_same
      have n5:H c5=none:=((s5.trans t10).trans t4).free hc5
      generalize upd H11 c5 (.lst (vN (w0.1.set k b)))=H12 at t5 g5 ⊢
      have sA:=((s5.trans t10).trans t4).trans t5
      have okb:∀ x:Int,oc.lo≤x→x≤oc.hi→BitOk cs oc (w0.1.set k b,x):=fun x x0 x1=>⟨by rw [List.length_set];exact lw,fun j b' c' e1 e2=>by
        have e3:(w0.1.set k b)[j]?=some b':=e1
        rw [List.getElem?_set] at e3
        by_cases hkj:k=j
        · rw [if_pos hkj,if_pos (by omega)] at e3
          cases e3
          subst hkj
          exact hlt _ _ _ ebk e2
        · rw [if_neg hkj] at e3
          exact ok0.lt j b' c' e3 e2,x0,x1⟩
      refine ⟨_,rfl,_,_,rfl,rfl,⟨by decide,by decide⟩,_,_,rfl,rfl,(by show (0:Int) < 4;decide),_,_,rfl,rfl,_,rfl,ite2 (fun _=>?_) (fun _=>?_)⟩
      · exact ⟨_,rfl,la,_,_,_,rfl,rfl,SqT.of (sA _ _ f1),rfl,sA,c5,(w0.1.set k b,w0.2),_,n5,g5,okb _ ok0.lo ok0.hi,rfl⟩
      · exact ⟨sA,c5,(w0.1.set k b,cd),_,n5,g5,okb _ cd0 cd1,rfl⟩
  rintro σ7 H7 ⟨s7,bl2,w_,c10,n2,e2,okw,rfl⟩
  exact ⟨_,rfl,_,rfl,small2,fun r hr_=>q r w_ _ (s7.trans (same_new hr_ _)) ⟨bl2,upd_same,n2,ret_r1 e2 hr_⟩ okw⟩
theorem O_63 (F:Fun K "_law_rows" "_law_rows" Y58 f fd) (bl:Bl K mg qA qB qC qD qE qF qG qH qI qJ qK qL qM qN) (c__law_spans:Callee P w K mg base 1 "_law_spans" ["pairs", "bits"] (J61 K qA qB qC qD qE qF qG qH qI qJ qK qL qM qN)):FnOk P w K mg base CX0 2 f fd ["bit_rows", "columns"] (J58 K qA qB qC qD qE qF qG qH qI qJ qK qL qM qN):=by
  refine F.ok Z58 (fun vs H Q E h=>?_) (fun cdv A outer s H vs Q E hr h=>?_)
  · obtain ⟨l0,cl,zs0,xs,ws0,cs,rfl,hl0,hz0,h200,hcl,hcs,hok,h4,hlw,q⟩:=h
    rfl
  obtain ⟨l0,cl,zs0,xs,ws0,cs,rfl,hl0,hz0,h200,hcl,hcs,hok,h4,hlw,q⟩:=h
  refine ⟨_,(pss_cons (ps_set (i:=2) Z58.nd rfl (Or.inl rfl) (pe_lst pa_nil))
     (pss_cons (ps_for PassesOwn.never rfl (pi_list (pv 0)) (pg_tup rfl (pgs_cons (pg_name (i:=3) Z58.nd rfl (Or.inl rfl)) (pgs_cons (pg_name (i:=4) Z58.nd rfl (Or.inl rfl)) pgs_nil)))
     (pss_one (ps_expr (pe_bm PySem.F.plainAttrs_list PySem.F.slot_list_append PySem.F.type_list_append mt_append (pv 2) (pa_cons (pe_tup (pa_cons (pe_compG (pi_zip rfl bl.zip_ (pa_cons (pv 1) (pa_cons (pv 3) pa_nil))) (cmpOkG_plain (N:=["column", "bit"]) (k:=2) rfl rfl (by decide +kernel) (by decide +kernel) (by decide +kernel)) rfl (fun _ _ _ _=>(gTupK (K:=K) (n:=2) rfl rfl (pgs_cons (pg_name (i:=0) (show (["column", "bit"]:List Str).Nodup by decide +kernel) rfl (Or.inl rfl) (Or.inr rfl)) (pgs_cons (pg_name (i:=1) (show (["column", "bit"]:List Str).Nodup by decide +kernel) rfl (Or.inl rfl) (Or.inr rfl)) pgs_nil)))) (fun _ _ _ _=>pif_nil) (fun _ _ _ _=>(pe_fn c__law_spans hr rfl (pa_cons (pe_ix (ix_listK (K:=K) rfl) (pv 0) pe_int (fun _ _=>rfl)) (pa_cons (pv 1) pa_nil))))) (pa_cons (pv 4) pa_nil))) pa_nil)))))
     (pss_one (ps_ret (pv 2))))),?_⟩
  have hxl:xs.length=cs.length:=hcs.1
  refine ⟨(by show 0≤sizeLine;decide),fun l hl=>?_⟩
  have s0:Same H (upd H l (.lst [])):=same_new hl _
  have e0:upd H l (.lst []) l=some (.lst []):=upd_same
  generalize upd H l (.lst [])=H0 at s0 e0 ⊢
  refine ⟨_,rfl,l0,rfl,⟨_,SqL.of (s0 _ _ hl0)⟩,for_list (xs:=zs0) (fun i σ H'=>Same H H'∧∃ (zs:List V) (rws:List Rw) (c3 c4:Option V),H' l=some (.lst zs)∧RL (Fr H l) H' zs rws∧RwsOf cs (ws0.take i) rws∧σ=[some (.ref l0),some (.ref cl),some (.ref l),c3,c4]) ⟨s0,[],[],_,_,e0,RefL.nil,RwsOf.nil,rfl⟩ (fun i σ H' _ h=>SqL.of (h.1 _ _ hl0)) (fun i y σ H' ey hh=>?_) (fun σ H' hh=>?_)⟩
  · obtain ⟨sm,zs,rws,c3,c4,el,hz,hof,rfl⟩:=hh
    obtain ⟨r,w0,rfl,ew,bl0,f1,_,f2⟩:=RefL.get (hz0.same sm) ey
    have hi:i < ws0.length:=(List.getElem?_eq_some_iff.mp ew).1
    have lw:=hlw w0 (List.mem_of_getElem? ew)
    have hmin:min xs.length (vN w0.1).length=cs.length:=by rw [vN_len];omega
    refine ⟨r,_,rfl,SqT.of f1,rfl,_,_,rfl,_,_,rfl,rfl,?_⟩
    refine ⟨_,rfl,.inl ⟨rfl,_,SqL.of el⟩,_,rfl,_,rfl,cl,bl0,rfl,⟨_,SqL.of (sm _ _ hcl)⟩,⟨_,SqL.of f2⟩,compG_zip (xs:=xs) (ys:=vN w0.1) (fun D i ys H2=>Same H' H2∧H2 D=some (.lst ys)∧∃ pss:List Prs,CL (Fr H' D) H2 ys pss∧pss.length=i∧∀ (j:Nat) (ps:Prs) (c:Col) (b:Nat),pss[j]?=some ps→cs[j]?=some c→w0.1[j]?=some b→SpOk c.prs b c.prs.length ps∧ps=mrg c.prs b c.prs.length)
      (fun D hD=>⟨same_new hD _,upd_same,[],RefL.nil,rfl,(fun j ps c b e=>by simp at e)⟩) (fun D i ys H2 hD _ h=>⟨SqL.of (h.1 _ _ (sm _ _ hcl)),SqL.of (h.1 _ _ f2)⟩) (fun D j x y ys H2 T hD ex ey2 h hT ts hts=>?_) (fun D ys H2 hD h=>?_)⟩
    · obtain ⟨s2,eD,pss,hy,hlen,hsp⟩:=h
      obtain ⟨lc,c,rfl,ec,pl,tp_,_,_,g1,g2,g3⟩:=RefL.get ((hcs.same sm).same s2) ex
      obtain ⟨b,rfl,eb⟩:=vN_of ey2
      have ok:=hok c (List.mem_of_getElem? ec)
      obtain ⟨t0,t1,rfl⟩:∃ t0 t1,ts=[t0,t1]:=by
        match ts,hts with
        | [t0,t1],_=>exact ⟨t0,t1,rfl⟩
      have s3:=same_new hT (.tup [.ref lc,.int (b:Int)])
      have eT:upd H2 T (.tup [.ref lc,.int (b:Int)]) T=some (.tup [.ref lc,.int (b:Int)]):=upd_same
      generalize upd H2 T (.tup [.ref lc,.int (b:Int)])=H3 at s3 eT ⊢
      refine ⟨T,_,rfl,SqT.of eT,rfl,_,_,rfl,_,_,rfl,rfl,⟨[some (.ref lc),some (.int (b:Int))],rfl,rfl⟩,?_⟩
      refine ⟨_,rfl,lc,_,_,_,rfl,rfl,SqL.of (s3 _ _ g1),rfl,_,rfl,pl,tp_,c.prs,b,rfl,s3 _ _ g2,g3.mono s3.tups,ok.ch,ok.few,fun l2 ps H4 s4 hspa hspok hspis=>?_⟩
      have hj:j < min xs.length (vN w0.1).length:=by
        have:=(List.getElem?_eq_some_iff.mp ex).1
        rw [hmin,← hxl];exact this
      have eD4:=s4 _ _ (s3 _ _ eD)
      have n4:H3 l2=none:=hspa.1
      have nD:l2 ≠ D:=fun z=>by rw [z,s3 _ _ eD] at n4;cases n4
      have n2:H' l2=none:=s2.free (s3.free n4)
      have hcl2:CL (Fr H' D) H4 (ys ++ [.ref l2]) (pss ++ [ps]):=RefL.snoc (hy.same (s3.trans s4)) ⟨⟨n2,nD⟩,hspa.2⟩
      refine CYes.mk hj eD4 (small1000 (by rw [hy.1];omega)) ⟨((s2.trans s3).trans s4).upd hD,upd_same,pss ++ [ps],hcl2.updN Fr.out eD4,by simp [hlen],fun j' ps' c' b' e1 e2 e3=>?_⟩
      by_cases hj' : j' < pss.length
      · rw [List.getElem?_append_left hj'] at e1
        exact hsp j' ps' c' b' e1 e2 e3
      · have hj2:j'=pss.length:=by have:=(List.getElem?_eq_some_iff.mp e1).1;simp at this;omega
        subst hj2
        simp at e1
        subst e1
        rw [hlen] at e2 e3
        rw [ec] at e2
        rw [eb] at e3
        cases e2;cases e3
        exact ⟨hspok,hspis⟩
    · obtain ⟨s2,eD,pss,hy,hlen,hsp⟩:=h
      rw [hmin] at hlen
      have nDl:D ≠ l:=fun z=>by rw [z,el] at hD;cases hD
      refine ⟨_,rfl,small2,fun t ht=>?_⟩
      have t4:=same_new ht (.tup [.ref D,.int w0.2])
      have el4:=t4 _ _ (s2 _ _ el)
      have hrow:RowA (Fr H l) (upd H2 t (.tup [.ref D,.int w0.2])) t (pss,w0.2):=⟨D,ys,upd_same,⟨sm.free hD,nDl⟩,t4 _ _ eD,(hy.same t4).wk fun a ha=>⟨sm.free ha.1,fun z=>by have hh:=ha.1;rw [z,el] at hh;cases hh⟩⟩
      refine ⟨l,_,_,rfl,rfl,el4,small1000 (by rw [hz.1,hof.1,List.length_take];omega),?_⟩
      have hz2:RL (Fr H l) (upd H2 t (.tup [.ref D,.int w0.2])) (zs ++ [.ref t]) (rws ++ [(pss,w0.2)]):=RefL.snoc (hz.same (s2.trans t4)) hrow
      refine ⟨((sm.trans s2).trans t4).upd hl,zs ++ [.ref t],rws ++ [(pss,w0.2)],_,_,upd_same,hz2.updN Fr.out el4,?_,rfl⟩
      rw [take_snoc ew]
      exact hof.snoc ⟨rfl,hlen,fun j ps c b e1 e2 e3=>(hsp j ps c b e1 e2 e3).1,fun j ps c b e1 e2 e3=>(hsp j ps c b e1 e2 e3).2⟩
  · obtain ⟨sm,zs,rws,c3,c4,el,hz,hof,rfl⟩:=hh
    rw [hz0.1,List.take_length] at hof
    exact ⟨_,rfl,q l zs rws H' sm el (RefL.mono hz fun _ _ p=>p.wk fun a h=>h.1) hof⟩
theorem O_56 (F:Fun K "_law_due" "_law_due" Y51 f fd) (bl:Bl K mg qA qB qC qD qE qF qG qH qI qJ qK qL qM qN) (c__law_fit:Callee P w K mg base 1 "_law_fit" ["bit_row", "point"] (J52 K qA qB qC qD qE qF qG qH qI qJ qK qL qM qN)):FnOk P w K mg base CX0 2 f fd ["way", "bit_rows", "out", "point"] (J51 K qA qB qC qD qE qF qG qH qI qJ qK qL qM qN):=by
  refine F.ok Z51 (fun vs H Q E h=>?_) (fun cdv A outer s H vs Q E hr h=>?_)
  · obtain ⟨wy,i,bl_,ol,pl,zs,ws,oc,p,rfl,hi6,hbl,hz,h200,⟨opl,ots,_,_,eol,eopl,hop⟩,ook,hpl,hwl,h100,q⟩:=h
    rfl
  obtain ⟨wy,i,bl_,ol,pl,zs,ws,oc,p,rfl,hi6,hbl,hz,h200,⟨opl,ots,_,_,eol,eopl,hop⟩,ook,hpl,hwl,h100,q⟩:=h
  refine ⟨_,(pss_cut (ps_comp (i:=4) Z51.nd rfl (Or.inl rfl) (pi_list (pv 1)) (cmpOk_free (N:=["row", "point"]) (fr:=[3]) (cl:=[("point",s.heap.objs.size+1)]) rfl rfl (by decide +kernel) (by decide +kernel) rfl (by decide +kernel) rfl rfl rfl (List.forall_mem_cons.mpr ⟨rfl,List.forall_mem_nil _⟩) rfl) rfl (fun _ _ _ _=>(pif_one (pt_val (pe_fn c__law_fit hr rfl (pa_cons (pv 0) (pa_cons (pv 1) pa_nil)))))) (fun _ _ _ _=>(pe_ix (ix_tupK (K:=K) rfl) (pv 0) pe_int (fun _ _=>rfl))))
     (pss_cons (ps_if (pt_cmpR op_eq (pe_callB call_len_seq rfl bl.len_ PySem.boot_len (pa_cons (pv 4) pa_nil)) pe_int (nomark _))
     (pss_one (ps_ret (pe_tup (pa_cons pe_str (pa_cons pe_int pa_nil)))))
     pss_nil)
     (pss_cons (ps_if (PW.pt (pw_or (PW.pt (pw_and (pt_cmpR op_eq (pv 0) pe_str (nomark _)) (pw_and1 (pt_cmpR op_gt (pe_callB call_len_seq rfl bl.len_ PySem.boot_len (pa_cons (pv 4) pa_nil)) pe_int (nomark _))))) (pw_or1 (PW.pt (pw_and (pt_cmpR op_eq (pv 0) pe_str (nomark _)) (pw_and1 (pt_cmpR op_ne (pe_callB (call_min_list rfl) rfl bl.min_ PyProof.Rows.boot_min (pa_cons (pv 4) pa_nil)) (pe_callB (call_max_list rfl) rfl bl.max_ PyProof.Rows.boot_max (pa_cons (pv 4) pa_nil)) (nomark _))))))))
     (pss_one (ps_ret (pe_tup (pa_cons pe_str (pa_cons pe_int pa_nil)))))
     pss_nil)
     (pss_cons (ps_if (pt_cmpR op_eq (pv 0) pe_str (nomark _))
     (pss_one (ps_ret (pe_tup (pa_cons pe_str (pa_cons (pe_callB (call_min_list rfl) rfl bl.min_ PyProof.Rows.boot_min (pa_cons (pv 4) pa_nil)) pa_nil)))))
     pss_nil)
     (pss_cons (ps_if (pt_cmpR op_eq (pv 0) pe_str (nomark _))
     (pss_one (ps_ret (pe_tup (pa_cons pe_str (pa_cons (pe_callB (call_max_list rfl) rfl bl.max_ PyProof.Rows.boot_max (pa_cons (pv 4) pa_nil)) pa_nil)))))
     pss_nil)
     (pss_cons (ps_if (pt_cmpR op_eq (pv 0) pe_str (nomark _))
     (pss_one (ps_ret (pe_tup (pa_cons pe_str (pa_cons (pe_callB (call_max2 rfl) rfl bl.max_ PyProof.Rows.boot_max (pa_cons (pe_ix ix_tup (pe_ix ix_list (pe_ix ix_list (pv 2) pe_int (fun _ _=>rfl)) pe_int (fun _ _=>rfl)) pe_int (fun _ _=>rfl)) (pa_cons (pe_callB (call_min2 rfl) rfl bl.min_ PyProof.Rows.boot_min (pa_cons (pe_ix ix_tup (pe_ix ix_list (pe_ix ix_list (pv 2) pe_int (fun _ _=>rfl)) (pe_un un_neg pe_int) (fun _ _=>rfl)) pe_int (fun _ _=>rfl)) (pa_cons (pe_callB (call_sum_ints rfl) rfl bl.sum_ PyProof.Rows.boot_sum (pa_cons (pv 4) pa_nil)) pa_nil))) pa_nil))) pa_nil)))))
     pss_nil)
     (pss_one (ps_ret (pe_tup (pa_cons pe_str (pa_cons (pe_ix ix_list (pv 4) pe_int (fun _ _=>rfl)) pa_nil))))))))))),?_⟩
  refine ⟨fun σ' H'=>Same H H'∧∃ cl:Addr,H' cl=some (.lst ((pc ws p).map V.int))∧σ'=[some (.str wy),some (.ref bl_),some (.ref ol),some (.ref pl),some (.ref cl)],?_,?_⟩
  · refine ⟨_,rfl,bl_,rfl,⟨_,SqL.of hbl⟩,comp_list (xs:=zs) (fun D i ys H'=>Same H H'∧H' D=some (.lst ys)∧ys=(pc (ws.take i) p).map V.int) (fun D hD=>⟨same_new hD _,upd_same,rfl⟩) (fun D i ys H' hD _ h=>SqL.of (h.1 _ _ hbl)) (fun D k y ys H' hD e h=>?_) (fun D ys H' hD h=>?_)⟩
    · obtain ⟨sm,eD,rfl⟩:=h
      obtain ⟨r,w_,rfl,ew,hrow⟩:=RefL.get hz e
      have hk:k < zs.length:=(List.getElem?_eq_some_iff.mp e).1
      have hkw:k < ws.length:=(List.getElem?_eq_some_iff.mp ew).1
      refine ⟨_,rfl,_,rfl,r,pl,w_,p,rfl,hrow.same sm,sm _ _ hpl,hwl w_ (List.mem_of_getElem? ew),h100,fun H3 s3=>⟨_,rfl,?_⟩⟩
      have eD3:=s3 _ _ eD
      have hl:((pc (ws.take k) p).map V.int).length≤200:=by
        rw [List.length_map]
        exact Nat.le_trans (pc_len _ _) (by rw [List.length_take];omega)
      obtain ⟨bl2,g1,_,g2⟩:=hrow.same (sm.trans s3)
      cases hb:bfit w_.1 p with
      | true =>
        refine iteT ⟨_,rfl,r,_,_,_,rfl,rfl,SqT.of g1,rfl,CYes.mk hk eD3 (small1000 (by omega)) ⟨(sm.trans s3).upd hD,upd_same,?_⟩⟩
        rw [take_snoc ew,pc_snoc,hb,List.map_append]
        rfl
      | false =>
        refine iteF (CNext.mk (zs:=(pc (ws.take k) p).map V.int) hk ⟨sm.trans s3,eD3,?_⟩)
        rw [take_snoc ew,pc_snoc,hb]
        simp
    · obtain ⟨sm,eD,rfl⟩:=h
      rw [hz.1,List.take_length] at eD
      exact ⟨sm,D,eD,rfl⟩
  rintro σ1 H1 ⟨s1,cl,ecl,rfl⟩
  have hpl200:(pc ws p).length≤200:=Nat.le_trans (pc_len ws p) h200
  have eol1:=s1 _ _ eol
  have eopl1:=s1 _ _ eopl
  generalize pc ws p=ns at ecl q hpl200
  have hml:(ns.map V.int).length=ns.length:=List.length_map _
  cases ns with
  | nil =>
    refine ⟨_,rfl,cl,_,rfl,.inl (SqL.of ecl),rfl,_,rfl,iteTS rfl ⟨small2,fun r hr_=>q r _ (s1.trans (same_new hr_ _)) upd_same⟩⟩
  | cons n ns =>
  refine ⟨_,rfl,cl,_,rfl,.inl (SqL.of ecl),rfl,_,rfl,iteFS (by simp;omega) ?_⟩
  have fr:=fun (r:Addr) (u:List V) (hr_:H1 r=none)=>s1.trans (same_new hr_ (.tup u))
  match i,hi6 with
  | 0,hi6 =>
    cases hi6
    exact ⟨_,rfl,rfl,_,rfl,iteFS (sne (by decide)) (iteF ⟨_,rfl,rfl,_,rfl,iteFS (sne (by decide)) (iteF ⟨_,rfl,rfl,_,rfl,iteFS (sne (by decide)) ⟨_,rfl,rfl,_,rfl,iteFS (sne (by decide)) ⟨_,rfl,rfl,_,rfl,iteFS (sne (by decide)) ⟨_,rfl,cl,_,_,_,rfl,rfl,SqL.of ecl,at0 n ns,small2,fun r hr_=>q r _ (fr r _ hr_) upd_same⟩⟩⟩⟩)⟩)⟩
  | 1,hi6 =>
    cases hi6
    refine ⟨_,rfl,rfl,_,rfl,iteTS rfl ⟨_,rfl,cl,_,rfl,.inl (SqL.of ecl),_,_,rfl,rfl,_,rfl,ite2 (fun g=>?_) (fun g=>?_)⟩⟩
    · have g:(1:Int) < ((((n :: ns).map V.int).length:Nat):Int):=of_decide_eq_true g
      have e:wf 1 oc.lo oc.hi (n :: ns)=clash:=by
        show fOnly _=_
        unfold fOnly
        rw [if_neg (by rw [List.length_map] at g;omega)]
      have q:∀ (r:Addr) (H' : Hp),Same H H'→H' r=some (.tup (tp clash))→Q (.ref r) H':=by rw [← e];exact q
      exact iteT ⟨small2,fun r hr_=>q r _ (fr r _ hr_) upd_same⟩
    · have g:¬ (1:Int) < ((((n :: ns).map V.int).length:Nat):Int):=fun z=>g (decide_eq_true z)
      have e:wf 1 oc.lo oc.hi (n :: ns)=say n:=by
        show fOnly _=_
        unfold fOnly
        rw [if_pos (by rw [List.length_map,List.length_cons] at g;rw [List.length_cons];omega)]
        rfl
      have q:∀ (r:Addr) (H' : Hp),Same H H'→H' r=some (.tup (tp (say n)))→Q (.ref r) H':=by rw [← e];exact q
      exact ⟨_,rfl,rfl,_,rfl,iteFS (sne (by decide)) (iteF ⟨_,rfl,rfl,_,rfl,iteFS (sne (by decide)) ⟨_,rfl,rfl,_,rfl,iteFS (sne (by decide)) ⟨_,rfl,rfl,_,rfl,iteFS (sne (by decide)) ⟨_,rfl,cl,_,_,_,rfl,rfl,SqL.of ecl,at0 n ns,small2,fun r hr_=>q r _ (fr r _ hr_) upd_same⟩⟩⟩⟩)⟩
  | 2,hi6 =>
    cases hi6
    refine ⟨_,rfl,rfl,_,rfl,iteFS (sne (by decide)) (iteF ⟨_,rfl,rfl,_,rfl,iteTS rfl ⟨_,rfl,cl,n :: ns,rfl,SqL.of ecl,Nat.succ_pos _,fun m1 h1 h2=>⟨_,rfl,cl,n :: ns,rfl,SqL.of ecl,Nat.succ_pos _,fun m2 h3 h4=>⟨rfl,_,rfl,?_⟩⟩⟩⟩)⟩
    have e1:=least_un h1 h2
    have e2:=great_un h3 h4
    by_cases g:m1=m2
    · have e:wf 2 oc.lo oc.hi (n :: ns)=say n:=by
        show fLike _=_
        unfold fLike
        have gg:least (n :: ns)=great (n :: ns):=by rw [← e1,← e2];exact g
        rw [if_pos gg,like_head (like_same.mpr gg)]
      have q:∀ (r:Addr) (H' : Hp),Same H H'→H' r=some (.tup (tp (say n)))→Q (.ref r) H':=by rw [← e];exact q
      exact iteNS (by rw [g]) ⟨_,rfl,rfl,_,rfl,iteFS (sne (by decide)) ⟨_,rfl,rfl,_,rfl,iteFS (sne (by decide)) ⟨_,rfl,rfl,_,rfl,iteFS (sne (by decide)) ⟨_,rfl,cl,_,_,_,rfl,rfl,SqL.of ecl,at0 n ns,small2,fun r hr_=>q r _ (fr r _ hr_) upd_same⟩⟩⟩⟩
    · have e:wf 2 oc.lo oc.hi (n :: ns)=clash:=by
        show fLike _=_
        unfold fLike
        rw [if_neg fun z=>g (by rw [e1,e2];exact z)]
      have q:∀ (r:Addr) (H' : Hp),Same H H'→H' r=some (.tup (tp clash))→Q (.ref r) H':=by rw [← e];exact q
      rw [decide_eq_false (fun z=>g (V.int.inj z))]
      exact iteT ⟨small2,fun r hr_=>q r _ (fr r _ hr_) upd_same⟩
  | 3,hi6 =>
    cases hi6
    refine ⟨_,rfl,rfl,_,rfl,iteFS (sne (by decide)) (iteF ⟨_,rfl,rfl,_,rfl,iteFS (sne (by decide)) (iteF ⟨_,rfl,rfl,_,rfl,iteTS rfl ⟨_,rfl,cl,n :: ns,rfl,SqL.of ecl,Nat.succ_pos _,fun m h1 h2=>⟨small2,fun r hr_=>q r _ (fr r _ hr_) ?_⟩⟩⟩)⟩)⟩
    rw [upd_same,least_un h1 h2]
    rfl
  | 4,hi6 =>
    cases hi6
    refine ⟨_,rfl,rfl,_,rfl,iteFS (sne (by decide)) (iteF ⟨_,rfl,rfl,_,rfl,iteFS (sne (by decide)) (iteF ⟨_,rfl,rfl,_,rfl,iteFS (sne (by decide)) ⟨_,rfl,rfl,_,rfl,iteTS rfl ⟨_,rfl,cl,n :: ns,rfl,SqL.of ecl,Nat.succ_pos _,fun m h1 h2=>⟨small2,fun r hr_=>q r _ (fr r _ hr_) ?_⟩⟩⟩⟩)⟩)⟩
    rw [upd_same,great_un h1 h2]
    rfl
  | 5,hi6 =>
    cases hi6
    have h1:=ook.some_
    have hop1:=hop.mono s1.tups
    obtain ⟨ts',r1,ps',p1,ets,eps,_,er1⟩:=hop1.last (by intro z;rw [z] at hop1;have:=hop1.length;simp at this;omega)
    have il:atI ots (-1)=some (.ref r1):=by rw [ets];exact atI_last _ _
    have hhi:oc.hi=p1.2:=by unfold Col.hi;rw [eps];simp
    obtain ⟨p0,ep0,hlo⟩:=ook.first
    obtain ⟨r0,er0,hr0⟩:∃ r0,ots[0]?=some (.ref r0)∧H1 r0=some (.tup [.int p0.1,.int p0.2]):=by
      obtain ⟨x,ex⟩:∃ x,ots[0]?=some x:=⟨_,List.getElem?_eq_getElem (by rw [hop1.length];omega)⟩
      obtain ⟨p2,r2,f1,rfl,f2⟩:=hop1.get ex
      rw [ep0] at f1;cases f1
      exact ⟨r2,ex,f2⟩
    refine ⟨_,rfl,rfl,_,rfl,iteFS (sne (by decide)) (iteF ⟨_,rfl,rfl,_,rfl,iteFS (sne (by decide)) (iteF ⟨_,rfl,rfl,_,rfl,iteFS (sne (by decide)) ⟨_,rfl,rfl,_,rfl,iteFS (sne (by decide)) ⟨_,rfl,rfl,_,rfl,iteTS rfl ?_⟩⟩⟩)⟩)⟩
    refine ⟨_,rfl,ol,_,_,_,rfl,rfl,SqL.of eol1,rfl,opl,_,_,_,rfl,rfl,SqL.of eopl1,atI_nat (j:=0) er0,r0,_,_,_,rfl,rfl,SqT.of hr0,z0 _ _,_,rfl,ol,_,_,_,rfl,rfl,SqL.of eol1,rfl,_,rfl,opl,_,_,_,rfl,rfl,SqL.of eopl1,il,r1,_,_,_,rfl,rfl,SqT.of er1,z1 _ _,_,rfl,cl,n :: ns,rfl,SqL.of ecl,_,_,rfl,_,_,rfl,small2,fun r hr_=>q r _ (fr r _ hr_) ?_⟩
    rw [upd_same]
    have hle:=ook.le
    have e:near oc.lo oc.hi (n :: ns).sum=if (if (n :: ns).sum < oc.hi then (n :: ns).sum else oc.hi) > oc.lo then (if (n :: ns).sum < oc.hi then (n :: ns).sum else oc.hi) else oc.lo:=by
      unfold near
      generalize (n :: ns).sum=t
      split <;> split <;> split <;> first | rfl | omega | (split <;> omega)
    show _=some (HO.tup (tp (say (near oc.lo oc.hi (n :: ns).sum))))
    rw [e,hhi,← hlo]
    rfl
  | k+6,hi6=>simp [six] at hi6
theorem O_59 (F:Fun K "_law_knit" "_law_knit" Y54 f fd) (bl:Bl K mg qA qB qC qD qE qF qG qH qI qJ qK qL qM qN) (c__law_joint:Callee P w K mg base 1 "_law_joint" ["way", "one", "other"] (J53 K qA qB qC qD qE qF qG qH qI qJ qK qL qM qN)):FnOk P w K mg base CX0 2 f fd ["way", "bit_rows"] (J54 K qA qB qC qD qE qF qG qH qI qJ qK qL qM qN):=by
  refine F.ok Z54 (fun vs H Q E h=>?_) (fun cdv A outer s H vs Q E hr h=>?_)
  · obtain ⟨bl_,zs0,ws,wy,i,cs,oc,rfl,hbl,hz0,h200,hi,h4,hbo,q⟩:=h
    rfl
  obtain ⟨bl_,zs0,ws,wy,i,cs,oc,rfl,hbl,hz0,h200,hi,h4,hbo,q⟩:=h
  refine ⟨_,(pss_cons (ps_set (i:=2) Z54.nd rfl (Or.inl rfl) (pe_callTy call_list_of rfl bl.list_ PyProof.Rows.boot_list (pa_cons (pv 1) pa_nil)))
     (pss_cons (ps_set (i:=3) Z54.nd rfl (Or.inl rfl) pe_int)
     (pss_cons (ps_while PassesOwn.never (pt_cmpR op_lt (pe_op op_add (pv 3) pe_int) (pe_callB call_len_seq rfl bl.len_ PySem.boot_len (pa_cons (pv 2) pa_nil)) (nomark _))
     (pss_cons (ps_set (i:=4) Z54.nd rfl (Or.inl rfl) (pe_fn c__law_joint hr rfl (pa_cons (pv 0) (pa_cons (pe_ix ix_list (pv 2) (pv 3) (fun _ _=>rfl)) (pa_cons (pe_ix ix_list (pv 2) (pe_op op_add (pv 3) pe_int) (fun _ _=>rfl)) pa_nil)))))
     (pss_one (ps_if (pt_cmpR op_lt (pv 4) pe_int (nomark _))
     (pss_one (ps_set (i:=3) Z54.nd rfl (Or.inl rfl) (pe_op op_add (pv 3) pe_int)))
     (pss_cons (ps_set (i:=5) Z54.nd rfl (Or.inl rfl) (pe_callTy call_list_of rfl bl.list_ PyProof.Rows.boot_list (pa_cons (pe_ix ix_tup (pe_ix ix_list (pv 2) (pv 3) (fun _ _=>rfl)) pe_int (fun _ _=>rfl)) pa_nil)))
     (pss_cons (ps_asg (pe_op op_or (pe_ix ix_list (pv 5) (pv 4) (fun _ _=>rfl)) (pe_ix ix_list (pe_ix ix_tup (pe_ix ix_list (pv 2) (pe_op op_add (pv 3) pe_int) (fun _ _=>rfl)) pe_int (fun _ _=>rfl)) (pv 4) (fun _ _=>rfl))) (pg_sub (pv 5) (pv 4) set_list))
     (pss_cons (ps_set (i:=2) Z54.nd rfl (Or.inl rfl) (pe_op op_cat (pe_op op_cat (pe_slice sl_list (pv 2) po_none (po_some (pv 3))) (pe_lst (pa_cons (pe_tup (pa_cons (pv 5) (pa_cons (pe_ix ix_tup (pe_ix ix_list (pv 2) (pv 3) (fun _ _=>rfl)) pe_int (fun _ _=>rfl)) pa_nil))) pa_nil))) (pe_slice sl_list (pv 2) (po_some (pe_op op_add (pv 3) pe_int)) po_none)))
     (pss_one (ps_set (i:=3) Z54.nd rfl (Or.inl rfl) pe_int)))))))))
     (pss_one (ps_ret (pv 2)))))),?_⟩
  refine ⟨_,rfl,bl_,_,rfl,.inl (SqL.of hbl),fun l0 hl0=>?_⟩
  have s0:=same_new hl0 (.lst zs0)
  have e0:upd H l0 (.lst zs0) l0=some (.lst zs0):=upd_same
  generalize upd H l0 (.lst zs0)=H0 at s0 e0 ⊢
  refine ⟨fun m σ H'=>Same H H'∧∃ (l:Addr) (zs:List V) (cur:List BW) (k:Nat) (c4 c5:Option V),m=cur.length * 1000+(cur.length - k)∧H' l=some (.lst zs)∧BRL NT H' zs cur∧cur.length≤200∧(∀ w ∈ cur,BitOk cs oc w)∧(∀ r,Nf (cn i) cur r→Nf (cn i) ws r)∧Clr (cn i) cur k∧σ=[some (.str wy),some (.ref bl_),some (.ref l),some (.int (k:Int)),c4,c5],⟨_,s0,l0,zs0,ws,0,_,_,rfl,e0,hz0.same s0,h200,hbo,(fun _ h=>h),(fun j u v hj=>absurd hj (by omega)),rfl⟩,?_⟩
  rintro m σ H1 ⟨s1,l,zs,cur,k,c4,c5,hm,el,hz,hcl,hcb,hreach,clr,rfl⟩
  have hzl:zs.length=cur.length:=hz.1
  refine ⟨_,rfl,_,_,rfl,rfl,_,rfl,l,_,rfl,.inl (SqL.of el),_,_,rfl,rfl,_,rfl,ite2 (fun g=>?_) (fun g=>?_)⟩
  rotate_left
  · have g:¬ ((k:Int)+1 < ((zs.length:Nat):Int)):=fun z=>g (decide_eq_true z)
    exact ⟨_,rfl,q l zs cur H1 s1 el hz (hreach cur (.fin (clr.all (by omega))))⟩
  have g:(k:Int)+1 < ((zs.length:Nat):Int):=of_decide_eq_true g
  obtain ⟨w_,e1⟩:∃ w,cur[k]?=some w:=⟨_,List.getElem?_eq_getElem (by omega)⟩
  obtain ⟨w',e2⟩:∃ w',cur[k+1]?=some w':=⟨_,List.getElem?_eq_getElem (by omega)⟩
  obtain ⟨r,f1,h1⟩:=hz.2 k _ e1
  obtain ⟨r',f2,h2⟩:=hz.2 (k+1) _ e2
  have b1:=hcb w_ (List.mem_of_getElem? e1)
  have b2:=hcb w' (List.mem_of_getElem? e2)
  have i2:atI zs ((k:Int)+1)=some (.ref r'):=by rw [show ((k:Int)+1)=((k+1:Nat):Int) by omega];exact atI_nat f2
  have lw:w_.1.length=cs.length:=b1.len
  have lw' : w'.1.length=cs.length:=b2.len
  refine ⟨fun σ' H'=>∃ m',m' < m∧(Same H H'∧∃ (l:Addr) (zs:List V) (cur:List BW) (k:Nat) (c4 c5:Option V),m'=cur.length * 1000+(cur.length - k)∧H' l=some (.lst zs)∧BRL NT H' zs cur∧cur.length≤200∧(∀ w ∈ cur,BitOk cs oc w)∧(∀ r,Nf (cn i) cur r→Nf (cn i) ws r)∧Clr (cn i) cur k∧σ'=[some (.str wy),some (.ref bl_),some (.ref l),some (.int (k:Int)),c4,c5]),(fun _ _ h=>h),?_⟩
  refine ⟨_,rfl,_,rfl,_,rfl,l,_,_,_,rfl,rfl,SqL.of el,atI_nat f1,_,rfl,_,rfl,_,_,rfl,rfl,l,_,_,_,rfl,rfl,SqL.of el,i2,r,r',w_,w',wy,i,rfl,h1,h2,hi,by rw [lw,lw'],by omega,fun c H2 s2 ec fs=>?_,fun H2 s2 hno=>?_⟩
  rotate_left
  · refine ⟨_,rfl,_,_,rfl,rfl,_,rfl,iteTS (by decide) ⟨_,rfl,_,_,rfl,rfl,_,?_,s1.trans s2,l,zs,cur,k+1,_,_,rfl,s2 _ _ el,hz.same s2,hcl,hcb,hreach,clr.succ e1 e2 hno,rfl⟩⟩
    omega
  have hc:c < w_.1.length:=fs.1.1
  obtain ⟨ba,er,_,eba⟩:=h1.same s2
  obtain ⟨bb,er',_,ebb⟩:=h2.same s2
  obtain ⟨b,eb⟩:∃ b,w_.1[c]?=some b:=⟨_,List.getElem?_eq_getElem hc⟩
  obtain ⟨b',eb'⟩:∃ b',w'.1[c]?=some b':=⟨_,List.getElem?_eq_getElem (by omega)⟩
  have el2:=s2 _ _ el
  refine ⟨_,rfl,_,_,rfl,rfl,_,rfl,iteFS (by omega) ?_⟩
  refine ⟨_,rfl,_,rfl,l,_,_,_,rfl,rfl,SqL.of el2,atI_nat f1,r,_,_,_,rfl,rfl,SqT.of er,rfl,ba,_,rfl,.inl (SqL.of eba),fun d hd=>?_⟩
  have t3:=same_new hd (.lst (vN w_.1))
  have ed:upd H2 d (.lst (vN w_.1)) d=some (.lst (vN w_.1)):=upd_same
  generalize upd H2 d (.lst (vN w_.1))=H3 at t3 ed ⊢
  refine ⟨_,rfl,_,rfl,d,_,_,_,rfl,rfl,SqL.of ed,atI_nat (vN_at eb),_,rfl,_,rfl,_,_,rfl,rfl,l,_,_,_,rfl,rfl,SqL.of (t3 _ _ el2),i2,r',_,_,_,rfl,rfl,SqT.of (t3 _ _ er'),rfl,_,rfl,bb,_,_,_,rfl,rfl,SqL.of (t3 _ _ ebb),atI_nat (vN_at eb'),_,_,rfl,rfl,_,rfl,_,rfl,d,_,_,_,rfl,rfl,ed,ixN_nat (by rw [vN_len];exact hc),?_⟩
  have em:(vN w_.1).set c (V.int (Builtin.bitOr (b:Int) (b' : Int)))=vN (w_.1.set c (b ||| b')):=by rw [or_nat,vN_set]
  rw [em]
  have t4:Same H2 (upd H3 d (.lst (vN (w_.1.set c (b ||| b'))))):=t3.upd hd
  have ed4:upd H3 d (.lst (vN (w_.1.set c (b ||| b')))) d=some (.lst (vN (w_.1.set c (b ||| b')))):=upd_same
  generalize upd H3 d (.lst (vN (w_.1.set c (b ||| b'))))=H4 at t4 ed4 ⊢
  have ej:jnw w_ w' c=(w_.1.set c (b ||| b'),w_.2):=by unfold jnw;rw [getD_some eb,getD_some eb']
  have s4:=s2.trans t4
  refine ⟨_,rfl,_,rfl,_,rfl,l,zs,rfl,SqL.of (s4 _ _ el),fun c1 hc1=>?_⟩
  rw [cutTake]
  have u1:=same_new hc1 (.lst (zs.take k))
  have g1:upd H4 c1 (.lst (zs.take k)) c1=some (.lst (zs.take k)):=upd_same
  generalize upd H4 c1 (.lst (zs.take k))=H5 at u1 g1 ⊢
  have s5:=s4.trans u1
  refine ⟨_,rfl,_,rfl,_,rfl,l,_,_,_,rfl,rfl,SqL.of (s5 _ _ el),atI_nat f1,r,_,_,_,rfl,rfl,SqT.of (u1 _ _ (t4 _ _ er)),rfl,small2,fun t ht=>?_⟩
  have u2:=same_new ht (.tup [.ref d,.int w_.2])
  have et:upd H5 t (.tup [.ref d,.int w_.2]) t=some (.tup [.ref d,.int w_.2]):=upd_same
  generalize upd H5 t (.tup [.ref d,.int w_.2])=H6 at u2 et ⊢
  refine ⟨(by show 1≤sizeLine;decide),fun c2 hc2=>?_⟩
  have u3:=same_new hc2 (.lst [V.ref t])
  have g2:upd H6 c2 (.lst [V.ref t]) c2=some (.lst [V.ref t]):=upd_same
  generalize upd H6 c2 (.lst [V.ref t])=H7 at u3 g2 ⊢
  refine ⟨c1,c2,_,_,rfl,rfl,u3 _ _ (u2 _ _ g1),g2,Nat.le_of_lt (small1000 (by rw [List.length_take,List.length_singleton];omega)),fun c3 hc3=>?_⟩
  have u4:=same_new hc3 (.lst (zs.take k ++ [V.ref t]))
  have g3:upd H7 c3 (.lst (zs.take k ++ [V.ref t])) c3=some (.lst (zs.take k ++ [V.ref t])):=upd_same
  generalize upd H7 c3 (.lst (zs.take k ++ [V.ref t]))=H8 at u4 g3 ⊢
  have s8:=((s5.trans u2).trans u3).trans u4
  refine ⟨_,rfl,_,rfl,_,_,rfl,rfl,_,rfl,l,zs,rfl,SqL.of (s8 _ _ el),fun c4' hc4=>?_⟩
  rw [show ((k:Int)+2)=((k+2:Nat):Int) by omega,cutDrop]
  have u5:=same_new hc4 (.lst (zs.drop (k+2)))
  have g4:upd H8 c4' (.lst (zs.drop (k+2))) c4'=some (.lst (zs.drop (k+2))):=upd_same
  generalize upd H8 c4' (.lst (zs.drop (k+2)))=H9 at u5 g4 ⊢
  refine ⟨c3,c4',_,_,rfl,rfl,u5 _ _ g3,g4,Nat.le_of_lt (small1000 (by rw [List.length_append,List.length_take,List.length_drop,List.length_singleton];omega)),fun c5' hc5=>?_⟩
  have u6:=same_new hc5 (.lst (zs.take k ++ [V.ref t] ++ zs.drop (k+2)))
  have v6:=((u3.trans u4).trans u5).trans u6
  have sA:=(s8.trans u5).trans u6
  have hrow:BRowA NT (upd H9 c5' (.lst (zs.take k ++ [V.ref t] ++ zs.drop (k+2)))) t (jnw w_ w' c):=by
    rw [ej]
    exact ⟨d,v6 _ _ et,trivial,v6 _ _ (u2 _ _ (u1 _ _ ed4))⟩
  have st:StK (cn i) cur (cur.take k ++ [jnw w_ w' c] ++ cur.drop (k+2)):=⟨k,w_,w',c,e1,e2,ec,fs,clr,rfl⟩
  have hl1:=st.len
  refine ⟨cur.length.pred * 1000+cur.length.pred,?_,s1.trans sA,c5',_,cur.take k ++ [jnw w_ w' c] ++ cur.drop (k+2),0,_,_,?_,upd_same,RefL.app (RefL.app (BRL.same (RefL.take hz k) sA) (RefL.one hrow)) (BRL.same (RefL.drop hz (k+2)) sA),by omega,st.ok hcb,(fun r h=>hreach r (.go st h)),(fun j u v hj=>absurd hj (by omega)),rfl⟩
  · have:cur.length.pred+1=cur.length:=by show cur.length - 1+1=_;omega
    omega
  · have:(cur.take k ++ [jnw w_ w' c] ++ cur.drop (k+2)).length=cur.length.pred:=by show _=cur.length - 1;omega
    rw [this];omega
theorem O_60 (F:Fun K "_law_like" "_law_like" Y55 f fd) (bl:Bl K mg qA qB qC qD qE qF qG qH qI qJ qK qL qM qN) (c_alike:Callee P w K mg base 1 "alike" ["one", "other"] (J31 K qA qB qC qD qE qF qG qH qI qJ qK qL qM qN)):FnOk P w K mg base CX0 2 f fd ["found", "table", "rows"] (J55 K qA qB qC qD qE qF qG qH qI qJ qK qL qM qN):=by
  refine F.ok Z55 (fun vs H Q E h=>?_) (fun cdv A outer s H vs Q E hr h=>?_)
  · obtain ⟨f,t,rl,ou,nm,wy,zs,dv,rx,rws,rws0,cs,oc,rfl,⟨frl,dx,fna,fdl,fs,fxs,hf,f1,f2,f3,f4,f5,f6,fena,fedl,ferl,fR,f200⟩,⟨trl,tx,tna,tdl,ts,txs,ht,k1,k2,k3,k4,k5,k6,tena,tedl,terl,tR,t200⟩,hrl,hR2,hdv,hou,q⟩:=h
    rfl
  obtain ⟨f,t,rl,ou,nm,wy,zs,dv,rx,rws,rws0,cs,oc,rfl,⟨frl,dx,fna,fdl,fs,fxs,hf,f1,f2,f3,f4,f5,f6,fena,fedl,ferl,fR,f200⟩,⟨trl,tx,tna,tdl,ts,txs,ht,k1,k2,k3,k4,k5,k6,tena,tedl,terl,tR,t200⟩,hrl,hR2,hdv,hou,q⟩:=h
  refine ⟨_,(pss_cons (ps_if (PW.pt (pw_or (pt_not (pt_val (pe_callB call_isiG rfl bl.isinstance_ PyProof.Rows.boot_isinstance (pa_cons (pv 0) (pa_cons (pe_glob (v:=.ref qK) rfl bl.Table_ rfl) pa_nil))))) (pw_or (pt_cmpR op_ne (pe_fld (pv 0) rfl) (pe_fld (pv 1) rfl) (nomark _)) (pw_or1 (pt_cmpR (op_neL hr) (pe_fld (pv 0) rfl) (pe_fld (pv 1) rfl) (nomark _))))))
     (pss_one (ps_ret pe_bl))
     pss_nil)
     (pss_cons (ps_if (PW.pt (pw_or (pt_cmpR op_ne (pe_fld (pv 0) rfl) (pe_fld (pv 1) rfl) (nomark _)) (pw_or (pt_cmpR (op_neDL hr) (pe_fld (pv 0) rfl) (pv 2) (nomark _)) (pw_or1 (pt_not (pt_val (pe_fn c_alike hr rfl (pa_cons (pe_fld (pv 0) rfl) (pa_cons (pe_fld (pv 1) rfl) pa_nil)))))))))
     (pss_one (ps_ret pe_bl))
     pss_nil)
     (pss_cons (ps_for PassesOwn.never rfl (pi_zip rfl bl.zip_ (pa_cons (pe_fld (pv 0) rfl) (pa_cons (pe_fld (pv 1) rfl) pa_nil))) (pg_tup rfl (pgs_cons (pg_name (i:=3) Z55.nd rfl (Or.inl rfl)) (pgs_cons (pg_name (i:=4) Z55.nd rfl (Or.inl rfl)) pgs_nil)))
     (pss_one (ps_if (pt_not (pt_val (pe_fn c_alike hr rfl (pa_cons (pv 3) (pa_cons (pv 4) pa_nil)))))
     (pss_one (ps_ret pe_bl))
     pss_nil)))
     (pss_one (ps_ret (pe_cmpR op_eq (pe_callB call_len_seq rfl bl.len_ PySem.boot_len (pa_cons (pe_fld (pv 0) rfl) pa_nil)) (pe_callB call_len_seq rfl bl.len_ PySem.boot_len (pa_cons (pe_fld (pv 1) rfl) pa_nil)) (nomark _))))))),?_⟩
  refine ⟨_,rfl,_,_,_,_,true,rfl,.ref _,bl.t_Table.ty hf,bl.f_tt,_,rfl,iteF ?_⟩
  refine ⟨_,rfl,f,_,_,_,_,rfl,hf,bl.k_Table,bl.na_Table_name,f2,_,rfl,t,_,_,_,_,rfl,ht,bl.k_Table,bl.na_Table_name,k2,rfl,_,rfl,iteNS rfl ?_⟩
  refine ⟨_,rfl,f,_,_,_,_,rfl,hf,bl.k_Table,bl.na_Table_names,f5,_,rfl,t,_,_,_,_,rfl,ht,bl.k_Table,bl.na_Table_names,k5,rNeL_same (SqL.of fena) (SqL.of tena) (fun x hx=>.inl (List.all_eq_true.mp (flat_strs zs) x hx)) ⟨_,rfl,iteF ?_⟩⟩
  refine ⟨_,rfl,f,_,_,_,_,rfl,hf,bl.k_Table,bl.na_Table_way,f3,_,rfl,t,_,_,_,_,rfl,ht,bl.k_Table,bl.na_Table_way,k3,rfl,_,rfl,iteNS rfl ?_⟩
  refine ⟨_,rfl,f,_,_,_,_,rfl,hf,bl.k_Table,bl.na_Table_rows,f1,_,rfl,neDL_same (SqL.of ferl) (SqL.of hrl) (by rw [fR.1,hR2.1]) (deq_rows fR hR2) ⟨_,rfl,iteF ?_⟩⟩
  refine ⟨_,rfl,f,_,_,_,_,rfl,hf,bl.k_Table,bl.na_Table_outcome,f4,_,rfl,t,_,_,_,_,rfl,ht,bl.k_Table,bl.na_Table_outcome,k4,ou,ou,oc,rfl,hou,hou,_,rfl,iteF ?_⟩
  refine ⟨_,rfl,f,_,_,_,_,rfl,hf,bl.k_Table,bl.na_Table_domains,f6,_,rfl,t,_,_,_,_,rfl,ht,bl.k_Table,bl.na_Table_domains,k6,fdl,tdl,rfl,⟨_,SqL.of fedl⟩,⟨_,SqL.of tedl⟩,for_zip (xs:=dv) (ys:=dv) (fun i σ H'=>Same H H'∧∃ c4 c5:Option V,σ=[some (.ref f),some (.ref t),some (.ref rl),c4,c5]) ⟨Same.refl _,_,_,rfl⟩ (fun i σ H' h=>⟨SqL.of (h.1 _ _ fedl),SqL.of (h.1 _ _ tedl)⟩) (fun i x y σ H' T ex ey h hT=>?_) (fun σ H' h=>?_)⟩
  · obtain ⟨sm,c4,c5,rfl⟩:=h
    have s2:=sm.trans (same_new hT (.tup [x,y]))
    have eT:upd H' T (.tup [x,y]) T=some (.tup [x,y]):=upd_same
    generalize upd H' T (.tup [x,y])=H2 at s2 eT ⊢
    rw [ex] at ey
    cases ey
    obtain ⟨a,c,rfl,ec,ha⟩:=RefL.get hdv ex
    refine ⟨T,_,rfl,SqT.of eT,rfl,_,_,rfl,_,_,rfl,rfl,?_⟩
    exact ⟨_,rfl,_,rfl,a,a,c,rfl,ha.same s2,ha.same s2,_,rfl,iteF ⟨s2,_,_,rfl⟩⟩
  · obtain ⟨sm,c4,c5,rfl⟩:=h
    refine ⟨_,rfl,f,_,_,_,_,rfl,sm _ _ hf,bl.k_Table,bl.na_Table_domains,f6,fdl,_,rfl,.inl (SqL.of (sm _ _ fedl)),_,rfl,t,_,_,_,_,rfl,sm _ _ ht,bl.k_Table,bl.na_Table_domains,k6,tdl,_,rfl,.inl (SqL.of (sm _ _ tedl)),rfl,?_⟩
    rw [decide_eq_true rfl]
    exact q H' sm
theorem O_4 (F:Fun K "__init__" "First.__init__" Y4 f fd) (bl:Bl K mg qA qB qC qD qE qF qG qH qI qJ qK qL qM qN) (b_Way___init___First:BCallee CX0 P w K mg base 1 "Way" "__init__" ["self", "called"] (J18 K qA qB qC qD qE qF qG qH qI qJ qK qL qM qN)):FnOk P w K mg base CX0 2 f fd ["self"] (J4 K qA qB qC qD qE qF qG qH qI qJ qK qL qM qN):=by
  refine F.ok Z4 (fun vs H Q E h=>?_) (fun cdv A outer s H vs Q E hr h=>?_)
  · obtain ⟨x,dx,rfl,hx,q⟩:=h
    rfl
  obtain ⟨x,dx,rfl,hx,q⟩:=h
  refine ⟨_,(pss_one (ps_expr (pe_base b_Way___init___First pass0 hr rfl (pa_cons (pv 0) (pa_cons pe_str pa_nil))))),?_⟩
  exact ⟨_,rfl,x,dx,_,rfl,hx,q⟩
theorem O_13 (F:Fun K "__init__" "Only.__init__" Y13 f fd) (bl:Bl K mg qA qB qC qD qE qF qG qH qI qJ qK qL qM qN) (b_Way___init___Only:BCallee CX0 P w K mg base 1 "Way" "__init__" ["self", "called"] (J22 K qA qB qC qD qE qF qG qH qI qJ qK qL qM qN)):FnOk P w K mg base CX0 2 f fd ["self"] (J13 K qA qB qC qD qE qF qG qH qI qJ qK qL qM qN):=by
  refine F.ok Z13 (fun vs H Q E h=>?_) (fun cdv A outer s H vs Q E hr h=>?_)
  · obtain ⟨x,dx,rfl,hx,q⟩:=h
    rfl
  obtain ⟨x,dx,rfl,hx,q⟩:=h
  refine ⟨_,(pss_one (ps_expr (pe_base b_Way___init___Only pass0 hr rfl (pa_cons (pv 0) (pa_cons pe_str pa_nil))))),?_⟩
  exact ⟨_,rfl,x,dx,_,rfl,hx,q⟩
theorem O_8 (F:Fun K "__init__" "Like.__init__" Y8 f fd) (bl:Bl K mg qA qB qC qD qE qF qG qH qI qJ qK qL qM qN) (b_Way___init___Like:BCallee CX0 P w K mg base 1 "Way" "__init__" ["self", "called"] (J20 K qA qB qC qD qE qF qG qH qI qJ qK qL qM qN)):FnOk P w K mg base CX0 2 f fd ["self"] (J8 K qA qB qC qD qE qF qG qH qI qJ qK qL qM qN):=by
  refine F.ok Z8 (fun vs H Q E h=>?_) (fun cdv A outer s H vs Q E hr h=>?_)
  · obtain ⟨x,dx,rfl,hx,q⟩:=h
    rfl
  obtain ⟨x,dx,rfl,hx,q⟩:=h
  refine ⟨_,(pss_one (ps_expr (pe_base b_Way___init___Like pass0 hr rfl (pa_cons (pv 0) (pa_cons pe_str pa_nil))))),?_⟩
  exact ⟨_,rfl,x,dx,_,rfl,hx,q⟩
theorem O_10 (F:Fun K "__init__" "Low.__init__" Y10 f fd) (bl:Bl K mg qA qB qC qD qE qF qG qH qI qJ qK qL qM qN) (b_Way___init___Low:BCallee CX0 P w K mg base 1 "Way" "__init__" ["self", "called"] (J21 K qA qB qC qD qE qF qG qH qI qJ qK qL qM qN)):FnOk P w K mg base CX0 2 f fd ["self"] (J10 K qA qB qC qD qE qF qG qH qI qJ qK qL qM qN):=by
  refine F.ok Z10 (fun vs H Q E h=>?_) (fun cdv A outer s H vs Q E hr h=>?_)
  · obtain ⟨x,dx,rfl,hx,q⟩:=h
    rfl
  obtain ⟨x,dx,rfl,hx,q⟩:=h
  refine ⟨_,(pss_one (ps_expr (pe_base b_Way___init___Low pass0 hr rfl (pa_cons (pv 0) (pa_cons pe_str pa_nil))))),?_⟩
  exact ⟨_,rfl,x,dx,_,rfl,hx,q⟩
theorem O_6 (F:Fun K "__init__" "High.__init__" Y6 f fd) (bl:Bl K mg qA qB qC qD qE qF qG qH qI qJ qK qL qM qN) (b_Way___init___High:BCallee CX0 P w K mg base 1 "Way" "__init__" ["self", "called"] (J19 K qA qB qC qD qE qF qG qH qI qJ qK qL qM qN)):FnOk P w K mg base CX0 2 f fd ["self"] (J6 K qA qB qC qD qE qF qG qH qI qJ qK qL qM qN):=by
  refine F.ok Z6 (fun vs H Q E h=>?_) (fun cdv A outer s H vs Q E hr h=>?_)
  · obtain ⟨x,dx,rfl,hx,q⟩:=h
    rfl
  obtain ⟨x,dx,rfl,hx,q⟩:=h
  refine ⟨_,(pss_one (ps_expr (pe_base b_Way___init___High pass0 hr rfl (pa_cons (pv 0) (pa_cons pe_str pa_nil))))),?_⟩
  exact ⟨_,rfl,x,dx,_,rfl,hx,q⟩
theorem O_15 (F:Fun K "__init__" "Sum.__init__" Y15 f fd) (bl:Bl K mg qA qB qC qD qE qF qG qH qI qJ qK qL qM qN) (b_Way___init___Sum:BCallee CX0 P w K mg base 1 "Way" "__init__" ["self", "called"] (J23 K qA qB qC qD qE qF qG qH qI qJ qK qL qM qN)):FnOk P w K mg base CX0 2 f fd ["self"] (J15 K qA qB qC qD qE qF qG qH qI qJ qK qL qM qN):=by
  refine F.ok Z15 (fun vs H Q E h=>?_) (fun cdv A outer s H vs Q E hr h=>?_)
  · obtain ⟨x,dx,rfl,hx,q⟩:=h
    rfl
  obtain ⟨x,dx,rfl,hx,q⟩:=h
  refine ⟨_,(pss_one (ps_expr (pe_base b_Way___init___Sum pass0 hr rfl (pa_cons (pv 0) (pa_cons pe_str pa_nil))))),?_⟩
  exact ⟨_,rfl,x,dx,_,rfl,hx,q⟩
theorem O_2 (F:Fun K "has_code" "Domain.has_code" Y2 f fd) (bl:Bl K mg qA qB qC qD qE qF qG qH qI qJ qK qL qM qN) (c_is_whole:Callee P w K mg base 1 "is_whole" ["value"] (J37 K qA qB qC qD qE qF qG qH qI qJ qK qL qM qN)):FnOk P w K mg base CX0 2 f fd ["self", "value"] (J2 K qA qB qC qD qE qF qG qH qI qJ qK qL qM qN):=by
  refine F.ok Z2 (fun vs H Q E h=>?_) (fun cdv A outer s H vs Q E hr h=>?_)
  · obtain ⟨a,b,i,rfl,⟨dx,fs,ha,hl,hh,_⟩,h1,h2,q⟩:=h
    rfl
  obtain ⟨a,b,i,rfl,⟨dx,fs,ha,hl,hh,_⟩,h1,h2,q⟩:=h
  refine ⟨_,(pss_one (ps_ret (pe_and (pe_fn c_is_whole hr rfl (pa_cons (pv 1) pa_nil)) (pe_one (pe_chain op_le op_le (pe_fld (pv 0) rfl) (pv 1) (pe_fld (pv 0) rfl)))))),?_⟩
  refine ⟨_,rfl,i,rfl,_,rfl,iteT ?_⟩
  refine ⟨_,rfl,a,_,_,_,_,rfl,ha,bl.k_Numbers,bl.na_Numbers_low,hl,_,rfl,_,_,rfl,rfl,_,rfl,iteTS h1 ?_⟩
  refine ⟨_,rfl,a,_,_,_,_,rfl,ha,bl.k_Numbers,bl.na_Numbers_high,hh,_,_,rfl,rfl,?_⟩
  show Q (.bl (decide (i≤b.2))) H
  rw [decide_eq_true h2]
  exact q
theorem O_3 (F:Fun K "has_code" "Domain.has_code" Y3 f fd) (bl:Bl K mg qA qB qC qD qE qF qG qH qI qJ qK qL qM qN) (c_is_whole:Callee P w K mg base 1 "is_whole" ["value"] (J37 K qA qB qC qD qE qF qG qH qI qJ qK qL qM qN)):FnOk P w K mg base CX0 2 f fd ["self", "value"] (J3 K qA qB qC qD qE qF qG qH qI qJ qK qL qM qN):=by
  refine F.ok Z3 (fun vs H Q E h=>?_) (fun cdv A outer s H vs Q E hr h=>?_)
  · obtain ⟨a,b,i,rfl,⟨dx,fs,ha,hl,hh,_⟩,h1,h2,q⟩:=h
    rfl
  obtain ⟨a,b,i,rfl,⟨dx,fs,ha,hl,hh,_⟩,h1,h2,q⟩:=h
  refine ⟨_,(pss_one (ps_ret (pe_and (pe_fn c_is_whole hr rfl (pa_cons (pv 1) pa_nil)) (pe_one (pe_chain op_le op_le (pe_fld (pv 0) rfl) (pv 1) (pe_fld (pv 0) rfl)))))),?_⟩
  refine ⟨_,rfl,i,rfl,_,rfl,iteT ?_⟩
  refine ⟨_,rfl,a,_,_,_,_,rfl,ha,bl.k_Words,bl.na_Words_low,hl,_,rfl,_,_,rfl,rfl,_,rfl,iteTS h1 ?_⟩
  refine ⟨_,rfl,a,_,_,_,_,rfl,ha,bl.k_Words,bl.na_Words_high,hh,_,_,rfl,rfl,?_⟩
  show Q (.bl (decide (i≤b.2))) H
  rw [decide_eq_true h2]
  exact q
theorem O_12 (F:Fun K "__init__" "Numbers.__init__" Y12 f fd) (bl:Bl K mg qA qB qC qD qE qF qG qH qI qJ qK qL qM qN) (b_Domain___init___Numbers:BCallee CX0 P w K mg base 1 "Domain" "__init__" ["self", "low", "high"] (J0 K qA qB qC qD qE qF qG qH qI qJ qK qL qM qN)):FnOk P w K mg base CX0 2 f fd ["self", "low", "high"] (J12 K qA qB qC qD qE qF qG qH qI qJ qK qL qM qN):=by
  refine F.ok Z12 (fun vs H Q E h=>?_) (fun cdv A outer s H vs Q E hr h=>?_)
  · obtain ⟨x,dx,lo,hi,rfl,hx,hle,q⟩:=h
    rfl
  obtain ⟨x,dx,lo,hi,rfl,hx,hle,q⟩:=h
  refine ⟨_,(pss_cons (ps_if (pt_cmpR op_gt (pv 1) (pv 2) (nomark _))
     (pss_one ps_never)
     pss_nil)
     (pss_one (ps_expr (pe_base b_Domain___init___Numbers pass0 hr rfl (pa_cons (pv 0) (pa_cons (pv 1) (pa_cons (pv 2) pa_nil))))))),?_⟩
  exact ⟨_,rfl,_,rfl,_,_,rfl,rfl,_,rfl,iteFS (by omega) ⟨_,rfl,_,rfl,_,rfl,x,dx,lo,hi,rfl,hx,q⟩⟩
theorem O_24 (F:Fun K "verdict" "Way.verdict" Y24 f fd) (bl:Bl K mg qA qB qC qD qE qF qG qH qI qJ qK qL qM qN) (m_First_chosen_First:MCallee CX0 P w K mg base 1 qB "chosen" ["self", "codes", "outcome"] (J5 K qA qB qC qD qE qF qG qH qI qJ qK qL qM qN)):FnOk P w K mg base CX0 2 f fd ["self", "codes", "outcome"] (J24 K qA qB qC qD qE qF qG qH qI qJ qK qL qM qN):=by
  refine F.ok Z24 (fun vs H Q E h=>?_) (fun cdv A outer s H vs Q E hr h=>?_)
  · obtain ⟨x,c,o,ns,b,rfl,⟨dx,z,hx⟩,ho,hle,hS,hn,q⟩:=h
    rfl
  obtain ⟨x,c,o,ns,b,rfl,⟨dx,z,hx⟩,ho,hle,hS,hn,q⟩:=h
  refine ⟨_,(pss_cons (ps_if (pt_not (pt_truth (pv 1) (by intro _;rfl)))
     (pss_one (ps_ret (pe_glob (v:=.ref qL) rfl bl.NONE_ rfl)))
     pss_nil)
     (pss_one (ps_ret (pe_mt m_First_chosen_First pass0 bl.k_First hr (pv 0) (pa_cons (pv 1) (pa_cons (pv 2) pa_nil)))))),?_⟩
  refine ⟨_,rfl,!(ns.map V.int).isEmpty,.inl ⟨_,hS,rfl⟩,?_⟩
  cases ns with
  | nil=>exact iteT (q _ _ (Same.refl _) (bl.q_NONE.sq _))
  | cons n ns=>exact iteF ⟨_,rfl,x,_,_,rfl,hx,rfl,_,rfl,_,rfl,x,c,o,n,ns,b,rfl,⟨dx,z,hx⟩,ho,hle,hS,Nat.lt_of_succ_lt hn,q⟩
theorem O_28 (F:Fun K "verdict" "Way.verdict" Y28 f fd) (bl:Bl K mg qA qB qC qD qE qF qG qH qI qJ qK qL qM qN) (m_Only_chosen_Only:MCallee CX0 P w K mg base 1 qC "chosen" ["self", "codes", "outcome"] (J14 K qA qB qC qD qE qF qG qH qI qJ qK qL qM qN)):FnOk P w K mg base CX0 2 f fd ["self", "codes", "outcome"] (J28 K qA qB qC qD qE qF qG qH qI qJ qK qL qM qN):=by
  refine F.ok Z28 (fun vs H Q E h=>?_) (fun cdv A outer s H vs Q E hr h=>?_)
  · obtain ⟨x,c,o,ns,b,rfl,⟨dx,z,hx⟩,ho,hle,hS,hn,q⟩:=h
    rfl
  obtain ⟨x,c,o,ns,b,rfl,⟨dx,z,hx⟩,ho,hle,hS,hn,q⟩:=h
  refine ⟨_,(pss_cons (ps_if (pt_not (pt_truth (pv 1) (by intro _;rfl)))
     (pss_one (ps_ret (pe_glob (v:=.ref qL) rfl bl.NONE_ rfl)))
     pss_nil)
     (pss_one (ps_ret (pe_mt m_Only_chosen_Only pass0 bl.k_Only hr (pv 0) (pa_cons (pv 1) (pa_cons (pv 2) pa_nil)))))),?_⟩
  refine ⟨_,rfl,!(ns.map V.int).isEmpty,.inl ⟨_,hS,rfl⟩,?_⟩
  cases ns with
  | nil=>exact iteT (q _ _ (Same.refl _) (bl.q_NONE.sq _))
  | cons n ns=>exact iteF ⟨_,rfl,x,_,_,rfl,hx,rfl,_,rfl,_,rfl,x,c,o,n,ns,b,rfl,⟨dx,z,hx⟩,ho,hle,hS,Nat.lt_of_succ_lt hn,q⟩
theorem O_26 (F:Fun K "verdict" "Way.verdict" Y26 f fd) (bl:Bl K mg qA qB qC qD qE qF qG qH qI qJ qK qL qM qN) (m_Like_chosen_Like:MCallee CX0 P w K mg base 1 qD "chosen" ["self", "codes", "outcome"] (J9 K qA qB qC qD qE qF qG qH qI qJ qK qL qM qN)):FnOk P w K mg base CX0 2 f fd ["self", "codes", "outcome"] (J26 K qA qB qC qD qE qF qG qH qI qJ qK qL qM qN):=by
  refine F.ok Z26 (fun vs H Q E h=>?_) (fun cdv A outer s H vs Q E hr h=>?_)
  · obtain ⟨x,c,o,ns,b,rfl,⟨dx,z,hx⟩,ho,hle,hS,hn,q⟩:=h
    rfl
  obtain ⟨x,c,o,ns,b,rfl,⟨dx,z,hx⟩,ho,hle,hS,hn,q⟩:=h
  refine ⟨_,(pss_cons (ps_if (pt_not (pt_truth (pv 1) (by intro _;rfl)))
     (pss_one (ps_ret (pe_glob (v:=.ref qL) rfl bl.NONE_ rfl)))
     pss_nil)
     (pss_one (ps_ret (pe_mt m_Like_chosen_Like pass0 bl.k_Like hr (pv 0) (pa_cons (pv 1) (pa_cons (pv 2) pa_nil)))))),?_⟩
  refine ⟨_,rfl,!(ns.map V.int).isEmpty,.inl ⟨_,hS,rfl⟩,?_⟩
  cases ns with
  | nil=>exact iteT (q _ _ (Same.refl _) (bl.q_NONE.sq _))
  | cons n ns=>exact iteF ⟨_,rfl,x,_,_,rfl,hx,rfl,_,rfl,_,rfl,x,c,o,n,ns,b,rfl,⟨dx,z,hx⟩,ho,hle,hS,Nat.lt_of_succ_lt hn,q⟩
theorem O_27 (F:Fun K "verdict" "Way.verdict" Y27 f fd) (bl:Bl K mg qA qB qC qD qE qF qG qH qI qJ qK qL qM qN) (m_Low_chosen_Low:MCallee CX0 P w K mg base 1 qE "chosen" ["self", "codes", "outcome"] (J11 K qA qB qC qD qE qF qG qH qI qJ qK qL qM qN)):FnOk P w K mg base CX0 2 f fd ["self", "codes", "outcome"] (J27 K qA qB qC qD qE qF qG qH qI qJ qK qL qM qN):=by
  refine F.ok Z27 (fun vs H Q E h=>?_) (fun cdv A outer s H vs Q E hr h=>?_)
  · obtain ⟨x,c,o,ns,b,rfl,⟨dx,z,hx⟩,ho,hle,hS,hn,q⟩:=h
    rfl
  obtain ⟨x,c,o,ns,b,rfl,⟨dx,z,hx⟩,ho,hle,hS,hn,q⟩:=h
  refine ⟨_,(pss_cons (ps_if (pt_not (pt_truth (pv 1) (by intro _;rfl)))
     (pss_one (ps_ret (pe_glob (v:=.ref qL) rfl bl.NONE_ rfl)))
     pss_nil)
     (pss_one (ps_ret (pe_mt m_Low_chosen_Low pass0 bl.k_Low hr (pv 0) (pa_cons (pv 1) (pa_cons (pv 2) pa_nil)))))),?_⟩
  refine ⟨_,rfl,!(ns.map V.int).isEmpty,.inl ⟨_,hS,rfl⟩,?_⟩
  cases ns with
  | nil=>exact iteT (q _ _ (Same.refl _) (bl.q_NONE.sq _))
  | cons n ns=>exact iteF ⟨_,rfl,x,_,_,rfl,hx,rfl,_,rfl,_,rfl,x,c,o,n,ns,b,rfl,⟨dx,z,hx⟩,ho,hle,hS,Nat.lt_of_succ_lt hn,q⟩
theorem O_25 (F:Fun K "verdict" "Way.verdict" Y25 f fd) (bl:Bl K mg qA qB qC qD qE qF qG qH qI qJ qK qL qM qN) (m_High_chosen_High:MCallee CX0 P w K mg base 1 qF "chosen" ["self", "codes", "outcome"] (J7 K qA qB qC qD qE qF qG qH qI qJ qK qL qM qN)):FnOk P w K mg base CX0 2 f fd ["self", "codes", "outcome"] (J25 K qA qB qC qD qE qF qG qH qI qJ qK qL qM qN):=by
  refine F.ok Z25 (fun vs H Q E h=>?_) (fun cdv A outer s H vs Q E hr h=>?_)
  · obtain ⟨x,c,o,ns,b,rfl,⟨dx,z,hx⟩,ho,hle,hS,hn,q⟩:=h
    rfl
  obtain ⟨x,c,o,ns,b,rfl,⟨dx,z,hx⟩,ho,hle,hS,hn,q⟩:=h
  refine ⟨_,(pss_cons (ps_if (pt_not (pt_truth (pv 1) (by intro _;rfl)))
     (pss_one (ps_ret (pe_glob (v:=.ref qL) rfl bl.NONE_ rfl)))
     pss_nil)
     (pss_one (ps_ret (pe_mt m_High_chosen_High pass0 bl.k_High hr (pv 0) (pa_cons (pv 1) (pa_cons (pv 2) pa_nil)))))),?_⟩
  refine ⟨_,rfl,!(ns.map V.int).isEmpty,.inl ⟨_,hS,rfl⟩,?_⟩
  cases ns with
  | nil=>exact iteT (q _ _ (Same.refl _) (bl.q_NONE.sq _))
  | cons n ns=>exact iteF ⟨_,rfl,x,_,_,rfl,hx,rfl,_,rfl,_,rfl,x,c,o,n,ns,b,rfl,⟨dx,z,hx⟩,ho,hle,hS,Nat.lt_of_succ_lt hn,q⟩
theorem O_29 (F:Fun K "verdict" "Way.verdict" Y29 f fd) (bl:Bl K mg qA qB qC qD qE qF qG qH qI qJ qK qL qM qN) (m_Sum_chosen_Sum:MCallee CX0 P w K mg base 1 qG "chosen" ["self", "codes", "outcome"] (J16 K qA qB qC qD qE qF qG qH qI qJ qK qL qM qN)):FnOk P w K mg base CX0 2 f fd ["self", "codes", "outcome"] (J29 K qA qB qC qD qE qF qG qH qI qJ qK qL qM qN):=by
  refine F.ok Z29 (fun vs H Q E h=>?_) (fun cdv A outer s H vs Q E hr h=>?_)
  · obtain ⟨x,c,o,ns,b,rfl,⟨dx,z,hx⟩,ho,hle,hS,hn,q⟩:=h
    rfl
  obtain ⟨x,c,o,ns,b,rfl,⟨dx,z,hx⟩,ho,hle,hS,hn,q⟩:=h
  refine ⟨_,(pss_cons (ps_if (pt_not (pt_truth (pv 1) (by intro _;rfl)))
     (pss_one (ps_ret (pe_glob (v:=.ref qL) rfl bl.NONE_ rfl)))
     pss_nil)
     (pss_one (ps_ret (pe_mt m_Sum_chosen_Sum pass0 bl.k_Sum hr (pv 0) (pa_cons (pv 1) (pa_cons (pv 2) pa_nil)))))),?_⟩
  refine ⟨_,rfl,!(ns.map V.int).isEmpty,.inl ⟨_,hS,rfl⟩,?_⟩
  cases ns with
  | nil=>exact iteT (q _ _ (Same.refl _) (bl.q_NONE.sq _))
  | cons n ns=>exact iteF ⟨_,rfl,x,_,_,rfl,hx,rfl,_,rfl,_,rfl,x,c,o,n,ns,b,rfl,⟨dx,z,hx⟩,ho,hle,hS,Nat.lt_of_succ_lt hn,q⟩
theorem O_76 (F:Fun K "refuse_names" "refuse_names" Y70 f fd) (bl:Bl K mg qA qB qC qD qE qF qG qH qI qJ qK qL qM qN) (c_is_word:Callee P w K mg base 2 "is_word" ["text"] (J38 K qA qB qC qD qE qF qG qH qI qJ qK qL qM qN)):FnOk P w K mg base CX0 3 f fd ["names"] (J70 K qA qB qC qD qE qF qG qH qI qJ qK qL qM qN):=by
  refine F.ok Z70 (fun vs H Q E h=>?_) (fun cdv A outer s H vs Q E hr h=>?_)
  · obtain ⟨p,zs,rfl,hS,hw,hn,hl,q⟩:=h
    rfl
  obtain ⟨p,zs,rfl,hS,hw,hn,hl,q⟩:=h
  refine ⟨_,(pss_cut (ps_for PassesOwn.never rfl (pi_list (pv 0)) (pg_name (i:=1) Z70.nd rfl (Or.inl rfl))
     (pss_one (ps_if (pt_not (pt_val (pe_fn c_is_word hr rfl (pa_cons (pv 1) pa_nil))))
     (pss_one ps_never)
     pss_nil)))
     (pss_one (ps_if (pt_cmpR op_lt (pe_callB call_len_setO rfl bl.len_ PySem.boot_len (pa_cons (pe_callTy (call_set_strs rfl) rfl bl.set_ PyProof.Rows.boot_set (pa_cons (pv 0) pa_nil)) pa_nil)) (pe_callB call_len_seq rfl bl.len_ PySem.boot_len (pa_cons (pv 0) pa_nil)) (nomark _))
     (pss_one ps_never)
     pss_nil))),?_⟩
  have hlen:(zs.map V.str).length=zs.length:=List.length_map _
  refine ⟨fun σ' H'=>H'=H∧∃ c1:Option V,σ'=[some (.ref p),c1],?_,?_⟩
  · refine ⟨_,rfl,p,rfl,⟨_,hS⟩,for_list (xs:=zs.map V.str) (fun i σ H'=>H'=H∧∃ c1:Option V,σ=[some (.ref p),c1]) ⟨rfl,_,rfl⟩ (fun i σ H' _ h=>by rw [h.1];exact hS) (fun i y σ H' e h=>?_) (fun σ H' h=>h)⟩
    obtain ⟨e0,c1,rfl⟩:=h
    rw [e0]
    obtain ⟨z,rfl,ez⟩:=get_strs e
    have hz1:=hw z (List.mem_of_getElem? ez)
    have hz:z.length≤1000:=by
      have hw2:=hz1
      unfold isw at hw2
      simp only [Bool.and_eq_true,decide_eq_true_eq] at hw2
      omega
    refine ⟨_,rfl,z,rfl,hz,_,rfl,?_⟩
    rw [hz1]
    exact iteF ⟨rfl,_,rfl⟩
  rintro σ2 H2 ⟨e2,c1,rfl⟩
  rw [e2]
  refine ⟨_,rfl,p,zs,rfl,hS,by omega,fun l hl2=>⟨l,zs,rfl,upd_same,by omega,_,rfl,p,_,rfl,.inl ((same_new hl2 _).seq hS),_,_,rfl,rfl,_,rfl,?_⟩⟩
  have cf:=cntK_full zs zs.length (Nat.le_refl _)
  rw [List.take_length] at cf
  exact iteFS (by rw [hlen,cf.mpr hn];omega) (q _ (same_new hl2 _))
theorem O_77 (F:Fun K "refuse_row" "refuse_row" Y71 f fd) (bl:Bl K mg qA qB qC qD qE qF qG qH qI qJ qK qL qM qN) (m_Domain_has_code_Numbers:MCallee CX0 P w K mg base 2 qI "has_code" ["self", "value"] (J2 K qA qB qC qD qE qF qG qH qI qJ qK qL qM qN)) (m_Domain_has_code_Words:MCallee CX0 P w K mg base 2 qJ "has_code" ["self", "value"] (J3 K qA qB qC qD qE qF qG qH qI qJ qK qL qM qN)):FnOk P w K mg base CX0 3 f fd ["domains", "outcome", "cells", "code"] (J71 K qA qB qC qD qE qF qG qH qI qJ qK qL qM qN):=by
  refine F.ok Z71 (fun vs H Q E h=>?_) (fun cdv A outer s H vs Q E hr h=>?_)
  · obtain ⟨dl,ou,cl,dv,xs,bs,o,w_,rfl,hD,hdv,hO,hC,hcl,ok,q⟩:=h
    rfl
  obtain ⟨dl,ou,cl,dv,xs,bs,o,w_,rfl,hD,hdv,hO,hC,hcl,ok,q⟩:=h
  refine ⟨_,(pss_cons (ps_if (pt_cmpR op_ne (pe_callB call_len_seq rfl bl.len_ PySem.boot_len (pa_cons (pv 2) pa_nil)) (pe_callB call_len_seq rfl bl.len_ PySem.boot_len (pa_cons (pv 0) pa_nil)) (nomark _))
     (pss_one ps_never)
     pss_nil)
     (pss_cut (ps_for PassesOwn.never rfl (pi_zip rfl bl.zip_ (pa_cons (pv 0) (pa_cons (pv 2) pa_nil))) (pg_tup rfl (pgs_cons (pg_name (i:=4) Z71.nd rfl (Or.inl rfl)) (pgs_cons (pg_name (i:=5) Z71.nd rfl (Or.inl rfl)) pgs_nil)))
     (pss_one (ps_for PassesOwn.never rfl (pi_list (pv 5)) (pg_tup rfl (pgs_cons (pg_name (i:=6) Z71.nd rfl (Or.inl rfl)) (pgs_cons (pg_name (i:=7) Z71.nd rfl (Or.inl rfl)) pgs_nil)))
     (pss_one (ps_if (PW.pt (pw_or (pt_cmpR op_lt (pv 6) (pe_fld (pv 4) rfl) (nomark _)) (pw_or1 (pt_cmpR op_gt (pv 7) (pe_fld (pv 4) rfl) (nomark _)))))
     (pss_one ps_never)
     pss_nil)))))
     (pss_one (ps_if (pt_not (pt_val (pe_mtP (polc m_Domain_has_code_Numbers bl.k_Numbers (polc m_Domain_has_code_Words bl.k_Words poln)) pass0 hr (pv 1) (pa_cons (pv 3) pa_nil))))
     (pss_one ps_never)
     pss_nil)))),?_⟩
  have hdf:∀ (C:Addr),(C=qI∨C=qJ)→Cls K C∧NoAttr K C (Str.ofString "low")∧NoAttr K C (Str.ofString "high"):=fun C h=>by
    rcases h with rfl | rfl
    · exact ⟨bl.k_Numbers,bl.na_Numbers_low,bl.na_Numbers_high⟩
    · exact ⟨bl.k_Words,bl.na_Words_low,bl.na_Words_high⟩
  have hlen:xs.length=dv.length:=by rw [hcl.1,ok.len,hdv.1]
  refine ⟨_,rfl,cl,_,rfl,.inl (SqL.of hC),_,rfl,dl,_,rfl,.inl (hD),rfl,_,rfl,iteNS (by rw [hlen]) ?_⟩
  refine ⟨fun σ' H'=>Same H H'∧∃ c4 c5 c6 c7:Option V,σ'=[some (.ref dl),some (.ref ou),some (.ref cl),some (.int w_.2),c4,c5,c6,c7],?_,?_⟩
  · refine ⟨_,rfl,_,rfl,dl,cl,rfl,⟨_,hD⟩,⟨_,SqL.of hC⟩,for_zip (xs:=dv) (ys:=xs) (fun i σ H'=>Same H H'∧∃ c4 c5 c6 c7:Option V,σ=[some (.ref dl),some (.ref ou),some (.ref cl),some (.int w_.2),c4,c5,c6,c7]) ⟨Same.refl _,_,_,_,_,rfl⟩ (fun i σ H' h=>⟨h.1.seq hD,SqL.of (h.1 _ _ hC)⟩) (fun i x y σ H' T ex ey h hT=>?_) (fun σ H' h=>h)⟩
    obtain ⟨sm,c4,c5,c6,c7,rfl⟩:=h
    have s2:=sm.trans (same_new hT (.tup [x,y]))
    have eT:upd H' T (.tup [x,y]) T=some (.tup [x,y]):=upd_same
    generalize upd H' T (.tup [x,y])=H2 at s2 eT ⊢
    obtain ⟨a,b,rfl,eb,hb⟩:=hdv.get ex
    obtain ⟨l,ps,rfl,ep,hl⟩:=RefL.get hcl ey
    obtain ⟨C,hC',dx,fs,ha,f1,f2,_⟩:=hb.same s2
    obtain ⟨k1,k2,k3⟩:=hdf C hC'
    obtain ⟨_,ys,el,hp⟩:=hl.same s2
    refine ⟨T,_,rfl,SqT.of eT,rfl,_,_,rfl,_,_,rfl,rfl,?_⟩
    refine ⟨_,rfl,l,rfl,⟨_,SqL.of el⟩,for_list (xs:=ys) (fun j σ H'=>H'=H2∧∃ c6 c7:Option V,σ=[some (.ref dl),some (.ref ou),some (.ref cl),some (.int w_.2),some (.ref a),some (.ref l),c6,c7]) ⟨rfl,_,_,rfl⟩ (fun j σ H' _ h=>by rw [h.1];exact SqL.of el) (fun j y σ H' e h=>?_) (fun σ H' h=>?_)⟩
    · obtain ⟨e0,c6,c7,rfl⟩:=h
      rw [e0]
      obtain ⟨p,r,e1,rfl,hr'⟩:=hp.get e
      obtain ⟨i1,i2⟩:=ok.inn i ps b ep eb p (List.mem_of_getElem? e1)
      refine ⟨r,_,rfl,SqT.of hr',rfl,_,_,rfl,_,_,rfl,rfl,?_⟩
      refine ⟨_,rfl,_,rfl,a,_,_,_,_,rfl,ha,k1,k2,f1,_,_,rfl,rfl,_,rfl,iteFS (by omega) ?_⟩
      exact ⟨_,rfl,_,rfl,a,_,_,_,_,rfl,ha,k1,k3,f2,_,_,rfl,rfl,_,rfl,iteFS (by omega) ⟨rfl,_,_,rfl⟩⟩
    · obtain ⟨e0,c6,c7,rfl⟩:=h
      rw [e0]
      exact ⟨s2,_,_,_,_,rfl⟩
  rintro σ3 H3 ⟨s3,c4,c5,c6,c7,rfl⟩
  obtain ⟨C,hC',hd⟩:=hO.same s3
  obtain ⟨dx,fs,ha,f1,f2,f3⟩:=id hd
  rcases hC' with rfl | rfl
  · exact ⟨_,rfl,ou,_,dx,fs,rfl,.head _,ha,f3,_,rfl,ou,o,w_.2,rfl,hd,ok.lo,ok.hi,_,rfl,iteF (q _ s3)⟩
  · exact ⟨_,rfl,ou,_,dx,fs,rfl,.tail _ (.head _),ha,f3,_,rfl,ou,o,w_.2,rfl,hd,ok.lo,ok.hi,_,rfl,iteF (q _ s3)⟩
theorem O_70 (F:Fun K "mask" "mask" Y65 f fd) (bl:Bl K mg qA qB qC qD qE qF qG qH qI qJ qK qL qM qN) (c_fits:Callee P w K mg base 2 "fits" ["table", "k", "codes"] (J35 K qA qB qC qD qE qF qG qH qI qJ qK qL qM qN)):FnOk P w K mg base CX0 3 f fd ["table", "codes"] (J65 K qA qB qC qD qE qF qG qH qI qJ qK qL qM qN):=by
  refine F.ok Z65 (fun vs H Q E h=>?_) (fun cdv A outer s H vs Q E hr h=>?_)
  · obtain ⟨t,c,rws,wi,o,cs,rfl,⟨rl,ou,dx,fs,xs,wy,ht,hf,hfw,hfo,erl,hR,hwi,hou,hole,h200⟩,hS,hlen,q⟩:=h
    rfl
  obtain ⟨t,c,rws,wi,o,cs,rfl,⟨rl,ou,dx,fs,xs,wy,ht,hf,hfw,hfo,erl,hR,hwi,hou,hole,h200⟩,hS,hlen,q⟩:=h
  refine ⟨_,(pss_one (ps_ret (pe_callB (call_sum_ints rfl) rfl bl.sum_ PyProof.Rows.boot_sum (pa_cons (pe_comp (pi_range1 rfl bl.range_ (pa_cons (pe_callB call_len_seq rfl bl.len_ PySem.boot_len (pa_cons (pe_fld (pv 0) rfl) pa_nil)) pa_nil)) (cmpOk_free (N:=["k", "table", "codes"]) (fr:=[0,1]) (cl:=[("table",s.heap.objs.size+1),("codes",s.heap.objs.size+1+1)]) rfl rfl (by decide +kernel) (by decide +kernel) rfl (by decide +kernel) rfl rfl rfl (List.forall_mem_cons.mpr ⟨rfl,List.forall_mem_cons.mpr ⟨rfl,List.forall_mem_nil _⟩⟩) rfl) rfl (fun _ _ _ _=>(pif_one (pt_val (pe_fn c_fits hr rfl (pa_cons (pv 1) (pa_cons (pv 0) (pa_cons (pv 2) pa_nil))))))) (fun _ _ _ _=>(pe_op op_shl pe_int (pv 0)))) pa_nil)))),?_⟩
  have hxl:xs.length=rws.length:=hR.1
  refine ⟨_,rfl,t,_,_,_,_,rfl,ht,bl.k_Table,bl.na_Table_rows,hf,rl,_,rfl,.inl (SqL.of erl),_,rfl,(by show -(2 ^ 62)≤((xs.length:Nat):Int);omega),(by show ((xs.length:Nat):Int) < 2 ^ 62;omega),comp_range (fun D i zs H'=>Same H H'∧H' D=some (.lst zs)∧∃ ys:List Int,zs=ys.map V.int∧ys.sum=((msk (fitF rws cs) i:Nat):Int)∧ys.length≤i)
    (fun D hD=>⟨same_new hD _,upd_same,[],rfl,rfl,Nat.zero_le _⟩) (fun D i zs H' hD hi h=>?_) (fun D zs H' hD h=>?_)⟩
  · obtain ⟨sm,eD,ys,rfl,hsum,hl⟩:=h
    have hi2:i < rws.length:=by first | omega | (rw [← hxl];omega)
    obtain ⟨w_,ew⟩:∃ w_,rws[i]?=some w_:=⟨_,List.getElem?_eq_getElem hi2⟩
    have hg:rws.getD i ([],0)=w_:=getD_at ew
    refine ⟨_,rfl,_,rfl,_,rfl,t,rl,c,dx,fs,xs,rws,i,w_,cs,by rw [Int.zero_add],sm _ _ ht,hf,sm _ _ erl,hR.same sm,ew,sm.seq hS,hlen w_ (List.mem_of_getElem? ew),fun H3 s3=>⟨_,rfl,?_⟩⟩
    have sA:=sm.trans s3
    have eD3:=s3 _ _ eD
    cases hb:rfit w_.1 cs with
    | true =>
      refine iteT ⟨_,rfl,_,_,rfl,rfl,⟨by omega,by omega,by decide⟩,CYes.mk hi eD3 (small1000 (by rw [List.length_map];omega)) ⟨sA.upd hD,upd_same,ys ++ [1 * 2 ^ (0+(i:Int)).toNat],by simp,?_,by simp;omega⟩⟩
      have e2:(0+(i:Int)).toNat=i:=by omega
      rw [e2,List.sum_append,hsum,msk_succ,show fitF rws cs i=true by unfold fitF;rw [hg];exact hb]
      simp
      omega
    | false =>
      refine iteF (CNext.mk (zs:=ys.map V.int) hi ⟨sA,eD3,ys,rfl,?_,by omega⟩)
      rw [hsum,msk_succ,show fitF rws cs i=false by unfold fitF;rw [hg];exact hb]
      simp
  · obtain ⟨sm,eD,ys,rfl,hsum,hl⟩:=h
    rw [Int.toNat_natCast] at hsum
    refine ⟨D,ys,rfl,SqL.of eD,?_⟩
    have q2:=q H' sm
    rw [← hxl,← hsum] at q2
    exact q2
theorem O_46 (F:Fun K "joint" "joint" Y41 f fd) (bl:Bl K mg qA qB qC qD qE qF qG qH qI qJ qK qL qM qN) (c_alike_beside:Callee P w K mg base 2 "alike_beside" ["cells", "others", "column"] (J32 K qA qB qC qD qE qF qG qH qI qJ qK qL qM qN)) (c_may_join:Callee P w K mg base 2 "may_join" ["spans", "others", "way"] (J66 K qA qB qC qD qE qF qG qH qI qJ qK qL qM qN)):FnOk P w K mg base CX0 3 f fd ["row", "behind", "way"] (J41 K qA qB qC qD qE qF qG qH qI qJ qK qL qM qN):=by
  refine F.ok Z41 (fun vs H Q E h=>?_) (fun cdv A outer s H vs Q E hr h=>?_)
  · obtain ⟨r,r',x,y,wy,i,rfl,⟨ce,cv,er,_,ece,hcv⟩,⟨de,dv,er',_,ede,hdv⟩,hi,hl,h4,sx,sy,q1,q2⟩:=h
    rfl
  obtain ⟨r,r',x,y,wy,i,rfl,⟨ce,cv,er,_,ece,hcv⟩,⟨de,dv,er',_,ede,hdv⟩,hi,hl,h4,sx,sy,q1,q2⟩:=h
  refine ⟨_,(pss_cons (ps_if (pt_cmpR op_ne (pe_ix ix_tup (pv 0) pe_int (fun _ _=>rfl)) (pe_ix ix_tup (pv 1) pe_int (fun _ _=>rfl)) (nomark _))
     (pss_one (ps_ret pe_non))
     pss_nil)
     (pss_cons (ps_for PassesOwn.never rfl (pi_range1 rfl bl.range_ (pa_cons (pe_callB call_len_seq rfl bl.len_ PySem.boot_len (pa_cons (pe_ix ix_tup (pv 0) pe_int (fun _ _=>rfl)) pa_nil)) pa_nil)) (pg_name (i:=3) Z41.nd rfl (Or.inl rfl))
     (pss_one (ps_if (PW.pt (pw_and (pt_val (pe_fn c_alike_beside hr rfl (pa_cons (pe_ix ix_tup (pv 0) pe_int (fun _ _=>rfl)) (pa_cons (pe_ix ix_tup (pv 1) pe_int (fun _ _=>rfl)) (pa_cons (pv 3) pa_nil))))) (pw_and1 (pt_val (pe_fn c_may_join hr rfl (pa_cons (pe_ix ix_list (pe_ix ix_tup (pv 0) pe_int (fun _ _=>rfl)) (pv 3) (fun _ _=>rfl)) (pa_cons (pe_ix ix_list (pe_ix ix_tup (pv 1) pe_int (fun _ _=>rfl)) (pv 3) (fun _ _=>rfl)) (pa_cons (pv 2) pa_nil))))))))
     (pss_one (ps_ret (pv 3)))
     pss_nil)))
     (pss_one (ps_ret pe_non)))),?_⟩
  have hcl:cv.length=x.1.length:=hcv.1
  refine ⟨_,rfl,r,_,_,_,rfl,rfl,SqT.of er,rfl,_,rfl,r',_,_,_,rfl,rfl,SqT.of er',rfl,rfl,_,rfl,?_⟩
  by_cases hc:x.2=y.2
  rotate_left
  · rw [decide_eq_false (fun z=>hc (V.int.inj z))]
    exact iteT (q2 H (Same.refl _) fun z=>absurd z hc)
  refine iteNS (by rw [hc]) ?_
  refine ⟨_,rfl,r,_,_,_,rfl,rfl,SqT.of er,rfl,ce,_,rfl,.inl (SqL.of ece),_,rfl,(by show -(2 ^ 62)≤((cv.length:Nat):Int);omega),(by show ((cv.length:Nat):Int) < 2 ^ 62;omega),for_range (fun k σ H'=>Same H H'∧(∀ d,d < k→¬ JnR (cn i) x y d)∧∃ c3:Option V,σ=[some (.ref r),some (.ref r'),some (.str wy),c3]) ⟨Same.refl _,(fun d hd=>absurd hd (by omega)),_,rfl⟩ (fun k σ H' hk hh=>?_) (fun σ H' hh=>?_)⟩
  · obtain ⟨sm,hno,c3,rfl⟩:=hh
    have hk' : k < x.1.length:=by omega
    obtain ⟨ps,ex⟩:∃ ps,x.1[k]?=some ps:=⟨_,List.getElem?_eq_getElem hk'⟩
    obtain ⟨qs,ey⟩:∃ qs,y.1[k]?=some qs:=⟨_,List.getElem?_eq_getElem (by omega)⟩
    obtain ⟨l1,f1,_,us,u1,u2⟩:=hcv.2 k _ ex
    obtain ⟨l2,f2,_,vs_,v1,v2⟩:=hdv.2 k _ ey
    have step:∀ H2,Same H H2→¬ JnR (cn i) x y k→Same H H2∧(∀ d,d < k+1→¬ JnR (cn i) x y d):=fun H2 s nk=>⟨s,fun d hd z=>by
      by_cases hdk:d < k
      · exact hno d hdk z
      · have:d=k:=by omega
        subst this
        exact nk z⟩
    refine ⟨_,rfl,r,_,_,_,rfl,rfl,SqT.of (sm _ _ er),rfl,_,rfl,r',_,_,_,rfl,rfl,SqT.of (sm _ _ er'),rfl,_,rfl,ce,de,cv,dv,x.1,y.1,k,by rw [Int.zero_add],sm _ _ ece,CL.same hcv sm,sm _ _ ede,CL.same hdv sm,hl,fun b H2 s2 hb=>⟨_,rfl,?_⟩⟩
    have s:=sm.trans s2
    cases b with
    | false =>
      obtain ⟨a1,a2⟩:=step H2 s fun z=>by have:=hb.mpr z.2.1;cases this
      exact iteF (iteF ⟨a1,a2,_,rfl⟩)
    | true =>
      refine iteT ⟨_,rfl,r,_,_,_,rfl,rfl,SqT.of (s _ _ er),rfl,_,rfl,ce,_,_,_,rfl,rfl,SqL.of (s _ _ ece),getI f1,_,rfl,r',_,_,_,rfl,rfl,SqT.of (s _ _ er'),rfl,_,rfl,de,_,_,_,rfl,rfl,SqL.of (s _ _ ede),getI f2,_,rfl,l1,l2,us,vs_,ps,qs,wy,i,rfl,s _ _ u1,u2.mono s.tups,s _ _ v1,v2.mono s.tups,sx _ (List.mem_of_getElem? ex),sy _ (List.mem_of_getElem? ey),hi,fun b2 hb2=>⟨_,rfl,?_⟩⟩
      cases b2 with
      | true =>
        refine iteT ⟨_,rfl,?_⟩
        rw [Int.zero_add]
        exact q1 k H2 s hc ⟨⟨hk',hb.mp rfl,by rw [getD_some ex,getD_some ey];exact hb2.mp rfl⟩,hno⟩
      | false =>
        obtain ⟨a1,a2⟩:=step H2 s fun z=>by
          have z3:=z.2.2
          rw [getD_some ex,getD_some ey] at z3
          have:=hb2.mpr z3
          cases this
        exact iteF ⟨a1,a2,_,rfl⟩
  · obtain ⟨sm,hno,c3,rfl⟩:=hh
    refine q2 H' sm fun _ c z=>hno c ?_ z
    have:=z.1
    omega
theorem O_45 (F:Fun K "joined_row" "joined_row" Y40 f fd) (bl:Bl K mg qA qB qC qD qE qF qG qH qI qJ qK qL qM qN) (c_with_cell:Callee P w K mg base 2 "with_cell" ["cells", "column", "spans"] (J76 K qA qB qC qD qE qF qG qH qI qJ qK qL qM qN)) (c_either:Callee P w K mg base 2 "either" ["ones", "others"] (J34 K qA qB qC qD qE qF qG qH qI qJ qK qL qM qN)):FnOk P w K mg base CX0 3 f fd ["row", "behind", "column"] (J40 K qA qB qC qD qE qF qG qH qI qJ qK qL qM qN):=by
  refine F.ok Z40 (fun vs H Q E h=>?_) (fun cdv A outer s H vs Q E hr h=>?_)
  · obtain ⟨r,r',x,y,c,rfl,⟨ce,cv,er,_,ece,hcv⟩,⟨de,dv,er',_,ede,hdv⟩,hx,hy,h4,l6,m6,q⟩:=h
    rfl
  obtain ⟨r,r',x,y,c,rfl,⟨ce,cv,er,_,ece,hcv⟩,⟨de,dv,er',_,ede,hdv⟩,hx,hy,h4,l6,m6,q⟩:=h
  refine ⟨_,(pss_one (ps_ret (pe_tup (pa_cons (pe_fn c_with_cell hr rfl (pa_cons (pe_ix ix_tup (pv 0) pe_int (fun _ _=>rfl)) (pa_cons (pv 2) (pa_cons (pe_fn c_either hr rfl (pa_cons (pe_ix ix_list (pe_ix ix_tup (pv 0) pe_int (fun _ _=>rfl)) (pv 2) (fun _ _=>rfl)) (pa_cons (pe_ix ix_list (pe_ix ix_tup (pv 1) pe_int (fun _ _=>rfl)) (pv 2) (fun _ _=>rfl)) pa_nil))) pa_nil)))) (pa_cons (pe_ix ix_tup (pv 0) pe_int (fun _ _=>rfl)) pa_nil))))),?_⟩
  obtain ⟨ps,ex⟩:∃ ps,x.1[c]?=some ps:=⟨_,List.getElem?_eq_getElem hx⟩
  obtain ⟨qs,ey⟩:∃ qs,y.1[c]?=some qs:=⟨_,List.getElem?_eq_getElem hy⟩
  rw [getD_some ex] at l6 q
  rw [getD_some ey] at m6 q
  obtain ⟨l1,f1,_,us,u1,u2⟩:=hcv.2 c _ ex
  obtain ⟨l2,f2,_,vs_,v1,v2⟩:=hdv.2 c _ ey
  have hu:=u2.length
  have hv:=v2.length
  refine ⟨_,rfl,r,_,_,_,rfl,rfl,SqT.of er,rfl,_,rfl,_,rfl,r,_,_,_,rfl,rfl,SqT.of er,rfl,_,rfl,ce,_,_,_,rfl,rfl,SqL.of ece,atI_nat f1,_,rfl,r',_,_,_,rfl,rfl,SqT.of er',rfl,_,rfl,de,_,_,_,rfl,rfl,SqL.of ede,atI_nat f2,l1,l2,us,vs_,ps,qs,rfl,u1,v1,u2,v2,by omega,fun l H2 zs R s2 hl2 e2 p2 ap hR _=>?_⟩
  refine ⟨ce,l,cv,x.1,c,R,rfl,s2 _ _ ece,CL.same hcv s2,by omega,⟨trivial,zs,e2,p2⟩,fun b ys H3 s3 e3 h3=>?_⟩
  have s:=s2.trans s3
  refine ⟨_,rfl,r,_,_,_,rfl,rfl,SqT.of (s _ _ er),rfl,small2,fun t ht=>?_⟩
  have s4:=same_new ht (.tup [.ref b,.int x.2])
  exact q t R _ (s.trans s4) ⟨b,ys,upd_same,trivial,s4 _ _ e3,CL.same h3 s4⟩ ap hR
theorem O_51 (F:Fun K "_law_bit_rows" "_law_bit_rows" Y46 f fd) (bl:Bl K mg qA qB qC qD qE qF qG qH qI qJ qK qL qM qN) (c__law_bit_row:Callee P w K mg base 2 "_law_bit_row" ["m", "columns", "out", "last"] (J45 K qA qB qC qD qE qF qG qH qI qJ qK qL qM qN)):FnOk P w K mg base CX0 3 f fd ["seeds", "columns", "out"] (J46 K qA qB qC qD qE qF qG qH qI qJ qK qL qM qN):=by
  refine F.ok Z46 (fun vs H Q E h=>?_) (fun cdv A outer s H vs Q E hr h=>?_)
  · obtain ⟨sl,cl,ol,ns,xs,cs,oc,rfl,hsl,h200,hn0,hcl,hcs,hok,h1,h4,hoc,ook,q⟩:=h
    rfl
  obtain ⟨sl,cl,ol,ns,xs,cs,oc,rfl,hsl,h200,hn0,hcl,hcs,hok,h1,h4,hoc,ook,q⟩:=h
  refine ⟨_,(pss_cons (ps_set (i:=3) Z46.nd rfl (Or.inl rfl) (pe_lst pa_nil))
     (pss_cons (ps_set (i:=4) Z46.nd rfl (Or.inl rfl) (pe_lst pa_nil))
     (pss_cons (ps_for PassesOwn.never rfl (pi_list (pv 0)) (pg_name (i:=5) Z46.nd rfl (Or.inl rfl))
     (pss_cons (ps_set (i:=4) Z46.nd rfl (Or.inl rfl) (pe_fn c__law_bit_row hr rfl (pa_cons (pv 5) (pa_cons (pv 1) (pa_cons (pv 2) (pa_cons (pv 4) pa_nil))))))
     (pss_one (ps_expr (pe_bm PySem.F.plainAttrs_list PySem.F.slot_list_append PySem.F.type_list_append mt_append (pv 3) (pa_cons (pv 4) pa_nil))))))
     (pss_one (ps_ret (pv 3)))))),?_⟩
  refine ⟨(by show 0≤sizeLine;decide),fun l hl=>?_⟩
  have s0:Same H (upd H l (.lst [])):=same_new hl _
  have e0:upd H l (.lst []) l=some (.lst []):=upd_same
  generalize upd H l (.lst [])=H0 at s0 e0 ⊢
  refine ⟨(by show 0≤sizeLine;decide),fun la0 hla0=>?_⟩
  have s1:=s0.trans (same_new hla0 (.lst []))
  have e1:=same_new hla0 (.lst []) _ _ e0
  have e2:upd H0 la0 (.lst []) la0=some (.lst []):=upd_same
  have hne:la0 ≠ l:=fun z=>by rw [z,e0] at hla0;cases hla0
  have hlaH:H la0=none:=s0.free hla0
  generalize upd H0 la0 (.lst [])=H1 at s1 e1 e2 ⊢
  refine ⟨_,rfl,sl,rfl,⟨_,SqL.of (s1 _ _ hsl)⟩,for_list (xs:=ns.map V.int) (fun i σ H'=>Same H H'∧∃ (la:Addr) (zs:List V) (ws:List BW) (c5:Option V),H' l=some (.lst zs)∧BRL (Fr H l) H' zs ws∧ws.length=i∧(∀ w ∈ ws,BitOk cs oc w)∧(la ≠ l∧H' la=some (.lst [])∨∃ w,BRowA (Fr H l) H' la w∧BitOk cs oc w)∧σ=[some (.ref sl),some (.ref cl),some (.ref ol),some (.ref l),some (.ref la),c5]) ⟨s1,la0,[],[],_,e1,RefL.nil,rfl,(fun w h=>by cases h),.inl ⟨hne,e2⟩,rfl⟩ (fun i σ H' _ h=>SqL.of (h.1 _ _ hsl)) (fun i y σ H' ey hh=>?_) (fun σ H' hh=>?_)⟩
  · obtain ⟨sm,la,zs,ws,c5,el,hz,hlen,hall,hla,rfl⟩:=hh
    obtain ⟨c,rfl,ec⟩:=of_map ey
    have hi:i < ns.length:=(List.getElem?_eq_some_iff.mp ec).1
    refine ⟨_,rfl,_,rfl,_,rfl,_,rfl,c,cl,ol,la,xs,cs,oc,rfl,sm _ _ hcl,hcs.same sm,hok,h1,h4,hoc.same sm,ook,hn0 c (List.mem_of_getElem? ec),?_,fun r w_ H2 s2 hrow okw=>?_⟩
    · rcases hla with ⟨_,z⟩ | ⟨w,z1,z2⟩
      · exact .inl z
      · exact .inr ⟨w,z1.wk fun _ _=>trivial,z2⟩
    have el2:=s2 _ _ el
    have hlz:zs.length=i:=by rw [hz.1,hlen]
    refine ⟨_,rfl,.inl ⟨rfl,_,SqL.of el2⟩,_,rfl,l,_,_,rfl,rfl,el2,small1000 (by omega),?_⟩
    have hrow' : BRowA (Fr H l) H2 r w_:=hrow.wk fun a ha=>⟨sm.free ha,fun z=>by rw [z,el] at ha;cases ha⟩
    have hrow2:BRowA (Fr H l) (upd H2 l (.lst (zs ++ [.ref r]))) r w_:=hrow'.updN Fr.out el2
    have hz2:BRL (Fr H l) H2 (zs ++ [.ref r]) (ws ++ [w_]):=RefL.snoc (hz.same s2) hrow'
    refine ⟨(sm.trans s2).upd hl,r,zs ++ [.ref r],ws ++ [w_],_,upd_same,hz2.updN Fr.out el2,by simp [hlen],fun w h=>?_,.inr ⟨w_,hrow2,okw⟩,rfl⟩
    rcases List.mem_append.mp h with h | h
    · exact hall w h
    · rw [show w=w_ by simpa using h];exact okw
  · obtain ⟨sm,la,zs,ws,c5,el,hz,hlen,hall,hla,rfl⟩:=hh
    rw [List.length_map] at hlen
    exact ⟨_,rfl,q l zs ws H' sm el (hz.wk fun a h=>h.1) hlen hall⟩
theorem O_30 (F:Fun K "__init__" "Words.__init__" Y30 f fd) (bl:Bl K mg qA qB qC qD qE qF qG qH qI qJ qK qL qM qN) (b_Domain___init___Words:BCallee CX0 P w K mg base 2 "Domain" "__init__" ["self", "low", "high"] (J1 K qA qB qC qD qE qF qG qH qI qJ qK qL qM qN)) (c_is_word:Callee P w K mg base 2 "is_word" ["text"] (J38 K qA qB qC qD qE qF qG qH qI qJ qK qL qM qN)):FnOk P w K mg base CX0 3 f fd ["self", "words"] (J30 K qA qB qC qD qE qF qG qH qI qJ qK qL qM qN):=by
  refine F.ok Z30 (fun vs H Q E h=>?_) (fun cdv A outer s H vs Q E hr h=>?_)
  · obtain ⟨x,dx,p,zs,rfl,hx,hP,hg,q⟩:=h
    rfl
  obtain ⟨x,dx,p,zs,rfl,hx,hP,hg,q⟩:=h
  refine ⟨_,(pss_cons (ps_if (pt_not (pt_chain op_le op_le pe_int (pe_callB call_len_seq rfl bl.len_ PySem.boot_len (pa_cons (pv 1) pa_nil)) (pe_gl rfl bl.MOST_WORDS_)))
     (pss_one ps_never)
     pss_nil)
     (pss_cut (ps_for PassesOwn.never rfl (pi_list (pv 1)) (pg_name (i:=2) Z30.nd rfl (Or.inl rfl))
     (pss_one (ps_if (pt_not (pt_val (pe_fn c_is_word hr rfl (pa_cons (pv 2) pa_nil))))
     (pss_one ps_never)
     pss_nil)))
     (pss_cons (ps_if (pt_cmpR op_lt (pe_callB call_len_setO rfl bl.len_ PySem.boot_len (pa_cons (pe_callTy (call_set_strs rfl) rfl bl.set_ PyProof.Rows.boot_set (pa_cons (pv 1) pa_nil)) pa_nil)) (pe_callB call_len_seq rfl bl.len_ PySem.boot_len (pa_cons (pv 1) pa_nil)) (nomark _))
     (pss_one ps_never)
     pss_nil)
     (pss_cons (ps_expr (pe_base b_Domain___init___Words pass0 hr rfl (pa_cons (pv 0) (pa_cons pe_int (pa_cons (pe_op op_sub (pe_callB call_len_seq rfl bl.len_ PySem.boot_len (pa_cons (pv 1) pa_nil)) pe_int) pa_nil)))))
     (pss_one (ps_fld (pv 0) (pe_callTy call_list_of rfl bl.list_ PyProof.Rows.boot_list (pa_cons (pv 1) pa_nil)) rfl)))))),?_⟩
  have hS:SqL K H p (zs.map V.str):=SqL.of hP
  have hpx:p ≠ x:=ne_of hP hx (by intro z;cases z)
  have hlen:(zs.map V.str).length=zs.length:=List.length_map _
  have h1:=hg.some_
  have h40:=hg.few
  refine ⟨_,rfl,p,_,rfl,.inl hS,_,_,rfl,rfl,_,rfl,iteTS (by rw [hlen];omega) ?_⟩
  refine ⟨_,_,rfl,rfl,_,rfl,?_⟩
  rw [decide_eq_true (show (((zs.map V.str).length:Nat):Int)≤40 by rw [hlen];omega)]
  refine iteF ?_
  refine ⟨fun σ' H'=>H'=H∧∃ c2:Option V,σ'=[some (.ref x),some (.ref p),c2],?_,?_⟩
  · refine ⟨_,rfl,p,rfl,⟨_,hS⟩,for_list (xs:=zs.map V.str) (fun i σ H'=>H'=H∧∃ c2:Option V,σ=[some (.ref x),some (.ref p),c2]) ⟨rfl,_,rfl⟩ (fun i σ H' _ h=>by rw [h.1];exact hS) (fun i y σ H' e h=>?_) (fun σ H' h=>h)⟩
    obtain ⟨e0,c2,rfl⟩:=h
    rw [e0]
    obtain ⟨z,rfl,ez⟩:=get_strs e
    have hw:=hg.words z (List.mem_of_getElem? ez)
    have hz:z.length≤1000:=by
      have hw2:=hw
      unfold isw at hw2
      simp only [Bool.and_eq_true,decide_eq_true_eq] at hw2
      omega
    refine ⟨_,rfl,z,rfl,hz,_,rfl,?_⟩
    rw [hw]
    exact iteF ⟨rfl,_,rfl⟩
  rintro σ2 H2 ⟨e2,c2,rfl⟩
  rw [e2]
  refine ⟨_,rfl,p,zs,rfl,hS,by omega,fun l hl=>⟨l,zs,rfl,upd_same,by omega,_,rfl,p,_,rfl,.inl ((same_new hl _).seq hS),_,_,rfl,rfl,_,rfl,?_⟩⟩
  have s1:=same_new hl (SetO P w l zs)
  have cf:=cntK_full zs zs.length (Nat.le_refl _)
  rw [List.take_length] at cf
  refine iteFS (by rw [hlen,cf.mpr hg.once];omega) ?_
  have hx1:=s1 _ _ hx
  have hP1:=s1 _ _ hP
  refine ⟨_,rfl,_,rfl,p,_,rfl,.inl (SqL.of hP1),_,_,rfl,rfl,x,dx,0,_,rfl,hx1,?_⟩
  have e1:mkd qJ (upd H l (SetO P w l zs)) x dx 0 ((((zs.map V.str).length:Nat):Int) - 1) x=some (.ins qJ dx [("low",.int 0),("high",.int ((((zs.map V.str).length:Nat):Int) - 1))]):=upd_same
  have e2:mkd qJ (upd H l (SetO P w l zs)) x dx 0 ((((zs.map V.str).length:Nat):Int) - 1) p=some (.lst (zs.map V.str)):=by unfold mkd;rw [upd_ne hpx,upd_ne hpx];exact hP1
  have e3:∀ b o,b ≠ x→H b=some o→mkd qJ (upd H l (SetO P w l zs)) x dx 0 ((((zs.map V.str).length:Nat):Int) - 1) b=some o:=fun b o hb h=>by unfold mkd;rw [upd_ne hb,upd_ne hb];exact s1 b o h
  have eh:(((zs.map V.str).length:Nat):Int) - 1=hiW zs:=by rw [hlen];rfl
  refine ⟨_,rfl,p,_,rfl,.inl (SqL.of e2),fun l2 hl2=>⟨_,rfl,x,_,dx,_,rfl,ret_r1 e1 hl2,bl.k_Words,bl.na_Words_words,(by show 2 < 1000;decide),?_⟩⟩
  show Q .non (upd (upd (mkd qJ (upd H l (SetO P w l zs)) x dx 0 ((((zs.map V.str).length:Nat):Int) - 1)) l2 (.lst (zs.map V.str))) x (.ins qJ dx (putF (Str.ofString "words") (.ref l2) [(Str.ofString "low",.int 0),(Str.ofString "high",.int ((((zs.map V.str).length:Nat):Int) - 1))])))
  rw [put3]
  have hl3:mkd qJ (upd H l (SetO P w l zs)) x dx 0 ((((zs.map V.str).length:Nat):Int) - 1) l2=none:=hl2
  clear hl2
  generalize mkd qJ (upd H l (SetO P w l zs)) x dx 0 ((((zs.map V.str).length:Nat):Int) - 1)=H2 at e1 e2 e3 hl3 ⊢
  rw [eh]
  have nl:l2 ≠ x:=(ne_of_none e1 hl3).symm
  exact q _ l2 (fun b o hb h=>(upd_ne hb).trans (ret_r1 (e3 b o hb h) hl3)) upd_same ((upd_ne nl).trans upd_same)
theorem O_82 (F:Fun K "way_by" "way_by" Y75 f fd) (bl:Bl K mg qA qB qC qD qE qF qG qH qI qJ qK qL qM qN) (k_First:MkCallee CX0 P w K mg base 2 "First" qB ["self"] (J4 K qA qB qC qD qE qF qG qH qI qJ qK qL qM qN)) (k_Only:MkCallee CX0 P w K mg base 2 "Only" qC ["self"] (J13 K qA qB qC qD qE qF qG qH qI qJ qK qL qM qN)) (k_Like:MkCallee CX0 P w K mg base 2 "Like" qD ["self"] (J8 K qA qB qC qD qE qF qG qH qI qJ qK qL qM qN)) (k_Low:MkCallee CX0 P w K mg base 2 "Low" qE ["self"] (J10 K qA qB qC qD qE qF qG qH qI qJ qK qL qM qN)) (k_High:MkCallee CX0 P w K mg base 2 "High" qF ["self"] (J6 K qA qB qC qD qE qF qG qH qI qJ qK qL qM qN)) (k_Sum:MkCallee CX0 P w K mg base 2 "Sum" qG ["self"] (J15 K qA qB qC qD qE qF qG qH qI qJ qK qL qM qN)):FnOk P w K mg base CX0 4 f fd ["name"] (J75 K qA qB qC qD qE qF qG qH qI qJ qK qL qM qN):=by
  refine F.ok Z75 (fun vs H Q E h=>?_) (fun cdv A outer s H vs Q E hr h=>?_)
  · obtain ⟨z,rfl,hz,q⟩:=h
    rfl
  obtain ⟨z,rfl,hz,q⟩:=h
  refine ⟨_,(pss_cons (ps_for PassesOwn.never rfl (pi_list (pe_lst (pa_cons (pe_mk0 k_First pass0 hr rfl) (pa_cons (pe_mk0 k_Only pass0 hr rfl) (pa_cons (pe_mk0 k_Like pass0 hr rfl) (pa_cons (pe_mk0 k_Low pass0 hr rfl) (pa_cons (pe_mk0 k_High pass0 hr rfl) (pa_cons (pe_mk0 k_Sum pass0 hr rfl) pa_nil)))))))) (pg_name (i:=1) Z75.nd rfl (Or.inl rfl))
     (pss_one (ps_if (pt_cmpR op_eq (pe_fld (pv 1) rfl) (pv 0) (nomark _))
     (pss_one (ps_ret (pv 1)))
     pss_nil)))
     (pss_one ps_never)),?_⟩
  refine fun w0 d0 hw hdw hnw=>⟨w0,d0,rfl,upd_same,rfl,?_⟩
  have t0:Same H (upd (upd (upd H d0 (.own w0)) w0 (.ins qB d0 [])) w0 (.ins qB d0 [("called",.str (Str.ofString "first"))])):=((same_new hdw _).upd hw).upd hw
  have y0:WyN qB (upd (upd (upd H d0 (.own w0)) w0 (.ins qB d0 [])) w0 (.ins qB d0 [("called",.str (Str.ofString "first"))])) w0 (Str.ofString "first"):=⟨d0,upd_same⟩
  generalize upd (upd (upd H d0 (.own w0)) w0 (.ins qB d0 [])) w0 (.ins qB d0 [("called",.str (Str.ofString "first"))])=H0 at t0 y0 ⊢
  clear hw hdw hnw
  refine fun w1 d1 hw hdw hnw=>⟨w1,d1,rfl,upd_same,rfl,?_⟩
  have t1:Same H0 (upd (upd (upd H0 d1 (.own w1)) w1 (.ins qC d1 [])) w1 (.ins qC d1 [("called",.str (Str.ofString "only"))])):=((same_new hdw _).upd hw).upd hw
  have y1:WyN qC (upd (upd (upd H0 d1 (.own w1)) w1 (.ins qC d1 [])) w1 (.ins qC d1 [("called",.str (Str.ofString "only"))])) w1 (Str.ofString "only"):=⟨d1,upd_same⟩
  generalize upd (upd (upd H0 d1 (.own w1)) w1 (.ins qC d1 [])) w1 (.ins qC d1 [("called",.str (Str.ofString "only"))])=H1 at t1 y1 ⊢
  clear hw hdw hnw
  have y0:=y0.same t1
  refine fun w2 d2 hw hdw hnw=>⟨w2,d2,rfl,upd_same,rfl,?_⟩
  have t2:Same H1 (upd (upd (upd H1 d2 (.own w2)) w2 (.ins qD d2 [])) w2 (.ins qD d2 [("called",.str (Str.ofString "like"))])):=((same_new hdw _).upd hw).upd hw
  have y2:WyN qD (upd (upd (upd H1 d2 (.own w2)) w2 (.ins qD d2 [])) w2 (.ins qD d2 [("called",.str (Str.ofString "like"))])) w2 (Str.ofString "like"):=⟨d2,upd_same⟩
  generalize upd (upd (upd H1 d2 (.own w2)) w2 (.ins qD d2 [])) w2 (.ins qD d2 [("called",.str (Str.ofString "like"))])=H2 at t2 y2 ⊢
  clear hw hdw hnw
  have y0:=y0.same t2
  have y1:=y1.same t2
  refine fun w3 d3 hw hdw hnw=>⟨w3,d3,rfl,upd_same,rfl,?_⟩
  have t3:Same H2 (upd (upd (upd H2 d3 (.own w3)) w3 (.ins qE d3 [])) w3 (.ins qE d3 [("called",.str (Str.ofString "low"))])):=((same_new hdw _).upd hw).upd hw
  have y3:WyN qE (upd (upd (upd H2 d3 (.own w3)) w3 (.ins qE d3 [])) w3 (.ins qE d3 [("called",.str (Str.ofString "low"))])) w3 (Str.ofString "low"):=⟨d3,upd_same⟩
  generalize upd (upd (upd H2 d3 (.own w3)) w3 (.ins qE d3 [])) w3 (.ins qE d3 [("called",.str (Str.ofString "low"))])=H3 at t3 y3 ⊢
  clear hw hdw hnw
  have y0:=y0.same t3
  have y1:=y1.same t3
  have y2:=y2.same t3
  refine fun w4 d4 hw hdw hnw=>⟨w4,d4,rfl,upd_same,rfl,?_⟩
  have t4:Same H3 (upd (upd (upd H3 d4 (.own w4)) w4 (.ins qF d4 [])) w4 (.ins qF d4 [("called",.str (Str.ofString "high"))])):=((same_new hdw _).upd hw).upd hw
  have y4:WyN qF (upd (upd (upd H3 d4 (.own w4)) w4 (.ins qF d4 [])) w4 (.ins qF d4 [("called",.str (Str.ofString "high"))])) w4 (Str.ofString "high"):=⟨d4,upd_same⟩
  generalize upd (upd (upd H3 d4 (.own w4)) w4 (.ins qF d4 [])) w4 (.ins qF d4 [("called",.str (Str.ofString "high"))])=H4 at t4 y4 ⊢
  clear hw hdw hnw
  have y0:=y0.same t4
  have y1:=y1.same t4
  have y2:=y2.same t4
  have y3:=y3.same t4
  refine fun w5 d5 hw hdw hnw=>⟨w5,d5,rfl,upd_same,rfl,?_⟩
  have t5:Same H4 (upd (upd (upd H4 d5 (.own w5)) w5 (.ins qG d5 [])) w5 (.ins qG d5 [("called",.str (Str.ofString "sum"))])):=((same_new hdw _).upd hw).upd hw
  have y5:WyN qG (upd (upd (upd H4 d5 (.own w5)) w5 (.ins qG d5 [])) w5 (.ins qG d5 [("called",.str (Str.ofString "sum"))])) w5 (Str.ofString "sum"):=⟨d5,upd_same⟩
  generalize upd (upd (upd H4 d5 (.own w5)) w5 (.ins qG d5 [])) w5 (.ins qG d5 [("called",.str (Str.ofString "sum"))])=H5 at t5 y5 ⊢
  clear hw hdw hnw
  have y0:=y0.same t5
  have y1:=y1.same t5
  have y2:=y2.same t5
  have y3:=y3.same t5
  have y4:=y4.same t5
  have s5:Same H H5:=((((t0.trans t1).trans t2).trans t3).trans t4).trans t5
  refine ⟨(by show 6≤sizeLine;decide),fun l hl=>?_⟩
  have sl:Same H5 (upd H5 l (.lst [V.ref w0,.ref w1,.ref w2,.ref w3,.ref w4,.ref w5])):=same_new hl _
  have el:upd H5 l (.lst [V.ref w0,.ref w1,.ref w2,.ref w3,.ref w4,.ref w5]) l=some (.lst [V.ref w0,.ref w1,.ref w2,.ref w3,.ref w4,.ref w5]):=upd_same
  generalize upd H5 l (.lst [V.ref w0,.ref w1,.ref w2,.ref w3,.ref w4,.ref w5])=H6 at sl el ⊢
  have y0:=y0.same sl
  have y1:=y1.same sl
  have y2:=y2.same sl
  have y3:=y3.same sl
  have y4:=y4.same sl
  have y5:=y5.same sl
  have sA:=s5.trans sl
  have key:∀ (i:Nat) (x:V),[V.ref w0,.ref w1,.ref w2,.ref w3,.ref w4,.ref w5][i]?=some x→∃ (a C:Addr) (y:Str),x=.ref a∧(cl6 qB qC qD qE qF qG)[i]?=some C∧six[i]?=some y∧WyN C H6 a y∧Cls K C∧NoAttr K C (Str.ofString "called"):=fun i x e=>by
    match i,e with
    | 0,e=>cases e;exact ⟨w0,qB,_,rfl,rfl,rfl,y0,bl.k_First,bl.na_First_called⟩
    | 1,e=>cases e;exact ⟨w1,qC,_,rfl,rfl,rfl,y1,bl.k_Only,bl.na_Only_called⟩
    | 2,e=>cases e;exact ⟨w2,qD,_,rfl,rfl,rfl,y2,bl.k_Like,bl.na_Like_called⟩
    | 3,e=>cases e;exact ⟨w3,qE,_,rfl,rfl,rfl,y3,bl.k_Low,bl.na_Low_called⟩
    | 4,e=>cases e;exact ⟨w4,qF,_,rfl,rfl,rfl,y4,bl.k_High,bl.na_High_called⟩
    | 5,e=>cases e;exact ⟨w5,qG,_,rfl,rfl,rfl,y5,bl.k_Sum,bl.na_Sum_called⟩
    | n+6,e=>simp at e
  refine ⟨l,rfl,⟨_,SqL.of el⟩,for_list (xs:=[V.ref w0,.ref w1,.ref w2,.ref w3,.ref w4,.ref w5]) (fun i σ H'=>(∃ c1:Option V,σ=[some (.str z),c1])∧H'=H6∧∀ j:Nat,j < i→six[j]? ≠ some z) ⟨⟨_,rfl⟩,rfl,(fun j h=>absurd h (Nat.not_lt_zero j))⟩ (fun i σ H' _ h=>by rw [h.2.1];exact SqL.of el) (fun i x σ H' e h=>?_) (fun σ H' h=>?_)⟩
  · obtain ⟨⟨c1,rfl⟩,e0,hno⟩:=h
    rw [e0]
    obtain ⟨a,C,y,rfl,eC,ey,⟨dx,ha⟩,hc,hn⟩:=key i x e
    refine ⟨_,rfl,a,_,_,_,_,rfl,ha,hc,hn,rfl,_,rfl,rfl,_,rfl,?_⟩
    refine ite2 (fun g=>?_) (fun g=>?_)
    · have g' : V.str y=V.str z:=dec_t g
      injection g' with g'
      subst g'
      exact ⟨_,rfl,q i ey a C H6 sA eC ⟨dx,ha⟩⟩
    · refine ⟨⟨_,rfl⟩,rfl,fun j hj=>?_⟩
      by_cases hji:j < i
      · exact hno j hji
      · have:j=i:=by omega
        subst this
        rw [ey]
        intro q2
        exact (dec_f g) (by injection q2 with q2;rw [q2])
  · obtain ⟨⟨c1,rfl⟩,e0,hno⟩:=h
    rw [e0]
    obtain ⟨j,hj,ej⟩:=List.getElem_of_mem hz
    exact absurd (by rw [List.getElem?_eq_getElem hj,ej]) (hno j hj)
theorem O_44 (F:Fun K "joined_once" "joined_once" Y39 f fd) (bl:Bl K mg qA qB qC qD qE qF qG qH qI qJ qK qL qM qN) (c_joint:Callee P w K mg base 3 "joint" ["row", "behind", "way"] (J41 K qA qB qC qD qE qF qG qH qI qJ qK qL qM qN)) (c_joined_row:Callee P w K mg base 3 "joined_row" ["row", "behind", "column"] (J40 K qA qB qC qD qE qF qG qH qI qJ qK qL qM qN)):FnOk P w K mg base CX0 4 f fd ["rows", "way"] (J39 K qA qB qC qD qE qF qG qH qI qJ qK qL qM qN):=by
  refine F.ok Z39 (fun vs H Q E h=>?_) (fun cdv A outer s H vs Q E hr h=>?_)
  · obtain ⟨rl,rx,wy,i,cs,oc,ws,rfl,erl,hR,h200,hi,hok,h4,hbo,q1,q2⟩:=h
    rfl
  obtain ⟨rl,rx,wy,i,cs,oc,ws,rfl,erl,hR,h200,hi,hok,h4,hbo,q1,q2⟩:=h
  refine ⟨_,(pss_cons (ps_for PassesOwn.never rfl (pi_range1 rfl bl.range_ (pa_cons (pe_op op_sub (pe_callB call_len_seq rfl bl.len_ PySem.boot_len (pa_cons (pv 0) pa_nil)) pe_int) pa_nil)) (pg_name (i:=2) Z39.nd rfl (Or.inl rfl))
     (pss_cons (ps_set (i:=3) Z39.nd rfl (Or.inl rfl) (pe_fn c_joint hr rfl (pa_cons (pe_ix ix_list (pv 0) (pv 2) (fun _ _=>rfl)) (pa_cons (pe_ix ix_list (pv 0) (pe_op op_add (pv 2) pe_int) (fun _ _=>rfl)) (pa_cons (pv 1) pa_nil)))))
     (pss_one (ps_if (pt_cmpR op_notN (pv 3) pe_non (nomark _))
     (pss_one (ps_ret (pe_op op_cat (pe_op op_cat (pe_slice sl_list (pv 0) po_none (po_some (pv 2))) (pe_lst (pa_cons (pe_fn c_joined_row hr rfl (pa_cons (pe_ix ix_list (pv 0) (pv 2) (fun _ _=>rfl)) (pa_cons (pe_ix ix_list (pv 0) (pe_op op_add (pv 2) pe_int) (fun _ _=>rfl)) (pa_cons (pv 3) pa_nil)))) pa_nil))) (pe_slice sl_list (pv 0) (po_some (pe_op op_add (pv 2) pe_int)) po_none))))
     pss_nil))))
     (pss_one (ps_ret pe_non))),?_⟩
  have hxl:rx.length=ws.length:=by rw [hR.1,List.length_map]
  refine ⟨_,rfl,rl,_,rfl,.inl (SqL.of erl),_,_,rfl,rfl,_,rfl,(by show -(2 ^ 62)≤((rx.length:Nat):Int) - 1;omega),(by show ((rx.length:Nat):Int) - 1 < 2 ^ 62;omega),for_range (fun k σ H'=>Same H H'∧Clr (cn i) ws k∧∃ c3 c4:Option V,σ=[some (.ref rl),some (.str wy),c3,c4]) ⟨Same.refl _,(fun j u v hj=>absurd hj (by omega)),_,_,rfl⟩ (fun k σ H' hk hh=>?_) (fun σ H' hh=>?_)⟩
  · obtain ⟨sm,cl,c3,c4,rfl⟩:=hh
    have hk2:k+1 < ws.length:=by omega
    obtain ⟨w,e1⟩:∃ w,ws[k]?=some w:=⟨_,List.getElem?_eq_getElem (by omega)⟩
    obtain ⟨w',e2⟩:∃ w',ws[k+1]?=some w':=⟨_,List.getElem?_eq_getElem hk2⟩
    obtain ⟨r,f1,h1⟩:=hR.2 k (rwo cs w) (by rw [List.getElem?_map,e1];rfl)
    obtain ⟨r',f2,h2⟩:=hR.2 (k+1) (rwo cs w') (by rw [List.getElem?_map,e2];rfl)
    have b1:=hbo w (List.mem_of_getElem? e1)
    have b2:=hbo w' (List.mem_of_getElem? e2)
    have lx:(rwo cs w).1.length=cs.length:=cel_len b1.len
    have ly:(rwo cs w').1.length=cs.length:=cel_len b2.len
    have iff_:=jn_iff (cnt:=cn i) hok b1.bd b2.bd
    have i2:atI rx (0+(k:Int)+1)=some (.ref r'):=by rw [show (0+(k:Int)+1)=((k+1:Nat):Int) by omega];exact atI_nat f2
    refine ⟨_,rfl,_,rfl,rl,_,_,_,rfl,rfl,SqL.of (sm _ _ erl),getI f1,_,rfl,_,rfl,_,_,rfl,rfl,rl,_,_,_,rfl,rfl,SqL.of (sm _ _ erl),i2,_,rfl,r,r',rwo cs w,rwo cs w',wy,i,rfl,h1.same sm,h2.same sm,hi,by rw [lx,ly],by omega,cel_srt hok _,cel_srt hok _,fun c H2 s2 ec fs=>?_,fun H2 s2 hno=>?_⟩
    · have s:=sm.trans s2
      have hc:c < cs.length:=by have:=fs.1.1;omega
      refine ⟨_,rfl,rfl,_,rfl,?_⟩
      rw [decide_eq_false (by intro z;cases z)]
      refine iteT ?_
      refine ⟨_,rfl,_,rfl,_,rfl,rl,rx,rfl,SqL.of (s _ _ erl),fun c1 hc1=>?_⟩
      rw [Int.zero_add] at i2 ⊢
      rw [cutTake]
      have t1:=same_new hc1 (.lst (rx.take k))
      have g1:upd H2 c1 (.lst (rx.take k)) c1=some (.lst (rx.take k)):=upd_same
      generalize upd H2 c1 (.lst (rx.take k))=H3 at t1 g1 ⊢
      have s3:=s.trans t1
      have len6:∀ w:BW,w.1.length=cs.length→((rwo cs w).1.getD c []).length≤6:=fun w hw=>by
        have ec:=List.getElem?_eq_getElem hc
        have ew:=List.getElem?_eq_getElem (l:=w.1) (i:=c) (by rw [hw];exact hc)
        rw [show (rwo cs w).1=cel cs w.1 from rfl,getD_some (cel_get ec ew)]
        exact mg_len (hok _ (List.mem_of_getElem? ec)) _
      refine ⟨_,rfl,_,rfl,rl,_,_,_,rfl,rfl,SqL.of (s3 _ _ erl),atI_nat f1,_,rfl,_,rfl,_,_,rfl,rfl,rl,_,_,_,rfl,rfl,SqL.of (s3 _ _ erl),i2,_,rfl,r,r',rwo cs w,rwo cs w',c,rfl,h1.same s3,h2.same s3,by omega,by omega,by omega,len6 w b1.len,len6 w' b2.len,fun t R H4 s4 hrow ap hR'=>?_⟩
      rw [row_jn hok b1 b2 hc ap hR'] at hrow
      refine ⟨(by show 1≤sizeLine;decide),fun c2 hc2=>?_⟩
      have t2:=same_new hc2 (.lst [V.ref t])
      have g2:upd H4 c2 (.lst [V.ref t]) c2=some (.lst [V.ref t]):=upd_same
      generalize upd H4 c2 (.lst [V.ref t])=H5 at t2 g2 ⊢
      refine ⟨c1,c2,_,_,rfl,rfl,t2 _ _ (s4 _ _ g1),g2,Nat.le_of_lt (small1000 (by rw [List.length_take,List.length_singleton];omega)),fun c3' hc3=>?_⟩
      have t3:=same_new hc3 (.lst (rx.take k ++ [V.ref t]))
      have g3:upd H5 c3' (.lst (rx.take k ++ [V.ref t])) c3'=some (.lst (rx.take k ++ [V.ref t])):=upd_same
      generalize upd H5 c3' (.lst (rx.take k ++ [V.ref t]))=H6 at t3 g3 ⊢
      have s6:=((s3.trans s4).trans t2).trans t3
      refine ⟨_,rfl,_,rfl,_,_,rfl,rfl,_,rfl,rl,rx,rfl,SqL.of (s6 _ _ erl),fun c4' hc4=>?_⟩
      rw [show ((k:Int)+2)=((k+2:Nat):Int) by omega,cutDrop]
      have t4:=same_new hc4 (.lst (rx.drop (k+2)))
      have g4:upd H6 c4' (.lst (rx.drop (k+2))) c4'=some (.lst (rx.drop (k+2))):=upd_same
      generalize upd H6 c4' (.lst (rx.drop (k+2)))=H7 at t4 g4 ⊢
      refine ⟨c3',c4',_,_,rfl,rfl,t4 _ _ g3,g4,Nat.le_of_lt (small1000 (by rw [List.length_append,List.length_take,List.length_drop,List.length_singleton];omega)),fun c5 hc5=>?_⟩
      have t5:=same_new hc5 (.lst (rx.take k ++ [V.ref t] ++ rx.drop (k+2)))
      have sA:=(s6.trans t4).trans t5
      have sB:=((t2.trans t3).trans t4).trans t5
      refine q1 c5 _ (ws.take k ++ [jnw w w' c] ++ ws.drop (k+2)) _ sA upd_same ?_ ⟨k,w,w',c,e1,e2,ec,fs.congr iff_,cl,rfl⟩
      rw [List.map_append,List.map_append,List.map_take,List.map_drop]
      exact RefL.app (RefL.app (RL.same (RefL.take hR k) sA) (RefL.one (hrow.same sB))) (RL.same (RefL.drop hR (k+2)) sA)
    · refine ⟨_,rfl,rfl,_,rfl,iteNS rfl ⟨sm.trans s2,cl.succ e1 e2 fun z c g=>hno z c ((iff_ c).mpr g),_,_,rfl⟩⟩
  · obtain ⟨sm,cl,c3,c4,rfl⟩:=hh
    exact q2 H' sm (cl.all (by omega))
theorem O_78 (F:Fun K "refuse_way" "refuse_way" Y72 f fd) (bl:Bl K mg qA qB qC qD qE qF qG qH qI qJ qK qL qM qN) (c_way_by:Callee P w K mg base 4 "way_by" ["name"] (J75 K qA qB qC qD qE qF qG qH qI qJ qK qL qM qN)):FnOk P w K mg base CX0 5 f fd ["way", "outcome"] (J72 K qA qB qC qD qE qF qG qH qI qJ qK qL qM qN):=by
  refine F.ok Z72 (fun vs H Q E h=>?_) (fun cdv A outer s H vs Q E hr h=>?_)
  · obtain ⟨z,ou,rfl,hz,hne,q⟩:=h
    rfl
  obtain ⟨z,ou,rfl,hz,hne,q⟩:=h
  refine ⟨_,(pss_one (ps_if (PW.pt (pw_and (pt_cmpR op_eq (pe_fld (pe_fn c_way_by hr rfl (pa_cons (pv 0) pa_nil)) rfl) pe_str (nomark _)) (pw_and1 (pt_val (pe_callB call_isiG rfl bl.isinstance_ PyProof.Rows.boot_isinstance (pa_cons (pv 1) (pa_cons (pe_glob (v:=.ref qJ) rfl bl.Words_ rfl) pa_nil)))))))
     (pss_one ps_never)
     pss_nil)),?_⟩
  refine ⟨_,rfl,z,rfl,hz,fun i ei x C H' s' eC hw=>?_⟩
  have hF:Cls K C∧NoAttr K C (Str.ofString "called"):=by
    match i,eC with
    | 0,eC=>cases eC;exact ⟨bl.k_First,bl.na_First_called⟩
    | 1,eC=>cases eC;exact ⟨bl.k_Only,bl.na_Only_called⟩
    | 2,eC=>cases eC;exact ⟨bl.k_Like,bl.na_Like_called⟩
    | 3,eC=>cases eC;exact ⟨bl.k_Low,bl.na_Low_called⟩
    | 4,eC=>cases eC;exact ⟨bl.k_High,bl.na_High_called⟩
    | 5,eC=>cases eC;exact ⟨bl.k_Sum,bl.na_Sum_called⟩
    | n+6,eC=>simp [cl6] at eC
  obtain ⟨dx,hx⟩:=hw
  refine ⟨x,_,_,_,_,rfl,hx,hF.1,hF.2,rfl,rfl,_,rfl,?_⟩
  by_cases hs:z=Str.ofString "sum"
  · obtain ⟨dy,fs,ho⟩:=hne hs
    exact iteTS (by rw [hs]) ⟨_,rfl,_,_,_,_,false,rfl,.ref _,bl.t_Numbers.ty (s' _ _ ho),bl.f_nw,_,rfl,iteF (q _ s')⟩
  · exact iteFS (fun e=>by injection e with e;exact hs e) (iteF (q _ s'))
theorem O_47 (F:Fun K "judged" "judged" Y42 f fd) (bl:Bl K mg qA qB qC qD qE qF qG qH qI qJ qK qL qM qN) (m_Way_verdict_First:MCallee CX0 P w K mg base 4 qB "verdict" ["self", "codes", "outcome"] (J24 K qA qB qC qD qE qF qG qH qI qJ qK qL qM qN)) (m_Way_verdict_Only:MCallee CX0 P w K mg base 4 qC "verdict" ["self", "codes", "outcome"] (J28 K qA qB qC qD qE qF qG qH qI qJ qK qL qM qN)) (m_Way_verdict_Like:MCallee CX0 P w K mg base 4 qD "verdict" ["self", "codes", "outcome"] (J26 K qA qB qC qD qE qF qG qH qI qJ qK qL qM qN)) (m_Way_verdict_Low:MCallee CX0 P w K mg base 4 qE "verdict" ["self", "codes", "outcome"] (J27 K qA qB qC qD qE qF qG qH qI qJ qK qL qM qN)) (m_Way_verdict_High:MCallee CX0 P w K mg base 4 qF "verdict" ["self", "codes", "outcome"] (J25 K qA qB qC qD qE qF qG qH qI qJ qK qL qM qN)) (m_Way_verdict_Sum:MCallee CX0 P w K mg base 4 qG "verdict" ["self", "codes", "outcome"] (J29 K qA qB qC qD qE qF qG qH qI qJ qK qL qM qN)) (c_way_by:Callee P w K mg base 4 "way_by" ["name"] (J75 K qA qB qC qD qE qF qG qH qI qJ qK qL qM qN)):FnOk P w K mg base CX0 5 f fd ["table", "rows"] (J42 K qA qB qC qD qE qF qG qH qI qJ qK qL qM qN):=by
  refine F.ok Z42 (fun vs H Q E h=>?_) (fun cdv A outer s H vs Q E hr h=>?_)
  · obtain ⟨t,rws,wi,o,m,rfl,⟨rl,ou,dx,fs,xs,wy,ht,hf,hfw,hfo,erl,hR,hwi,hou,hole,h200⟩,q⟩:=h
    rfl
  obtain ⟨t,rws,wi,o,m,rfl,⟨rl,ou,dx,fs,xs,wy,ht,hf,hfw,hfo,erl,hR,hwi,hou,hole,h200⟩,q⟩:=h
  refine ⟨_,(pss_cons (ps_compG (i:=2) Z42.nd rfl (Or.inl rfl) (pi_enum rfl bl.enumerate_ (pa_cons (pe_fld (pv 0) rfl) pa_nil)) (cmpOkG_free (N:=["k", "row", "rows"]) (k:=2) (fr:=[1]) (cl:=[("rows",s.heap.objs.size+1)]) rfl rfl (by decide +kernel) (by decide +kernel) rfl rfl (List.forall_mem_cons.mpr ⟨rfl,List.forall_mem_nil _⟩) rfl) rfl (fun _ _ _ _=>(gTupK (K:=K) (n:=2) rfl rfl (pgs_cons (pg_name (i:=0) (show (["k", "row", "rows"]:List Str).Nodup by decide +kernel) rfl (Or.inl rfl) (Or.inr rfl)) (pgs_cons (pg_name (i:=1) (show (["k", "row", "rows"]:List Str).Nodup by decide +kernel) rfl (Or.inl rfl) (Or.inr rfl)) pgs_nil)))) (fun _ _ _ _=>(pif_one (pt_truthK (K:=K) rfl (pe_op op_and (pe_op op_shr (pv 2) (pv 0)) pe_int)))) (fun _ _ _ _=>(pe_ix (ix_tupK (K:=K) rfl) (pv 1) pe_int (fun _ _=>rfl))))
     (pss_one (ps_ret (pe_mtP (polc m_Way_verdict_First bl.k_First (polc m_Way_verdict_Only bl.k_Only (polc m_Way_verdict_Like bl.k_Like (polc m_Way_verdict_Low bl.k_Low (polc m_Way_verdict_High bl.k_High (polc m_Way_verdict_Sum bl.k_Sum poln)))))) pass0 hr (pe_fn c_way_by hr rfl (pa_cons (pe_fld (pv 0) rfl) pa_nil)) (pa_cons (pv 2) (pa_cons (pe_fld (pv 0) rfl) pa_nil)))))),?_⟩
  have hxl:xs.length=rws.length:=hR.1
  refine ⟨_,rfl,t,_,_,_,_,rfl,ht,bl.k_Table,bl.na_Table_rows,hf,rl,rfl,⟨_,SqL.of erl⟩,compG_enum (xs:=xs) (fun D i zs H'=>Same H H'∧H' D=some (.lst zs)∧zs=(pkF rws (bitOn m) i).map V.int)
    (fun D hD=>⟨same_new hD _,upd_same,rfl⟩) (fun D i zs H' hD _ h=>SqL.of (h.1 _ _ erl)) (fun D i x zs H' T hD ex h hT ts hts=>?_) (fun D zs H' hD h=>?_)⟩
  · obtain ⟨sm,eD,rfl⟩:=h
    have s2:=sm.trans (same_new hT (.tup [.int i,x]))
    have eT:upd H' T (.tup [.int i,x]) T=some (.tup [.int i,x]):=upd_same
    have eD2:=same_new hT (.tup [.int i,x]) _ _ eD
    generalize upd H' T (.tup [.int i,x])=H2 at s2 eT eD2 ⊢
    obtain ⟨r,w_,rfl,ew,ce,cv,g1,_,g2,g3⟩:=RefL.get (hR.same s2) ex
    have hi:i < xs.length:=(List.getElem?_eq_some_iff.mp ex).1
    have hg:rws.getD i ([],0)=w_:=getD_at ew
    have hpl:=pkF_len rws (bitOn m) i
    obtain ⟨t0,t1,rfl⟩:∃ t0 t1,ts=[t0,t1]:=by
      match ts,hts with
      | [t0,t1],_=>exact ⟨t0,t1,rfl⟩
    refine ⟨T,_,rfl,SqT.of eT,rfl,_,_,rfl,_,_,rfl,rfl,⟨[some (.int i),some (.ref r)],rfl,rfl⟩,?_⟩
    refine ⟨_,rfl,_,rfl,_,_,rfl,rfl,Int.natCast_nonneg _,_,_,rfl,rfl,bitOn m i,rfl,?_⟩
    have hs:=pkF_succ rws (bitOn m) i
    rw [hg] at hs
    cases hb:bitOn m i with
    | true =>
      rw [hb] at hs
      refine iteT ⟨_,rfl,r,_,_,_,rfl,rfl,SqT.of g1,rfl,CYes.mk hi eD2 (small1000 (by rw [List.length_map];omega)) ⟨s2.upd hD,upd_same,?_⟩⟩
      rw [hs,List.map_append];rfl
    | false =>
      rw [hb] at hs
      refine iteF (CNext.mk (zs:=(pkF rws (bitOn m) i).map V.int) hi ⟨s2,eD2,?_⟩)
      rw [hs];simp
  · obtain ⟨sm,eD,rfl⟩:=h
    rw [hxl] at eD
    have hwy:wy ∈ six:=List.mem_of_getElem? hwi
    refine ⟨_,rfl,t,_,_,_,_,rfl,sm _ _ ht,bl.k_Table,bl.na_Table_way,hfw,wy,rfl,hwy,fun i2 ei2 x C H2 s2 eC hw=>?_⟩
    have ii:i2=wi:=six_inj ei2 hwi
    subst ii
    have sA:=sm.trans s2
    obtain ⟨dw,hx⟩:=hw
    have hpl:=pkF_len rws (bitOn m) rws.length
    have key:(C,spVe K C qI qJ i2) ∈ [(qB,spVe K qB qI qJ 0),(qC,spVe K qC qI qJ 1),(qD,spVe K qD qI qJ 2),(qE,spVe K qE qI qJ 3),(qF,spVe K qF qI qJ 4),(qG,spVe K qG qI qJ 5)]:=by
      match i2,eC with
      | 0,eC=>cases eC;exact .head _
      | 1,eC=>cases eC;exact .tail _ (.head _)
      | 2,eC=>cases eC;exact .tail _ (.tail _ (.head _))
      | 3,eC=>cases eC;exact .tail _ (.tail _ (.tail _ (.head _)))
      | 4,eC=>cases eC;exact .tail _ (.tail _ (.tail _ (.tail _ (.head _))))
      | 5,eC=>cases eC;exact .tail _ (.tail _ (.tail _ (.tail _ (.tail _ (.head _)))))
      | n+6,eC=>simp [cl6] at eC
    refine ⟨x,(C,spVe K C qI qJ i2),dw,_,rfl,key,hx,rfl,_,rfl,_,rfl,t,_,_,_,_,rfl,sA _ _ ht,bl.k_Table,bl.na_Table_outcome,hfo,x,D,ou,_,o,rfl,⟨dw,_,hx⟩,hou.same sA,hole,SqL.of (s2 _ _ eD),by omega,fun r H3 s3 h3=>q r H3 (sA.trans s3) h3⟩
theorem O_55 (F:Fun K "_law_domain" "_law_domain" Y50 f fd) (bl:Bl K mg qA qB qC qD qE qF qG qH qI qJ qK qL qM qN) (k_Numbers:MkCallee CX0 P w K mg base 3 "Numbers" qI ["self", "low", "high"] (J12 K qA qB qC qD qE qF qG qH qI qJ qK qL qM qN)) (k_Words:MkCallee CX0 P w K mg base 3 "Words" qJ ["self", "words"] (J30 K qA qB qC qD qE qF qG qH qI qJ qK qL qM qN)) (c__law_word:Callee P w K mg base 4 "_law_word" ["cell", "k"] (J64 K qA qB qC qD qE qF qG qH qI qJ qK qL qM qN)):FnOk P w K mg base CX0 5 f fd ["column"] (J50 K qA qB qC qD qE qF qG qH qI qJ qK qL qM qN):=by
  refine F.ok Z50 (fun vs H Q E h=>?_) (fun cdv A outer s H vs Q E hr h=>?_)
  · obtain ⟨l,c,rfl,⟨pl,ts,_,_,hl,hpl,hp⟩,ok,q⟩:=h
    rfl
  obtain ⟨l,c,rfl,⟨pl,ts,_,_,hl,hpl,hp⟩,ok,q⟩:=h
  refine ⟨_,(pss_cons (ps_if (pt_val (pe_ix ix_list (pv 0) pe_int (fun _ _=>rfl)))
     (pss_one (ps_ret (pe_mk k_Words pass0 hr rfl (pa_cons (pe_comp (pi_range1 rfl bl.range_ (pa_cons (pe_op op_add (pe_ix ix_tup (pe_ix ix_list (pe_ix ix_list (pv 0) pe_int (fun _ _=>rfl)) (pe_un un_neg pe_int) (fun _ _=>rfl)) pe_int (fun _ _=>rfl)) pe_int) pa_nil)) (cmpOk_free (N:=["k", "column"]) (fr:=[0]) (cl:=[("column",s.heap.objs.size+1)]) rfl rfl (by decide +kernel) (by decide +kernel) rfl (by decide +kernel) rfl rfl rfl (List.forall_mem_cons.mpr ⟨rfl,List.forall_mem_nil _⟩) rfl) rfl (fun _ _ _ _=>pif_nil) (fun _ _ _ _=>(pe_fn c__law_word hr rfl (pa_cons (pe_ix (ix_listK (K:=K) rfl) (pv 1) pe_int (fun _ _=>rfl)) (pa_cons (pv 0) pa_nil))))) pa_nil))))
     pss_nil)
     (pss_one (ps_ret (pe_mk k_Numbers pass0 hr rfl (pa_cons (pe_ix ix_tup (pe_ix ix_list (pe_ix ix_list (pv 0) pe_int (fun _ _=>rfl)) pe_int (fun _ _=>rfl)) pe_int (fun _ _=>rfl)) (pa_cons (pe_ix ix_tup (pe_ix ix_list (pe_ix ix_list (pv 0) pe_int (fun _ _=>rfl)) (pe_un un_neg pe_int) (fun _ _=>rfl)) pe_int (fun _ _=>rfl)) pa_nil)))))),?_⟩
  have h1:=ok.some_
  obtain ⟨ts',r,ps',p,ets,eps,hp',er⟩:=hp.last (by intro z;rw [z] at hp;have:=hp.length;simp at this;omega)
  have il:atI ts (-1)=some (.ref r):=by rw [ets];exact atI_last _ _
  have hhi:c.hi=p.2:=by unfold Col.hi;rw [eps];simp
  obtain ⟨p0,ep0,hlo⟩:=ok.first
  obtain ⟨r0,er0,hr0⟩:∃ r0,ts[0]?=some (.ref r0)∧H r0=some (.tup [.int p0.1,.int p0.2]):=by
    obtain ⟨x,ex⟩:∃ x,ts[0]?=some x:=⟨_,List.getElem?_eq_getElem (by rw [hp.length];omega)⟩
    obtain ⟨p2,r2,f1,rfl,f2⟩:=hp.get ex
    rw [ep0] at f1;cases f1
    exact ⟨r2,ex,f2⟩
  have hle:=ok.le
  refine ⟨_,rfl,l,_,_,_,rfl,rfl,SqL.of hl,rfl,_,rfl,?_⟩
  cases hw:c.w with
  | false =>
    refine iteF ?_
    refine ⟨_,rfl,l,_,_,_,rfl,rfl,SqL.of hl,rfl,pl,_,_,_,rfl,rfl,SqL.of hpl,atI_nat (j:=0) er0,r0,_,_,_,rfl,rfl,SqT.of hr0,z0 _ _,_,rfl,l,_,_,_,rfl,rfl,SqL.of hl,rfl,_,rfl,pl,_,_,_,rfl,rfl,SqL.of hpl,il,r,_,_,_,rfl,rfl,SqT.of er,z1 _ _,fun x dx hx hdx hne=>⟨x,dx,p0.1,p.2,rfl,upd_same,by rw [hlo,← hhi];exact hle,rfl,?_⟩⟩
    refine q x _ ?_ (.inl ⟨hw,dx,_,upd_same,?_,?_,rfl⟩)
    · unfold mkd
      exact (((same_new hdx _).upd hx).upd hx).upd hx
    · show some (V.int p0.1)=some (V.int c.lo)
      rw [hlo]
    · show some (V.int p.2)=some (V.int c.hi)
      rw [hhi]
  | true =>
    refine iteT ?_
    have z0':=ok.w0 hw p0 ep0
    have z40:p.2 < 40:=by
      obtain ⟨pl_,e1,e2⟩:=ok.last
      have:=ok.wl hw _ _ e1
      omega
    have hlo0:c.lo=0:=by omega
    have hb:0≤p.2:=by omega
    refine ⟨_,rfl,l,_,_,_,rfl,rfl,SqL.of hl,rfl,_,rfl,pl,_,_,_,rfl,rfl,SqL.of hpl,il,r,_,_,_,rfl,rfl,SqT.of er,z1 _ _,_,_,rfl,rfl,_,rfl,(by show -(2 ^ 62)≤p.2+1;omega),(by show p.2+1 < 2 ^ 62;omega),comp_range (fun D i zs H'=>Same H H'∧H' D=some (.lst zs)∧zs=(wds c.sd i).map V.str) (fun D hD=>⟨same_new hD _,upd_same,rfl⟩) (fun D i zs H' hD hi h=>?_) (fun D zs H' hD h=>?_)⟩
    · obtain ⟨sm,eD,rfl⟩:=h
      have hlz:((wds c.sd i).map V.str).length=i:=by unfold wds;simp
      refine ⟨_,rfl,l,_,_,_,rfl,rfl,SqL.of (sm _ _ hl),rfl,_,rfl,_,_,rfl,CYes.mk hi eD (small1000 (by rw [hlz];omega)) ⟨sm.upd hD,upd_same,?_⟩⟩
      rw [wds_succ,List.map_append,Int.zero_add]
      rfl
    · obtain ⟨sm,eD,rfl⟩:=h
      intro x dx hx hdx hne
      have s3:Same H' (upd (upd H' dx (.own x)) x (.ins qJ dx [])):=(same_new hdx _).upd hx
      have wl:(wds c.sd (p.2+1).toNat).length=(p.2+1).toNat:=by unfold wds;simp
      refine ⟨x,dx,D,wds c.sd (p.2+1).toNat,rfl,upd_same,s3 _ _ eD,wds_good (by omega) (by omega),fun H4 l4 k1 k2 k3=>⟨rfl,q x H4 (fun b o e=>k1 b o (ne_of_none (sm _ _ e) hx) (s3 _ _ (sm _ _ e))) ?_⟩⟩
      refine .inr ⟨hw,dx,_,l4,k2,?_,?_,rfl,rfl,by rw [k3,hhi]⟩
      · show some (V.int 0)=some (V.int c.lo)
        rw [hlo0]
      · show some (V.int (hiW (wds c.sd (p.2+1).toNat)))=some (V.int c.hi)
        rw [hhi]
        unfold hiW
        rw [wl,Int.toNat_of_nonneg (by omega)]
        congr 2
        omega
theorem O_81 (F:Fun K "verdict" "verdict" Y74 f fd) (bl:Bl K mg qA qB qC qD qE qF qG qH qI qJ qK qL qM qN) (c_judged:Callee P w K mg base 5 "judged" ["table", "rows"] (J42 K qA qB qC qD qE qF qG qH qI qJ qK qL qM qN)) (c_mask:Callee P w K mg base 5 "mask" ["table", "codes"] (J65 K qA qB qC qD qE qF qG qH qI qJ qK qL qM qN)):FnOk P w K mg base CX0 6 f fd ["table", "codes"] (J74 K qA qB qC qD qE qF qG qH qI qJ qK qL qM qN):=by
  refine F.ok Z74 (fun vs H Q E h=>?_) (fun cdv A outer s H vs Q E hr h=>?_)
  · obtain ⟨t,c,rws,wi,o,cs,rfl,hT,hS,hlen,q⟩:=h
    rfl
  obtain ⟨t,c,rws,wi,o,cs,rfl,hT,hS,hlen,q⟩:=h
  refine ⟨_,(pss_one (ps_ret (pe_fn c_judged hr rfl (pa_cons (pv 0) (pa_cons (pe_fn c_mask hr rfl (pa_cons (pv 0) (pa_cons (pv 1) pa_nil))) pa_nil))))),?_⟩
  refine ⟨_,rfl,_,rfl,_,rfl,t,c,rws,wi,o,cs,rfl,hT,hS,hlen,fun H2 s2=>?_⟩
  refine ⟨t,rws,wi,o,_,rfl,hT.same s2,fun r H3 s3 h3=>q r H3 (s2.trans s3) ?_⟩
  rw [pkF_msk] at h3
  exact h3
theorem O_17 (F:Fun K "__init__" "Table.__init__" Y17 f fd) (bl:Bl K mg qA qB qC qD qE qF qG qH qI qJ qK qL qM qN) (c_refuse_names:Callee P w K mg base 5 "refuse_names" ["names"] (J70 K qA qB qC qD qE qF qG qH qI qJ qK qL qM qN)) (c_refuse_counts:Callee P w K mg base 5 "refuse_counts" ["names", "rows"] (J69 K qA qB qC qD qE qF qG qH qI qJ qK qL qM qN)) (c_refuse_way:Callee P w K mg base 5 "refuse_way" ["way", "outcome"] (J72 K qA qB qC qD qE qF qG qH qI qJ qK qL qM qN)) (c_refuse_row:Callee P w K mg base 5 "refuse_row" ["domains", "outcome", "cells", "code"] (J71 K qA qB qC qD qE qF qG qH qI qJ qK qL qM qN)) (c_own_row:Callee P w K mg base 5 "own_row" ["cells", "code"] (J68 K qA qB qC qD qE qF qG qH qI qJ qK qL qM qN)):FnOk P w K mg base CX0 6 f fd ["self", "name", "names", "domains", "outcome", "way", "rows"] (J17 K qA qB qC qD qE qF qG qH qI qJ qK qL qM qN):=by
  refine F.ok Z17 (fun vs H Q E h=>?_) (fun cdv A outer s H vs Q E hr h=>?_)
  · obtain ⟨x,dx,na,dl,ou,rl,nm,wy,zs,dv,rx,bs,o,rws,rfl,hx,hna,hw,hnd,h1,h4,hwy,hws,hdl,hdv,hou,hrl,hR,h200,hb4,hok,q⟩:=h
    rfl
  obtain ⟨x,dx,na,dl,ou,rl,nm,wy,zs,dv,rx,bs,o,rws,rfl,hx,hna,hw,hnd,h1,h4,hwy,hws,hdl,hdv,hou,hrl,hR,h200,hb4,hok,q⟩:=h
  refine ⟨_,(pss_cons (ps_expr (pe_fn c_refuse_names hr rfl (pa_cons (pe_op op_cat (pe_lst (pa_cons (pv 1) pa_nil)) (pv 2)) pa_nil)))
     (pss_cons (ps_expr (pe_fn c_refuse_counts hr rfl (pa_cons (pv 2) (pa_cons (pv 6) pa_nil))))
     (pss_cons (ps_expr (pe_fn c_refuse_way hr rfl (pa_cons (pv 5) (pa_cons (pv 4) pa_nil))))
     (pss_cut (ps_for PassesOwn.never rfl (pi_list (pv 6)) (pg_tup rfl (pgs_cons (pg_name (i:=7) Z17.nd rfl (Or.inl rfl)) (pgs_cons (pg_name (i:=8) Z17.nd rfl (Or.inl rfl)) pgs_nil)))
     (pss_one (ps_expr (pe_fn c_refuse_row hr rfl (pa_cons (pv 3) (pa_cons (pv 4) (pa_cons (pv 7) (pa_cons (pv 8) pa_nil))))))))
     (pss_cons (ps_fld (pv 0) (pv 1) rfl)
     (pss_cons (ps_fld (pv 0) (pe_callTy call_list_of rfl bl.list_ PyProof.Rows.boot_list (pa_cons (pv 2) pa_nil)) rfl)
     (pss_cons (ps_fld (pv 0) (pe_callTy call_list_of rfl bl.list_ PyProof.Rows.boot_list (pa_cons (pv 3) pa_nil)) rfl)
     (pss_cons (ps_fld (pv 0) (pv 4) rfl)
     (pss_cons (ps_fld (pv 0) (pv 5) rfl)
     (pss_one (ps_fld (pv 0) (pe_compG (pi_list (pv 6)) (cmpOkG_plain (N:=["cells", "code"]) (k:=2) rfl rfl (by decide +kernel) (by decide +kernel) (by decide +kernel)) rfl (fun _ _ _ _=>(gTupK (K:=K) (n:=2) rfl rfl (pgs_cons (pg_name (i:=0) (show (["cells", "code"]:List Str).Nodup by decide +kernel) rfl (Or.inl rfl) (Or.inr rfl)) (pgs_cons (pg_name (i:=1) (show (["cells", "code"]:List Str).Nodup by decide +kernel) rfl (Or.inl rfl) (Or.inr rfl)) pgs_nil)))) (fun _ _ _ _=>pif_nil) (fun _ _ _ _=>(pe_fn c_own_row hr rfl (pa_cons (pv 0) (pa_cons (pv 1) pa_nil))))) rfl))))))))))),?_⟩
  have hzl:(zs.map V.str).length=zs.length:=List.length_map _
  refine ⟨_,rfl,(by show 1≤sizeLine;decide),fun l1 hl1=>?_⟩
  have s1:=same_new hl1 (.lst [.str nm])
  have e1:upd H l1 (.lst [.str nm]) l1=some (.lst [.str nm]):=upd_same
  generalize upd H l1 (.lst [.str nm])=H1 at s1 e1 ⊢
  refine ⟨_,rfl,l1,na,_,_,rfl,rfl,e1,s1 _ _ hna,(by rw [hzl];show 1+zs.length≤sizeLine;exact big (by omega)),fun l2 hl2=>?_⟩
  have s2:=s1.trans (same_new hl2 (.lst ([V.str nm] ++ zs.map V.str)))
  have e2:upd H1 l2 (.lst ([V.str nm] ++ zs.map V.str)) l2=some (.lst ((nm :: zs).map V.str)):=upd_same
  generalize upd H1 l2 (.lst ([V.str nm] ++ zs.map V.str))=H2 at s2 e2 ⊢
  refine ⟨l2,nm :: zs,rfl,SqL.of e2,hw,hnd,by rw [List.length_cons];omega,fun H3 t3=>?_⟩
  have s3:=s2.trans t3
  refine ⟨_,rfl,_,rfl,na,rl,_,_,rfl,SqL.of (s3 _ _ hna),SqL.of (s3 _ _ hrl),by rw [hzl];exact h1,by rw [hzl];exact h4,h200,?_⟩
  refine ⟨_,rfl,_,rfl,wy,ou,rfl,hwy,(fun z=>let ⟨dx',fs',e'⟩:=hws z;⟨dx',fs',s3 _ _ e'⟩),fun H4 t4=>?_⟩
  have s4:=s3.trans t4
  refine ⟨fun σ' H'=>Same H H'∧∃ c7 c8:Option V,σ'=[some (.ref x),some (.str nm),some (.ref na),some (.ref dl),some (.ref ou),some (.str wy),some (.ref rl),c7,c8],?_,?_⟩
  · refine ⟨_,rfl,rl,rfl,⟨_,SqL.of (s4 _ _ hrl)⟩,for_list (xs:=rx) (fun i σ H'=>Same H H'∧∃ c7 c8:Option V,σ=[some (.ref x),some (.str nm),some (.ref na),some (.ref dl),some (.ref ou),some (.str wy),some (.ref rl),c7,c8]) ⟨s4,_,_,rfl⟩ (fun i σ H' _ h=>SqL.of (h.1 _ _ hrl)) (fun i y σ H' e h=>?_) (fun σ H' h=>h)⟩
    obtain ⟨sm,c7,c8,rfl⟩:=h
    obtain ⟨r,w_,rfl,ew,ce,cv,g1,_,g2,g3⟩:=RefL.get (hR.same sm) e
    refine ⟨r,_,rfl,SqT.of g1,rfl,_,_,rfl,_,_,rfl,rfl,?_⟩
    exact ⟨_,rfl,_,rfl,_,rfl,_,rfl,dl,ou,ce,dv,cv,bs,o,w_,rfl,SqL.of (sm _ _ hdl),RefL.mono hdv fun _ _ p=>p.same sm,hou.same sm,g2,g3,hok w_ (List.mem_of_getElem? ew),fun H2 t2=>⟨sm.trans t2,_,_,rfl⟩⟩
  rintro σ5 H5 ⟨s5,c7,c8,rfl⟩
  have x5:=s5 _ _ hx
  have nax:na ≠ x:=ne_of hna hx (by intro z;cases z)
  have dlx:dl ≠ x:=ne_of hdl hx (by intro z;cases z)
  have rlx:rl ≠ x:=ne_of hrl hx (by intro z;cases z)
  have k5:∀ b o,b ≠ x→H b=some o→H5 b=some o:=fun b o _ e=>s5 b o e
  have R5:=RL.hide x5 (hR.same s5)
  refine ⟨_,rfl,_,rfl,x,_,dx,_,rfl,x5,bl.k_Table,bl.na_Table_name,(by show 0 < 1000;decide),?_⟩
  have k6:∀ b o,b ≠ x→H5 b=some o→upd H5 x (.ins qK dx [(Str.ofString "name",.str nm)]) b=some o:=fun b o hb e=>(upd_ne hb).trans e
  have x6:upd H5 x (.ins qK dx [(Str.ofString "name",.str nm)]) x=some (.ins qK dx [(Str.ofString "name",.str nm)]):=upd_same
  have g6:upd H5 x (.ins qK dx (putF (Str.ofString "name") (.str nm) []))=upd H5 x (.ins qK dx [(Str.ofString "name",.str nm)]):=rfl
  rw [g6]
  clear g6
  generalize upd H5 x (.ins qK dx [(Str.ofString "name",.str nm)])=H6 at k6 x6 ⊢
  refine ⟨_,rfl,na,_,rfl,.inl (SqL.of (k6 _ _ nax (s5 _ _ hna))),fun m1 hm1=>⟨_,rfl,x,_,dx,_,rfl,ret_r1 x6 hm1,bl.k_Table,bl.na_Table_names,(by show 1 < 1000;decide),?_⟩⟩
  have g7:upd (upd H6 m1 (.lst (zs.map V.str))) x (.ins qK dx (putF (Str.ofString "names") (V.ref m1) [(Str.ofString "name",V.str nm)]))=upd (upd H6 m1 (.lst (zs.map V.str))) x (.ins qK dx [(Str.ofString "name",V.str nm),(Str.ofString "names",V.ref m1)]):=by rw [pf1]
  rw [g7]
  clear g7
  have k7:∀ b o,b ≠ x→H5 b=some o→upd (upd H6 m1 (.lst (zs.map V.str))) x (.ins qK dx [(Str.ofString "name",V.str nm),(Str.ofString "names",V.ref m1)]) b=some o:=fun b o hb e=>(upd_ne hb).trans (ret_r1 (k6 b o hb e) hm1)
  have x7:upd (upd H6 m1 (.lst (zs.map V.str))) x (.ins qK dx [(Str.ofString "name",V.str nm),(Str.ofString "names",V.ref m1)]) x=some (.ins qK dx [(Str.ofString "name",V.str nm),(Str.ofString "names",V.ref m1)]):=upd_same
  have m1x:m1 ≠ x:=fun z=>by rw [z,x6] at hm1;cases hm1
  have j7:upd (upd H6 m1 (.lst (zs.map V.str))) x (.ins qK dx [(Str.ofString "name",V.str nm),(Str.ofString "names",V.ref m1)]) m1=some (.lst (zs.map V.str)):=(upd_ne m1x).trans upd_same
  generalize upd (upd H6 m1 (.lst (zs.map V.str))) x (.ins qK dx [(Str.ofString "name",V.str nm),(Str.ofString "names",V.ref m1)])=H7 at k7 x7 j7 ⊢
  refine ⟨_,rfl,dl,_,rfl,.inl (SqL.of (k7 _ _ dlx (s5 _ _ hdl))),fun m2 hm2=>⟨_,rfl,x,_,dx,_,rfl,ret_r1 x7 hm2,bl.k_Table,bl.na_Table_domains,(by show 2 < 1000;decide),?_⟩⟩
  have g8:upd (upd H7 m2 (.lst dv)) x (.ins qK dx (putF (Str.ofString "domains") (V.ref m2) [(Str.ofString "name",V.str nm),(Str.ofString "names",V.ref m1)]))=upd (upd H7 m2 (.lst dv)) x (.ins qK dx [(Str.ofString "name",V.str nm),(Str.ofString "names",V.ref m1),(Str.ofString "domains",V.ref m2)]):=by rw [pf2]
  rw [g8]
  clear g8
  have k8:∀ b o,b ≠ x→H5 b=some o→upd (upd H7 m2 (.lst dv)) x (.ins qK dx [(Str.ofString "name",V.str nm),(Str.ofString "names",V.ref m1),(Str.ofString "domains",V.ref m2)]) b=some o:=fun b o hb e=>(upd_ne hb).trans (ret_r1 (k7 b o hb e) hm2)
  have x8:upd (upd H7 m2 (.lst dv)) x (.ins qK dx [(Str.ofString "name",V.str nm),(Str.ofString "names",V.ref m1),(Str.ofString "domains",V.ref m2)]) x=some (.ins qK dx [(Str.ofString "name",V.str nm),(Str.ofString "names",V.ref m1),(Str.ofString "domains",V.ref m2)]):=upd_same
  have m2x:m2 ≠ x:=fun z=>by rw [z,x7] at hm2;cases hm2
  have j8:upd (upd H7 m2 (.lst dv)) x (.ins qK dx [(Str.ofString "name",V.str nm),(Str.ofString "names",V.ref m1),(Str.ofString "domains",V.ref m2)]) m1=some (.lst (zs.map V.str)):=(upd_ne m1x).trans (ret_r1 j7 hm2)
  have i8:upd (upd H7 m2 (.lst dv)) x (.ins qK dx [(Str.ofString "name",V.str nm),(Str.ofString "names",V.ref m1),(Str.ofString "domains",V.ref m2)]) m2=some (.lst dv):=(upd_ne m2x).trans upd_same
  generalize upd (upd H7 m2 (.lst dv)) x (.ins qK dx [(Str.ofString "name",V.str nm),(Str.ofString "names",V.ref m1),(Str.ofString "domains",V.ref m2)])=H8 at k8 x8 j8 i8 ⊢
  refine ⟨_,rfl,_,rfl,x,_,dx,_,rfl,x8,bl.k_Table,bl.na_Table_outcome,(by show 3 < 1000;decide),?_⟩
  have g9:upd H8 x (.ins qK dx (putF (Str.ofString "outcome") (V.ref ou) [(Str.ofString "name",V.str nm),(Str.ofString "names",V.ref m1),(Str.ofString "domains",V.ref m2)]))=upd H8 x (.ins qK dx [(Str.ofString "name",V.str nm),(Str.ofString "names",V.ref m1),(Str.ofString "domains",V.ref m2),(Str.ofString "outcome",V.ref ou)]):=by rw [pf3]
  rw [g9]
  clear g9
  have k9:∀ b o,b ≠ x→H5 b=some o→upd H8 x (.ins qK dx [(Str.ofString "name",V.str nm),(Str.ofString "names",V.ref m1),(Str.ofString "domains",V.ref m2),(Str.ofString "outcome",V.ref ou)]) b=some o:=fun b o hb e=>(upd_ne hb).trans (k8 b o hb e)
  have x9:upd H8 x (.ins qK dx [(Str.ofString "name",V.str nm),(Str.ofString "names",V.ref m1),(Str.ofString "domains",V.ref m2),(Str.ofString "outcome",V.ref ou)]) x=some (.ins qK dx [(Str.ofString "name",V.str nm),(Str.ofString "names",V.ref m1),(Str.ofString "domains",V.ref m2),(Str.ofString "outcome",V.ref ou)]):=upd_same
  have j9:upd H8 x (.ins qK dx [(Str.ofString "name",V.str nm),(Str.ofString "names",V.ref m1),(Str.ofString "domains",V.ref m2),(Str.ofString "outcome",V.ref ou)]) m1=some (.lst (zs.map V.str)):=(upd_ne m1x).trans j8
  have i9:upd H8 x (.ins qK dx [(Str.ofString "name",V.str nm),(Str.ofString "names",V.ref m1),(Str.ofString "domains",V.ref m2),(Str.ofString "outcome",V.ref ou)]) m2=some (.lst dv):=(upd_ne m2x).trans i8
  generalize upd H8 x (.ins qK dx [(Str.ofString "name",V.str nm),(Str.ofString "names",V.ref m1),(Str.ofString "domains",V.ref m2),(Str.ofString "outcome",V.ref ou)])=H9 at k9 x9 j9 i9 ⊢
  refine ⟨_,rfl,_,rfl,x,_,dx,_,rfl,x9,bl.k_Table,bl.na_Table_way,(by show 4 < 1000;decide),?_⟩
  have g10:upd H9 x (.ins qK dx (putF (Str.ofString "way") (V.str wy) [(Str.ofString "name",V.str nm),(Str.ofString "names",V.ref m1),(Str.ofString "domains",V.ref m2),(Str.ofString "outcome",V.ref ou)]))=upd H9 x (.ins qK dx [(Str.ofString "name",V.str nm),(Str.ofString "names",V.ref m1),(Str.ofString "domains",V.ref m2),(Str.ofString "outcome",V.ref ou),(Str.ofString "way",V.str wy)]):=by rw [pf4]
  rw [g10]
  clear g10
  have k10:∀ b o,b ≠ x→H5 b=some o→upd H9 x (.ins qK dx [(Str.ofString "name",V.str nm),(Str.ofString "names",V.ref m1),(Str.ofString "domains",V.ref m2),(Str.ofString "outcome",V.ref ou),(Str.ofString "way",V.str wy)]) b=some o:=fun b o hb e=>(upd_ne hb).trans (k9 b o hb e)
  have x10:upd H9 x (.ins qK dx [(Str.ofString "name",V.str nm),(Str.ofString "names",V.ref m1),(Str.ofString "domains",V.ref m2),(Str.ofString "outcome",V.ref ou),(Str.ofString "way",V.str wy)]) x=some (.ins qK dx [(Str.ofString "name",V.str nm),(Str.ofString "names",V.ref m1),(Str.ofString "domains",V.ref m2),(Str.ofString "outcome",V.ref ou),(Str.ofString "way",V.str wy)]):=upd_same
  have j10:upd H9 x (.ins qK dx [(Str.ofString "name",V.str nm),(Str.ofString "names",V.ref m1),(Str.ofString "domains",V.ref m2),(Str.ofString "outcome",V.ref ou),(Str.ofString "way",V.str wy)]) m1=some (.lst (zs.map V.str)):=(upd_ne m1x).trans j9
  have i10:upd H9 x (.ins qK dx [(Str.ofString "name",V.str nm),(Str.ofString "names",V.ref m1),(Str.ofString "domains",V.ref m2),(Str.ofString "outcome",V.ref ou),(Str.ofString "way",V.str wy)]) m2=some (.lst dv):=(upd_ne m2x).trans i9
  generalize upd H9 x (.ins qK dx [(Str.ofString "name",V.str nm),(Str.ofString "names",V.ref m1),(Str.ofString "domains",V.ref m2),(Str.ofString "outcome",V.ref ou),(Str.ofString "way",V.str wy)])=H10 at k10 x10 j10 i10 ⊢
  have R10:RL NT H10 rx rws:=RL.same R5 (hide_same k10)
  have hrl10:=k10 _ _ rlx (s5 _ _ hrl)
  refine ⟨_,rfl,rl,rfl,⟨_,SqL.of hrl10⟩,compG_list (xs:=rx) (fun D i zs H'=>Same H10 H'∧H' D=some (.lst zs)∧RL (Fr H10 D) H' zs (rws.take i))
    (fun D hD=>⟨same_new hD _,upd_same,RefL.nil⟩) (fun D i zs H' hD _ h=>SqL.of (h.1 _ _ hrl10)) (fun D i y zs H' hD e h ts hts=>?_) (fun D zs H' hD h=>?_)⟩
  · obtain ⟨sm,eD,hz⟩:=h
    obtain ⟨r,w_,rfl,ew,ce,cv,g1,_,g2,g3⟩:=RefL.get (R10.same sm) e
    have hi:i < rx.length:=(List.getElem?_eq_some_iff.mp e).1
    obtain ⟨t0,t1,rfl⟩:∃ t0 t1,ts=[t0,t1]:=by
      match ts,hts with
      | [t0,t1],_=>exact ⟨t0,t1,rfl⟩
    refine ⟨r,_,rfl,SqT.of g1,rfl,_,_,rfl,_,_,rfl,rfl,⟨[some (.ref ce),some (.int w_.2)],rfl,rfl⟩,?_⟩
    refine ⟨_,rfl,_,rfl,ce,cv,w_,rfl,g2,g3,by rw [(hok w_ (List.mem_of_getElem? ew)).len];omega,fun r2 H2 t2 hr2 hrow=>?_⟩
    have eD2:=t2 _ _ eD
    have hlz:zs.length≤200:=by
      have:=hz.1
      rw [List.length_take] at this
      omega
    refine CYes.mk hi eD2 (small1000 (by omega)) ⟨(sm.trans t2).upd hD,upd_same,?_⟩
    rw [take_snoc ew]
    exact RL.updN (RefL.snoc (hz.same t2) (hrow.wk fun a h=>⟨sm.free h,fun z=>by rw [z,eD] at h;cases h⟩)) Fr.out eD2
  · obtain ⟨sm,eD,hz⟩:=h
    rw [hR.1,List.take_length] at hz
    refine ⟨_,rfl,x,_,dx,_,rfl,sm _ _ x10,bl.k_Table,bl.na_Table_rows,(by show 5 < 1000;decide),?_⟩
    have g11:upd H' x (.ins qK dx (putF (Str.ofString "rows") (V.ref D) [(Str.ofString "name",V.str nm),(Str.ofString "names",V.ref m1),(Str.ofString "domains",V.ref m2),(Str.ofString "outcome",V.ref ou),(Str.ofString "way",V.str wy)]))=upd H' x (.ins qK dx [(Str.ofString "name",V.str nm),(Str.ofString "names",V.ref m1),(Str.ofString "domains",V.ref m2),(Str.ofString "outcome",V.ref ou),(Str.ofString "way",V.str wy),(Str.ofString "rows",V.ref D)]):=by rw [pf5]
    rw [g11]
    have nDx:D ≠ x:=fun z=>by rw [z,x10] at hD;cases hD
    refine q _ _ D zs (fun b o hb e=>(upd_ne hb).trans (sm _ _ (k10 b o hb (s5 _ _ e)))) upd_same rfl rfl rfl rfl ⟨m1,m2,rfl,rfl,(upd_ne m1x).trans (sm _ _ j10),(upd_ne m2x).trans (sm _ _ i10)⟩ ((upd_ne nDx).trans eD) ?_
    exact RL.same (RL.hide (sm _ _ x10) hz.any) (hide_same fun b o hb e=>(upd_ne hb).trans e)
theorem O_84 (F:Fun K "with_rows" "with_rows" Y77 f fd) (bl:Bl K mg qA qB qC qD qE qF qG qH qI qJ qK qL qM qN) (k_Table:MkCallee CX0 P w K mg base 6 "Table" qK ["self", "name", "names", "domains", "outcome", "way", "rows"] (J17 K qA qB qC qD qE qF qG qH qI qJ qK qL qM qN)):FnOk P w K mg base CX0 8 f fd ["table", "rows"] (J77 K qA qB qC qD qE qF qG qH qI qJ qK qL qM qN):=by
  refine F.ok Z77 (fun vs H Q E h=>?_) (fun cdv A outer s H vs Q E hr h=>?_)
  · obtain ⟨t,rl,ou,nm,wy,zs,dv,rx,rws0,rws,bs,o,rfl,⟨rl0,dx,na,dl,fs,xs,ht,f1,f2,f3,f4,f5,f6,ena,edl,erl0,hR0,h200⟩,ok,erl,hR,q⟩:=h
    rfl
  obtain ⟨t,rl,ou,nm,wy,zs,dv,rx,rws0,rws,bs,o,rfl,⟨rl0,dx,na,dl,fs,xs,ht,f1,f2,f3,f4,f5,f6,ena,edl,erl0,hR0,h200⟩,ok,erl,hR,q⟩:=h
  refine ⟨_,(pss_one (ps_ret (pe_mk k_Table pass0 hr rfl (pa_cons (pe_fld (pv 0) rfl) (pa_cons (pe_fld (pv 0) rfl) (pa_cons (pe_fld (pv 0) rfl) (pa_cons (pe_fld (pv 0) rfl) (pa_cons (pe_fld (pv 0) rfl) (pa_cons (pv 1) pa_nil))))))))),?_⟩
  refine ⟨_,rfl,t,_,_,_,_,rfl,ht,bl.k_Table,bl.na_Table_name,f2,_,rfl,t,_,_,_,_,rfl,ht,bl.k_Table,bl.na_Table_names,f5,_,rfl,t,_,_,_,_,rfl,ht,bl.k_Table,bl.na_Table_domains,f6,_,rfl,t,_,_,_,_,rfl,ht,bl.k_Table,bl.na_Table_outcome,f4,_,rfl,t,_,_,_,_,rfl,ht,bl.k_Table,bl.na_Table_way,f3,_,rfl,fun x dx' hx hdx hne=>?_⟩
  have s9:Same H (upd (upd H dx' (.own x)) x (.ins qK dx' [])):=(same_new hdx _).upd hx
  have ok9:=ok.same s9
  refine ⟨x,dx',na,dl,ou,rl,nm,wy,zs,dv,rx,bs,o,rws,rfl,upd_same,s9 _ _ ena,ok9.words,ok9.once,ok9.one,ok9.four,ok9.way,ok9.sum,s9 _ _ edl,ok9.doms,ok9.out,s9 _ _ erl,hR.same s9,by rw [hR.1];exact ok.few,by rw [ok9.len];exact ok9.four,ok9.rows,fun H' fs' rl' xs' k1 k2 k3 k3a k3b k3c ⟨na',dl',k3d,k3e,k3f,k3g⟩ k4 k5=>⟨rfl,q x H' (fun b u e=>k1 b u (ne_of_none e hx) (s9 _ _ e)) ⟨rl',dx',na',dl',fs',xs',k2,k3,k3c,k3a,k3b,k3d,k3e,k3f,k3g,k4,k5,by rw [k5.1];exact ok.few⟩⟩⟩
theorem O_67 (F:Fun K "_law_table" "_law_table" Y62 f fd) (bl:Bl K mg qA qB qC qD qE qF qG qH qI qJ qK qL qM qN) (k_Table:MkCallee CX0 P w K mg base 6 "Table" qK ["self", "name", "names", "domains", "outcome", "way", "rows"] (J17 K qA qB qC qD qE qF qG qH qI qJ qK qL qM qN)) (c__law_word:Callee P w K mg base 7 "_law_word" ["cell", "k"] (J64 K qA qB qC qD qE qF qG qH qI qJ qK qL qM qN)) (c__law_domain:Callee P w K mg base 7 "_law_domain" ["column"] (J50 K qA qB qC qD qE qF qG qH qI qJ qK qL qM qN)) (c__law_rows:Callee P w K mg base 7 "_law_rows" ["bit_rows", "columns"] (J58 K qA qB qC qD qE qF qG qH qI qJ qK qL qM qN)):FnOk P w K mg base CX0 8 f fd ["head", "columns", "out", "way", "bit_rows"] (J62 K qA qB qC qD qE qF qG qH qI qJ qK qL qM qN):=by
  refine F.ok Z62 (fun vs H Q E h=>?_) (fun cdv A outer s H vs Q E hr h=>?_)
  · obtain ⟨h,cl,ol,bl_,wy,xs,zs,cs,oc,ws,wi,rfl,hcl,hcs,hok,hb1,hb4,hol,ook,hwy,hsum,hbl_,hz,h200,hbo,q⟩:=h
    rfl
  obtain ⟨h,cl,ol,bl_,wy,xs,zs,cs,oc,ws,wi,rfl,hcl,hcs,hok,hb1,hb4,hol,ook,hwy,hsum,hbl_,hz,h200,hbo,q⟩:=h
  refine ⟨_,(pss_cut (ps_comp (i:=5) Z62.nd rfl (Or.inl rfl) (pi_range1 rfl bl.range_ (pa_cons (pe_callB call_len_seq rfl bl.len_ PySem.boot_len (pa_cons (pv 1) pa_nil)) pa_nil)) (cmpOk_free (N:=["j", "head"]) (fr:=[0]) (cl:=[("head",s.heap.objs.size+1)]) rfl rfl (by decide +kernel) (by decide +kernel) rfl (by decide +kernel) rfl rfl rfl (List.forall_mem_cons.mpr ⟨rfl,List.forall_mem_nil _⟩) rfl) rfl (fun _ _ _ _=>pif_nil) (fun _ _ _ _=>(pe_fn c__law_word hr rfl (pa_cons (pe_op op_fdiv (pv 1) pe_int) (pa_cons (pe_op op_add pe_int (pv 0)) pa_nil)))))
     (pss_cut (ps_comp (i:=6) Z62.nd rfl (Or.inl rfl) (pi_list (pv 1)) (cmpOk_plain rfl (by decide +kernel) (by decide +kernel) (by decide +kernel) rfl) rfl (fun _ _ _ _=>pif_nil) (fun _ _ _ _=>(pe_fn c__law_domain hr rfl (pa_cons (pv 0) pa_nil))))
     (pss_one (ps_ret (pe_mk k_Table pass0 hr rfl (pa_cons (pe_fn c__law_word hr rfl (pa_cons (pe_op op_fdiv (pv 0) pe_int) (pa_cons pe_int pa_nil))) (pa_cons (pv 5) (pa_cons (pv 6) (pa_cons (pe_fn c__law_domain hr rfl (pa_cons (pv 2) pa_nil)) (pa_cons (pv 3) (pa_cons (pe_fn c__law_rows hr rfl (pa_cons (pv 4) (pa_cons (pv 1) pa_nil))) pa_nil))))))))))),?_⟩
  have hxl:xs.length=cs.length:=hcs.1
  refine ⟨fun σ' H'=>Same H H'∧∃ na:Addr,H' na=some (.lst (((List.range cs.length).map fun j:Nat=>wd (h / 16) (1+(0+(j:Int)))).map V.str))∧σ'=[some (.int h),some (.ref cl),some (.ref ol),some (.str wy),some (.ref bl_),some (.ref na),none],?_,?_⟩
  · refine ⟨_,rfl,cl,_,rfl,.inl (SqL.of hcl),_,rfl,(by show -(2 ^ 62)≤((xs.length:Nat):Int);omega),(by show ((xs.length:Nat):Int) < 2 ^ 62;omega),comp_range (fun D i zs H'=>Same H H'∧H' D=some (.lst zs)∧zs=((List.range i).map fun j:Nat=>wd (h / 16) (1+(0+(j:Int)))).map V.str) (fun D hD=>⟨same_new hD _,upd_same,rfl⟩) (fun D i zs H' hD hi hh=>?_) (fun D zs H' hD hh=>?_)⟩
    · obtain ⟨sm,eD,rfl⟩:=hh
      refine ⟨_,rfl,_,_,rfl,rfl,⟨by decide,by decide⟩,_,rfl,_,_,rfl,rfl,_,_,rfl,CYes.mk hi eD (small1000 (by rw [List.length_map,List.length_map,List.length_range];omega)) ⟨sm.upd hD,upd_same,?_⟩⟩
      rw [List.range_succ,List.map_append,List.map_append]
      rfl
    · obtain ⟨sm,eD,rfl⟩:=hh
      refine ⟨sm,D,?_,rfl⟩
      rw [eD,← hxl]
      rfl
  rintro σ5 H5 ⟨t5,na,ena,rfl⟩
  have eco5:=t5 _ _ hcl
  have hco5:=hcs.same t5
  refine ⟨fun σ' H'=>Same H5 H'∧∃ (dl:Addr) (dv:List V),H' dl=some (.lst dv)∧RefL dv cs (DomX qI qJ H')∧σ'=[some (.int h),some (.ref cl),some (.ref ol),some (.str wy),some (.ref bl_),some (.ref na),some (.ref dl)],?_,?_⟩
  · refine ⟨_,rfl,cl,rfl,⟨_,SqL.of eco5⟩,comp_list (xs:=xs) (fun D i zs H'=>Same H5 H'∧H' D=some (.lst zs)∧RefL zs (cs.take i) (DomX qI qJ (hide H' D))) (fun D hD=>⟨same_new hD _,upd_same,RefL.nil⟩) (fun D i zs H' hD _ hh=>SqL.of (hh.1 _ _ eco5)) (fun D i y zs H' hD e hh=>?_) (fun D zs H' hD hh=>?_)⟩
    · obtain ⟨sm,eD,hz⟩:=hh
      obtain ⟨l,c,rfl,ec,hc⟩:=RefL.get (hco5.same sm) e
      have hi:i < xs.length:=(List.getElem?_eq_some_iff.mp e).1
      have ok:=hok c (List.mem_of_getElem? ec)
      refine ⟨_,rfl,l,c,rfl,hc,hok c (List.mem_of_getElem? ec),fun d H2 s' hd=>?_⟩
      have eD2:=s' _ _ eD
      have hlz:zs.length≤4:=by have:=hz.1;rw [List.length_take] at this;omega
      have hd2:DomX qI qJ (hide H2 D) d c:=hd.hide eD2 (fun x hx=>by
        obtain ⟨j,ej⟩:=List.getElem?_of_mem hx
        obtain ⟨r,_,er,_⟩:=RefL.get hz ej
        exact ⟨r,er⟩) (fun hw=>by
        obtain ⟨p0,e0,l0⟩:=ok.first
        have:=ok.w0 hw p0 e0
        have:=ok.le
        omega)
      refine CYes.mk hi eD2 (small1000 (by omega)) ⟨(sm.trans s').upd hD,upd_same,?_⟩
      rw [take_snoc ec,hide_upd]
      exact RefL.snoc (RefL.mono hz fun _ _ p=>p.same (hide_mono s')) hd2
    · obtain ⟨sm,eD,hz⟩:=hh
      rw [hxl,List.take_length] at hz
      exact ⟨sm,D,zs,eD,RefL.mono hz fun _ _ p=>p.same (hide_le H' D),rfl⟩
  rintro σ6 H6 ⟨t6,dl,dv,edl,hdl,rfl⟩
  have s6:=t5.trans t6
  have ena6:=t6 _ _ ena
  have hnames:(∀ z ∈ wd (h / 16) 0 :: (List.range cs.length).map (fun j:Nat=>wd (h / 16) (1+(0+(j:Int)))),isw z=true)∧(wd (h / 16) 0 :: (List.range cs.length).map (fun j:Nat=>wd (h / 16) (1+(0+(j:Int))))).Nodup:=by
    constructor
    · intro z hz
      rcases List.mem_cons.mp hz with rfl | hz
      · exact wd_isw _ _
      · obtain ⟨j,_,rfl⟩:=List.mem_map.mp hz
        exact wd_isw _ _
    · have nd:=wds_nodup (c:=h / 16) (n:=cs.length+1) (by omega) (fun j:Nat=>(j:Int)) (fun j hj=>⟨by omega,by omega⟩) fun i j e=>by omega
      have e:((List.range (cs.length+1)).map fun j:Nat=>wd (h / 16) (j:Int))=wd (h / 16) 0 :: (List.range cs.length).map fun j:Nat=>wd (h / 16) (1+(0+(j:Int))):=by
        rw [List.range_succ_eq_map,List.map_cons,List.map_map]
        congr 1
        apply List.map_congr_left
        intro j _
        show wd (h / 16) ((j+1:Nat):Int)=_
        congr 1
        omega
      rw [e] at nd
      exact nd
  have hzl:((List.range cs.length).map fun j:Nat=>wd (h / 16) (1+(0+(j:Int)))).length=cs.length:=by simp
  have hbl:(cs.map Col.b).length=cs.length:=List.length_map _
  refine ⟨_,rfl,_,_,rfl,rfl,⟨by decide,by decide⟩,_,_,rfl,_,rfl,_,rfl,_,rfl,ol,oc,rfl,hol.same s6,ook,fun ou H7 s7 houx=>?_⟩
  have hou:=houx.dom
  have sA:=s6.trans s7
  refine ⟨_,rfl,_,rfl,_,rfl,bl_,cl,zs,xs,ws,cs,rfl,sA _ _ hbl_,hz.same sA,h200,sA _ _ hcl,hcs.same sA,hok,hb4,fun w hw=>(hbo w hw).len,fun rl rx rws H8 s8 erl hrl hof=>?_⟩
  intro x dx hx hdx hne
  have s9:Same H8 (upd (upd H8 dx (.own x)) x (.ins qK dx [])):=(same_new hdx _).upd hx
  have u9:=s7.trans (s8.trans s9)
  have hrk:=hof.rowOk hbo hok
  have hrxl:rx.length=rws.length:=hrl.1
  have hl200:rws.length≤200:=by rw [hof.1];exact h200
  have hdom:RefL dv (cs.map Col.b) (Dom qI qJ H6):=⟨by rw [List.length_map];exact hdl.1,fun j b e=>by
    rw [List.getElem?_map] at e
    cases ec:cs[j]? with
    | none=>rw [ec] at e;cases e
    | some c =>
      rw [ec] at e
      cases e
      obtain ⟨r,e1,p⟩:=hdl.2 j c ec
      exact ⟨r,e1,p.dom⟩⟩
  have hsum' : wy=Str.ofString "sum" → ∃ dx fs,H7 ou=some (.ins qI dx fs):=fun z=>by
    rcases houx with ⟨_,dx,fs,e,_⟩ | ⟨hw,_⟩
    · exact ⟨dx,fs,e⟩
    · rw [hsum z] at hw;cases hw
  refine ⟨x,dx,na,dl,ou,rl,_,_,(List.range cs.length).map fun j:Nat=>wd (h / 16) (1+(0+(j:Int))),dv,rx,cs.map Col.b,oc.b,rws,rfl,upd_same,u9 _ _ ena6,hnames.1,hnames.2,by rw [hzl];exact hb1,by rw [hzl];exact hb4,List.mem_of_getElem? hwy,fun z=>?_,u9 _ _ edl,RefL.mono hdom fun _ _ p=>p.same u9,hou.same (s8.trans s9),s9 _ _ erl,(RL.any hrl).same s9,by omega,by rw [hbl];exact hb4,hrk,fun H' fs rl' xs' k1 k2 k3 k3a k3b k3c ⟨na',dl',k3d,k3e,k3f,k3g⟩ k4 k5=>?_⟩
  · obtain ⟨dx2,fs2,e2⟩:=hsum' z
    exact ⟨dx2,fs2,s9 _ _ (s8 _ _ e2)⟩
  · have s10:Same H8 H':=fun b u e=>k1 b u (ne_of_none e hx) (s9 _ _ e)
    have s6' : Same H6 H':=(s7.trans s8).trans s10
    refine ⟨rfl,q x ou dv rws H' ((s6.trans s7).trans (s8.trans s10)) ⟨rl',dx,na',dl',fs,xs',k2,k3,k3c,k3a,k3b,k3d,k3e,k3f,k3g,k4,k5,by rw [k5.1];exact hl200⟩ ⟨hnames.1,hnames.2,by rw [hzl];exact hb1,by rw [hzl];exact hb4,List.mem_of_getElem? hwy,fun z=>?_,RefL.mono hdom fun _ _ p=>p.same s6',hou.same (s8.trans s10),by rw [hbl,hzl],hrk,hl200⟩ (RefL.mono hdl fun _ _ p=>p.same s6') (houx.same (s8.trans s10)) hof⟩
    obtain ⟨dx2,fs2,e2⟩:=hsum' z
    exact ⟨dx2,fs2,s10 _ _ (s8 _ _ e2)⟩
theorem O_48 (F:Fun K "knit" "knit" Y43 f fd) (bl:Bl K mg qA qB qC qD qE qF qG qH qI qJ qK qL qM qN) (c_joined_once:Callee P w K mg base 8 "joined_once" ["rows", "way"] (J39 K qA qB qC qD qE qF qG qH qI qJ qK qL qM qN)) (c_with_rows:Callee P w K mg base 8 "with_rows" ["table", "rows"] (J77 K qA qB qC qD qE qF qG qH qI qJ qK qL qM qN)):FnOk P w K mg base CX0 9 f fd ["table"] (J43 K qA qB qC qD qE qF qG qH qI qJ qK qL qM qN):=by
  refine F.ok Z43 (fun vs H Q E h=>?_) (fun cdv A outer s H vs Q E hr h=>?_)
  · obtain ⟨t,ou,nm,wy,zs,dv,cs,oc,ws,i,rfl,hTF,ok,hi,hok,h4,hbo,q⟩:=h
    rfl
  obtain ⟨t,ou,nm,wy,zs,dv,cs,oc,ws,i,rfl,hTF,ok,hi,hok,h4,hbo,q⟩:=h
  refine ⟨_,(pss_cons (ps_set (i:=1) Z43.nd rfl (Or.inl rfl) (pe_fld (pv 0) rfl))
     (pss_cut (ps_set (i:=2) Z43.nd rfl (Or.inl rfl) (pe_fn c_joined_once hr rfl (pa_cons (pv 1) (pa_cons (pe_fld (pv 0) rfl) pa_nil))))
     (pss_cons (ps_while PassesOwn.never (pt_cmpR op_notN (pv 2) pe_non (nomark _))
     (pss_cons (ps_set (i:=1) Z43.nd rfl (Or.inl rfl) (pv 2))
     (pss_one (ps_set (i:=2) Z43.nd rfl (Or.inl rfl) (pe_fn c_joined_once hr rfl (pa_cons (pv 1) (pa_cons (pe_fld (pv 0) rfl) pa_nil)))))))
     (pss_one (ps_ret (pe_fn c_with_rows hr rfl (pa_cons (pv 0) (pa_cons (pv 1) pa_nil)))))))),?_⟩
  obtain ⟨rl,dx,na,dl,fs,xs,ht,f1,f2,f3,f4,f5,f6,ena,edl,erl,hR,h200⟩:=id hTF
  have hwl:ws.length≤200:=by have:=ok.few;rw [List.length_map] at this;exact this
  refine ⟨_,rfl,t,_,_,_,_,rfl,ht,bl.k_Table,bl.na_Table_rows,f1,?_⟩
  refine ⟨fun σ' H'=>Same H H'∧∃ fe:V,(fe=.non∧Clr (cn i) ws ws.length∨∃ (l:Addr) (zs' : List V) (ws' : List BW),fe=.ref l∧H' l=some (.lst zs')∧RL NT H' zs' (ws'.map (rwo cs))∧StK (cn i) ws ws')∧σ'=[some (.ref t),some (.ref rl),some fe],?_,?_⟩
  · exact ⟨_,rfl,_,rfl,t,_,_,_,_,rfl,ht,bl.k_Table,bl.na_Table_way,f3,rl,xs,wy,i,cs,oc,ws,rfl,erl,hR,hwl,hi,hok,h4,hbo,(fun l zs' ws' H1 s1 e1 h1 st=>⟨s1,_,.inr ⟨l,zs',ws',rfl,e1,h1,st⟩,rfl⟩),fun H1 s1 cl=>⟨s1,_,.inl ⟨rfl,cl⟩,rfl⟩⟩
  rintro σ1 H1 ⟨s1,fe,hfe,rfl⟩
  refine ⟨fun m σ H'=>Same H H'∧∃ (rl:Addr) (rx:List V) (cur:List BW) (fe:V),m=cur.length∧H' rl=some (.lst rx)∧RL NT H' rx (cur.map (rwo cs))∧cur.length≤200∧(∀ w ∈ cur,BitOk cs oc w)∧(∀ r,Nf (cn i) cur r→Nf (cn i) ws r)∧(fe=.non∧Clr (cn i) cur cur.length∨∃ (l:Addr) (zs' : List V) (ws' : List BW),fe=.ref l∧H' l=some (.lst zs')∧RL NT H' zs' (ws'.map (rwo cs))∧StK (cn i) cur ws')∧σ=[some (.ref t),some (.ref rl),some fe],⟨_,s1,rl,xs,ws,fe,rfl,s1 _ _ erl,hR.same s1,hwl,hbo,(fun _ h=>h),hfe,rfl⟩,?_⟩
  rintro m σ H2 ⟨s2,rl2,rx,cur,fe2,rfl,er2,hR2,hcl,hcb,hreach,hfe2,rfl⟩
  refine ⟨_,rfl,rfl,_,rfl,?_⟩
  rcases hfe2 with ⟨rfl,cl⟩ | ⟨l,zs',ws',rfl,el,hl,st⟩
  · refine iteNS rfl ?_
    have okr:=ok.same s2
    have hro:=(rwos_of hok fun w hw=>(hcb w hw).len).rowOk hcb hok
    have ok2:TOk qI qJ H2 nm wy ou zs dv (cur.map (rwo cs)) (cs.map Col.b) oc.b:=⟨okr.words,okr.once,okr.one,okr.four,okr.way,okr.sum,okr.doms,okr.out,okr.len,hro,by rw [List.length_map];exact hcl⟩
    exact ⟨_,rfl,_,rfl,t,rl2,ou,nm,wy,zs,dv,rx,ws.map (rwo cs),cur.map (rwo cs),cs.map Col.b,oc.b,rfl,hTF.same s2,ok2,er2,hR2,fun t' H3 s3 hF=>q t' cur H3 (s2.trans s3) (hreach cur (.fin cl)) hF (ok2.same s3)⟩
  · rw [decide_eq_false (by intro z;cases z)]
    refine iteT ?_
    have hl1:=st.len
    have hb':=st.ok hcb
    refine ⟨fun σ' H'=>∃ m',m' < cur.length∧(Same H H'∧∃ (rl:Addr) (rx:List V) (cur:List BW) (fe:V),m'=cur.length∧H' rl=some (.lst rx)∧RL NT H' rx (cur.map (rwo cs))∧cur.length≤200∧(∀ w ∈ cur,BitOk cs oc w)∧(∀ r,Nf (cn i) cur r→Nf (cn i) ws r)∧(fe=.non∧Clr (cn i) cur cur.length∨∃ (l:Addr) (zs' : List V) (ws' : List BW),fe=.ref l∧H' l=some (.lst zs')∧RL NT H' zs' (ws'.map (rwo cs))∧StK (cn i) cur ws')∧σ'=[some (.ref t),some (.ref rl),some fe]),(fun _ _ h=>h),?_⟩
    refine ⟨_,rfl,?_⟩
    exact ⟨_,rfl,_,rfl,t,_,_,_,_,rfl,s2 _ _ ht,bl.k_Table,bl.na_Table_way,f3,l,zs',wy,i,cs,oc,ws',rfl,el,hl,by omega,hi,hok,h4,hb',(fun l2 zs2 ws2 H3 s3 e3 h3 st2=>⟨ws'.length,by omega,s2.trans s3,l,zs',ws',_,rfl,s3 _ _ el,hl.same s3,by omega,hb',(fun r h=>hreach r (.go st h)),.inr ⟨l2,zs2,ws2,rfl,e3,h3,st2⟩,rfl⟩),fun H3 s3 cl=>⟨ws'.length,by omega,s2.trans s3,l,zs',ws',_,rfl,s3 _ _ el,hl.same s3,by omega,hb',(fun r h=>hreach r (.go st h)),.inl ⟨rfl,cl⟩,rfl⟩⟩
theorem O_49 (F:Fun K "law" "law" Y44 f fd) (bl:Bl K mg qA qB qC qD qE qF qG qH qI qJ qK qL qM qN) (c__law_cell_at:Callee P w K mg base 9 "_law_cell_at" ["script", "k"] (J47 K qA qB qC qD qE qF qG qH qI qJ qK qL qM qN)) (c__law_column:Callee P w K mg base 9 "_law_column" ["m", "most"] (J49 K qA qB qC qD qE qF qG qH qI qJ qK qL qM qN)) (c__law_way:Callee P w K mg base 9 "_law_way" ["turn", "out"] (J63 K qA qB qC qD qE qF qG qH qI qJ qK qL qM qN)) (c__law_bit_rows:Callee P w K mg base 9 "_law_bit_rows" ["seeds", "columns", "out"] (J46 K qA qB qC qD qE qF qG qH qI qJ qK qL qM qN)) (c__law_table:Callee P w K mg base 9 "_law_table" ["head", "columns", "out", "way", "bit_rows"] (J62 K qA qB qC qD qE qF qG qH qI qJ qK qL qM qN)) (c_knit:Callee P w K mg base 9 "knit" ["table"] (J43 K qA qB qC qD qE qF qG qH qI qJ qK qL qM qN)) (c__law_rows:Callee P w K mg base 9 "_law_rows" ["bit_rows", "columns"] (J58 K qA qB qC qD qE qF qG qH qI qJ qK qL qM qN)) (c__law_points:Callee P w K mg base 9 "_law_points" ["columns"] (J57 K qA qB qC qD qE qF qG qH qI qJ qK qL qM qN)) (c__law_mixed:Callee P w K mg base 9 "_law_mixed" ["cell", "k"] (J56 K qA qB qC qD qE qF qG qH qI qJ qK qL qM qN)) (c__law_seeds:Callee P w K mg base 9 "_law_seeds" ["cells", "most"] (J60 K qA qB qC qD qE qF qG qH qI qJ qK qL qM qN)) (c__law_knit:Callee P w K mg base 9 "_law_knit" ["way", "bit_rows"] (J54 K qA qB qC qD qE qF qG qH qI qJ qK qL qM qN)) (c_verdict:Callee P w K mg base 9 "verdict" ["table", "codes"] (J74 K qA qB qC qD qE qF qG qH qI qJ qK qL qM qN)) (c__law_like:Callee P w K mg base 9 "_law_like" ["found", "table", "rows"] (J55 K qA qB qC qD qE qF qG qH qI qJ qK qL qM qN)) (c__law_codes:Callee P w K mg base 9 "_law_codes" ["columns", "point", "turn"] (J48 K qA qB qC qD qE qF qG qH qI qJ qK qL qM qN)) (c__law_same:Callee P w K mg base 9 "_law_same" ["found", "due"] (J59 K qA qB qC qD qE qF qG qH qI qJ qK qL qM qN)) (c__law_due:Callee P w K mg base 9 "_law_due" ["way", "bit_rows", "out", "point"] (J51 K qA qB qC qD qE qF qG qH qI qJ qK qL qM qN)):FnOk P w K mg base CX0 10 f fd ["script"] (J44 K):=by
  refine F.ok Z44 (fun vs H Q E h=>?_) (fun cdv A outer s H vs Q E hr h=>?_)
  · obtain ⟨a,ns,rfl,hS,h63,q⟩:=h
    rfl
  obtain ⟨a,ns,rfl,hS,h63,q⟩:=h
  refine ⟨_,(pss_cut (ps_set (i:=1) Z44.nd rfl (Or.inr rfl) (pe_fn c__law_cell_at hr rfl (pa_cons (pv 0) (pa_cons pe_int pa_nil))))
     (pss_cut (ps_set (i:=2) Z44.nd rfl (Or.inl rfl) (pe_fn c__law_cell_at hr rfl (pa_cons (pv 0) (pa_cons pe_int pa_nil))))
     (pss_cut (ps_set (i:=3) Z44.nd rfl (Or.inr rfl) (pe_op op_add pe_int (pe_op op_mod (pv 1) pe_int)))
     (pss_cut (ps_comp (i:=4) Z44.nd rfl (Or.inl rfl) (pi_range1 rfl bl.range_ (pa_cons (pv 3) pa_nil)) (cmpOk_free (N:=["j", "head", "count"]) (fr:=[1,3]) (cl:=[("head",s.heap.objs.size+1),("count",s.heap.objs.size+1+1)]) rfl rfl (by decide +kernel) (by decide +kernel) rfl (by decide +kernel) rfl rfl rfl (List.forall_mem_cons.mpr ⟨rfl,List.forall_mem_cons.mpr ⟨rfl,List.forall_mem_nil _⟩⟩) rfl) rfl (fun _ _ _ _=>pif_nil) (fun _ _ _ _=>(pe_fn c__law_column hr rfl (pa_cons (pe_fn c__law_mixed hr rfl (pa_cons (pv 1) (pa_cons (pe_op op_add pe_int (pv 0)) pa_nil))) (pa_cons (pe_ix (ix_listK (K:=K) rfl) (pe_lst (pa_cons pe_int (pa_cons pe_int (pa_cons pe_int (pa_cons pe_int pa_nil))))) (pe_op op_sub (pv 2) pe_int) (fun _ _=>rfl)) pa_nil)))))
     (pss_cut (ps_set (i:=5) Z44.nd rfl (Or.inl rfl) (pe_fn c__law_column hr rfl (pa_cons (pe_fn c__law_mixed hr rfl (pa_cons (pe_fn c__law_cell_at hr rfl (pa_cons (pv 0) (pa_cons pe_int pa_nil))) (pa_cons pe_int pa_nil))) (pa_cons pe_int pa_nil))))
     (pss_cut (ps_set (i:=6) Z44.nd rfl (Or.inl rfl) (pe_fn c__law_way hr rfl (pa_cons (pv 2) (pa_cons (pv 5) pa_nil))))
     (pss_cut (ps_set (i:=7) Z44.nd rfl (Or.inl rfl) (pe_fn c__law_bit_rows hr rfl (pa_cons (pe_fn c__law_seeds hr rfl (pa_cons (pe_slice sl_list (pv 0) (po_some pe_int) po_none) (pa_cons pe_int pa_nil))) (pa_cons (pv 4) (pa_cons (pv 5) pa_nil)))))
     (pss_cut (ps_set (i:=8) Z44.nd rfl (Or.inl rfl) (pe_fn c__law_table hr rfl (pa_cons (pv 1) (pa_cons (pv 4) (pa_cons (pv 5) (pa_cons (pv 6) (pa_cons (pv 7) pa_nil)))))))
     (pss_cut (ps_set (i:=9) Z44.nd rfl (Or.inl rfl) (pe_fn c_knit hr rfl (pa_cons (pv 8) pa_nil)))
     (pss_cut (ps_set (i:=10) Z44.nd rfl (Or.inl rfl) (pe_fn c__law_rows hr rfl (pa_cons (pe_fn c__law_knit hr rfl (pa_cons (pv 6) (pa_cons (pv 7) pa_nil))) (pa_cons (pv 4) pa_nil))))
     (pss_cut (ps_if (PW.pt (pw_or (pt_not (pt_val (pe_fn c__law_like hr rfl (pa_cons (pv 9) (pa_cons (pv 8) (pa_cons (pv 10) pa_nil)))))) (pw_or1 (pt_not (pt_val (pe_fn c__law_like hr rfl (pa_cons (pe_fn c_knit hr rfl (pa_cons (pv 9) pa_nil)) (pa_cons (pv 8) (pa_cons (pv 10) pa_nil)))))))))
     (pss_one (ps_ret pe_bl))
     pss_nil)
     (pss_cut (ps_if (pt_cmpR (op_neDL hr) (pe_fld (pv 8) rfl) (pe_fn c__law_rows hr rfl (pa_cons (pv 7) (pa_cons (pv 4) pa_nil))) (nomark _))
     (pss_one (ps_ret pe_bl))
     pss_nil)
     (pss_cons (ps_for PassesOwn.never rfl (pi_list (pe_fn c__law_points hr rfl (pa_cons (pv 4) pa_nil))) (pg_name (i:=11) Z44.nd rfl (Or.inl rfl))
     (pss_cons (ps_set (i:=12) Z44.nd rfl (Or.inl rfl) (pe_fn c_verdict hr rfl (pa_cons (pv 9) (pa_cons (pe_fn c__law_codes hr rfl (pa_cons (pv 4) (pa_cons (pv 11) (pa_cons (pe_op op_fdiv (pv 2) pe_int) pa_nil)))) pa_nil))))
     (pss_one (ps_if (pt_not (pt_val (pe_fn c__law_same hr rfl (pa_cons (pv 12) (pa_cons (pe_fn c__law_due hr rfl (pa_cons (pv 6) (pa_cons (pv 7) (pa_cons (pv 5) (pa_cons (pv 11) pa_nil))))) pa_nil)))))
     (pss_one (ps_ret pe_bl))
     pss_nil))))
     (pss_one (ps_ret pe_bl))))))))))))))),?_⟩
  refine ⟨fun σ' H'=>H'=H∧∃ h:Int,σ'=[some (.ref a),some (.int h),none,none,none,none,none,none,none,none,none,none,none],⟨_,rfl,a,ns,0,rfl,hS,Int.le_refl _,fun r=>⟨rfl,r,rfl⟩⟩,?_⟩
  rintro σ1 H1 ⟨rfl,h,rfl⟩
  refine ⟨fun σ' H'=>H'=H1∧∃ tn:Int,σ'=[some (.ref a),some (.int h),some (.int tn),none,none,none,none,none,none,none,none,none,none],⟨_,rfl,a,ns,2,rfl,hS,by decide,fun r=>⟨rfl,r,rfl⟩⟩,?_⟩
  rintro σ2 H2 ⟨rfl,tn,rfl⟩
  refine ⟨fun σ' H'=>H'=H2∧σ'=[some (.ref a),some (.int h),some (.int tn),some (.int (1+h % 4)),none,none,none,none,none,none,none,none,none],⟨_,rfl,_,_,rfl,rfl,(by show (0:Int) < 4;decide),_,_,rfl,rfl,rfl,rfl⟩,?_⟩
  rintro σ3 H3 ⟨rfl,rfl⟩
  have h0:=Int.emod_nonneg h (show (4:Int) ≠ 0 by decide)
  have h1:=Int.emod_lt_of_pos h (show (0:Int) < 4 by decide)
  obtain ⟨v4,hv4,hv1,hv6⟩:=most4 (h:=h)
  refine ⟨fun σ' H'=>Same H3 H'∧∃ (co:Addr) (xs:List V) (cs:List Col),H' co=some (.lst xs)∧ColsN NT H' xs cs∧(∀ c ∈ cs,ColOk c)∧cs.length=(1+h % 4).toNat∧σ'=[some (.ref a),some (.int h),some (.int tn),some (.int (1+h % 4)),some (.ref co),none,none,none,none,none,none,none,none],?_,?_⟩
  · refine ⟨_,rfl,_,rfl,(by show -(2 ^ 62)≤1+h % 4;omega),(by show 1+h % 4 < 2 ^ 62;omega),comp_range (fun D i zs H'=>Same H3 H'∧H' D=some (.lst zs)∧∃ cs:List Col,ColsN (· ≠ D) H' zs cs∧cs.length=i∧∀ c ∈ cs,ColOk c) (fun D hD=>⟨same_new hD _,upd_same,[],RefL.nil,rfl,(fun c hc=>by cases hc)⟩) (fun D i zs H' hD hi hh=>?_) (fun D zs H' hD hh=>?_)⟩
    · obtain ⟨sm,eD,cs,hz,hl,hok⟩:=hh
      refine ⟨_,rfl,_,rfl,_,_,rfl,rfl,_,_,rfl,(by show 0≤1+(0+(i:Int));omega),(by show 1+(0+(i:Int))≤100;omega),fun r _=>?_⟩
      refine ⟨(by show 4≤sizeLine;decide),fun p hp=>?_⟩
      have u1:=same_new hp (.lst [V.int 6,.int 4,.int 3,.int 2])
      have e1:upd H' p (.lst [V.int 6,.int 4,.int 3,.int 2]) p=some (.lst [V.int 6,.int 4,.int 3,.int 2]):=upd_same
      generalize upd H' p (.lst [V.int 6,.int 4,.int 3,.int 2])=H5 at u1 e1 ⊢
      refine ⟨_,rfl,_,_,rfl,rfl,p,_,_,_,rfl,rfl,SqL.of e1,hv4,r,v4,rfl,hv1,hv6,fun l c H6 s6 hc ok=>?_⟩
      have eD5:=u1 _ _ eD
      have eD6:=s6 _ _ eD5
      have hlz:zs.length=i:=by rw [hz.1,hl]
      have hc2:ColN (· ≠ D) H6 l c:=hc.wk fun x hx z=>by rw [z,eD5] at hx;cases hx
      have hz2:ColsN (· ≠ D) H6 (zs ++ [.ref l]) (cs ++ [c]):=RefL.snoc (hz.same (u1.trans s6)) hc2
      refine CYes.mk hi eD6 (small1000 (by omega)) ⟨((sm.trans u1).trans s6).upd hD,upd_same,cs ++ [c],hz2.updN (fun z=>z rfl) eD6,by rw [List.length_append,List.length_singleton,hl],fun c' hc'=>?_⟩
      rcases List.mem_append.mp hc' with hc' | hc'
      · exact hok c' hc'
      · rw [show c'=c by simpa using hc'];exact ok
    · obtain ⟨sm,eD,cs,hz,hl,hok⟩:=hh
      exact ⟨sm,D,zs,cs,eD,hz.any,hok,hl,rfl⟩
  rintro σ4 H4 ⟨s4,co,xs,cs,eco,hco,hok,hcn,rfl⟩
  have hc1:1≤cs.length:=by omega
  have hc4:cs.length≤4:=by omega
  have hcI:(1+h % 4)=(cs.length:Int):=by omega
  refine ⟨fun σ' H'=>Same H4 H'∧∃ (ol:Addr) (oc:Col),ColN NT H' ol oc∧ColOk oc∧σ'=[some (.ref a),some (.int h),some (.int tn),some (.int (1+h % 4)),some (.ref co),some (.ref ol),none,none,none,none,none,none,none],⟨_,rfl,a,ns,1,rfl,s4.seq hS,by decide,fun r=>⟨r,0,rfl,by decide,by decide,fun r2 _=>⟨r2,3,rfl,by decide,by decide,fun l c H5 s5 hc ok=>⟨s5,l,c,hc.any,ok,rfl⟩⟩⟩⟩,?_⟩
  rintro σ5 H5 ⟨t5,ol,oc,hol,ook,rfl⟩
  have s5:=s4.trans t5
  have eco5:=t5 _ _ eco
  have hco5:=hco.same t5
  refine ⟨fun σ' H'=>Same H5 H'∧∃ (wy:Str) (wi:Nat),six[wi]?=some wy∧(wy=Str.ofString "sum" → oc.w=false)∧σ'=[some (.ref a),some (.int h),some (.int tn),some (.int (1+h % 4)),some (.ref co),some (.ref ol),some (.str wy),none,none,none,none,none,none],⟨_,rfl,_,rfl,tn,ol,oc,rfl,hol,fun wy i H6 s6 hi hs=>⟨s6,wy,i,hi,hs,rfl⟩⟩,?_⟩
  rintro σ6 H6 ⟨t6,wy,wi,hwi,hsum,rfl⟩
  have s6:=s5.trans t6
  have eco6:=t6 _ _ eco5
  have hco6:=hco5.same t6
  have hol6:=hol.same t6
  refine ⟨fun σ' H'=>Same H6 H'∧∃ (bl_:Addr) (zs:List V) (ws:List BW),H' bl_=some (.lst zs)∧BRL NT H' zs ws∧ws.length≤24∧(∀ w ∈ ws,BitOk cs oc w)∧σ'=[some (.ref a),some (.int h),some (.int tn),some (.int (1+h % 4)),some (.ref co),some (.ref ol),some (.str wy),some (.ref bl_),none,none,none,none,none],?_,?_⟩
  · obtain ⟨ms,em,lm⟩:=cut_from ns 3 none
    refine ⟨_,rfl,_,rfl,a,_,rfl,s6.seq hS,fun c1 hc1_=>?_⟩
    rw [show (some (3:Int))=some ((3:Nat):Int) from rfl,em]
    have u1:=same_new hc1_ (.lst (ms.map V.int))
    have e1:upd H6 c1 (.lst (ms.map V.int)) c1=some (.lst (ms.map V.int)):=upd_same
    generalize upd H6 c1 (.lst (ms.map V.int))=H7 at u1 e1 ⊢
    refine ⟨c1,ms,24,rfl,SqL.of e1,by omega,by decide,by decide,fun l ss H8 s8 e8 hss _ hnn=>?_⟩
    have u8:=u1.trans s8
    exact ⟨_,rfl,_,rfl,l,co,ol,ss,xs,cs,oc,rfl,e8,by omega,hnn,u8 _ _ eco6,hco6.same u8,hok,hc1,hc4,hol6.same u8,ook,fun bl_ zs ws H9 s9 e9 hz hwl hbo=>⟨u8.trans s9,bl_,zs,ws,e9,hz.wk fun _ _=>trivial,by omega,hbo,rfl⟩⟩
  rintro σ7 H7 ⟨t7,bl_,zs,ws,ebl,hz,hwl,hbo,rfl⟩
  have eco7:=t7 _ _ eco6
  have hco7:=hco6.same t7
  have hol7:=hol6.same t7
  have hwlen:∀ w ∈ ws,w.1.length=cs.length:=fun w hw=>(hbo w hw).len
  refine ⟨fun σ' H'=>Same H7 H'∧∃ (t ou:Addr) (dv:List V) (rws:List Rw),TF qK H' t (wd (h / 16) 0) wy ou ((List.range cs.length).map fun j:Nat=>wd (h / 16) (1+(0+(j:Int)))) dv rws∧TOk qI qJ H' (wd (h / 16) 0) wy ou ((List.range cs.length).map fun j:Nat=>wd (h / 16) (1+(0+(j:Int)))) dv rws (cs.map Col.b) oc.b∧RefL dv cs (DomX qI qJ H')∧DomX qI qJ H' ou oc∧RwsOf cs ws rws∧σ'=[some (.ref a),some (.int h),some (.int tn),some (.int (1+h % 4)),some (.ref co),some (.ref ol),some (.str wy),some (.ref bl_),some (.ref t),none,none,none,none],⟨_,rfl,_,rfl,_,rfl,_,rfl,_,rfl,h,co,ol,bl_,wy,xs,zs,cs,oc,ws,wi,rfl,eco7,hco7,hok,hc1,hc4,hol7,ook,hwi,hsum,ebl,hz,by omega,hbo,fun t ou dv rws H8 s8 hT hOk hdv hou hof=>⟨s8,t,ou,dv,rws,hT,hOk,hdv,hou,hof,rfl⟩⟩,?_⟩
  rintro σ8 H8 ⟨t8,t,ou,dv,rws,hT,hOk,hdv,hou,hof,rfl⟩
  have hrw:rws=ws.map (rwo cs):=hof.rwo hwlen
  subst hrw
  generalize hNZ:((List.range cs.length).map fun j:Nat=>wd (h / 16) (1+(0+(j:Int))))=NZ at hT hOk
  refine ⟨fun σ' H'=>Same H8 H'∧∃ (fo:Addr) (r:List BW),Nf (cn wi) ws r∧TF qK H' fo (wd (h / 16) 0) wy ou NZ dv (r.map (rwo cs))∧TOk qI qJ H' (wd (h / 16) 0) wy ou NZ dv (r.map (rwo cs)) (cs.map Col.b) oc.b∧σ'=[some (.ref a),some (.int h),some (.int tn),some (.int (1+h % 4)),some (.ref co),some (.ref ol),some (.str wy),some (.ref bl_),some (.ref t),some (.ref fo),none,none,none],⟨_,rfl,t,ou,(wd (h / 16) 0),wy,NZ,dv,cs,oc,ws,wi,rfl,hT,hOk,hwi,hok,hc4,hbo,fun fo r H9 s9 hnf hF hFk=>⟨s9,fo,r,hnf,hF,hFk,rfl⟩⟩,?_⟩
  rintro σ9 H9 ⟨t9,fo,r_,hnf,hF,hFk,rfl⟩
  have t79:=t8.trans t9
  have hrl_:=hnf.len
  have hrb:=hnf.ok hbo
  have hwi6:wi < 6:=(List.getElem?_eq_some_iff.mp hwi).1
  refine ⟨fun σ' H'=>Same H9 H'∧∃ (du:Addr) (rx:List V),H' du=some (.lst rx)∧RL NT H' rx (r_.map (rwo cs))∧σ'=[some (.ref a),some (.int h),some (.int tn),some (.int (1+h % 4)),some (.ref co),some (.ref ol),some (.str wy),some (.ref bl_),some (.ref t),some (.ref fo),some (.ref du),none,none],⟨_,rfl,_,rfl,bl_,zs,ws,wy,wi,cs,oc,rfl,t79 _ _ ebl,hz.same t79,by omega,hwi,hc4,hbo,fun l zs' r' H10 s10 e10 hz' hnf'=>?_⟩,?_⟩
  · have er:=hnf'.uniq hnf
    subst er
    have u10:=t79.trans s10
    refine ⟨_,rfl,l,co,zs',xs,r',cs,rfl,e10,hz',by omega,u10 _ _ eco7,hco7.same u10,hok,hc4,(fun w hw=>(hrb w hw).len),fun rl rx rws' H11 s11 e11 hR hof'=>⟨s10.trans s11,rl,rx,e11,?_,rfl⟩⟩
    rw [← hof'.rwo fun w hw=>(hrb w hw).len]
    exact RL.any hR
  rintro σ10 H10 ⟨t10,du,rx,edu,hdu,rfl⟩
  have t810:=t9.trans t10
  have hdv10:RefL dv cs (DomX qI qJ H10):=RefL.mono hdv fun _ _ p=>p.same t810
  have hou10:=hou.same t810
  refine ⟨fun σ' H'=>Same H10 H'∧σ'=[some (.ref a),some (.int h),some (.int tn),some (.int (1+h % 4)),some (.ref co),some (.ref ol),some (.str wy),some (.ref bl_),some (.ref t),some (.ref fo),some (.ref du),none,none],?_,?_⟩
  · refine ⟨_,rfl,_,rfl,_,rfl,fo,t,du,ou,(wd (h / 16) 0),wy,NZ,dv,rx,r_.map (rwo cs),ws.map (rwo cs),cs,oc,rfl,hF.same t10,hT.same t810,edu,hdu,hdv10,hou10,fun H11 s11=>⟨_,rfl,iteF ?_⟩⟩
    refine ⟨_,rfl,fo,ou,(wd (h / 16) 0),wy,NZ,dv,cs,oc,r_,wi,rfl,(hF.same t10).same s11,(hFk.same t10).same s11,hwi,hok,hc4,hrb,fun f2 r2 H12 s12 hnf2 hF2 _=>?_⟩
    have er:r2=r_:=hnf2.uniq (.fin hnf.clr)
    subst er
    have v:=s11.trans s12
    exact ⟨_,rfl,_,rfl,f2,t,du,ou,(wd (h / 16) 0),wy,NZ,dv,rx,r2.map (rwo cs),ws.map (rwo cs),cs,oc,rfl,hF2,(hT.same t810).same v,v _ _ edu,hdu.same v,RefL.mono hdv10 fun _ _ p=>p.same v,hou10.same v,fun H13 s13=>⟨_,rfl,iteF ⟨v.trans s13,rfl⟩⟩⟩
  rintro σ11 H11 ⟨t11,rfl⟩
  have u11:=t810.trans t11
  have u711:=t8.trans u11
  refine ⟨fun σ' H'=>Same H11 H'∧σ'=[some (.ref a),some (.int h),some (.int tn),some (.int (1+h % 4)),some (.ref co),some (.ref ol),some (.str wy),some (.ref bl_),some (.ref t),some (.ref fo),some (.ref du),none,none],?_,?_⟩
  · obtain ⟨trl,tdx,tna,tdl,tfs,txs,g1,g2,g3,g4,g5,g6,g7,g8,g9,g10,g11,g12⟩:=hT.same u11
    refine ⟨_,rfl,t,_,_,_,_,rfl,g1,bl.k_Table,bl.na_Table_rows,g2,_,rfl,_,rfl,bl_,co,zs,xs,ws,cs,rfl,u711 _ _ ebl,hz.same u711,by omega,u711 _ _ eco7,hco7.same u711,hok,hc4,hwlen,fun rl rx' rws' H12 s12 e12 hR hof'=>?_⟩
    rw [hof'.rwo hwlen] at hR
    exact neDL_same (SqL.of (s12 _ _ g10)) (SqL.of e12) (by rw [g11.1,hR.1]) (deq_rows (g11.same s12) (RL.any hR)) ⟨_,rfl,iteF ⟨s12,rfl⟩⟩
  rintro σ12 H12 ⟨t12,rfl⟩
  have u12:=u711.trans t12
  have eco12:=u12 _ _ eco7
  have hco12:=hco7.same u12
  have hF12:=(hF.same t10).same (t11.trans t12)
  have hou12:=hou10.same (t11.trans t12)
  have ebl12:=u12 _ _ ebl
  have hz12:=hz.same u12
  have hol12:=hol7.same u12
  refine ⟨_,rfl,co,xs,cs,rfl,eco12,hco12,hok,hc4,fun pl pz H17 s17 e17 hpt=>?_⟩
  refine ⟨pl,rfl,⟨_,SqL.of e17⟩,for_list (xs:=pz) (fun i σ H'=>Same H17 H'∧∃ c15 c16:Option V,σ=[some (.ref a),some (.int h),some (.int tn),some (.int (1+h % 4)),some (.ref co),some (.ref ol),some (.str wy),some (.ref bl_),some (.ref t),some (.ref fo),some (.ref du),c15,c16]) ⟨Same.refl _,_,_,rfl⟩ (fun i σ H' _ hh=>SqL.of (hh.1 _ _ e17)) (fun i y σ H' ey hh=>?_) (fun σ H' hh=>?_)⟩
  · obtain ⟨sm,c15,c16,rfl⟩:=hh
    obtain ⟨r,p,rfl,ep,_,hr_⟩:=RefL.get (hpt.same sm) ey
    have hpo:=PtOk.iff.mp (List.mem_of_getElem? ep)
    have lp:p.length=cs.length:=by rw [hpo.1,lens_len]
    have v:=s17.trans sm
    have hle:=ook.le
    refine ⟨_,rfl,_,rfl,_,rfl,_,rfl,_,_,rfl,rfl,⟨by decide,by decide⟩,co,r,xs,cs,p,_,rfl,v _ _ eco12,hco12.same v,hok,hc4,hr_,hpo,fun cl cd H18 s18 e18 hat=>?_⟩
    have v18:=v.trans s18
    have hlr:∀ w ∈ r_,w.1.length=cs.length:=fun w hw=>(hrb w hw).len
    refine ⟨fo,cl,r_.map (rwo cs),wi,oc.b,cd,rfl,(hF12.same v18).tbl hwi (hou12.same v18).dom hle,SqL.of e18,fun x hx=>?_,fun r1 H20 s20 hr1=>?_⟩
    · obtain ⟨w,hw,rfl⟩:=List.mem_map.mp hx
      rw [show (rwo cs w).1.length=cs.length from cel_len (hlr w hw),hat.1]
    · rw [pkF_fl,fl_pc (rwos_of hok hlr) hrb hok hpo hat] at hr1
      have ev:ver (wf wi oc.b.1 oc.b.2) (pc r_ p)=ver (wf wi oc.b.1 oc.b.2) (pc ws p):=nf_ver hwi6 hnf hbo lp
      rw [ev] at hr1
      have w2:=v18.trans s20
      refine ⟨_,rfl,_,rfl,_,rfl,_,rfl,_,rfl,wy,wi,bl_,ol,r,zs,ws,oc,p,rfl,hwi,w2 _ _ ebl12,hz12.same w2,by omega,hol12.same w2,ook,s20 _ _ (s18 _ _ hr_),(fun w hw=>by rw [hwlen w hw,lp]),by omega,fun r2 H21 s21 e21=>?_⟩
      exact ⟨r1,r2,_,rfl,s21.seqT hr1,SqT.of e21,_,rfl,iteF ⟨((sm.trans s18).trans s20).trans s21,_,_,rfl⟩⟩
  · exact q H'
end
theorem all_mk {l:W.OpenLaw} {w:World} {K:W.Frag} {h:Heap} {mg:Str→Option Value} {fa f0 f1 f2 f3 f4 f5 f6 f7 f8 f9 f10 f11 f12 f13 f14 f15 f16 f17 f18 f19 f20 f21 f22 f23 f24 f25 f26 f27 f28 f29 f30 f31 f32 f33 f34 f35 f36 f37 f38 f39 f40 f41 f42 f43 f44 f45 f46 f47 f48 f49 f50 f51 f52 f53 f54 f55 f56 f57 f58 f59 f60 f61 f62 f63 f64 f65 f66 f67 f68 f69 f70 f71 f72 f73 f74 f75 f76 f77:Addr} (X:K.In h) (G:h.Ns mainGlobals mg) (hfa:mg "law" = some (.ref fa))
    {od0 an0 od1 an1 od2 an2 od3 an3 od4 an4 od5 an5 od6 an6 od7 an7 od8 an8 od9 an9 od10 an10 od11 an11 od12 an12 od13 an13 od14 an14 od15 an15 od16 an16 od17 an17 od18 an18 od19 an19 od20 an20 od21 an21 od22 an22 od23 an23 od24 an24 od25 an25 od26 an26 od27 an27 od28 an28 od29 an29 od30 an30 od31 an31 od32 an32 od33 an33 od34 an34 od35 an35 od36 an36 od37 an37 od38 an38 od39 an39 od40 an40 od41 an41 od42 an42 od43 an43 od44 an44 od45 an45 od46 an46 od47 an47 od48 an48 od49 an49 od50 an50 od51 an51 od52 an52 od53 an53 od54 an54 od55 an55 od56 an56 od57 an57 od58 an58 od59 an59 od60 an60 od61 an61 od62 an62 od63 an63 od64 an64 od65 an65 od66 an66 od67 an67 od68 an68 od69 an69 od70 an70 od71 an71 od72 an72 od73 an73 od74 an74 od75 an75 od76 an76 od77 an77:Option Addr} {sl0 sl1 sl2 sl3 sl4 sl5 sl6 sl7 sl8 sl9 sl10 sl11 sl12 sl13 sl14 sl15 sl16 sl17 sl18 sl19 sl20 sl21 sl22 sl23 sl24 sl25 sl26 sl27 sl28 sl29 sl30 sl31 sl32 sl33 sl34 sl35 sl36 sl37 sl38 sl39 sl40 sl41 sl42 sl43 sl44 sl45 sl46 sl47 sl48 sl49 sl50 sl51 sl52 sl53 sl54 sl55 sl56 sl57 sl58 sl59 sl60 sl61 sl62 sl63 sl64 sl65 sl66 sl67 sl68 sl69 sl70 sl71 sl72 sl73 sl74 sl75 sl76 sl77:Array (Option Value)} {oc0 kV0 dc0 pm0 cd0 ct0 oc1 kV1 dc1 pm1 cd1 ct1 oc2 kV2 dc2 pm2 cd2 ct2 oc3 kV3 dc3 pm3 cd3 ct3 oc4 kV4 dc4 pm4 cd4 ct4 oc5 kV5 dc5 pm5 cd5 ct5 oc6 kV6 dc6 pm6 cd6 ct6 oc7 kV7 dc7 pm7 cd7 ct7 oc8 kV8 dc8 pm8 cd8 ct8 oc9 kV9 dc9 pm9 cd9 ct9 oc10 kV10 dc10 pm10 cd10 ct10 oc11 kV11 dc11 pm11 cd11 ct11 oc12 kV12 dc12 pm12 cd12 ct12 oc13 kV13 dc13 pm13 cd13 ct13 oc14 kV14 dc14 pm14 cd14 ct14 oc15 kV15 dc15 pm15 cd15 ct15 oc16 kV16 dc16 pm16 cd16 ct16 oc17 kV17 dc17 pm17 cd17 ct17 oc18 kV18 dc18 pm18 cd18 ct18 oc19 kV19 dc19 pm19 cd19 ct19 oc20 kV20 dc20 pm20 cd20 ct20 oc21 kV21 dc21 pm21 cd21 ct21 oc22 kV22 dc22 pm22 cd22 ct22 oc23 kV23 dc23 pm23 cd23 ct23 oc24 kV24 dc24 pm24 cd24 ct24 oc25 kV25 dc25 pm25 cd25 ct25 oc26 kV26 dc26 pm26 cd26 ct26 oc27 kV27 dc27 pm27 cd27 ct27 oc28 kV28 dc28 pm28 cd28 ct28 oc29 kV29 dc29 pm29 cd29 ct29 oc30 kV30 dc30 pm30 cd30 ct30 oc31 kV31 dc31 pm31 cd31 ct31 oc32 kV32 dc32 pm32 cd32 ct32 oc33 kV33 dc33 pm33 cd33 ct33 oc34 kV34 dc34 pm34 cd34 ct34 oc35 kV35 dc35 pm35 cd35 ct35 oc36 kV36 dc36 pm36 cd36 ct36 oc37 kV37 dc37 pm37 cd37 ct37 oc38 kV38 dc38 pm38 cd38 ct38 oc39 kV39 dc39 pm39 cd39 ct39 oc40 kV40 dc40 pm40 cd40 ct40 oc41 kV41 dc41 pm41 cd41 ct41 oc42 kV42 dc42 pm42 cd42 ct42 oc43 kV43 dc43 pm43 cd43 ct43 oc44 kV44 dc44 pm44 cd44 ct44 oc45 kV45 dc45 pm45 cd45 ct45 oc46 kV46 dc46 pm46 cd46 ct46 oc47 kV47 dc47 pm47 cd47 ct47 oc48 kV48 dc48 pm48 cd48 ct48 oc49 kV49 dc49 pm49 cd49 ct49 oc50 kV50 dc50 pm50 cd50 ct50 oc51 kV51 dc51 pm51 cd51 ct51 oc52 kV52 dc52 pm52 cd52 ct52 oc53 kV53 dc53 pm53 cd53 ct53 oc54 kV54 dc54 pm54 cd54 ct54 oc55 kV55 dc55 pm55 cd55 ct55 oc56 kV56 dc56 pm56 cd56 ct56 oc57 kV57 dc57 pm57 cd57 ct57 oc58 kV58 dc58 pm58 cd58 ct58 oc59 kV59 dc59 pm59 cd59 ct59 oc60 kV60 dc60 pm60 cd60 ct60 oc61 kV61 dc61 pm61 cd61 ct61 oc62 kV62 dc62 pm62 cd62 ct62 oc63 kV63 dc63 pm63 cd63 ct63 oc64 kV64 dc64 pm64 cd64 ct64 oc65 kV65 dc65 pm65 cd65 ct65 oc66 kV66 dc66 pm66 cd66 ct66 oc67 kV67 dc67 pm67 cd67 ct67 oc68 kV68 dc68 pm68 cd68 ct68 oc69 kV69 dc69 pm69 cd69 ct69 oc70 kV70 dc70 pm70 cd70 ct70 oc71 kV71 dc71 pm71 cd71 ct71 oc72 kV72 dc72 pm72 cd72 ct72 oc73 kV73 dc73 pm73 cd73 ct73 oc74 kV74 dc74 pm74 cd74 ct74 oc75 kV75 dc75 pm75 cd75 ct75 oc76 kV76 dc76 pm76 cd76 ct76 oc77 kV77 dc77 pm77 cd77 ct77:Value}
    {qA qB qC qD qE qF qG qH qI qJ qK qL qM qN:Addr}
    (n_Way:W.nsIn K mainGlobals "Way" = some (some (.ref qA)))
    (n_First:W.nsIn K mainGlobals "First" = some (some (.ref qB)))
    (n_Only:W.nsIn K mainGlobals "Only" = some (some (.ref qC)))
    (n_Like:W.nsIn K mainGlobals "Like" = some (some (.ref qD)))
    (n_Low:W.nsIn K mainGlobals "Low" = some (some (.ref qE)))
    (n_High:W.nsIn K mainGlobals "High" = some (some (.ref qF)))
    (n_Sum:W.nsIn K mainGlobals "Sum" = some (some (.ref qG)))
    (n_Domain:W.nsIn K mainGlobals "Domain" = some (some (.ref qH)))
    (n_Numbers:W.nsIn K mainGlobals "Numbers" = some (some (.ref qI)))
    (n_Words:W.nsIn K mainGlobals "Words" = some (some (.ref qJ)))
    (n_Table:W.nsIn K mainGlobals "Table" = some (some (.ref qK)))
    {od_NONE:Option Addr} {it_NONE:Array Value} {nn_NONE:Nat} {sl_NONE:Array (Option Value)} (n_NONE:W.nsIn K mainGlobals "NONE" = some (some (.ref qL))) (lk_NONE:K.lookup qL=some ⟨.type "tuple",od_NONE,.seq it_NONE nn_NONE,sl_NONE⟩) (sz_NONE:it_NONE.size≤sizeLine) (vs_NONE:Vals [.str "none",.int (0)] it_NONE.toList)
    {od_CLASH:Option Addr} {it_CLASH:Array Value} {nn_CLASH:Nat} {sl_CLASH:Array (Option Value)} (n_CLASH:W.nsIn K mainGlobals "CLASH" = some (some (.ref qM))) (lk_CLASH:K.lookup qM=some ⟨.type "tuple",od_CLASH,.seq it_CLASH nn_CLASH,sl_CLASH⟩) (sz_CLASH:it_CLASH.size≤sizeLine) (vs_CLASH:Vals [.str "clash",.int (0)] it_CLASH.toList)
    {od_COUNTING_WAYS:Option Addr} {it_COUNTING_WAYS:Array Value} {nn_COUNTING_WAYS:Nat} {sl_COUNTING_WAYS:Array (Option Value)} (n_COUNTING_WAYS:W.nsIn K mainGlobals "COUNTING_WAYS" = some (some (.ref qN))) (lk_COUNTING_WAYS:K.lookup qN=some ⟨.type "tuple",od_COUNTING_WAYS,.seq it_COUNTING_WAYS nn_COUNTING_WAYS,sl_COUNTING_WAYS⟩) (sz_COUNTING_WAYS:it_COUNTING_WAYS.size≤sizeLine) (vs_COUNTING_WAYS:Vals [.str "only",.str "sum"] it_COUNTING_WAYS.toList)
    (a0:W.nsIn K mainGlobals "all_among" = some (some (.ref f0))) (l0:K.lookup f0=some ⟨oc0,od0,.func (W.fnOf "all_among" "all_among" (defArgs Y33) (defBody Y33) (defScope Y33) .none kV0 dc0 pm0 an0 cd0 ct0),sl0⟩) (c0:W.codeIn K cd0 "all_among" = true) (k0:W.keepIn K (.ref f0)=true)
    (a1:W.nsIn K mainGlobals "is_word" = some (some (.ref f1))) (l1:K.lookup f1=some ⟨oc1,od1,.func (W.fnOf "is_word" "is_word" (defArgs Y38) (defBody Y38) (defScope Y38) .none kV1 dc1 pm1 an1 cd1 ct1),sl1⟩) (c1:W.codeIn K cd1 "is_word" = true) (k1:W.keepIn K (.ref f1)=true)
    (a2:W.nsIn K mainGlobals "is_whole" = some (some (.ref f2))) (l2:K.lookup f2=some ⟨oc2,od2,.func (W.fnOf "is_whole" "is_whole" (defArgs Y37) (defBody Y37) (defScope Y37) .none kV2 dc2 pm2 an2 cd2 ct2),sl2⟩) (c2:W.codeIn K cd2 "is_whole" = true) (k2:W.keepIn K (.ref f2)=true)
    (a3:W.nsIn K mainGlobals "alike" = some (some (.ref f3))) (l3:K.lookup f3=some ⟨oc3,od3,.func (W.fnOf "alike" "alike" (defArgs Y31) (defBody Y31) (defScope Y31) .none kV3 dc3 pm3 an3 cd3 ct3),sl3⟩) (c3:W.codeIn K cd3 "alike" = true) (k3:W.keepIn K (.ref f3)=true)
    (a4:W.nsIn K mainGlobals "tidy" = some (some (.ref f4))) (l4:K.lookup f4=some ⟨oc4,od4,.func (W.fnOf "tidy" "tidy" (defArgs Y73) (defBody Y73) (defScope Y73) .none kV4 dc4 pm4 an4 cd4 ct4),sl4⟩) (c4:W.codeIn K cd4 "tidy" = true) (k4:W.keepIn K (.ref f4)=true)
    (a5:W.nsIn K mainGlobals "holds" = some (some (.ref f5))) (l5:K.lookup f5=some ⟨oc5,od5,.func (W.fnOf "holds" "holds" (defArgs Y36) (defBody Y36) (defScope Y36) .none kV5 dc5 pm5 an5 cd5 ct5),sl5⟩) (c5:W.codeIn K cd5 "holds" = true) (k5:W.keepIn K (.ref f5)=true)
    (a6:W.nsIn K mainGlobals "either" = some (some (.ref f6))) (l6:K.lookup f6=some ⟨oc6,od6,.func (W.fnOf "either" "either" (defArgs Y34) (defBody Y34) (defScope Y34) .none kV6 dc6 pm6 an6 cd6 ct6),sl6⟩) (c6:W.codeIn K cd6 "either" = true) (k6:W.keepIn K (.ref f6)=true)
    (a7:W.nsIn K mainGlobals "meet" = some (some (.ref f7))) (l7:K.lookup f7=some ⟨oc7,od7,.func (W.fnOf "meet" "meet" (defArgs Y67) (defBody Y67) (defScope Y67) .none kV7 dc7 pm7 an7 cd7 ct7),sl7⟩) (c7:W.codeIn K cd7 "meet" = true) (k7:W.keepIn K (.ref f7)=true)
    (a8:W.nsIn K mainGlobals "way_by" = some (some (.ref f8))) (l8:K.lookup f8=some ⟨oc8,od8,.func (W.fnOf "way_by" "way_by" (defArgs Y75) (defBody Y75) (defScope Y75) .none kV8 dc8 pm8 an8 cd8 ct8),sl8⟩) (c8:W.codeIn K cd8 "way_by" = true) (k8:W.keepIn K (.ref f8)=true)
    (a9:W.nsIn K mainGlobals "refuse_names" = some (some (.ref f9))) (l9:K.lookup f9=some ⟨oc9,od9,.func (W.fnOf "refuse_names" "refuse_names" (defArgs Y70) (defBody Y70) (defScope Y70) .none kV9 dc9 pm9 an9 cd9 ct9),sl9⟩) (c9:W.codeIn K cd9 "refuse_names" = true) (k9:W.keepIn K (.ref f9)=true)
    (a10:W.nsIn K mainGlobals "refuse_counts" = some (some (.ref f10))) (l10:K.lookup f10=some ⟨oc10,od10,.func (W.fnOf "refuse_counts" "refuse_counts" (defArgs Y69) (defBody Y69) (defScope Y69) .none kV10 dc10 pm10 an10 cd10 ct10),sl10⟩) (c10:W.codeIn K cd10 "refuse_counts" = true) (k10:W.keepIn K (.ref f10)=true)
    (a11:W.nsIn K mainGlobals "refuse_way" = some (some (.ref f11))) (l11:K.lookup f11=some ⟨oc11,od11,.func (W.fnOf "refuse_way" "refuse_way" (defArgs Y72) (defBody Y72) (defScope Y72) .none kV11 dc11 pm11 an11 cd11 ct11),sl11⟩) (c11:W.codeIn K cd11 "refuse_way" = true) (k11:W.keepIn K (.ref f11)=true)
    (a12:W.nsIn K mainGlobals "refuse_row" = some (some (.ref f12))) (l12:K.lookup f12=some ⟨oc12,od12,.func (W.fnOf "refuse_row" "refuse_row" (defArgs Y71) (defBody Y71) (defScope Y71) .none kV12 dc12 pm12 an12 cd12 ct12),sl12⟩) (c12:W.codeIn K cd12 "refuse_row" = true) (k12:W.keepIn K (.ref f12)=true)
    (a13:W.nsIn K mainGlobals "own_row" = some (some (.ref f13))) (l13:K.lookup f13=some ⟨oc13,od13,.func (W.fnOf "own_row" "own_row" (defArgs Y68) (defBody Y68) (defScope Y68) .none kV13 dc13 pm13 an13 cd13 ct13),sl13⟩) (c13:W.codeIn K cd13 "own_row" = true) (k13:W.keepIn K (.ref f13)=true)
    (a14:W.nsIn K mainGlobals "fits" = some (some (.ref f14))) (l14:K.lookup f14=some ⟨oc14,od14,.func (W.fnOf "fits" "fits" (defArgs Y35) (defBody Y35) (defScope Y35) .none kV14 dc14 pm14 an14 cd14 ct14),sl14⟩) (c14:W.codeIn K cd14 "fits" = true) (k14:W.keepIn K (.ref f14)=true)
    (a15:W.nsIn K mainGlobals "mask" = some (some (.ref f15))) (l15:K.lookup f15=some ⟨oc15,od15,.func (W.fnOf "mask" "mask" (defArgs Y65) (defBody Y65) (defScope Y65) .none kV15 dc15 pm15 an15 cd15 ct15),sl15⟩) (c15:W.codeIn K cd15 "mask" = true) (k15:W.keepIn K (.ref f15)=true)
    (a16:W.nsIn K mainGlobals "judged" = some (some (.ref f16))) (l16:K.lookup f16=some ⟨oc16,od16,.func (W.fnOf "judged" "judged" (defArgs Y42) (defBody Y42) (defScope Y42) .none kV16 dc16 pm16 an16 cd16 ct16),sl16⟩) (c16:W.codeIn K cd16 "judged" = true) (k16:W.keepIn K (.ref f16)=true)
    (a17:W.nsIn K mainGlobals "verdict" = some (some (.ref f17))) (l17:K.lookup f17=some ⟨oc17,od17,.func (W.fnOf "verdict" "verdict" (defArgs Y74) (defBody Y74) (defScope Y74) .none kV17 dc17 pm17 an17 cd17 ct17),sl17⟩) (c17:W.codeIn K cd17 "verdict" = true) (k17:W.keepIn K (.ref f17)=true)
    (a18:W.nsIn K mainGlobals "with_rows" = some (some (.ref f18))) (l18:K.lookup f18=some ⟨oc18,od18,.func (W.fnOf "with_rows" "with_rows" (defArgs Y77) (defBody Y77) (defScope Y77) .none kV18 dc18 pm18 an18 cd18 ct18),sl18⟩) (c18:W.codeIn K cd18 "with_rows" = true) (k18:W.keepIn K (.ref f18)=true)
    (a19:W.nsIn K mainGlobals "knit" = some (some (.ref f19))) (l19:K.lookup f19=some ⟨oc19,od19,.func (W.fnOf "knit" "knit" (defArgs Y43) (defBody Y43) (defScope Y43) .none kV19 dc19 pm19 an19 cd19 ct19),sl19⟩) (c19:W.codeIn K cd19 "knit" = true) (k19:W.keepIn K (.ref f19)=true)
    (a20:W.nsIn K mainGlobals "joined_once" = some (some (.ref f20))) (l20:K.lookup f20=some ⟨oc20,od20,.func (W.fnOf "joined_once" "joined_once" (defArgs Y39) (defBody Y39) (defScope Y39) .none kV20 dc20 pm20 an20 cd20 ct20),sl20⟩) (c20:W.codeIn K cd20 "joined_once" = true) (k20:W.keepIn K (.ref f20)=true)
    (a21:W.nsIn K mainGlobals "joint" = some (some (.ref f21))) (l21:K.lookup f21=some ⟨oc21,od21,.func (W.fnOf "joint" "joint" (defArgs Y41) (defBody Y41) (defScope Y41) .none kV21 dc21 pm21 an21 cd21 ct21),sl21⟩) (c21:W.codeIn K cd21 "joint" = true) (k21:W.keepIn K (.ref f21)=true)
    (a22:W.nsIn K mainGlobals "alike_beside" = some (some (.ref f22))) (l22:K.lookup f22=some ⟨oc22,od22,.func (W.fnOf "alike_beside" "alike_beside" (defArgs Y32) (defBody Y32) (defScope Y32) .none kV22 dc22 pm22 an22 cd22 ct22),sl22⟩) (c22:W.codeIn K cd22 "alike_beside" = true) (k22:W.keepIn K (.ref f22)=true)
    (a23:W.nsIn K mainGlobals "may_join" = some (some (.ref f23))) (l23:K.lookup f23=some ⟨oc23,od23,.func (W.fnOf "may_join" "may_join" (defArgs Y66) (defBody Y66) (defScope Y66) .none kV23 dc23 pm23 an23 cd23 ct23),sl23⟩) (c23:W.codeIn K cd23 "may_join" = true) (k23:W.keepIn K (.ref f23)=true)
    (a24:W.nsIn K mainGlobals "joined_row" = some (some (.ref f24))) (l24:K.lookup f24=some ⟨oc24,od24,.func (W.fnOf "joined_row" "joined_row" (defArgs Y40) (defBody Y40) (defScope Y40) .none kV24 dc24 pm24 an24 cd24 ct24),sl24⟩) (c24:W.codeIn K cd24 "joined_row" = true) (k24:W.keepIn K (.ref f24)=true)
    (a25:W.nsIn K mainGlobals "with_cell" = some (some (.ref f25))) (l25:K.lookup f25=some ⟨oc25,od25,.func (W.fnOf "with_cell" "with_cell" (defArgs Y76) (defBody Y76) (defScope Y76) .none kV25 dc25 pm25 an25 cd25 ct25),sl25⟩) (c25:W.codeIn K cd25 "with_cell" = true) (k25:W.keepIn K (.ref f25)=true)
    (a26:W.nsIn K mainGlobals "_law_cell_at" = some (some (.ref f26))) (l26:K.lookup f26=some ⟨oc26,od26,.func (W.fnOf "_law_cell_at" "_law_cell_at" (defArgs Y47) (defBody Y47) (defScope Y47) .none kV26 dc26 pm26 an26 cd26 ct26),sl26⟩) (c26:W.codeIn K cd26 "_law_cell_at" = true) (k26:W.keepIn K (.ref f26)=true)
    (a27:W.nsIn K mainGlobals "_law_mixed" = some (some (.ref f27))) (l27:K.lookup f27=some ⟨oc27,od27,.func (W.fnOf "_law_mixed" "_law_mixed" (defArgs Y56) (defBody Y56) (defScope Y56) .none kV27 dc27 pm27 an27 cd27 ct27),sl27⟩) (c27:W.codeIn K cd27 "_law_mixed" = true) (k27:W.keepIn K (.ref f27)=true)
    (a28:W.nsIn K mainGlobals "_law_seeds" = some (some (.ref f28))) (l28:K.lookup f28=some ⟨oc28,od28,.func (W.fnOf "_law_seeds" "_law_seeds" (defArgs Y60) (defBody Y60) (defScope Y60) .none kV28 dc28 pm28 an28 cd28 ct28),sl28⟩) (c28:W.codeIn K cd28 "_law_seeds" = true) (k28:W.keepIn K (.ref f28)=true)
    (a29:W.nsIn K mainGlobals "_law_word" = some (some (.ref f29))) (l29:K.lookup f29=some ⟨oc29,od29,.func (W.fnOf "_law_word" "_law_word" (defArgs Y64) (defBody Y64) (defScope Y64) .none kV29 dc29 pm29 an29 cd29 ct29),sl29⟩) (c29:W.codeIn K cd29 "_law_word" = true) (k29:W.keepIn K (.ref f29)=true)
    (a30:W.nsIn K mainGlobals "_law_column" = some (some (.ref f30))) (l30:K.lookup f30=some ⟨oc30,od30,.func (W.fnOf "_law_column" "_law_column" (defArgs Y49) (defBody Y49) (defScope Y49) .none kV30 dc30 pm30 an30 cd30 ct30),sl30⟩) (c30:W.codeIn K cd30 "_law_column" = true) (k30:W.keepIn K (.ref f30)=true)
    (a31:W.nsIn K mainGlobals "_law_domain" = some (some (.ref f31))) (l31:K.lookup f31=some ⟨oc31,od31,.func (W.fnOf "_law_domain" "_law_domain" (defArgs Y50) (defBody Y50) (defScope Y50) .none kV31 dc31 pm31 an31 cd31 ct31),sl31⟩) (c31:W.codeIn K cd31 "_law_domain" = true) (k31:W.keepIn K (.ref f31)=true)
    (a32:W.nsIn K mainGlobals "_law_spans" = some (some (.ref f32))) (l32:K.lookup f32=some ⟨oc32,od32,.func (W.fnOf "_law_spans" "_law_spans" (defArgs Y61) (defBody Y61) (defScope Y61) .none kV32 dc32 pm32 an32 cd32 ct32),sl32⟩) (c32:W.codeIn K cd32 "_law_spans" = true) (k32:W.keepIn K (.ref f32)=true)
    (a33:W.nsIn K mainGlobals "_law_bit_row" = some (some (.ref f33))) (l33:K.lookup f33=some ⟨oc33,od33,.func (W.fnOf "_law_bit_row" "_law_bit_row" (defArgs Y45) (defBody Y45) (defScope Y45) .none kV33 dc33 pm33 an33 cd33 ct33),sl33⟩) (c33:W.codeIn K cd33 "_law_bit_row" = true) (k33:W.keepIn K (.ref f33)=true)
    (a34:W.nsIn K mainGlobals "_law_bit_rows" = some (some (.ref f34))) (l34:K.lookup f34=some ⟨oc34,od34,.func (W.fnOf "_law_bit_rows" "_law_bit_rows" (defArgs Y46) (defBody Y46) (defScope Y46) .none kV34 dc34 pm34 an34 cd34 ct34),sl34⟩) (c34:W.codeIn K cd34 "_law_bit_rows" = true) (k34:W.keepIn K (.ref f34)=true)
    (a35:W.nsIn K mainGlobals "_law_rows" = some (some (.ref f35))) (l35:K.lookup f35=some ⟨oc35,od35,.func (W.fnOf "_law_rows" "_law_rows" (defArgs Y58) (defBody Y58) (defScope Y58) .none kV35 dc35 pm35 an35 cd35 ct35),sl35⟩) (c35:W.codeIn K cd35 "_law_rows" = true) (k35:W.keepIn K (.ref f35)=true)
    (a36:W.nsIn K mainGlobals "_law_table" = some (some (.ref f36))) (l36:K.lookup f36=some ⟨oc36,od36,.func (W.fnOf "_law_table" "_law_table" (defArgs Y62) (defBody Y62) (defScope Y62) .none kV36 dc36 pm36 an36 cd36 ct36),sl36⟩) (c36:W.codeIn K cd36 "_law_table" = true) (k36:W.keepIn K (.ref f36)=true)
    (a37:W.nsIn K mainGlobals "_law_points" = some (some (.ref f37))) (l37:K.lookup f37=some ⟨oc37,od37,.func (W.fnOf "_law_points" "_law_points" (defArgs Y57) (defBody Y57) (defScope Y57) .none kV37 dc37 pm37 an37 cd37 ct37),sl37⟩) (c37:W.codeIn K cd37 "_law_points" = true) (k37:W.keepIn K (.ref f37)=true)
    (a38:W.nsIn K mainGlobals "_law_codes" = some (some (.ref f38))) (l38:K.lookup f38=some ⟨oc38,od38,.func (W.fnOf "_law_codes" "_law_codes" (defArgs Y48) (defBody Y48) (defScope Y48) .none kV38 dc38 pm38 an38 cd38 ct38),sl38⟩) (c38:W.codeIn K cd38 "_law_codes" = true) (k38:W.keepIn K (.ref f38)=true)
    (a39:W.nsIn K mainGlobals "_law_fit" = some (some (.ref f39))) (l39:K.lookup f39=some ⟨oc39,od39,.func (W.fnOf "_law_fit" "_law_fit" (defArgs Y52) (defBody Y52) (defScope Y52) .none kV39 dc39 pm39 an39 cd39 ct39),sl39⟩) (c39:W.codeIn K cd39 "_law_fit" = true) (k39:W.keepIn K (.ref f39)=true)
    (a40:W.nsIn K mainGlobals "_law_way" = some (some (.ref f40))) (l40:K.lookup f40=some ⟨oc40,od40,.func (W.fnOf "_law_way" "_law_way" (defArgs Y63) (defBody Y63) (defScope Y63) .none kV40 dc40 pm40 an40 cd40 ct40),sl40⟩) (c40:W.codeIn K cd40 "_law_way" = true) (k40:W.keepIn K (.ref f40)=true)
    (a41:W.nsIn K mainGlobals "_law_due" = some (some (.ref f41))) (l41:K.lookup f41=some ⟨oc41,od41,.func (W.fnOf "_law_due" "_law_due" (defArgs Y51) (defBody Y51) (defScope Y51) .none kV41 dc41 pm41 an41 cd41 ct41),sl41⟩) (c41:W.codeIn K cd41 "_law_due" = true) (k41:W.keepIn K (.ref f41)=true)
    (a42:W.nsIn K mainGlobals "_law_same" = some (some (.ref f42))) (l42:K.lookup f42=some ⟨oc42,od42,.func (W.fnOf "_law_same" "_law_same" (defArgs Y59) (defBody Y59) (defScope Y59) .none kV42 dc42 pm42 an42 cd42 ct42),sl42⟩) (c42:W.codeIn K cd42 "_law_same" = true) (k42:W.keepIn K (.ref f42)=true)
    (a43:W.nsIn K mainGlobals "_law_joint" = some (some (.ref f43))) (l43:K.lookup f43=some ⟨oc43,od43,.func (W.fnOf "_law_joint" "_law_joint" (defArgs Y53) (defBody Y53) (defScope Y53) .none kV43 dc43 pm43 an43 cd43 ct43),sl43⟩) (c43:W.codeIn K cd43 "_law_joint" = true) (k43:W.keepIn K (.ref f43)=true)
    (a44:W.nsIn K mainGlobals "_law_knit" = some (some (.ref f44))) (l44:K.lookup f44=some ⟨oc44,od44,.func (W.fnOf "_law_knit" "_law_knit" (defArgs Y54) (defBody Y54) (defScope Y54) .none kV44 dc44 pm44 an44 cd44 ct44),sl44⟩) (c44:W.codeIn K cd44 "_law_knit" = true) (k44:W.keepIn K (.ref f44)=true)
    (a45:W.nsIn K mainGlobals "_law_like" = some (some (.ref f45))) (l45:K.lookup f45=some ⟨oc45,od45,.func (W.fnOf "_law_like" "_law_like" (defArgs Y55) (defBody Y55) (defScope Y55) .none kV45 dc45 pm45 an45 cd45 ct45),sl45⟩) (c45:W.codeIn K cd45 "_law_like" = true) (k45:W.keepIn K (.ref f45)=true)
    (i46:W.findIn K (.ref qK) "__init__" = some (some (.ref f46))) (if46:W.isFn K (.ref f46)=true) (im46:W.makesIn K qK=true) (ik46:W.keepIn K (.ref qK)=true) (l46:K.lookup f46=some ⟨oc46,od46,.func (W.fnOf "__init__" "Table.__init__" (defArgs Y17) (defBody Y17) (defScope Y17) .none kV46 dc46 pm46 an46 cd46 ct46),sl46⟩) (c46:W.codeIn K cd46 "Table.__init__" = true) (k46:W.keepIn K (.ref f46)=true)
    (i47:W.findIn K (.ref qB) "__init__" = some (some (.ref f47))) (if47:W.isFn K (.ref f47)=true) (im47:W.makesIn K qB=true) (ik47:W.keepIn K (.ref qB)=true) (l47:K.lookup f47=some ⟨oc47,od47,.func (W.fnOf "__init__" "First.__init__" (defArgs Y4) (defBody Y4) (defScope Y4) .none kV47 dc47 pm47 an47 cd47 ct47),sl47⟩) (c47:W.codeIn K cd47 "First.__init__" = true) (k47:W.keepIn K (.ref f47)=true)
    (b_s48:W.specialIn K (.ref qA) "__getattribute__" = some (some (.builtin "type.__getattribute__"))) (b_r48:W.readsIn K qA (.type "type")=true) (b_a48:W.findCls K (.ref qA) (.type "type") "__init__" = some (.val (.ref f48))) (l48:K.lookup f48=some ⟨oc48,od48,.func (W.fnOf "__init__" "Way.__init__" (defArgs Y18) (defBody Y18) (defScope Y18) .none kV48 dc48 pm48 an48 cd48 ct48),sl48⟩) (c48:W.codeIn K cd48 "Way.__init__" = true) (k48:W.keepIn K (.ref f48)=true)
    (i49:W.findIn K (.ref qC) "__init__" = some (some (.ref f49))) (if49:W.isFn K (.ref f49)=true) (im49:W.makesIn K qC=true) (ik49:W.keepIn K (.ref qC)=true) (l49:K.lookup f49=some ⟨oc49,od49,.func (W.fnOf "__init__" "Only.__init__" (defArgs Y13) (defBody Y13) (defScope Y13) .none kV49 dc49 pm49 an49 cd49 ct49),sl49⟩) (c49:W.codeIn K cd49 "Only.__init__" = true) (k49:W.keepIn K (.ref f49)=true)
    (b_s50:W.specialIn K (.ref qA) "__getattribute__" = some (some (.builtin "type.__getattribute__"))) (b_r50:W.readsIn K qA (.type "type")=true) (b_a50:W.findCls K (.ref qA) (.type "type") "__init__" = some (.val (.ref f50))) (l50:K.lookup f50=some ⟨oc50,od50,.func (W.fnOf "__init__" "Way.__init__" (defArgs Y22) (defBody Y22) (defScope Y22) .none kV50 dc50 pm50 an50 cd50 ct50),sl50⟩) (c50:W.codeIn K cd50 "Way.__init__" = true) (k50:W.keepIn K (.ref f50)=true)
    (i51:W.findIn K (.ref qD) "__init__" = some (some (.ref f51))) (if51:W.isFn K (.ref f51)=true) (im51:W.makesIn K qD=true) (ik51:W.keepIn K (.ref qD)=true) (l51:K.lookup f51=some ⟨oc51,od51,.func (W.fnOf "__init__" "Like.__init__" (defArgs Y8) (defBody Y8) (defScope Y8) .none kV51 dc51 pm51 an51 cd51 ct51),sl51⟩) (c51:W.codeIn K cd51 "Like.__init__" = true) (k51:W.keepIn K (.ref f51)=true)
    (b_s52:W.specialIn K (.ref qA) "__getattribute__" = some (some (.builtin "type.__getattribute__"))) (b_r52:W.readsIn K qA (.type "type")=true) (b_a52:W.findCls K (.ref qA) (.type "type") "__init__" = some (.val (.ref f52))) (l52:K.lookup f52=some ⟨oc52,od52,.func (W.fnOf "__init__" "Way.__init__" (defArgs Y20) (defBody Y20) (defScope Y20) .none kV52 dc52 pm52 an52 cd52 ct52),sl52⟩) (c52:W.codeIn K cd52 "Way.__init__" = true) (k52:W.keepIn K (.ref f52)=true)
    (i53:W.findIn K (.ref qE) "__init__" = some (some (.ref f53))) (if53:W.isFn K (.ref f53)=true) (im53:W.makesIn K qE=true) (ik53:W.keepIn K (.ref qE)=true) (l53:K.lookup f53=some ⟨oc53,od53,.func (W.fnOf "__init__" "Low.__init__" (defArgs Y10) (defBody Y10) (defScope Y10) .none kV53 dc53 pm53 an53 cd53 ct53),sl53⟩) (c53:W.codeIn K cd53 "Low.__init__" = true) (k53:W.keepIn K (.ref f53)=true)
    (b_s54:W.specialIn K (.ref qA) "__getattribute__" = some (some (.builtin "type.__getattribute__"))) (b_r54:W.readsIn K qA (.type "type")=true) (b_a54:W.findCls K (.ref qA) (.type "type") "__init__" = some (.val (.ref f54))) (l54:K.lookup f54=some ⟨oc54,od54,.func (W.fnOf "__init__" "Way.__init__" (defArgs Y21) (defBody Y21) (defScope Y21) .none kV54 dc54 pm54 an54 cd54 ct54),sl54⟩) (c54:W.codeIn K cd54 "Way.__init__" = true) (k54:W.keepIn K (.ref f54)=true)
    (i55:W.findIn K (.ref qF) "__init__" = some (some (.ref f55))) (if55:W.isFn K (.ref f55)=true) (im55:W.makesIn K qF=true) (ik55:W.keepIn K (.ref qF)=true) (l55:K.lookup f55=some ⟨oc55,od55,.func (W.fnOf "__init__" "High.__init__" (defArgs Y6) (defBody Y6) (defScope Y6) .none kV55 dc55 pm55 an55 cd55 ct55),sl55⟩) (c55:W.codeIn K cd55 "High.__init__" = true) (k55:W.keepIn K (.ref f55)=true)
    (b_s56:W.specialIn K (.ref qA) "__getattribute__" = some (some (.builtin "type.__getattribute__"))) (b_r56:W.readsIn K qA (.type "type")=true) (b_a56:W.findCls K (.ref qA) (.type "type") "__init__" = some (.val (.ref f56))) (l56:K.lookup f56=some ⟨oc56,od56,.func (W.fnOf "__init__" "Way.__init__" (defArgs Y19) (defBody Y19) (defScope Y19) .none kV56 dc56 pm56 an56 cd56 ct56),sl56⟩) (c56:W.codeIn K cd56 "Way.__init__" = true) (k56:W.keepIn K (.ref f56)=true)
    (i57:W.findIn K (.ref qG) "__init__" = some (some (.ref f57))) (if57:W.isFn K (.ref f57)=true) (im57:W.makesIn K qG=true) (ik57:W.keepIn K (.ref qG)=true) (l57:K.lookup f57=some ⟨oc57,od57,.func (W.fnOf "__init__" "Sum.__init__" (defArgs Y15) (defBody Y15) (defScope Y15) .none kV57 dc57 pm57 an57 cd57 ct57),sl57⟩) (c57:W.codeIn K cd57 "Sum.__init__" = true) (k57:W.keepIn K (.ref f57)=true)
    (b_s58:W.specialIn K (.ref qA) "__getattribute__" = some (some (.builtin "type.__getattribute__"))) (b_r58:W.readsIn K qA (.type "type")=true) (b_a58:W.findCls K (.ref qA) (.type "type") "__init__" = some (.val (.ref f58))) (l58:K.lookup f58=some ⟨oc58,od58,.func (W.fnOf "__init__" "Way.__init__" (defArgs Y23) (defBody Y23) (defScope Y23) .none kV58 dc58 pm58 an58 cd58 ct58),sl58⟩) (c58:W.codeIn K cd58 "Way.__init__" = true) (k58:W.keepIn K (.ref f58)=true)
    (m59:W.findIn K (.ref qI) "has_code" = some (some (.ref f59))) (mf59:W.isFn K (.ref f59)=true) (l59:K.lookup f59=some ⟨oc59,od59,.func (W.fnOf "has_code" "Domain.has_code" (defArgs Y2) (defBody Y2) (defScope Y2) .none kV59 dc59 pm59 an59 cd59 ct59),sl59⟩) (c59:W.codeIn K cd59 "Domain.has_code" = true) (k59:W.keepIn K (.ref f59)=true)
    (m60:W.findIn K (.ref qJ) "has_code" = some (some (.ref f60))) (mf60:W.isFn K (.ref f60)=true) (l60:K.lookup f60=some ⟨oc60,od60,.func (W.fnOf "has_code" "Domain.has_code" (defArgs Y3) (defBody Y3) (defScope Y3) .none kV60 dc60 pm60 an60 cd60 ct60),sl60⟩) (c60:W.codeIn K cd60 "Domain.has_code" = true) (k60:W.keepIn K (.ref f60)=true)
    (i61:W.findIn K (.ref qI) "__init__" = some (some (.ref f61))) (if61:W.isFn K (.ref f61)=true) (im61:W.makesIn K qI=true) (ik61:W.keepIn K (.ref qI)=true) (l61:K.lookup f61=some ⟨oc61,od61,.func (W.fnOf "__init__" "Numbers.__init__" (defArgs Y12) (defBody Y12) (defScope Y12) .none kV61 dc61 pm61 an61 cd61 ct61),sl61⟩) (c61:W.codeIn K cd61 "Numbers.__init__" = true) (k61:W.keepIn K (.ref f61)=true)
    (b_s62:W.specialIn K (.ref qH) "__getattribute__" = some (some (.builtin "type.__getattribute__"))) (b_r62:W.readsIn K qH (.type "type")=true) (b_a62:W.findCls K (.ref qH) (.type "type") "__init__" = some (.val (.ref f62))) (l62:K.lookup f62=some ⟨oc62,od62,.func (W.fnOf "__init__" "Domain.__init__" (defArgs Y0) (defBody Y0) (defScope Y0) .none kV62 dc62 pm62 an62 cd62 ct62),sl62⟩) (c62:W.codeIn K cd62 "Domain.__init__" = true) (k62:W.keepIn K (.ref f62)=true)
    (i63:W.findIn K (.ref qJ) "__init__" = some (some (.ref f63))) (if63:W.isFn K (.ref f63)=true) (im63:W.makesIn K qJ=true) (ik63:W.keepIn K (.ref qJ)=true) (l63:K.lookup f63=some ⟨oc63,od63,.func (W.fnOf "__init__" "Words.__init__" (defArgs Y30) (defBody Y30) (defScope Y30) .none kV63 dc63 pm63 an63 cd63 ct63),sl63⟩) (c63:W.codeIn K cd63 "Words.__init__" = true) (k63:W.keepIn K (.ref f63)=true)
    (b_s64:W.specialIn K (.ref qH) "__getattribute__" = some (some (.builtin "type.__getattribute__"))) (b_r64:W.readsIn K qH (.type "type")=true) (b_a64:W.findCls K (.ref qH) (.type "type") "__init__" = some (.val (.ref f64))) (l64:K.lookup f64=some ⟨oc64,od64,.func (W.fnOf "__init__" "Domain.__init__" (defArgs Y1) (defBody Y1) (defScope Y1) .none kV64 dc64 pm64 an64 cd64 ct64),sl64⟩) (c64:W.codeIn K cd64 "Domain.__init__" = true) (k64:W.keepIn K (.ref f64)=true)
    (m65:W.findIn K (.ref qB) "verdict" = some (some (.ref f65))) (mf65:W.isFn K (.ref f65)=true) (l65:K.lookup f65=some ⟨oc65,od65,.func (W.fnOf "verdict" "Way.verdict" (defArgs Y24) (defBody Y24) (defScope Y24) .none kV65 dc65 pm65 an65 cd65 ct65),sl65⟩) (c65:W.codeIn K cd65 "Way.verdict" = true) (k65:W.keepIn K (.ref f65)=true)
    (m66:W.findIn K (.ref qB) "chosen" = some (some (.ref f66))) (mf66:W.isFn K (.ref f66)=true) (l66:K.lookup f66=some ⟨oc66,od66,.func (W.fnOf "chosen" "First.chosen" (defArgs Y5) (defBody Y5) (defScope Y5) .none kV66 dc66 pm66 an66 cd66 ct66),sl66⟩) (c66:W.codeIn K cd66 "First.chosen" = true) (k66:W.keepIn K (.ref f66)=true)
    (m67:W.findIn K (.ref qC) "verdict" = some (some (.ref f67))) (mf67:W.isFn K (.ref f67)=true) (l67:K.lookup f67=some ⟨oc67,od67,.func (W.fnOf "verdict" "Way.verdict" (defArgs Y28) (defBody Y28) (defScope Y28) .none kV67 dc67 pm67 an67 cd67 ct67),sl67⟩) (c67:W.codeIn K cd67 "Way.verdict" = true) (k67:W.keepIn K (.ref f67)=true)
    (m68:W.findIn K (.ref qC) "chosen" = some (some (.ref f68))) (mf68:W.isFn K (.ref f68)=true) (l68:K.lookup f68=some ⟨oc68,od68,.func (W.fnOf "chosen" "Only.chosen" (defArgs Y14) (defBody Y14) (defScope Y14) .none kV68 dc68 pm68 an68 cd68 ct68),sl68⟩) (c68:W.codeIn K cd68 "Only.chosen" = true) (k68:W.keepIn K (.ref f68)=true)
    (m69:W.findIn K (.ref qD) "verdict" = some (some (.ref f69))) (mf69:W.isFn K (.ref f69)=true) (l69:K.lookup f69=some ⟨oc69,od69,.func (W.fnOf "verdict" "Way.verdict" (defArgs Y26) (defBody Y26) (defScope Y26) .none kV69 dc69 pm69 an69 cd69 ct69),sl69⟩) (c69:W.codeIn K cd69 "Way.verdict" = true) (k69:W.keepIn K (.ref f69)=true)
    (m70:W.findIn K (.ref qD) "chosen" = some (some (.ref f70))) (mf70:W.isFn K (.ref f70)=true) (l70:K.lookup f70=some ⟨oc70,od70,.func (W.fnOf "chosen" "Like.chosen" (defArgs Y9) (defBody Y9) (defScope Y9) .none kV70 dc70 pm70 an70 cd70 ct70),sl70⟩) (c70:W.codeIn K cd70 "Like.chosen" = true) (k70:W.keepIn K (.ref f70)=true)
    (m71:W.findIn K (.ref qE) "verdict" = some (some (.ref f71))) (mf71:W.isFn K (.ref f71)=true) (l71:K.lookup f71=some ⟨oc71,od71,.func (W.fnOf "verdict" "Way.verdict" (defArgs Y27) (defBody Y27) (defScope Y27) .none kV71 dc71 pm71 an71 cd71 ct71),sl71⟩) (c71:W.codeIn K cd71 "Way.verdict" = true) (k71:W.keepIn K (.ref f71)=true)
    (m72:W.findIn K (.ref qE) "chosen" = some (some (.ref f72))) (mf72:W.isFn K (.ref f72)=true) (l72:K.lookup f72=some ⟨oc72,od72,.func (W.fnOf "chosen" "Low.chosen" (defArgs Y11) (defBody Y11) (defScope Y11) .none kV72 dc72 pm72 an72 cd72 ct72),sl72⟩) (c72:W.codeIn K cd72 "Low.chosen" = true) (k72:W.keepIn K (.ref f72)=true)
    (m73:W.findIn K (.ref qF) "verdict" = some (some (.ref f73))) (mf73:W.isFn K (.ref f73)=true) (l73:K.lookup f73=some ⟨oc73,od73,.func (W.fnOf "verdict" "Way.verdict" (defArgs Y25) (defBody Y25) (defScope Y25) .none kV73 dc73 pm73 an73 cd73 ct73),sl73⟩) (c73:W.codeIn K cd73 "Way.verdict" = true) (k73:W.keepIn K (.ref f73)=true)
    (m74:W.findIn K (.ref qF) "chosen" = some (some (.ref f74))) (mf74:W.isFn K (.ref f74)=true) (l74:K.lookup f74=some ⟨oc74,od74,.func (W.fnOf "chosen" "High.chosen" (defArgs Y7) (defBody Y7) (defScope Y7) .none kV74 dc74 pm74 an74 cd74 ct74),sl74⟩) (c74:W.codeIn K cd74 "High.chosen" = true) (k74:W.keepIn K (.ref f74)=true)
    (m75:W.findIn K (.ref qG) "verdict" = some (some (.ref f75))) (mf75:W.isFn K (.ref f75)=true) (l75:K.lookup f75=some ⟨oc75,od75,.func (W.fnOf "verdict" "Way.verdict" (defArgs Y29) (defBody Y29) (defScope Y29) .none kV75 dc75 pm75 an75 cd75 ct75),sl75⟩) (c75:W.codeIn K cd75 "Way.verdict" = true) (k75:W.keepIn K (.ref f75)=true)
    (m76:W.findIn K (.ref qG) "chosen" = some (some (.ref f76))) (mf76:W.isFn K (.ref f76)=true) (l76:K.lookup f76=some ⟨oc76,od76,.func (W.fnOf "chosen" "Sum.chosen" (defArgs Y16) (defBody Y16) (defScope Y16) .none kV76 dc76 pm76 an76 cd76 ct76),sl76⟩) (c76:W.codeIn K cd76 "Sum.chosen" = true) (k76:W.keepIn K (.ref f76)=true)
    (a77:W.nsIn K mainGlobals "law" = some (some (.ref f77))) (l77:K.lookup f77=some ⟨oc77,od77,.func (W.fnOf "law" "law" (defArgs Y44) (defBody Y44) (defScope Y44) .none kV77 dc77 pm77 an77 cd77 ct77),sl77⟩) (c77:W.codeIn K cd77 "law" = true) (k77:W.keepIn K (.ref f77)=true)
    (z0:W.nsIn K mainGlobals "len" = some none)
    (z1:W.nsIn K mainGlobals "isinstance" = some none)
    (z2:W.nsIn K mainGlobals "int" = some none)
    (z3:W.nsIn K mainGlobals "bool" = some none)
    (z4:W.nsIn K mainGlobals "sorted" = some none)
    (z5:W.nsIn K mainGlobals "max" = some none)
    (z6:W.nsIn K mainGlobals "set" = some none)
    (z7:W.nsIn K mainGlobals "zip" = some none)
    (z8:W.nsIn K mainGlobals "list" = some none)
    (z9:W.nsIn K mainGlobals "sum" = some none)
    (z10:W.nsIn K mainGlobals "range" = some none)
    (z11:W.nsIn K mainGlobals "enumerate" = some none)
    (z12:W.nsIn K mainGlobals "all" = some none)
    (z13:W.nsIn K mainGlobals "min" = some none)
    (z14:W.nsIn K mainGlobals "tuple" = some none)
    (z15:W.nsIn K mainGlobals "str" = some none)
    {w0:Value} (y0:W.nsIn K mainGlobals "MOST_SIGNS" = some (some w0)) (x0:RelV (V.int 12) w0)
    {w1:Value} (y1:W.nsIn K mainGlobals "SMALL_LETTERS" = some (some w1)) (x1:RelV (V.str "abcdefghijklmnopqrstuvwxyz") w1)
    {w2:Value} (y2:W.nsIn K mainGlobals "MOST_ROWS" = some (some w2)) (x2:RelV (V.int 200) w2)
    {w3:Value} (y3:W.nsIn K mainGlobals "MOST_COLUMNS" = some (some w3)) (x3:RelV (V.int 4) w3)
    {w4:Value} (y4:W.nsIn K mainGlobals "MOST_WORDS" = some (some w4)) (x4:RelV (V.int 40) w4)
    (pg_First:W.plainGet K qB Str.empty=true) (hd_First:W.hasDictIn K qB=true) (po_First:W.plainOver K qB=true) (sa_First:W.findIn K (.ref qB) "__setattr__" = some (some (.builtin "object.__setattr__")))
    (pg_Only:W.plainGet K qC Str.empty=true) (hd_Only:W.hasDictIn K qC=true) (po_Only:W.plainOver K qC=true) (sa_Only:W.findIn K (.ref qC) "__setattr__" = some (some (.builtin "object.__setattr__")))
    (pg_Like:W.plainGet K qD Str.empty=true) (hd_Like:W.hasDictIn K qD=true) (po_Like:W.plainOver K qD=true) (sa_Like:W.findIn K (.ref qD) "__setattr__" = some (some (.builtin "object.__setattr__")))
    (pg_Low:W.plainGet K qE Str.empty=true) (hd_Low:W.hasDictIn K qE=true) (po_Low:W.plainOver K qE=true) (sa_Low:W.findIn K (.ref qE) "__setattr__" = some (some (.builtin "object.__setattr__")))
    (pg_High:W.plainGet K qF Str.empty=true) (hd_High:W.hasDictIn K qF=true) (po_High:W.plainOver K qF=true) (sa_High:W.findIn K (.ref qF) "__setattr__" = some (some (.builtin "object.__setattr__")))
    (pg_Sum:W.plainGet K qG Str.empty=true) (hd_Sum:W.hasDictIn K qG=true) (po_Sum:W.plainOver K qG=true) (sa_Sum:W.findIn K (.ref qG) "__setattr__" = some (some (.builtin "object.__setattr__")))
    (pg_Numbers:W.plainGet K qI Str.empty=true) (hd_Numbers:W.hasDictIn K qI=true) (po_Numbers:W.plainOver K qI=true) (sa_Numbers:W.findIn K (.ref qI) "__setattr__" = some (some (.builtin "object.__setattr__")))
    (pg_Words:W.plainGet K qJ Str.empty=true) (hd_Words:W.hasDictIn K qJ=true) (po_Words:W.plainOver K qJ=true) (sa_Words:W.findIn K (.ref qJ) "__setattr__" = some (some (.builtin "object.__setattr__")))
    (pg_Table:W.plainGet K qK Str.empty=true) (hd_Table:W.hasDictIn K qK=true) (po_Table:W.plainOver K qK=true) (sa_Table:W.findIn K (.ref qK) "__setattr__" = some (some (.builtin "object.__setattr__")))
    (ta_First:W.findIn K (.ref qB) "__class__" = some (some (.builtin "object.__class__"))) (tn_First:W.specialIn K (.builtin "object.__class__") "__get__" = some (some (.builtin "getset_descriptor.__get__"))) (tt_First:W.takesIn K (.builtin "object.__class__")=some true) (tm_First:W.mroIn K qB (.type "object")=some true)
    (ta_Only:W.findIn K (.ref qC) "__class__" = some (some (.builtin "object.__class__"))) (tn_Only:W.specialIn K (.builtin "object.__class__") "__get__" = some (some (.builtin "getset_descriptor.__get__"))) (tt_Only:W.takesIn K (.builtin "object.__class__")=some true) (tm_Only:W.mroIn K qC (.type "object")=some true)
    (ta_Like:W.findIn K (.ref qD) "__class__" = some (some (.builtin "object.__class__"))) (tn_Like:W.specialIn K (.builtin "object.__class__") "__get__" = some (some (.builtin "getset_descriptor.__get__"))) (tt_Like:W.takesIn K (.builtin "object.__class__")=some true) (tm_Like:W.mroIn K qD (.type "object")=some true)
    (ta_Low:W.findIn K (.ref qE) "__class__" = some (some (.builtin "object.__class__"))) (tn_Low:W.specialIn K (.builtin "object.__class__") "__get__" = some (some (.builtin "getset_descriptor.__get__"))) (tt_Low:W.takesIn K (.builtin "object.__class__")=some true) (tm_Low:W.mroIn K qE (.type "object")=some true)
    (ta_High:W.findIn K (.ref qF) "__class__" = some (some (.builtin "object.__class__"))) (tn_High:W.specialIn K (.builtin "object.__class__") "__get__" = some (some (.builtin "getset_descriptor.__get__"))) (tt_High:W.takesIn K (.builtin "object.__class__")=some true) (tm_High:W.mroIn K qF (.type "object")=some true)
    (ta_Sum:W.findIn K (.ref qG) "__class__" = some (some (.builtin "object.__class__"))) (tn_Sum:W.specialIn K (.builtin "object.__class__") "__get__" = some (some (.builtin "getset_descriptor.__get__"))) (tt_Sum:W.takesIn K (.builtin "object.__class__")=some true) (tm_Sum:W.mroIn K qG (.type "object")=some true)
    (ta_Numbers:W.findIn K (.ref qI) "__class__" = some (some (.builtin "object.__class__"))) (tn_Numbers:W.specialIn K (.builtin "object.__class__") "__get__" = some (some (.builtin "getset_descriptor.__get__"))) (tt_Numbers:W.takesIn K (.builtin "object.__class__")=some true) (tm_Numbers:W.mroIn K qI (.type "object")=some true)
    (ta_Words:W.findIn K (.ref qJ) "__class__" = some (some (.builtin "object.__class__"))) (tn_Words:W.specialIn K (.builtin "object.__class__") "__get__" = some (some (.builtin "getset_descriptor.__get__"))) (tt_Words:W.takesIn K (.builtin "object.__class__")=some true) (tm_Words:W.mroIn K qJ (.type "object")=some true)
    (ta_Table:W.findIn K (.ref qK) "__class__" = some (some (.builtin "object.__class__"))) (tn_Table:W.specialIn K (.builtin "object.__class__") "__get__" = some (some (.builtin "getset_descriptor.__get__"))) (tt_Table:W.takesIn K (.builtin "object.__class__")=some true) (tm_Table:W.mroIn K qK (.type "object")=some true)
    (na_First_called:W.findIn K (.ref qB) "called" = some none)
    (na_Only_called:W.findIn K (.ref qC) "called" = some none)
    (na_Like_called:W.findIn K (.ref qD) "called" = some none)
    (na_Low_called:W.findIn K (.ref qE) "called" = some none)
    (na_High_called:W.findIn K (.ref qF) "called" = some none)
    (na_Sum_called:W.findIn K (.ref qG) "called" = some none)
    (na_Numbers_low:W.findIn K (.ref qI) "low" = some none)
    (na_Numbers_high:W.findIn K (.ref qI) "high" = some none)
    (na_Numbers_words:W.findIn K (.ref qI) "words" = some none)
    (na_Words_low:W.findIn K (.ref qJ) "low" = some none)
    (na_Words_high:W.findIn K (.ref qJ) "high" = some none)
    (na_Words_words:W.findIn K (.ref qJ) "words" = some none)
    (na_Table_name:W.findIn K (.ref qK) "name" = some none)
    (na_Table_names:W.findIn K (.ref qK) "names" = some none)
    (na_Table_domains:W.findIn K (.ref qK) "domains" = some none)
    (na_Table_outcome:W.findIn K (.ref qK) "outcome" = some none)
    (na_Table_way:W.findIn K (.ref qK) "way" = some none)
    (na_Table_rows:W.findIn K (.ref qK) "rows" = some none)
    (f_nn:W.kitOne K (.ref qI) (.ref qI)=some true)
    (f_wn:W.kitOne K (.ref qJ) (.ref qI)=some false)
    (f_ww:W.kitOne K (.ref qJ) (.ref qJ)=some true)
    (f_tt:W.kitOne K (.ref qK) (.ref qK)=some true)
    (f_nw:W.kitOne K (.ref qI) (.ref qJ)=some false)
    : ∃ fd:FuncData,(∀ (s:Shared) (v:Value),BindsTo s fd ⟨[v],[]⟩ [("script",v)])∧∀ base:Heap,K.In base→base.Ns mainGlobals mg→FnOk l.prog w K mg base CX0 10 fa fd ["script"] (J44 K):=by
  have e:=hfa.symm.trans (W.mg_of X G a77)
  cases e
  have F0:=fun_mk (st:=Y33) l0 c0 k0
  have b0:=F0.binds (ps:=["text", "signs"]) fun _ _ _ _ _ _ us hl=>match us,hl with | [_,_],_=>rfl
  have F1:=fun_mk (st:=Y38) l1 c1 k1
  have b1:=F1.binds (ps:=["text"]) fun _ _ _ _ _ _ us hl=>match us,hl with | [_],_=>rfl
  have F2:=fun_mk (st:=Y37) l2 c2 k2
  have b2:=F2.binds (ps:=["value"]) fun _ _ _ _ _ _ us hl=>match us,hl with | [_],_=>rfl
  have F3:=fun_mk (st:=Y31) l3 c3 k3
  have b3:=F3.binds (ps:=["one", "other"]) fun _ _ _ _ _ _ us hl=>match us,hl with | [_,_],_=>rfl
  have F4:=fun_mk (st:=Y73) l4 c4 k4
  have b4:=F4.binds (ps:=["pairs"]) fun _ _ _ _ _ _ us hl=>match us,hl with | [_],_=>rfl
  have F5:=fun_mk (st:=Y36) l5 c5 k5
  have b5:=F5.binds (ps:=["spans", "number"]) fun _ _ _ _ _ _ us hl=>match us,hl with | [_,_],_=>rfl
  have F6:=fun_mk (st:=Y34) l6 c6 k6
  have b6:=F6.binds (ps:=["ones", "others"]) fun _ _ _ _ _ _ us hl=>match us,hl with | [_,_],_=>rfl
  have F7:=fun_mk (st:=Y67) l7 c7 k7
  have b7:=F7.binds (ps:=["ones", "others"]) fun _ _ _ _ _ _ us hl=>match us,hl with | [_,_],_=>rfl
  have F8:=fun_mk (st:=Y75) l8 c8 k8
  have b8:=F8.binds (ps:=["name"]) fun _ _ _ _ _ _ us hl=>match us,hl with | [_],_=>rfl
  have F9:=fun_mk (st:=Y70) l9 c9 k9
  have b9:=F9.binds (ps:=["names"]) fun _ _ _ _ _ _ us hl=>match us,hl with | [_],_=>rfl
  have F10:=fun_mk (st:=Y69) l10 c10 k10
  have b10:=F10.binds (ps:=["names", "rows"]) fun _ _ _ _ _ _ us hl=>match us,hl with | [_,_],_=>rfl
  have F11:=fun_mk (st:=Y72) l11 c11 k11
  have b11:=F11.binds (ps:=["way", "outcome"]) fun _ _ _ _ _ _ us hl=>match us,hl with | [_,_],_=>rfl
  have F12:=fun_mk (st:=Y71) l12 c12 k12
  have b12:=F12.binds (ps:=["domains", "outcome", "cells", "code"]) fun _ _ _ _ _ _ us hl=>match us,hl with | [_,_,_,_],_=>rfl
  have F13:=fun_mk (st:=Y68) l13 c13 k13
  have b13:=F13.binds (ps:=["cells", "code"]) fun _ _ _ _ _ _ us hl=>match us,hl with | [_,_],_=>rfl
  have F14:=fun_mk (st:=Y35) l14 c14 k14
  have b14:=F14.binds (ps:=["table", "k", "codes"]) fun _ _ _ _ _ _ us hl=>match us,hl with | [_,_,_],_=>rfl
  have F15:=fun_mk (st:=Y65) l15 c15 k15
  have b15:=F15.binds (ps:=["table", "codes"]) fun _ _ _ _ _ _ us hl=>match us,hl with | [_,_],_=>rfl
  have F16:=fun_mk (st:=Y42) l16 c16 k16
  have b16:=F16.binds (ps:=["table", "rows"]) fun _ _ _ _ _ _ us hl=>match us,hl with | [_,_],_=>rfl
  have F17:=fun_mk (st:=Y74) l17 c17 k17
  have b17:=F17.binds (ps:=["table", "codes"]) fun _ _ _ _ _ _ us hl=>match us,hl with | [_,_],_=>rfl
  have F18:=fun_mk (st:=Y77) l18 c18 k18
  have b18:=F18.binds (ps:=["table", "rows"]) fun _ _ _ _ _ _ us hl=>match us,hl with | [_,_],_=>rfl
  have F19:=fun_mk (st:=Y43) l19 c19 k19
  have b19:=F19.binds (ps:=["table"]) fun _ _ _ _ _ _ us hl=>match us,hl with | [_],_=>rfl
  have F20:=fun_mk (st:=Y39) l20 c20 k20
  have b20:=F20.binds (ps:=["rows", "way"]) fun _ _ _ _ _ _ us hl=>match us,hl with | [_,_],_=>rfl
  have F21:=fun_mk (st:=Y41) l21 c21 k21
  have b21:=F21.binds (ps:=["row", "behind", "way"]) fun _ _ _ _ _ _ us hl=>match us,hl with | [_,_,_],_=>rfl
  have F22:=fun_mk (st:=Y32) l22 c22 k22
  have b22:=F22.binds (ps:=["cells", "others", "column"]) fun _ _ _ _ _ _ us hl=>match us,hl with | [_,_,_],_=>rfl
  have F23:=fun_mk (st:=Y66) l23 c23 k23
  have b23:=F23.binds (ps:=["spans", "others", "way"]) fun _ _ _ _ _ _ us hl=>match us,hl with | [_,_,_],_=>rfl
  have F24:=fun_mk (st:=Y40) l24 c24 k24
  have b24:=F24.binds (ps:=["row", "behind", "column"]) fun _ _ _ _ _ _ us hl=>match us,hl with | [_,_,_],_=>rfl
  have F25:=fun_mk (st:=Y76) l25 c25 k25
  have b25:=F25.binds (ps:=["cells", "column", "spans"]) fun _ _ _ _ _ _ us hl=>match us,hl with | [_,_,_],_=>rfl
  have F26:=fun_mk (st:=Y47) l26 c26 k26
  have b26:=F26.binds (ps:=["script", "k"]) fun _ _ _ _ _ _ us hl=>match us,hl with | [_,_],_=>rfl
  have F27:=fun_mk (st:=Y56) l27 c27 k27
  have b27:=F27.binds (ps:=["cell", "k"]) fun _ _ _ _ _ _ us hl=>match us,hl with | [_,_],_=>rfl
  have F28:=fun_mk (st:=Y60) l28 c28 k28
  have b28:=F28.binds (ps:=["cells", "most"]) fun _ _ _ _ _ _ us hl=>match us,hl with | [_,_],_=>rfl
  have F29:=fun_mk (st:=Y64) l29 c29 k29
  have b29:=F29.binds (ps:=["cell", "k"]) fun _ _ _ _ _ _ us hl=>match us,hl with | [_,_],_=>rfl
  have F30:=fun_mk (st:=Y49) l30 c30 k30
  have b30:=F30.binds (ps:=["m", "most"]) fun _ _ _ _ _ _ us hl=>match us,hl with | [_,_],_=>rfl
  have F31:=fun_mk (st:=Y50) l31 c31 k31
  have b31:=F31.binds (ps:=["column"]) fun _ _ _ _ _ _ us hl=>match us,hl with | [_],_=>rfl
  have F32:=fun_mk (st:=Y61) l32 c32 k32
  have b32:=F32.binds (ps:=["pairs", "bits"]) fun _ _ _ _ _ _ us hl=>match us,hl with | [_,_],_=>rfl
  have F33:=fun_mk (st:=Y45) l33 c33 k33
  have b33:=F33.binds (ps:=["m", "columns", "out", "last"]) fun _ _ _ _ _ _ us hl=>match us,hl with | [_,_,_,_],_=>rfl
  have F34:=fun_mk (st:=Y46) l34 c34 k34
  have b34:=F34.binds (ps:=["seeds", "columns", "out"]) fun _ _ _ _ _ _ us hl=>match us,hl with | [_,_,_],_=>rfl
  have F35:=fun_mk (st:=Y58) l35 c35 k35
  have b35:=F35.binds (ps:=["bit_rows", "columns"]) fun _ _ _ _ _ _ us hl=>match us,hl with | [_,_],_=>rfl
  have F36:=fun_mk (st:=Y62) l36 c36 k36
  have b36:=F36.binds (ps:=["head", "columns", "out", "way", "bit_rows"]) fun _ _ _ _ _ _ us hl=>match us,hl with | [_,_,_,_,_],_=>rfl
  have F37:=fun_mk (st:=Y57) l37 c37 k37
  have b37:=F37.binds (ps:=["columns"]) fun _ _ _ _ _ _ us hl=>match us,hl with | [_],_=>rfl
  have F38:=fun_mk (st:=Y48) l38 c38 k38
  have b38:=F38.binds (ps:=["columns", "point", "turn"]) fun _ _ _ _ _ _ us hl=>match us,hl with | [_,_,_],_=>rfl
  have F39:=fun_mk (st:=Y52) l39 c39 k39
  have b39:=F39.binds (ps:=["bit_row", "point"]) fun _ _ _ _ _ _ us hl=>match us,hl with | [_,_],_=>rfl
  have F40:=fun_mk (st:=Y63) l40 c40 k40
  have b40:=F40.binds (ps:=["turn", "out"]) fun _ _ _ _ _ _ us hl=>match us,hl with | [_,_],_=>rfl
  have F41:=fun_mk (st:=Y51) l41 c41 k41
  have b41:=F41.binds (ps:=["way", "bit_rows", "out", "point"]) fun _ _ _ _ _ _ us hl=>match us,hl with | [_,_,_,_],_=>rfl
  have F42:=fun_mk (st:=Y59) l42 c42 k42
  have b42:=F42.binds (ps:=["found", "due"]) fun _ _ _ _ _ _ us hl=>match us,hl with | [_,_],_=>rfl
  have F43:=fun_mk (st:=Y53) l43 c43 k43
  have b43:=F43.binds (ps:=["way", "one", "other"]) fun _ _ _ _ _ _ us hl=>match us,hl with | [_,_,_],_=>rfl
  have F44:=fun_mk (st:=Y54) l44 c44 k44
  have b44:=F44.binds (ps:=["way", "bit_rows"]) fun _ _ _ _ _ _ us hl=>match us,hl with | [_,_],_=>rfl
  have F45:=fun_mk (st:=Y55) l45 c45 k45
  have b45:=F45.binds (ps:=["found", "table", "rows"]) fun _ _ _ _ _ _ us hl=>match us,hl with | [_,_,_],_=>rfl
  have F46:=fun_mk (st:=Y17) l46 c46 k46
  have b46:=F46.binds (ps:=["self", "name", "names", "domains", "outcome", "way", "rows"]) fun _ _ _ _ _ _ us hl=>match us,hl with | [_,_,_,_,_,_,_],_=>rfl
  have F47:=fun_mk (st:=Y4) l47 c47 k47
  have b47:=F47.binds (ps:=["self"]) fun _ _ _ _ _ _ us hl=>match us,hl with | [_],_=>rfl
  have F48:=fun_mk (st:=Y18) l48 c48 k48
  have b48:=F48.binds (ps:=["self", "called"]) fun _ _ _ _ _ _ us hl=>match us,hl with | [_,_],_=>rfl
  have F49:=fun_mk (st:=Y13) l49 c49 k49
  have b49:=F49.binds (ps:=["self"]) fun _ _ _ _ _ _ us hl=>match us,hl with | [_],_=>rfl
  have F50:=fun_mk (st:=Y22) l50 c50 k50
  have b50:=F50.binds (ps:=["self", "called"]) fun _ _ _ _ _ _ us hl=>match us,hl with | [_,_],_=>rfl
  have F51:=fun_mk (st:=Y8) l51 c51 k51
  have b51:=F51.binds (ps:=["self"]) fun _ _ _ _ _ _ us hl=>match us,hl with | [_],_=>rfl
  have F52:=fun_mk (st:=Y20) l52 c52 k52
  have b52:=F52.binds (ps:=["self", "called"]) fun _ _ _ _ _ _ us hl=>match us,hl with | [_,_],_=>rfl
  have F53:=fun_mk (st:=Y10) l53 c53 k53
  have b53:=F53.binds (ps:=["self"]) fun _ _ _ _ _ _ us hl=>match us,hl with | [_],_=>rfl
  have F54:=fun_mk (st:=Y21) l54 c54 k54
  have b54:=F54.binds (ps:=["self", "called"]) fun _ _ _ _ _ _ us hl=>match us,hl with | [_,_],_=>rfl
  have F55:=fun_mk (st:=Y6) l55 c55 k55
  have b55:=F55.binds (ps:=["self"]) fun _ _ _ _ _ _ us hl=>match us,hl with | [_],_=>rfl
  have F56:=fun_mk (st:=Y19) l56 c56 k56
  have b56:=F56.binds (ps:=["self", "called"]) fun _ _ _ _ _ _ us hl=>match us,hl with | [_,_],_=>rfl
  have F57:=fun_mk (st:=Y15) l57 c57 k57
  have b57:=F57.binds (ps:=["self"]) fun _ _ _ _ _ _ us hl=>match us,hl with | [_],_=>rfl
  have F58:=fun_mk (st:=Y23) l58 c58 k58
  have b58:=F58.binds (ps:=["self", "called"]) fun _ _ _ _ _ _ us hl=>match us,hl with | [_,_],_=>rfl
  have F59:=fun_mk (st:=Y2) l59 c59 k59
  have b59:=F59.binds (ps:=["self", "value"]) fun _ _ _ _ _ _ us hl=>match us,hl with | [_,_],_=>rfl
  have F60:=fun_mk (st:=Y3) l60 c60 k60
  have b60:=F60.binds (ps:=["self", "value"]) fun _ _ _ _ _ _ us hl=>match us,hl with | [_,_],_=>rfl
  have F61:=fun_mk (st:=Y12) l61 c61 k61
  have b61:=F61.binds (ps:=["self", "low", "high"]) fun _ _ _ _ _ _ us hl=>match us,hl with | [_,_,_],_=>rfl
  have F62:=fun_mk (st:=Y0) l62 c62 k62
  have b62:=F62.binds (ps:=["self", "low", "high"]) fun _ _ _ _ _ _ us hl=>match us,hl with | [_,_,_],_=>rfl
  have F63:=fun_mk (st:=Y30) l63 c63 k63
  have b63:=F63.binds (ps:=["self", "words"]) fun _ _ _ _ _ _ us hl=>match us,hl with | [_,_],_=>rfl
  have F64:=fun_mk (st:=Y1) l64 c64 k64
  have b64:=F64.binds (ps:=["self", "low", "high"]) fun _ _ _ _ _ _ us hl=>match us,hl with | [_,_,_],_=>rfl
  have F65:=fun_mk (st:=Y24) l65 c65 k65
  have b65:=F65.binds (ps:=["self", "codes", "outcome"]) fun _ _ _ _ _ _ us hl=>match us,hl with | [_,_,_],_=>rfl
  have F66:=fun_mk (st:=Y5) l66 c66 k66
  have b66:=F66.binds (ps:=["self", "codes", "outcome"]) fun _ _ _ _ _ _ us hl=>match us,hl with | [_,_,_],_=>rfl
  have F67:=fun_mk (st:=Y28) l67 c67 k67
  have b67:=F67.binds (ps:=["self", "codes", "outcome"]) fun _ _ _ _ _ _ us hl=>match us,hl with | [_,_,_],_=>rfl
  have F68:=fun_mk (st:=Y14) l68 c68 k68
  have b68:=F68.binds (ps:=["self", "codes", "outcome"]) fun _ _ _ _ _ _ us hl=>match us,hl with | [_,_,_],_=>rfl
  have F69:=fun_mk (st:=Y26) l69 c69 k69
  have b69:=F69.binds (ps:=["self", "codes", "outcome"]) fun _ _ _ _ _ _ us hl=>match us,hl with | [_,_,_],_=>rfl
  have F70:=fun_mk (st:=Y9) l70 c70 k70
  have b70:=F70.binds (ps:=["self", "codes", "outcome"]) fun _ _ _ _ _ _ us hl=>match us,hl with | [_,_,_],_=>rfl
  have F71:=fun_mk (st:=Y27) l71 c71 k71
  have b71:=F71.binds (ps:=["self", "codes", "outcome"]) fun _ _ _ _ _ _ us hl=>match us,hl with | [_,_,_],_=>rfl
  have F72:=fun_mk (st:=Y11) l72 c72 k72
  have b72:=F72.binds (ps:=["self", "codes", "outcome"]) fun _ _ _ _ _ _ us hl=>match us,hl with | [_,_,_],_=>rfl
  have F73:=fun_mk (st:=Y25) l73 c73 k73
  have b73:=F73.binds (ps:=["self", "codes", "outcome"]) fun _ _ _ _ _ _ us hl=>match us,hl with | [_,_,_],_=>rfl
  have F74:=fun_mk (st:=Y7) l74 c74 k74
  have b74:=F74.binds (ps:=["self", "codes", "outcome"]) fun _ _ _ _ _ _ us hl=>match us,hl with | [_,_,_],_=>rfl
  have F75:=fun_mk (st:=Y29) l75 c75 k75
  have b75:=F75.binds (ps:=["self", "codes", "outcome"]) fun _ _ _ _ _ _ us hl=>match us,hl with | [_,_,_],_=>rfl
  have F76:=fun_mk (st:=Y16) l76 c76 k76
  have b76:=F76.binds (ps:=["self", "codes", "outcome"]) fun _ _ _ _ _ _ us hl=>match us,hl with | [_,_,_],_=>rfl
  have F77:=fun_mk (st:=Y44) l77 c77 k77
  have b77:=F77.binds (ps:=["script"]) fun _ _ _ _ _ _ us hl=>match us,hl with | [_],_=>rfl
  have bl:Bl K mg qA qB qC qD qE qF qG qH qI qJ qK qL qM qN:=⟨W.mg_of X G n_Way,n_Way,W.mg_of X G n_First,n_First,W.mg_of X G n_Only,n_Only,W.mg_of X G n_Like,n_Like,W.mg_of X G n_Low,n_Low,W.mg_of X G n_High,n_High,W.mg_of X G n_Sum,n_Sum,W.mg_of X G n_Domain,n_Domain,W.mg_of X G n_Numbers,n_Numbers,W.mg_of X G n_Words,n_Words,W.mg_of X G n_Table,n_Table,⟨pg_First,hd_First,po_First,sa_First⟩,⟨pg_Only,hd_Only,po_Only,sa_Only⟩,⟨pg_Like,hd_Like,po_Like,sa_Like⟩,⟨pg_Low,hd_Low,po_Low,sa_Low⟩,⟨pg_High,hd_High,po_High,sa_High⟩,⟨pg_Sum,hd_Sum,po_Sum,sa_Sum⟩,⟨pg_Numbers,hd_Numbers,po_Numbers,sa_Numbers⟩,⟨pg_Words,hd_Words,po_Words,sa_Words⟩,⟨pg_Table,hd_Table,po_Table,sa_Table⟩,⟨⟨pg_First,hd_First,po_First,sa_First⟩,ta_First,tn_First,tt_First,tm_First⟩,⟨⟨pg_Only,hd_Only,po_Only,sa_Only⟩,ta_Only,tn_Only,tt_Only,tm_Only⟩,⟨⟨pg_Like,hd_Like,po_Like,sa_Like⟩,ta_Like,tn_Like,tt_Like,tm_Like⟩,⟨⟨pg_Low,hd_Low,po_Low,sa_Low⟩,ta_Low,tn_Low,tt_Low,tm_Low⟩,⟨⟨pg_High,hd_High,po_High,sa_High⟩,ta_High,tn_High,tt_High,tm_High⟩,⟨⟨pg_Sum,hd_Sum,po_Sum,sa_Sum⟩,ta_Sum,tn_Sum,tt_Sum,tm_Sum⟩,⟨⟨pg_Numbers,hd_Numbers,po_Numbers,sa_Numbers⟩,ta_Numbers,tn_Numbers,tt_Numbers,tm_Numbers⟩,⟨⟨pg_Words,hd_Words,po_Words,sa_Words⟩,ta_Words,tn_Words,tt_Words,tm_Words⟩,⟨⟨pg_Table,hd_Table,po_Table,sa_Table⟩,ta_Table,tn_Table,tt_Table,tm_Table⟩,W.mg_of X G n_NONE,ModT.mk lk_NONE sz_NONE vs_NONE,W.mg_of X G n_CLASH,ModT.mk lk_CLASH sz_CLASH vs_CLASH,W.mg_of X G n_COUNTING_WAYS,ModT.mk lk_COUNTING_WAYS sz_COUNTING_WAYS vs_COUNTING_WAYS,na_First_called,na_Only_called,na_Like_called,na_Low_called,na_High_called,na_Sum_called,na_Numbers_low,na_Numbers_high,na_Numbers_words,na_Words_low,na_Words_high,na_Words_words,na_Table_name,na_Table_names,na_Table_domains,na_Table_outcome,na_Table_way,na_Table_rows,f_nn,f_wn,f_ww,f_tt,f_nw,W.mg_none_of X G z0,W.mg_none_of X G z1,W.mg_none_of X G z2,W.mg_none_of X G z3,W.mg_none_of X G z4,W.mg_none_of X G z5,W.mg_none_of X G z6,W.mg_none_of X G z7,W.mg_none_of X G z8,W.mg_none_of X G z9,W.mg_none_of X G z10,W.mg_none_of X G z11,W.mg_none_of X G z12,W.mg_none_of X G z13,W.mg_none_of X G z14,W.mg_none_of X G z15,⟨_,W.mg_of X G y0,x0⟩,⟨_,W.mg_of X G y1,x1⟩,⟨_,W.mg_of X G y2,x2⟩,⟨_,W.mg_of X G y3,x3⟩,⟨_,W.mg_of X G y4,x4⟩⟩
  refine ⟨W.fnOf "law" "law" (defArgs Y44) (defBody Y44) (defScope Y44) .none kV77 dc77 pm77 an77 cd77 ct77,fun s v=>.of_eq rfl,fun base _ _=>?_⟩
  have O0:=O_33 (P:=l.prog) (w:=w) (base:=base) F0 bl
  have C_all_among:Callee l.prog w K mg base 1 "all_among" ["text", "signs"] (J33 K qA qB qC qD qE qF qG qH qI qJ qK qL qM qN):=⟨_,_,O0,b0,k0,W.mg_of X G a0⟩
  have O2:=O_42 (P:=l.prog) (w:=w) (base:=base) F2 bl
  have C_is_whole:Callee l.prog w K mg base 1 "is_whole" ["value"] (J37 K qA qB qC qD qE qF qG qH qI qJ qK qL qM qN):=⟨_,_,O2,b2,k2,W.mg_of X G a2⟩
  have O3:=O_31 (P:=l.prog) (w:=w) (base:=base) F3 bl
  have C_alike:Callee l.prog w K mg base 1 "alike" ["one", "other"] (J31 K qA qB qC qD qE qF qG qH qI qJ qK qL qM qN):=⟨_,_,O3,b3,k3,W.mg_of X G a3⟩
  have O4:=O_80 (P:=l.prog) (w:=w) (base:=base) F4 bl
  have C_tidy:Callee l.prog w K mg base 1 "tidy" ["pairs"] (J73 K qA qB qC qD qE qF qG qH qI qJ qK qL qM qN):=⟨_,_,O4,b4,k4,W.mg_of X G a4⟩
  have O5:=O_41 (P:=l.prog) (w:=w) (base:=base) F5 bl
  have C_holds:Callee l.prog w K mg base 1 "holds" ["spans", "number"] (J36 K qA qB qC qD qE qF qG qH qI qJ qK qL qM qN):=⟨_,_,O5,b5,k5,W.mg_of X G a5⟩
  have O7:=O_72 (P:=l.prog) (w:=w) (base:=base) F7 bl
  have C_meet:Callee l.prog w K mg base 1 "meet" ["ones", "others"] (J67 K qA qB qC qD qE qF qG qH qI qJ qK qL qM qN):=⟨_,_,O7,b7,k7,W.mg_of X G a7⟩
  have O10:=O_75 (P:=l.prog) (w:=w) (base:=base) F10 bl
  have C_refuse_counts:Callee l.prog w K mg base 1 "refuse_counts" ["names", "rows"] (J69 K qA qB qC qD qE qF qG qH qI qJ qK qL qM qN):=⟨_,_,O10,b10,k10,W.mg_of X G a10⟩
  have O13:=O_73 (P:=l.prog) (w:=w) (base:=base) F13 bl
  have C_own_row:Callee l.prog w K mg base 1 "own_row" ["cells", "code"] (J68 K qA qB qC qD qE qF qG qH qI qJ qK qL qM qN):=⟨_,_,O13,b13,k13,W.mg_of X G a13⟩
  have O22:=O_32 (P:=l.prog) (w:=w) (base:=base) F22 bl
  have C_alike_beside:Callee l.prog w K mg base 1 "alike_beside" ["cells", "others", "column"] (J32 K qA qB qC qD qE qF qG qH qI qJ qK qL qM qN):=⟨_,_,O22,b22,k22,W.mg_of X G a22⟩
  have O25:=O_83 (P:=l.prog) (w:=w) (base:=base) F25 bl
  have C_with_cell:Callee l.prog w K mg base 1 "with_cell" ["cells", "column", "spans"] (J76 K qA qB qC qD qE qF qG qH qI qJ qK qL qM qN):=⟨_,_,O25,b25,k25,W.mg_of X G a25⟩
  have O26:=O_52 (P:=l.prog) (w:=w) (base:=base) F26 bl
  have C_law_cell_at:Callee l.prog w K mg base 1 "_law_cell_at" ["script", "k"] (J47 K qA qB qC qD qE qF qG qH qI qJ qK qL qM qN):=⟨_,_,O26,b26,k26,W.mg_of X G a26⟩
  have O27:=O_61 (P:=l.prog) (w:=w) (base:=base) F27 bl
  have C_law_mixed:Callee l.prog w K mg base 1 "_law_mixed" ["cell", "k"] (J56 K qA qB qC qD qE qF qG qH qI qJ qK qL qM qN):=⟨_,_,O27,b27,k27,W.mg_of X G a27⟩
  have O29:=O_69 (P:=l.prog) (w:=w) (base:=base) F29 bl
  have C_law_word:Callee l.prog w K mg base 1 "_law_word" ["cell", "k"] (J64 K qA qB qC qD qE qF qG qH qI qJ qK qL qM qN):=⟨_,_,O29,b29,k29,W.mg_of X G a29⟩
  have O32:=O_66 (P:=l.prog) (w:=w) (base:=base) F32 bl
  have C_law_spans:Callee l.prog w K mg base 1 "_law_spans" ["pairs", "bits"] (J61 K qA qB qC qD qE qF qG qH qI qJ qK qL qM qN):=⟨_,_,O32,b32,k32,W.mg_of X G a32⟩
  have O37:=O_62 (P:=l.prog) (w:=w) (base:=base) F37 bl
  have C_law_points:Callee l.prog w K mg base 1 "_law_points" ["columns"] (J57 K qA qB qC qD qE qF qG qH qI qJ qK qL qM qN):=⟨_,_,O37,b37,k37,W.mg_of X G a37⟩
  have O38:=O_53 (P:=l.prog) (w:=w) (base:=base) F38 bl
  have C_law_codes:Callee l.prog w K mg base 1 "_law_codes" ["columns", "point", "turn"] (J48 K qA qB qC qD qE qF qG qH qI qJ qK qL qM qN):=⟨_,_,O38,b38,k38,W.mg_of X G a38⟩
  have O39:=O_57 (P:=l.prog) (w:=w) (base:=base) F39 bl
  have C_law_fit:Callee l.prog w K mg base 1 "_law_fit" ["bit_row", "point"] (J52 K qA qB qC qD qE qF qG qH qI qJ qK qL qM qN):=⟨_,_,O39,b39,k39,W.mg_of X G a39⟩
  have O40:=O_68 (P:=l.prog) (w:=w) (base:=base) F40 bl
  have C_law_way:Callee l.prog w K mg base 1 "_law_way" ["turn", "out"] (J63 K qA qB qC qD qE qF qG qH qI qJ qK qL qM qN):=⟨_,_,O40,b40,k40,W.mg_of X G a40⟩
  have O42:=O_64 (P:=l.prog) (w:=w) (base:=base) F42 bl
  have C_law_same:Callee l.prog w K mg base 1 "_law_same" ["found", "due"] (J59 K qA qB qC qD qE qF qG qH qI qJ qK qL qM qN):=⟨_,_,O42,b42,k42,W.mg_of X G a42⟩
  have O43:=O_58 (P:=l.prog) (w:=w) (base:=base) F43 bl
  have C_law_joint:Callee l.prog w K mg base 1 "_law_joint" ["way", "one", "other"] (J53 K qA qB qC qD qE qF qG qH qI qJ qK qL qM qN):=⟨_,_,O43,b43,k43,W.mg_of X G a43⟩
  have O48:=O_18 (P:=l.prog) (w:=w) (base:=base) F48 bl
  have B_Way___init___First:BCallee CX0 l.prog w K mg base 1 "Way" "__init__" ["self", "called"] (J18 K qA qB qC qD qE qF qG qH qI qJ qK qL qM qN):=⟨_,_,_,⟨b_s48,b_r48,b_a48,k48⟩,O48,b48,W.mg_of X G n_Way⟩
  have O50:=O_22 (P:=l.prog) (w:=w) (base:=base) F50 bl
  have B_Way___init___Only:BCallee CX0 l.prog w K mg base 1 "Way" "__init__" ["self", "called"] (J22 K qA qB qC qD qE qF qG qH qI qJ qK qL qM qN):=⟨_,_,_,⟨b_s50,b_r50,b_a50,k50⟩,O50,b50,W.mg_of X G n_Way⟩
  have O52:=O_20 (P:=l.prog) (w:=w) (base:=base) F52 bl
  have B_Way___init___Like:BCallee CX0 l.prog w K mg base 1 "Way" "__init__" ["self", "called"] (J20 K qA qB qC qD qE qF qG qH qI qJ qK qL qM qN):=⟨_,_,_,⟨b_s52,b_r52,b_a52,k52⟩,O52,b52,W.mg_of X G n_Way⟩
  have O54:=O_21 (P:=l.prog) (w:=w) (base:=base) F54 bl
  have B_Way___init___Low:BCallee CX0 l.prog w K mg base 1 "Way" "__init__" ["self", "called"] (J21 K qA qB qC qD qE qF qG qH qI qJ qK qL qM qN):=⟨_,_,_,⟨b_s54,b_r54,b_a54,k54⟩,O54,b54,W.mg_of X G n_Way⟩
  have O56:=O_19 (P:=l.prog) (w:=w) (base:=base) F56 bl
  have B_Way___init___High:BCallee CX0 l.prog w K mg base 1 "Way" "__init__" ["self", "called"] (J19 K qA qB qC qD qE qF qG qH qI qJ qK qL qM qN):=⟨_,_,_,⟨b_s56,b_r56,b_a56,k56⟩,O56,b56,W.mg_of X G n_Way⟩
  have O58:=O_23 (P:=l.prog) (w:=w) (base:=base) F58 bl
  have B_Way___init___Sum:BCallee CX0 l.prog w K mg base 1 "Way" "__init__" ["self", "called"] (J23 K qA qB qC qD qE qF qG qH qI qJ qK qL qM qN):=⟨_,_,_,⟨b_s58,b_r58,b_a58,k58⟩,O58,b58,W.mg_of X G n_Way⟩
  have O62:=O_0 (P:=l.prog) (w:=w) (base:=base) F62 bl
  have B_Domain___init___Numbers:BCallee CX0 l.prog w K mg base 1 "Domain" "__init__" ["self", "low", "high"] (J0 K qA qB qC qD qE qF qG qH qI qJ qK qL qM qN):=⟨_,_,_,⟨b_s62,b_r62,b_a62,k62⟩,O62,b62,W.mg_of X G n_Domain⟩
  have O64:=O_1 (P:=l.prog) (w:=w) (base:=base) F64 bl
  have B_Domain___init___Words:BCallee CX0 l.prog w K mg base 1 "Domain" "__init__" ["self", "low", "high"] (J1 K qA qB qC qD qE qF qG qH qI qJ qK qL qM qN):=⟨_,_,_,⟨b_s64,b_r64,b_a64,k64⟩,O64,b64,W.mg_of X G n_Domain⟩
  have O66:=O_5 (P:=l.prog) (w:=w) (base:=base) F66 bl
  have M_First_chosen_First:MCallee CX0 l.prog w K mg base 1 qB "chosen" ["self", "codes", "outcome"] (J5 K qA qB qC qD qE qF qG qH qI qJ qK qL qM qN):=⟨_,_,⟨m66,mf66,k66⟩,O66,b66⟩
  have O68:=O_14 (P:=l.prog) (w:=w) (base:=base) F68 bl
  have M_Only_chosen_Only:MCallee CX0 l.prog w K mg base 1 qC "chosen" ["self", "codes", "outcome"] (J14 K qA qB qC qD qE qF qG qH qI qJ qK qL qM qN):=⟨_,_,⟨m68,mf68,k68⟩,O68,b68⟩
  have O70:=O_9 (P:=l.prog) (w:=w) (base:=base) F70 bl
  have M_Like_chosen_Like:MCallee CX0 l.prog w K mg base 1 qD "chosen" ["self", "codes", "outcome"] (J9 K qA qB qC qD qE qF qG qH qI qJ qK qL qM qN):=⟨_,_,⟨m70,mf70,k70⟩,O70,b70⟩
  have O72:=O_11 (P:=l.prog) (w:=w) (base:=base) F72 bl
  have M_Low_chosen_Low:MCallee CX0 l.prog w K mg base 1 qE "chosen" ["self", "codes", "outcome"] (J11 K qA qB qC qD qE qF qG qH qI qJ qK qL qM qN):=⟨_,_,⟨m72,mf72,k72⟩,O72,b72⟩
  have O74:=O_7 (P:=l.prog) (w:=w) (base:=base) F74 bl
  have M_High_chosen_High:MCallee CX0 l.prog w K mg base 1 qF "chosen" ["self", "codes", "outcome"] (J7 K qA qB qC qD qE qF qG qH qI qJ qK qL qM qN):=⟨_,_,⟨m74,mf74,k74⟩,O74,b74⟩
  have O76:=O_16 (P:=l.prog) (w:=w) (base:=base) F76 bl
  have M_Sum_chosen_Sum:MCallee CX0 l.prog w K mg base 1 qG "chosen" ["self", "codes", "outcome"] (J16 K qA qB qC qD qE qF qG qH qI qJ qK qL qM qN):=⟨_,_,⟨m76,mf76,k76⟩,O76,b76⟩
  have O1:=O_43 (P:=l.prog) (w:=w) (base:=base) F1 bl (C_all_among.mono (by decide))
  have C_is_word:Callee l.prog w K mg base 2 "is_word" ["text"] (J38 K qA qB qC qD qE qF qG qH qI qJ qK qL qM qN):=⟨_,_,O1,b1,k1,W.mg_of X G a1⟩
  have O6:=O_39 (P:=l.prog) (w:=w) (base:=base) F6 bl (C_tidy.mono (by decide))
  have C_either:Callee l.prog w K mg base 2 "either" ["ones", "others"] (J34 K qA qB qC qD qE qF qG qH qI qJ qK qL qM qN):=⟨_,_,O6,b6,k6,W.mg_of X G a6⟩
  have O14:=O_40 (P:=l.prog) (w:=w) (base:=base) F14 bl (C_holds.mono (by decide))
  have C_fits:Callee l.prog w K mg base 2 "fits" ["table", "k", "codes"] (J35 K qA qB qC qD qE qF qG qH qI qJ qK qL qM qN):=⟨_,_,O14,b14,k14,W.mg_of X G a14⟩
  have O23:=O_71 (P:=l.prog) (w:=w) (base:=base) F23 bl (C_meet.mono (by decide))
  have C_may_join:Callee l.prog w K mg base 2 "may_join" ["spans", "others", "way"] (J66 K qA qB qC qD qE qF qG qH qI qJ qK qL qM qN):=⟨_,_,O23,b23,k23,W.mg_of X G a23⟩
  have O28:=O_65 (P:=l.prog) (w:=w) (base:=base) F28 bl (C_law_mixed.mono (by decide))
  have C_law_seeds:Callee l.prog w K mg base 2 "_law_seeds" ["cells", "most"] (J60 K qA qB qC qD qE qF qG qH qI qJ qK qL qM qN):=⟨_,_,O28,b28,k28,W.mg_of X G a28⟩
  have O30:=O_54 (P:=l.prog) (w:=w) (base:=base) F30 bl (C_law_mixed.mono (by decide))
  have C_law_column:Callee l.prog w K mg base 2 "_law_column" ["m", "most"] (J49 K qA qB qC qD qE qF qG qH qI qJ qK qL qM qN):=⟨_,_,O30,b30,k30,W.mg_of X G a30⟩
  have O33:=O_50 (P:=l.prog) (w:=w) (base:=base) F33 bl (C_law_mixed.mono (by decide))
  have C_law_bit_row:Callee l.prog w K mg base 2 "_law_bit_row" ["m", "columns", "out", "last"] (J45 K qA qB qC qD qE qF qG qH qI qJ qK qL qM qN):=⟨_,_,O33,b33,k33,W.mg_of X G a33⟩
  have O35:=O_63 (P:=l.prog) (w:=w) (base:=base) F35 bl (C_law_spans.mono (by decide))
  have C_law_rows:Callee l.prog w K mg base 2 "_law_rows" ["bit_rows", "columns"] (J58 K qA qB qC qD qE qF qG qH qI qJ qK qL qM qN):=⟨_,_,O35,b35,k35,W.mg_of X G a35⟩
  have O41:=O_56 (P:=l.prog) (w:=w) (base:=base) F41 bl (C_law_fit.mono (by decide))
  have C_law_due:Callee l.prog w K mg base 2 "_law_due" ["way", "bit_rows", "out", "point"] (J51 K qA qB qC qD qE qF qG qH qI qJ qK qL qM qN):=⟨_,_,O41,b41,k41,W.mg_of X G a41⟩
  have O44:=O_59 (P:=l.prog) (w:=w) (base:=base) F44 bl (C_law_joint.mono (by decide))
  have C_law_knit:Callee l.prog w K mg base 2 "_law_knit" ["way", "bit_rows"] (J54 K qA qB qC qD qE qF qG qH qI qJ qK qL qM qN):=⟨_,_,O44,b44,k44,W.mg_of X G a44⟩
  have O45:=O_60 (P:=l.prog) (w:=w) (base:=base) F45 bl (C_alike.mono (by decide))
  have C_law_like:Callee l.prog w K mg base 2 "_law_like" ["found", "table", "rows"] (J55 K qA qB qC qD qE qF qG qH qI qJ qK qL qM qN):=⟨_,_,O45,b45,k45,W.mg_of X G a45⟩
  have O47:=O_4 (P:=l.prog) (w:=w) (base:=base) F47 bl (B_Way___init___First.mono (by decide))
  have K_First___init___First:MkCallee CX0 l.prog w K mg base 2 "First" qB ["self"] (J4 K qA qB qC qD qE qF qG qH qI qJ qK qL qM qN):=⟨_,_,⟨im47,i47,if47,ik47⟩,O47,b47,W.mg_of X G n_First⟩
  have O49:=O_13 (P:=l.prog) (w:=w) (base:=base) F49 bl (B_Way___init___Only.mono (by decide))
  have K_Only___init___Only:MkCallee CX0 l.prog w K mg base 2 "Only" qC ["self"] (J13 K qA qB qC qD qE qF qG qH qI qJ qK qL qM qN):=⟨_,_,⟨im49,i49,if49,ik49⟩,O49,b49,W.mg_of X G n_Only⟩
  have O51:=O_8 (P:=l.prog) (w:=w) (base:=base) F51 bl (B_Way___init___Like.mono (by decide))
  have K_Like___init___Like:MkCallee CX0 l.prog w K mg base 2 "Like" qD ["self"] (J8 K qA qB qC qD qE qF qG qH qI qJ qK qL qM qN):=⟨_,_,⟨im51,i51,if51,ik51⟩,O51,b51,W.mg_of X G n_Like⟩
  have O53:=O_10 (P:=l.prog) (w:=w) (base:=base) F53 bl (B_Way___init___Low.mono (by decide))
  have K_Low___init___Low:MkCallee CX0 l.prog w K mg base 2 "Low" qE ["self"] (J10 K qA qB qC qD qE qF qG qH qI qJ qK qL qM qN):=⟨_,_,⟨im53,i53,if53,ik53⟩,O53,b53,W.mg_of X G n_Low⟩
  have O55:=O_6 (P:=l.prog) (w:=w) (base:=base) F55 bl (B_Way___init___High.mono (by decide))
  have K_High___init___High:MkCallee CX0 l.prog w K mg base 2 "High" qF ["self"] (J6 K qA qB qC qD qE qF qG qH qI qJ qK qL qM qN):=⟨_,_,⟨im55,i55,if55,ik55⟩,O55,b55,W.mg_of X G n_High⟩
  have O57:=O_15 (P:=l.prog) (w:=w) (base:=base) F57 bl (B_Way___init___Sum.mono (by decide))
  have K_Sum___init___Sum:MkCallee CX0 l.prog w K mg base 2 "Sum" qG ["self"] (J15 K qA qB qC qD qE qF qG qH qI qJ qK qL qM qN):=⟨_,_,⟨im57,i57,if57,ik57⟩,O57,b57,W.mg_of X G n_Sum⟩
  have O59:=O_2 (P:=l.prog) (w:=w) (base:=base) F59 bl (C_is_whole.mono (by decide))
  have M_Domain_has_code_Numbers:MCallee CX0 l.prog w K mg base 2 qI "has_code" ["self", "value"] (J2 K qA qB qC qD qE qF qG qH qI qJ qK qL qM qN):=⟨_,_,⟨m59,mf59,k59⟩,O59,b59⟩
  have O60:=O_3 (P:=l.prog) (w:=w) (base:=base) F60 bl (C_is_whole.mono (by decide))
  have M_Domain_has_code_Words:MCallee CX0 l.prog w K mg base 2 qJ "has_code" ["self", "value"] (J3 K qA qB qC qD qE qF qG qH qI qJ qK qL qM qN):=⟨_,_,⟨m60,mf60,k60⟩,O60,b60⟩
  have O61:=O_12 (P:=l.prog) (w:=w) (base:=base) F61 bl (B_Domain___init___Numbers.mono (by decide))
  have K_Numbers___init___Numbers:MkCallee CX0 l.prog w K mg base 2 "Numbers" qI ["self", "low", "high"] (J12 K qA qB qC qD qE qF qG qH qI qJ qK qL qM qN):=⟨_,_,⟨im61,i61,if61,ik61⟩,O61,b61,W.mg_of X G n_Numbers⟩
  have O65:=O_24 (P:=l.prog) (w:=w) (base:=base) F65 bl (M_First_chosen_First.mono (by decide))
  have M_Way_verdict_First:MCallee CX0 l.prog w K mg base 2 qB "verdict" ["self", "codes", "outcome"] (J24 K qA qB qC qD qE qF qG qH qI qJ qK qL qM qN):=⟨_,_,⟨m65,mf65,k65⟩,O65,b65⟩
  have O67:=O_28 (P:=l.prog) (w:=w) (base:=base) F67 bl (M_Only_chosen_Only.mono (by decide))
  have M_Way_verdict_Only:MCallee CX0 l.prog w K mg base 2 qC "verdict" ["self", "codes", "outcome"] (J28 K qA qB qC qD qE qF qG qH qI qJ qK qL qM qN):=⟨_,_,⟨m67,mf67,k67⟩,O67,b67⟩
  have O69:=O_26 (P:=l.prog) (w:=w) (base:=base) F69 bl (M_Like_chosen_Like.mono (by decide))
  have M_Way_verdict_Like:MCallee CX0 l.prog w K mg base 2 qD "verdict" ["self", "codes", "outcome"] (J26 K qA qB qC qD qE qF qG qH qI qJ qK qL qM qN):=⟨_,_,⟨m69,mf69,k69⟩,O69,b69⟩
  have O71:=O_27 (P:=l.prog) (w:=w) (base:=base) F71 bl (M_Low_chosen_Low.mono (by decide))
  have M_Way_verdict_Low:MCallee CX0 l.prog w K mg base 2 qE "verdict" ["self", "codes", "outcome"] (J27 K qA qB qC qD qE qF qG qH qI qJ qK qL qM qN):=⟨_,_,⟨m71,mf71,k71⟩,O71,b71⟩
  have O73:=O_25 (P:=l.prog) (w:=w) (base:=base) F73 bl (M_High_chosen_High.mono (by decide))
  have M_Way_verdict_High:MCallee CX0 l.prog w K mg base 2 qF "verdict" ["self", "codes", "outcome"] (J25 K qA qB qC qD qE qF qG qH qI qJ qK qL qM qN):=⟨_,_,⟨m73,mf73,k73⟩,O73,b73⟩
  have O75:=O_29 (P:=l.prog) (w:=w) (base:=base) F75 bl (M_Sum_chosen_Sum.mono (by decide))
  have M_Way_verdict_Sum:MCallee CX0 l.prog w K mg base 2 qG "verdict" ["self", "codes", "outcome"] (J29 K qA qB qC qD qE qF qG qH qI qJ qK qL qM qN):=⟨_,_,⟨m75,mf75,k75⟩,O75,b75⟩
  have O9:=O_76 (P:=l.prog) (w:=w) (base:=base) F9 bl (C_is_word.mono (by decide))
  have C_refuse_names:Callee l.prog w K mg base 3 "refuse_names" ["names"] (J70 K qA qB qC qD qE qF qG qH qI qJ qK qL qM qN):=⟨_,_,O9,b9,k9,W.mg_of X G a9⟩
  have O12:=O_77 (P:=l.prog) (w:=w) (base:=base) F12 bl (M_Domain_has_code_Numbers.mono (by decide)) (M_Domain_has_code_Words.mono (by decide))
  have C_refuse_row:Callee l.prog w K mg base 3 "refuse_row" ["domains", "outcome", "cells", "code"] (J71 K qA qB qC qD qE qF qG qH qI qJ qK qL qM qN):=⟨_,_,O12,b12,k12,W.mg_of X G a12⟩
  have O15:=O_70 (P:=l.prog) (w:=w) (base:=base) F15 bl (C_fits.mono (by decide))
  have C_mask:Callee l.prog w K mg base 3 "mask" ["table", "codes"] (J65 K qA qB qC qD qE qF qG qH qI qJ qK qL qM qN):=⟨_,_,O15,b15,k15,W.mg_of X G a15⟩
  have O21:=O_46 (P:=l.prog) (w:=w) (base:=base) F21 bl (C_alike_beside.mono (by decide)) (C_may_join.mono (by decide))
  have C_joint:Callee l.prog w K mg base 3 "joint" ["row", "behind", "way"] (J41 K qA qB qC qD qE qF qG qH qI qJ qK qL qM qN):=⟨_,_,O21,b21,k21,W.mg_of X G a21⟩
  have O24:=O_45 (P:=l.prog) (w:=w) (base:=base) F24 bl (C_with_cell.mono (by decide)) (C_either.mono (by decide))
  have C_joined_row:Callee l.prog w K mg base 3 "joined_row" ["row", "behind", "column"] (J40 K qA qB qC qD qE qF qG qH qI qJ qK qL qM qN):=⟨_,_,O24,b24,k24,W.mg_of X G a24⟩
  have O34:=O_51 (P:=l.prog) (w:=w) (base:=base) F34 bl (C_law_bit_row.mono (by decide))
  have C_law_bit_rows:Callee l.prog w K mg base 3 "_law_bit_rows" ["seeds", "columns", "out"] (J46 K qA qB qC qD qE qF qG qH qI qJ qK qL qM qN):=⟨_,_,O34,b34,k34,W.mg_of X G a34⟩
  have O63:=O_30 (P:=l.prog) (w:=w) (base:=base) F63 bl (B_Domain___init___Words.mono (by decide)) (C_is_word.mono (by decide))
  have K_Words___init___Words:MkCallee CX0 l.prog w K mg base 3 "Words" qJ ["self", "words"] (J30 K qA qB qC qD qE qF qG qH qI qJ qK qL qM qN):=⟨_,_,⟨im63,i63,if63,ik63⟩,O63,b63,W.mg_of X G n_Words⟩
  have O8:=O_82 (P:=l.prog) (w:=w) (base:=base) F8 bl (K_First___init___First.mono (by decide)) (K_Only___init___Only.mono (by decide)) (K_Like___init___Like.mono (by decide)) (K_Low___init___Low.mono (by decide)) (K_High___init___High.mono (by decide)) (K_Sum___init___Sum.mono (by decide))
  have C_way_by:Callee l.prog w K mg base 4 "way_by" ["name"] (J75 K qA qB qC qD qE qF qG qH qI qJ qK qL qM qN):=⟨_,_,O8,b8,k8,W.mg_of X G a8⟩
  have O20:=O_44 (P:=l.prog) (w:=w) (base:=base) F20 bl (C_joint.mono (by decide)) (C_joined_row.mono (by decide))
  have C_joined_once:Callee l.prog w K mg base 4 "joined_once" ["rows", "way"] (J39 K qA qB qC qD qE qF qG qH qI qJ qK qL qM qN):=⟨_,_,O20,b20,k20,W.mg_of X G a20⟩
  have O11:=O_78 (P:=l.prog) (w:=w) (base:=base) F11 bl (C_way_by.mono (by decide))
  have C_refuse_way:Callee l.prog w K mg base 5 "refuse_way" ["way", "outcome"] (J72 K qA qB qC qD qE qF qG qH qI qJ qK qL qM qN):=⟨_,_,O11,b11,k11,W.mg_of X G a11⟩
  have O16:=O_47 (P:=l.prog) (w:=w) (base:=base) F16 bl (M_Way_verdict_First.mono (by decide)) (M_Way_verdict_Only.mono (by decide)) (M_Way_verdict_Like.mono (by decide)) (M_Way_verdict_Low.mono (by decide)) (M_Way_verdict_High.mono (by decide)) (M_Way_verdict_Sum.mono (by decide)) (C_way_by.mono (by decide))
  have C_judged:Callee l.prog w K mg base 5 "judged" ["table", "rows"] (J42 K qA qB qC qD qE qF qG qH qI qJ qK qL qM qN):=⟨_,_,O16,b16,k16,W.mg_of X G a16⟩
  have O31:=O_55 (P:=l.prog) (w:=w) (base:=base) F31 bl (K_Numbers___init___Numbers.mono (by decide)) (K_Words___init___Words.mono (by decide)) (C_law_word.mono (by decide))
  have C_law_domain:Callee l.prog w K mg base 5 "_law_domain" ["column"] (J50 K qA qB qC qD qE qF qG qH qI qJ qK qL qM qN):=⟨_,_,O31,b31,k31,W.mg_of X G a31⟩
  have O17:=O_81 (P:=l.prog) (w:=w) (base:=base) F17 bl (C_judged.mono (by decide)) (C_mask.mono (by decide))
  have C_verdict:Callee l.prog w K mg base 6 "verdict" ["table", "codes"] (J74 K qA qB qC qD qE qF qG qH qI qJ qK qL qM qN):=⟨_,_,O17,b17,k17,W.mg_of X G a17⟩
  have O46:=O_17 (P:=l.prog) (w:=w) (base:=base) F46 bl (C_refuse_names.mono (by decide)) (C_refuse_counts.mono (by decide)) (C_refuse_way.mono (by decide)) (C_refuse_row.mono (by decide)) (C_own_row.mono (by decide))
  have K_Table___init___Table:MkCallee CX0 l.prog w K mg base 6 "Table" qK ["self", "name", "names", "domains", "outcome", "way", "rows"] (J17 K qA qB qC qD qE qF qG qH qI qJ qK qL qM qN):=⟨_,_,⟨im46,i46,if46,ik46⟩,O46,b46,W.mg_of X G n_Table⟩
  have O18:=O_84 (P:=l.prog) (w:=w) (base:=base) F18 bl (K_Table___init___Table.mono (by decide))
  have C_with_rows:Callee l.prog w K mg base 8 "with_rows" ["table", "rows"] (J77 K qA qB qC qD qE qF qG qH qI qJ qK qL qM qN):=⟨_,_,O18,b18,k18,W.mg_of X G a18⟩
  have O36:=O_67 (P:=l.prog) (w:=w) (base:=base) F36 bl (K_Table___init___Table.mono (by decide)) (C_law_word.mono (by decide)) (C_law_domain.mono (by decide)) (C_law_rows.mono (by decide))
  have C_law_table:Callee l.prog w K mg base 8 "_law_table" ["head", "columns", "out", "way", "bit_rows"] (J62 K qA qB qC qD qE qF qG qH qI qJ qK qL qM qN):=⟨_,_,O36,b36,k36,W.mg_of X G a36⟩
  have O19:=O_48 (P:=l.prog) (w:=w) (base:=base) F19 bl (C_joined_once.mono (by decide)) (C_with_rows.mono (by decide))
  have C_knit:Callee l.prog w K mg base 9 "knit" ["table"] (J43 K qA qB qC qD qE qF qG qH qI qJ qK qL qM qN):=⟨_,_,O19,b19,k19,W.mg_of X G a19⟩
  exact O_49 F77 bl (C_law_cell_at.mono (by decide)) (C_law_column.mono (by decide)) (C_law_way.mono (by decide)) (C_law_bit_rows.mono (by decide)) (C_law_table.mono (by decide)) (C_knit.mono (by decide)) (C_law_rows.mono (by decide)) (C_law_points.mono (by decide)) (C_law_mixed.mono (by decide)) (C_law_seeds.mono (by decide)) (C_law_knit.mono (by decide)) (C_verdict.mono (by decide)) (C_law_like.mono (by decide)) (C_law_codes.mono (by decide)) (C_law_same.mono (by decide)) (C_law_due.mono (by decide))
theorem walk {l:W.OpenLaw} {q:Program} {loose:List Str} {XP:(Str→Option Value)→Heap→Prop} {YP:World→Heap→Prop} {d:DefRec} {K:Params→W.Frag} (hn:l.most=some 63) (hdf:d.params.defaults=[])
    (hY:∀ (w:World) (h:Heap),YP w h→(K w.params).In h)
    (F:∀ (w:World) (mg:Str→Option Value) (fa:Addr) (h:Heap),(K w.params).In h→h.Ns mainGlobals mg→mg d.name=some (.ref fa) →
      ∃ fd:FuncData,(∀ (s:Shared) (u:Value),BindsTo s fd ⟨[u],[]⟩ [("script",u)])∧∀ base:Heap,(K w.params).In base→base.Ns mainGlobals mg→FnOk l.prog w (K w.params) mg base CX0 10 fa fd ["script"] (J44 (K w.params))) :
    W.WalkO q loose XP YP l.row.toRowW d [] (fun f vs=>PySem.call f vs) :=
  L2.walk_of (n:=63) (k:=10) (x := "script") (CX:=fun _=>CX0) (sp:=fun w=>J44 (K w.params)) hn (by decide) hdf ⟨rfl,by decide,by decide⟩ hY F (fun _ _ a ns hl _ hS=>⟨a,ns,rfl,hS,hl,fun _=>rfl⟩) fun _ _ _ _ _ z=>z
end My
namespace PySem.W.Fast
def tw5002695932269858593:=()
def tw12198820799558764033:=()
def tw14668187742243275818:=()
def tw17754594078879326715:=()
def tw18161366109960010814:=()
def tw528979387296798051:=()
def tw16990659609254353967:=()
def tw13269207268237257953:=()
def tw8884378689883815691:=()
def tw9896327491531688459:=()
def tw6302743648036690699:=()
def tw14105614226380210547:=()
def tw17616587481392633364:=()
def tw13177279078880670489:=()
def tw7390588572931653595:=()
def tw14670967120767281249:=()
def tw1994322513824286874:=()
def tw4328255222446045560:=()
def tw7144780157992413650:=()
def tw9949309518921385976:=()
def tw1699408029640603738:=()
def tw9715460391089506927:=()
def tw5519711595640017944:=()
def tw6174064105959800897:=()
def tw4797602175386042947:=()
def tw1572607704784145720:=()
def tw15911823862754303196:=()
def tw17832968688102472730:=()
def tw4035199860873081757:=()
def tw8552606693294949686:=()
def tw14405975545009571355:=()
def tw433149920592823341:=()
def tw16118950079820226351:=()
def tw8758333876017465722:=()
def tw5285530727265884216:=()
def tw15745556069372484745:=()
def tw9880001326180524602:=()
def tw8417376812807319412:=()
def tw7160720628525815891:=()
def tw12369458764102536464:=()
def tw11248906269853692548:=()
def tw13077406590967863826:=()
def tw15937765437141904097:=()
def tw17406322964926564741:=()
def tw16194125360570966995:=()
def tw15917222343283711109:=()
def tw13798499601726689169:=()
def tw15685411813659067623:=()
def tw13682784843452217275:=()
def tw12592094902062979044:=()
def tw8135290437466984962:=()
def tw11174532892660758963:=()
def tw3665428530812614783:=()
def tw15983586421126166847:=()
def tw5205745361110237374:=()
def tw486465315488672057:=()
def tw2279226254386415891:=()
def tw17734534649987780594:=()
def tw12519808209672007703:=()
def tw5767796447371375842:=()
def tw7953999296433809539:=()
def tw8155985697985603717:=()
def tw17438054351869002714:=()
def tw16100956323331172844:=()
def tw6641105612940170754:=()
def tw449645024172848544:=()
def tw9239982394327601863:=()
def tw3153263193936670520:=()
def tw14804403512830394162:=()
def tw8545477468657401047:=()
def tw16373251418122013895:=()
def tw7484066455805748219:=()
def tw10852597875011554598:=()
def tw5277200640006217656:=()
def tw7930784020650185961:=()
def tw3361889086729702623:=()
def tw12481471110106229903:=()
def tw2808535495567454157:=()
def tw15410619867914759932:=()
def tw1745412797149789505:=()
def tw2308988341444668827:=()
def tw2711659247822239893:=()
def tw9798020646062910520:=()
def tw2835658031999471530:=()
def tw876260794139199509:=()
def tw1471284508994914505:=()
def tw8229776452939394847:=()
def tw8370943746307976004:=()
def tw11790001356087705169:=()
def tw8122946307934013082:=()
def tw16887926341569386930:=()
def tw8268627370672991612:=()
def tw15028354731916358498:=()
def tw5657914297014461024:=()
def tw16222754257338111673:=()
def tw1444983766776306318:=()
def tw5139511503125845014:=()
def tw8544375384347913521:=()
def tw6008097975243788721:=()
def tw3424125503805857595:=()
def tw10016944513250257278:=()
def tw15395506907657564896:=()
def tw12160383516905995861:=()
def tw17284898791133968218:=()
def tw14632219197448704108:=()
def tw17929825071150758720:=()
def tw6311827075456119820:=()
def tw740739812761873965:=()
def tw6857141676081601761:=()
def tw887424010572181725:=()
def tw15842651838622305736:=()
def tw6054885384302341748:=()
def tw2953259318910769462:=()
def tw2757651126173192213:=()
def tw11867617029005451116:=()
def tw10470915828590753305:=()
def tw17710183662628154229:=()
def tw3001753092787194186:=()
def tw11349194619632142497:=()
def tw3148615473016807729:=()
def tw18022242750856086690:=()
def tw15143779452245656063:=()
def tw13035369706817286351:=()
def tw1724860589657617981:=()
def tw8578600476158851070:=()
def tw17348476284548887894:=()
def tw4544171152727347316:=()
def tw6569481837302109004:=()
def tw14877462628800269130:=()
def tw6311223144787279644:=()
def tw9712122511621957264:=()
def tw6636905703374845939:=()
def tw7431389011738709442:=()
def tw4854628759820561577:=()
def tw8512155696413992207:=()
def tw9159933746876153040:=()
def tw3474465654422099446:=()
def tw2976664260216763700:=()
def tw8867654345915092748:=()
def tw2359258771204952334:=()
def tw4602807826704118259:=()
def tw17237824156041873396:=()
def tw6481237487498090425:=()
def tw17379172755429622628:=()
def tw14842023308163339159:=()
def tw328543745494882558:=()
def tw12321043285392588845:=()
def tw17457397550201134005:=()
def tw7263523042847275838:=()
def tw11264135070792458809:=()
def tw11257048365022786706:=()
def tw7241907193018827867:=()
def tw590886562678651169:=()
def tw8925109654126565554:=()
def tw10651807087892157292:=()
def tw9436027957420166620:=()
def tw6431127934585868511:=()
def tw9473275828612181746:=()
def tw11614677367142405027:=()
def tw12022455191564885466:=()
def tw5414587939126258669:=()
def tw6364888261195772662:=()
def tw16235497661368142180:=()
def tw13178647991458194162:=()
def tw11325912895178050071:=()
def tw5912505623291347505:=()
def tw12123553206438741049:=()
def tw12280035911298810637:=()
def tw18190443399819535588:=()
def tw13383640634468910371:=()
def tw2732380119011527820:=()
def tw10306704200770675800:=()
def tw15329053013512282569:=()
def tw8656252234188271792:=()
def tw9840649554850177958:=()
def tw13923284352849105452:=()
def tw12804340829506583148:=()
def tw2901514601363345421:=()
def tw7296540621244267393:=()
def tw7971317782423206000:=()
def tw17501882450274192230:=()
def tw6689150589916609344:=()
def tw15809764037312705425:=()
def tw16930943390706178449:=()
def tw2708634686797760390:=()
def tw11041035271126548866:=()
def tw11467143082561002972:=()
def tw15284894199427094125:=()
def tw14362956064475934851:=()
def tw7558019240110124395:=()
def tw17071650007391841149:=()
def tw17171420815802935986:=()
def tw16272346087904044440:=()
def tw17568284492025982398:=()
def tw6657186934731706882:=()
def tw14499302392857629555:=()
def tw6028843914944841882:=()
def tw5408966239972240980:=()
def tw612469150175873265:=()
def tw15945566796833993097:=()
def tw8353639594846993855:=()
def tw14764368595638418329:=()
def tw5192453566062461413:=()
def tw8979319046697012080:=()
def tw6794756874089008181:=()
def tw10132724731023509276:=()
def tw4139701870731719814:=()
def tw7903031747733751321:=()
def tw18404645919919876766:=()
def tw18301465826563921751:=()
def tw11779243318873903946:=()
def tw17777739541419911680:=()
def tw13486596623509372376:=()
def tw5786084851059526102:=()
def tw4036449164293342924:=()
def tw6348759696923538381:=()
def tw8152070664336340589:=()
def tw4294658766297186577:=()
def tw2136055479253920738:=()
def tw11042308719756718354:=()
def tw8536127934374834198:=()
def tw15334828444242173587:=()
def tw8576273914767798272:=()
def tw10479033137515435865:=()
def tw11047971434257875974:=()
def tw10262571062952530683:=()
def tw7556742469932022417:=()
def tw17222268572805466801:=()
def tw3972817832631286891:=()
def tw16838056961049125584:=()
def tw13443270917705194184:=()
def tw3151343180422745780:=()
def tw17541817822821949183:=()
def tw1971893473208661428:=()
def tw10759534904301083554:=()
def tw9043463767410939236:=()
def tw5058575327196013971:=()
def tw10310395174347985173:=()
def tw15925355293051267298:=()
def tw2772305581321584320:=()
def tw14228730089437383414:=()
def tw4278889831983265508:=()
def tw1899395562885348214:=()
def tw3568900656205859021:=()
def tw14191445019533524182:=()
def tw11470748321700029441:=()
def tw13842390765730390367:=()
def tw6192349724793599926:=()
def tw17379387868509902092:=()
def tw17570502595231232960:=()
def tw2077658251725234736:=()
def tw9292267717809755777:=()
def tw14824442523272872816:=()
def tw9547342799682927842:=()
def tw11422476893101215379:=()
def tw7086941164411935343:=()
def tw13460869345366455498:=()
def tw8441410147961487585:=()
def tw9895505253170596754:=()
def tw15432761442363492362:=()
def tw3741080146625199539:=()
def tw2462167505801749789:=()
def tw8347504078561436143:=()
def tw13513630916088832712:=()
def tw3876940003873243632:=()
def tw12011227996784273742:=()
def tw3715253849067020309:=()
def tw10667930220225086349:=()
def tw12740382391814725512:=()
def tw13955939363598734866:=()
def tw16663502779546399612:=()
def tw4376994316051607155:=()
def tw4810217888445828364:=()
def tw15402367228647458836:=()
def tw7510988063622843882:=()
def tw17817090805060782442:=()
def tw5084069846337836060:=()
def tw10199224833979293618:=()
def tw5263269935350631666:=()
def tw4300150685832042370:=()
def tw7717805908112920188:=()
def tw3759493435741244090:=()
def tw5186707987713012288:=()
def tw12780532384289609357:=()
def tw9097824091253751134:=()
def tw605968993835761062:=()
def tw462944095838028528:=()
def tw16915984722626022646:=()
def tw7248860448985980817:=()
def tw9155886503604704552:=()
def tw8468884115032713573:=()
def tw9034563907445171517:=()
def tw14998658876538640325:=()
def tw8090336943999924228:=()
def tw846369465007392786:=()
def tw16605678873002309854:=()
def tw12122152901140881890:=()
def tw1973305331252040653:=()
def tw6779900565591051806:=()
def tw3408544500623228612:=()
def tw15590159336544861280:=()
def tw8364947758596584151:=()
def tw7337602156387203340:=()
def tw13331898166784430118:=()
def tw2803345787035136648:=()
def tw17182707787726169926:=()
def tw3632868821523309103:=()
def tw11856003905143021668:=()
def tw15175467269409689459:=()
def tw2647176625660410328:=()
def tw17639969374587000871:=()
def tw1507357720427286021:=()
def tw3865026429244250050:=()
def tw8053089579342344177:=()
def tw13052067357194517511:=()
def tw11668410405987474272:=()
def tw4535453295961634146:=()
def tw9694136455145961393:=()
def tw13558993202425678828:=()
def tw6236767608958371683:=()
def tw2897282182645785656:=()
def tw8287773030220342837:=()
def tw16398834502713546936:=()
def tw13495077926196150099:=()
def tw16399292624767388946:=()
def tw2546914987758215946:=()
def tw2162339987702739037:=()
def tw11860703981282183230:=()
def tw15635499634850963225:=()
def tw7777450756057795871:=()
def tw9072358891862012009:=()
def tw15032883295238961337:=()
def tw16097202944125659475:=()
def tw10216951362645484004:=()
def tw18099723411512228356:=()
def tw8955936292357858506:=()
def tw9497476325275776574:=()
def tw4237788945887161034:=()
def tw10864971333209586584:=()
def tw2064795558947500036:=()
def tw4156019547652578335:=()
def tw183295010226707613:=()
def tw6305653547649889685:=()
def tw7311859716142053865:=()
def tw3444140261708134663:=()
def tw1029666388109936000:=()
def tw4173452195705250933:=()
def tw8719901421534809966:=()
def tw3847093622041321764:=()
def tw2498664762871016103:=()
def tw10694054048253963135:=()
def tw15544538090893137184:=()
def tw5017653637720203137:=()
def tw8498841107435787829:=()
def tw4754364950346430571:=()
def tw16100173060091496306:=()
def tw6658806336254108548:=()
def tw7037094528203785848:=()
def tw1802315793385347831:=()
def tw8352457328582202142:=()
def tw8240445939265957852:=()
def tw17526900339258010332:=()
def tw5352218507191829805:=()
def tw541629306232228041:=()
def tw7239147648458881861:=()
def tw1091785250261356435:=()
def tw13886408798998534262:=()
def tw15462068829998280853:=()
def tw5422753300033473531:=()
def tw6546780763291316733:=()
def tw15872102219659390673:=()
def tw7375787207433916040:=()
def tw9147328577651821658:=()
def tw7443097748979213274:=()
def tw9565851003527933308:=()
def tw15913087479591252375:=()
def tw5680938731542753434:=()
def tw8016337959040041240:=()
def tw7344998799104175899:=()
def tw3861249198573967545:=()
def tw12938261625537691340:=()
def tw6654853007049567399:=()
def tw11138714839633040162:=()
def tw967164950196742238:=()
def tw6395915074721785433:=()
def tw805519924368864828:=()
def tw4170128890064808739:=()
def tw10439239630245831950:=()
def tw14666123817866689145:=()
def tw6087904078461602764:=()
def tw970099081860429049:=()
def tw11453547091147624154:=()
def tw2369484371385091820:=()
def tw5108381784652439245:=()
def tw7811267587633678948:=()
def tw15547625170133174338:=()
def tw17221605859065435797:=()
def tw7897731296986153262:=()
def tw14714628593882607996:=()
def tw6510220321070256212:=()
def tw3695401068298949704:=()
def tw17661771264152281824:=()
def tw6512423354689836948:=()
def tw16383431020584610113:=()
def tw3227223077637325518:=()
def tw9095161946841671866:=()
def tw14570087973779775938:=()
def tw11385162964736851500:=()
def tw10986562209746872415:=()
def tw11264707639121662077:=()
def tw14655476013494699109:=()
def tw8477894347690148780:=()
def tw11827175792498792397:=()
def tw5647376160150691942:=()
def tw7837244995577355355:=()
def tw8255276865389168637:=()
def tw3596438737031296286:=()
def tw4553197573186703233:=()
def tw11394492055806882406:=()
def tw16413935527080283442:=()
def tw14678444388660923002:=()
def tw10019149056222667810:=()
def tw11002804622604931073:=()
def tw5745189293328300495:=()
def tw1170853942415657452:=()
def tw3444619567793777235:=()
def tw2915288220402082551:=()
def tw9099127050114341186:=()
def tw887162458687809262:=()
def tw5046842916433734382:=()
def tw3527215135320892635:=()
def tw3141446781042898723:=()
def tw2642621253012998700:=()
def tw15738097426932052056:=()
def tw7380919772776794641:=()
def tw17775083122428641458:=()
def tw2496433594587824531:=()
def tw4527353264982525512:=()
def tw1647940148446111076:=()
def tw5079452391980640336:=()
def tw2385363950201114819:=()
def tw2269478370160637652:=()
def tw14490039960739810996:=()
def tw2560670106426569432:=()
def tw12760619568735315489:=()
def tw15796941265407333868:=()
def tw16398118752147139144:=()
def tw9701449747268622203:=()
def tw8527176448312856005:=()
def tw14964032683706117647:=()
def tw13223709166246306817:=()
def tw7374907923793607005:=()
def tw15589483066079354014:=()
def tw10442415422166944906:=()
def tw7047314355369825368:=()
def tw17764159941428865827:=()
def tw785062604845013141:=()
def tw6705299117891096144:=()
def tw13476462017698278542:=()
def tw6376127109552041921:=()
def tw11823740412206264629:=()
def tw12997829085649003411:=()
def tw793427752783764188:=()
def tw11403898911170604192:=()
def tw13341310115324652053:=()
def tw9302873393922749810:=()
def tw18010199161272438386:=()
def tw9438798582210134971:=()
def tw4851376581151573531:=()
def tw4746328762716176005:=()
def tw9508164781066302395:=()
def tw8494295845455805693:=()
def tw1844741274624262475:=()
def tw12579003997488475695:=()
def tw4365114294045381551:=()
def tw15670985844314484184:=()
def tw8652860149414490498:=()
def tw5977821378926268071:=()
def tw9779065189357084044:=()
def tw14508913122859750894:=()
def tw7625220893584273495:=()
def tw16218219120330940999:=()
def tw17760800244898720754:=()
def tw15024140071404259316:=()
def tw7069468884965631701:=()
def tw16177450355996162467:=()
def tw1493452415413657797:=()
def tw1194023538475911646:=()
def tw2105565807760295387:=()
def tw8281093845490266213:=()
def tw12558454769492132333:=()
def tw611786274186626358:=()
def tw5234464482996712566:=()
def tw13152951800280215883:=()
def tw11489648728960131917:=()
def tw14758181618636737116:=()
def tw1067304644696193192:=()
def tw5005361168758962478:=()
def tw10055961496473019278:=()
def tw12801202706708895812:=()
def tw13844314107004407715:=()
def tw11265777124076328992:=()
def tw12175088663496820332:=()
def tw14144981315561512365:=()
def tw9716785590925670356:=()
def tw11566263505787723897:=()
def tw13816237752698302148:=()
def tw3721308106244504521:=()
def tw5951038291458712406:=()
def tw2620579539294864223:=()
def tw2605613532635598497:=()
def tw3612123920186533920:=()
def tw9111625493928982080:=()
def tw9550448690503097708:=()
def tw16121621885331064069:=()
def tw2170450609558504757:=()
def tw9259460545182397580:=()
def tw9349825302036709518:=()
def tw6071952067143326125:=()
def tw4993291935688809243:=()
def tw16054961036680693262:=()
def tw11616419307004372705:=()
def tw14807705461806042314:=()
def tw18114551498110573475:=()
def tw11704219388821461295:=()
def tw17894458220630363303:=()
def tw16719642437915974459:=()
def tw12989792260800452215:=()
def tw2835956726779134235:=()
def tw5540408808756451457:=()
def tw2583953333538020663:=()
def tw3737021431817722334:=()
def tw9437139098517949371:=()
def tw9572610241120070941:=()
def tw4763020748774374705:=()
def tw12201546200338588355:=()
def tw12912814956428347911:=()
def tw17980934169775839363:=()
def tw8894194218912969604:=()
def tw1448692004011688091:=()
def tw12807706376712231562:=()
def tw1946686576743244918:=()
def tw436766787453997671:=()
def tw5962615197187767746:=()
def tw14022365858946625038:=()
def tw10435680447336287217:=()
def tw16748509771852794687:=()
def tw13861403740231596254:=()
def tw9008049434413594174:=()
def tw7878494059317514229:=()
def tw3664794773030431188:=()
def tw2979553916878855691:=()
def tw9413851095797343320:=()
def tw9140522049261809468:=()
def tw12773864126464273549:=()
def tw17368923832418786220:=()
def tw17548662139337475444:=()
def tw1425879547366567178:=()
def tw5726457268477205385:=()
def tw2225825626996396227:=()
def tw3551553018575243917:=()
def tw6777766502660335314:=()
def tw5490938683950226033:=()
def tw2633261247715739953:=()
def tw10894629445708676283:=()
def tw2501252430263055454:=()
def tw17250171533675166789:=()
def tw14514542169619384647:=()
def tw13719531449570628551:=()
def tw13020446969850740746:=()
def tw13558248705467778759:=()
def tw5602315878764471635:=()
def tw9050974839428887019:=()
def tw13603871415021987142:=()
def tw17564172329526125408:=()
def tw346030977427979558:=()
def tw11382381319328398154:=()
def tw9341732296965348397:=()
def tw15155418485270025882:=()
def tw3553826512907647249:=()
def tw13932848298767720568:=()
def tw9557759460417343907:=()
def tw11323636869195076900:=()
def tw7510117917318960620:=()
def tw16164652529349176944:=()
def tw17574014658015226990:=()
def tw12310219313317592677:=()
def tw6441180732981676331:=()
def tw15404689111870800472:=()
def tw12646335357577320514:=()
def tw12531618922317793872:=()
def tw9606622218322307495:=()
def tw11558105211027269661:=()
def tw12357098794783153859:=()
def tw2616710360894226515:=()
def tw14135511956352277441:=()
def tw5244856407034858912:=()
def tw3131405267862715070:=()
def tw356522231256099645:=()
def tw4649436478320613876:=()
def tw16568355726298502279:=()
def tw6798539070795445374:=()
def tw9918855613508236619:=()
def tw17040372863178376435:=()
def tw11810840265127075169:=()
def tw16474006236765264667:=()
def tw2481393867141025411:=()
def tw8141397388595857955:=()
def tw15850127088295545778:=()
def tw7537984973422445424:=()
def tw18415174707070497121:=()
def tw4330674935595530953:=()
def tw10992644925951463982:=()
def tw7608902099287900822:=()
def tw4814013386247316923:=()
def tw16245408819389565143:=()
def tw16800942677103963697:=()
def tw16039820298133360940:=()
def tw10969056450250939511:=()
def tw14259007690181855719:=()
def tw3387486118717256671:=()
def tw13389574410097577153:=()
def tw48244828016361368:=()
def tw16830487149270397890:=()
def tw618701021745515703:=()
def tw16566484910959556221:=()
def tw8051263093721845433:=()
def tw16912021590993067761:=()
def tw39888040022285868:=()
def tw16847055640633243470:=()
def tw15809836666784521840:=()
def tw870451105715478533:=()
def tw1070066668742753504:=()
def tw1225465459521693861:=()
def tw4665201633030809172:=()
def tw17592832384949707591:=()
def tw6155983914288839481:=()
def tw11141116453491836217:=()
def tw8128763758893204469:=()
def tw7490511190517701317:=()
def tw17418098633965699678:=()
def tw12589000693079114035:=()
def tw13319975036455022140:=()
def tw11218783914835129862:=()
def tw3611821208567569530:=()
def tw9554485372238518163:=()
def tw16364943328255415235:=()
def tw237321967162817951:=()
def tw10208696899988983165:=()
def tw9880891870659930741:=()
def tw15312993578132630944:=()
def tw15952603527710973226:=()
def tw17663897671448001568:=()
def tw7684611737402200844:=()
def tw14967023047186802336:=()
def tw8732533492403542064:=()
def tw17808921429153002092:=()
def tw11912535833158304924:=()
def tw15402286629627440967:=()
def tw4995036621631763134:=()
def tw7960133681168474087:=()
def tw2722245641803671474:=()
def tw10251085544476207115:=()
def tw15573317550056531849:=()
def tw17095453526899567339:=()
def tw8087488947385406470:=()
def tw2503226280858416277:=()
def tw8078522723066343987:=()
def tw11640374449566576380:=()
def tw15958392211115516435:=()
def tw734868856876427124:=()
def tw14149105439347704140:=()
def tw2584795663748483352:=()
def tw11138181313547074083:=()
def tw12391393252516726394:=()
def tw4408929500498689708:=()
def tw1224562638929393790:=()
def tw7380375268729555405:=()
def tw11816810337178845645:=()
def tw17090114786645600937:=()
def tw1541724034645763505:=()
def tw15084294199148654853:=()
def tw17821141956962410218:=()
def tw12093888374140345534:=()
def tw532758666903266798:=()
def tw13067563667237508364:=()
def tw9984681053071617092:=()
def tw4527089863523163781:=()
def tw2331659796848882503:=()
def tw9487466125535612621:=()
def tw10205115164773014678:=()
def tw8392417056169075092:=()
def tw929185242885355229:=()
def tw17953163948029597450:=()
def tw6677486173699234879:=()
def tw12273293309861084753:=()
def tw17582472292517670220:=()
def tw16458157108934376568:=()
def tw6070366851558262922:=()
def tw14304645112535768690:=()
def tw4850949826901463076:=()
def tw5969844514110664262:=()
def tw3900712598227549593:=()
def tw2653929299269833639:=()
def tw5792451754886985215:=()
def tw885314612376301310:=()
def tw5650559712513028733:=()
def tw4172281042031011370:=()
def tw17592679241935682785:=()
def tw1180752472513209185:=()
def tw16596673677396391899:=()
def tw11024894283172561885:=()
def tw14323440796042824745:=()
def tw5584259344362028847:=()
def tw959228204188118554:=()
def tw16431377861691072916:=()
def tw15545818490428233748:=()
def tw10240930560411612198:=()
def tw5428769073691351240:=()
def tw10507114034365932234:=()
def tw5720656963210945682:=()
def tw17158232215341562903:=()
def tw12686475437200806124:=()
def tw9768405902873195715:=()
def tw16090433060495904079:=()
def tw18192851679500727626:=()
def tw13152747430093239457:=()
def tw4718204020389957878:=()
def tw15674800738586642284:=()
def tw15050939897689248186:=()
def tw12610837008634250440:=()
def tw6176796777864532443:=()
def tw2778168863886393821:=()
def tw4931449441680807362:=()
def tw8284738807257429851:=()
def tw2311866178497288285:=()
def tw10579174894243603816:=()
def tw28695369286283938:=()
def tw13259146865427801066:=()
def tw1607916400497610124:=()
def tw1276333271758805225:=()
def tw1978158957341561076:=()
def tw11100174325995176012:=()
def tw16940346539412945197:=()
def tw10268022808437391849:=()
def tw4217413461320722160:=()
def tw9371608591190919825:=()
def tw2761329368018022433:=()
def tw13774602237654720741:=()
def tw4778260922797666879:=()
def tw2969787541700719633:=()
def tw190394991877908162:=()
def tw5015538891590691519:=()
def tw5345787917110625379:=()
def tw8794404951924435991:=()
def tw19895415013736285:=()
def tw738024302155211246:=()
def tw11351410058126391580:=()
def tw2103307456350328534:=()
def tw214284115768276953:=()
def tw14818278997615754695:=()
def tw6551398843384028833:=()
def tw7387666659054765037:=()
def tw8080345337051162456:=()
def tw4230018971087027470:=()
def tw8295028801920792980:=()
def tw15619920377717414743:=()
def tw3325816539914955971:=()
def tw901266669260674544:=()
def tw17997632296780208230:=()
def tw7247647834048521302:=()
def tw4872662349051749735:=()
def tw10523777281298231567:=()
def tw11782948533248261040:=()
def tw13934410013475498219:=()
def tw10143971671941691239:=()
def tw6655783348436290996:=()
def tw4245275295987773953:=()
def tw5858450853870976636:=()
def tw7759923488075471761:=()
def tw449939668088002886:=()
def tw13736191800296888035:=()
def tw17927525758562269971:=()
def tw11960160332784204998:=()
def tw5199210342777600182:=()
def tw11544850830085631212:=()
def tw10578556917714008173:=()
def tw6903982288695042493:=()
def tw9465214279816350358:=()
def tw11417137960501606563:=()
def tw5643008654935904209:=()
def tw10298542190169399452:=()
def tw15279937445128699446:=()
def tw198595157173570774:=()
def tw6965105767467572874:=()
def tw7123318135688484364:=()
def tw11656854988890671611:=()
def tw6812713444401077615:=()
def tw3500231851432202753:=()
def tw5280380683632036318:=()
def tw5108115708656602589:=()
def tw2696074108261220468:=()
def tw15400096065697989372:=()
def tw5008556301094252290:=()
def tw2449991666823466145:=()
def tw1642735769657813531:=()
def tw6135635053754592204:=()
def tw292168201446164965:=()
def tw11196038153467066871:=()
def tw16491292177195787970:=()
def tw6232432507464777383:=()
def tw16903460461846993274:=()
def tw6456404388606015906:=()
def tw816195293100273538:=()
def tw14748905663699488998:=()
def tw14281574696767534832:=()
def tw2393989782096214707:=()
def tw12538435228946375256:=()
def tw1175265823172580772:=()
def tw3092813410077607459:=()
def tw14456337284917339079:=()
def tw17135434953265147268:=()
def tw5091255859687976877:=()
def tw10840836063655248713:=()
def tw9637908152094064238:=()
def tw14276404260239904129:=()
def tw16755743222039918344:=()
def tw3746261971280431428:=()
def tw2800634555296976697:=()
def tw17866113720132439701:=()
def tw12723023839265199753:=()
def tw8329770977071592356:=()
def tw11382100744133494698:=()
def tw1395537147988504243:=()
def tw5654913287508754338:=()
def tw6001446097374575333:=()
def tw12971621179747383889:=()
def tw13532394537520029221:=()
def tw11923183090773615817:=()
def tw3148725090973393185:=()
def tw6744370615054028433:=()
def tw4528701313223993399:=()
def tw10790431668831133368:=()
def tw4559195157913504648:=()
def tw3230802184276870802:=()
def tw2526198343885108173:=()
def tw572138992504302699:=()
def tw12794576009924395307:=()
def tw1434645685591980123:=()
def tw405422729465717100:=()
def tw15176589733153600339:=()
def tw8251351162257139047:=()
def tw13499069041253038143:=()
def tw14643287759066417284:=()
def tw11854544385450662807:=()
def tw11347897051338409247:=()
def tw16869253036588297329:=()
def tw5521574605259992152:=()
def tw14598193295578214194:=()
def tw1180533340643323871:=()
def tw12612189206077900581:=()
def tw674510866807028448:=()
def tw16344872699359934782:=()
def tw3249859543762456626:=()
def tw7119765724176145337:=()
def tw13900125147947694890:=()
def tw7992970254209493151:=()
def tw6895626924999750550:=()
def tw13043589116657830556:=()
def tw3755695968352532912:=()
def tw10622426924407101177:=()
def tw5082543419408562642:=()
def tw17647776215233288983:=()
def tw5052654238586631788:=()
def tw11569971083371714397:=()
def tw7988180296716279363:=()
def tw10472678376287403085:=()
def tw4152917524985534589:=()
def tw16335578848320377076:=()
def tw16696202043423443712:=()
def tw1138173486199824341:=()
def tw7923093367988888435:=()
def tw206675948121094007:=()
def tw7486731657618085850:=()
def tw2146849627249838120:=()
def tw7757035793377250973:=()
def tw9070031484134682559:=()
def tw2168076271794821531:=()
def tw9202752899928032418:=()
def tw9229614018196798751:=()
def tw7629911270709100103:=()
def tw13204938995712392612:=()
def tw7297876604906371413:=()
def tw1692584316311533705:=()
def tw4718668464935687400:=()
def tw8434004239036941726:=()
def tw7079836844985597825:=()
def tw12104575595711317120:=()
def tw12919606419606635531:=()
def tw6923388488942184439:=()
def tw15461282383023987686:=()
def tw13008652282533990327:=()
def tw720453413330982313:=()
def tw8729085302518651582:=()
end PySem.W.Fast
open PySem PySem.W PyProof.Rows
set_option maxRecDepth 100000 in
set_option maxHeartbeats 0 in
theorem PySem.Challenge.cw_rowjudge_k65_knit_holds : PySem.Challenge.rw_rowjudge_k65_knit.Holds := by
  w_on;o_law;k_head;(case hw=>w_witness2)
  k_fill
  refine My.walk (l:=PySem.Challenge.rw_rowjudge_k65_knit) rfl rfl (fun w h Y=>PySem.W.kIn_of Y) ?F
  case F =>
    intro w mg fa h KX G hmg
    refine' My.all_mk KX G hmg ?n_Way ?n_First ?n_Only ?n_Like ?n_Low ?n_High ?n_Sum ?n_Domain ?n_Numbers ?n_Words ?n_Table ?n_NONE ?lk_NONE ?sz_NONE ?vs_NONE ?n_CLASH ?lk_CLASH ?sz_CLASH ?vs_CLASH ?n_COUNTING_WAYS ?lk_COUNTING_WAYS ?sz_COUNTING_WAYS ?vs_COUNTING_WAYS ?a0 ?l0 ?c0 ?k0 ?a1 ?l1 ?c1 ?k1 ?a2 ?l2 ?c2 ?k2 ?a3 ?l3 ?c3 ?k3 ?a4 ?l4 ?c4 ?k4 ?a5 ?l5 ?c5 ?k5 ?a6 ?l6 ?c6 ?k6 ?a7 ?l7 ?c7 ?k7 ?a8 ?l8 ?c8 ?k8 ?a9 ?l9 ?c9 ?k9 ?a10 ?l10 ?c10 ?k10 ?a11 ?l11 ?c11 ?k11 ?a12 ?l12 ?c12 ?k12 ?a13 ?l13 ?c13 ?k13 ?a14 ?l14 ?c14 ?k14 ?a15 ?l15 ?c15 ?k15 ?a16 ?l16 ?c16 ?k16 ?a17 ?l17 ?c17 ?k17 ?a18 ?l18 ?c18 ?k18 ?a19 ?l19 ?c19 ?k19 ?a20 ?l20 ?c20 ?k20 ?a21 ?l21 ?c21 ?k21 ?a22 ?l22 ?c22 ?k22 ?a23 ?l23 ?c23 ?k23 ?a24 ?l24 ?c24 ?k24 ?a25 ?l25 ?c25 ?k25 ?a26 ?l26 ?c26 ?k26 ?a27 ?l27 ?c27 ?k27 ?a28 ?l28 ?c28 ?k28 ?a29 ?l29 ?c29 ?k29 ?a30 ?l30 ?c30 ?k30 ?a31 ?l31 ?c31 ?k31 ?a32 ?l32 ?c32 ?k32 ?a33 ?l33 ?c33 ?k33 ?a34 ?l34 ?c34 ?k34 ?a35 ?l35 ?c35 ?k35 ?a36 ?l36 ?c36 ?k36 ?a37 ?l37 ?c37 ?k37 ?a38 ?l38 ?c38 ?k38 ?a39 ?l39 ?c39 ?k39 ?a40 ?l40 ?c40 ?k40 ?a41 ?l41 ?c41 ?k41 ?a42 ?l42 ?c42 ?k42 ?a43 ?l43 ?c43 ?k43 ?a44 ?l44 ?c44 ?k44 ?a45 ?l45 ?c45 ?k45 ?i46 ?if46 ?im46 ?ik46 ?l46 ?c46 ?k46 ?i47 ?if47 ?im47 ?ik47 ?l47 ?c47 ?k47 ?b_s48 ?b_r48 ?b_a48 ?l48 ?c48 ?k48 ?i49 ?if49 ?im49 ?ik49 ?l49 ?c49 ?k49 ?b_s50 ?b_r50 ?b_a50 ?l50 ?c50 ?k50 ?i51 ?if51 ?im51 ?ik51 ?l51 ?c51 ?k51 ?b_s52 ?b_r52 ?b_a52 ?l52 ?c52 ?k52 ?i53 ?if53 ?im53 ?ik53 ?l53 ?c53 ?k53 ?b_s54 ?b_r54 ?b_a54 ?l54 ?c54 ?k54 ?i55 ?if55 ?im55 ?ik55 ?l55 ?c55 ?k55 ?b_s56 ?b_r56 ?b_a56 ?l56 ?c56 ?k56 ?i57 ?if57 ?im57 ?ik57 ?l57 ?c57 ?k57 ?b_s58 ?b_r58 ?b_a58 ?l58 ?c58 ?k58 ?m59 ?mf59 ?l59 ?c59 ?k59 ?m60 ?mf60 ?l60 ?c60 ?k60 ?i61 ?if61 ?im61 ?ik61 ?l61 ?c61 ?k61 ?b_s62 ?b_r62 ?b_a62 ?l62 ?c62 ?k62 ?i63 ?if63 ?im63 ?ik63 ?l63 ?c63 ?k63 ?b_s64 ?b_r64 ?b_a64 ?l64 ?c64 ?k64 ?m65 ?mf65 ?l65 ?c65 ?k65 ?m66 ?mf66 ?l66 ?c66 ?k66 ?m67 ?mf67 ?l67 ?c67 ?k67 ?m68 ?mf68 ?l68 ?c68 ?k68 ?m69 ?mf69 ?l69 ?c69 ?k69 ?m70 ?mf70 ?l70 ?c70 ?k70 ?m71 ?mf71 ?l71 ?c71 ?k71 ?m72 ?mf72 ?l72 ?c72 ?k72 ?m73 ?mf73 ?l73 ?c73 ?k73 ?m74 ?mf74 ?l74 ?c74 ?k74 ?m75 ?mf75 ?l75 ?c75 ?k75 ?m76 ?mf76 ?l76 ?c76 ?k76 ?a77 ?l77 ?c77 ?k77 ?z0 ?z1 ?z2 ?z3 ?z4 ?z5 ?z6 ?z7 ?z8 ?z9 ?z10 ?z11 ?z12 ?z13 ?z14 ?z15 ?y0 ?x0 ?y1 ?x1 ?y2 ?x2 ?y3 ?x3 ?y4 ?x4 ?pg_First ?hd_First ?po_First ?sa_First ?pg_Only ?hd_Only ?po_Only ?sa_Only ?pg_Like ?hd_Like ?po_Like ?sa_Like ?pg_Low ?hd_Low ?po_Low ?sa_Low ?pg_High ?hd_High ?po_High ?sa_High ?pg_Sum ?hd_Sum ?po_Sum ?sa_Sum ?pg_Numbers ?hd_Numbers ?po_Numbers ?sa_Numbers ?pg_Words ?hd_Words ?po_Words ?sa_Words ?pg_Table ?hd_Table ?po_Table ?sa_Table ?ta_First ?tn_First ?tt_First ?tm_First ?ta_Only ?tn_Only ?tt_Only ?tm_Only ?ta_Like ?tn_Like ?tt_Like ?tm_Like ?ta_Low ?tn_Low ?tt_Low ?tm_Low ?ta_High ?tn_High ?tt_High ?tm_High ?ta_Sum ?tn_Sum ?tt_Sum ?tm_Sum ?ta_Numbers ?tn_Numbers ?tt_Numbers ?tm_Numbers ?ta_Words ?tn_Words ?tt_Words ?tm_Words ?ta_Table ?tn_Table ?tt_Table ?tm_Table ?na_First_called ?na_Only_called ?na_Like_called ?na_Low_called ?na_High_called ?na_Sum_called ?na_Numbers_low ?na_Numbers_high ?na_Numbers_words ?na_Words_low ?na_Words_high ?na_Words_words ?na_Table_name ?na_Table_names ?na_Table_domains ?na_Table_outcome ?na_Table_way ?na_Table_rows ?f_nn ?f_wn ?f_ww ?f_tt ?f_nw
    (case n_Way=>k_is)
    (case n_First=>k_is)
    (case n_Only=>k_is)
    (case n_Like=>k_is)
    (case n_Low=>k_is)
    (case n_High=>k_is)
    (case n_Sum=>k_is)
    (case n_Domain=>k_is)
    (case n_Numbers=>k_is)
    (case n_Words=>k_is)
    (case n_Table=>k_is)
    (case n_NONE=>k_is)
    (case lk_NONE=>k_is)
    (case sz_NONE=>decide)
    (case vs_NONE=>exact (.cons ⟨_,rfl⟩ (.cons ⟨_,rfl⟩ .nil)))
    (case n_CLASH=>k_is)
    (case lk_CLASH=>k_is)
    (case sz_CLASH=>decide)
    (case vs_CLASH=>exact (.cons ⟨_,rfl⟩ (.cons ⟨_,rfl⟩ .nil)))
    (case n_COUNTING_WAYS=>k_is)
    (case lk_COUNTING_WAYS=>k_is)
    (case sz_COUNTING_WAYS=>decide)
    (case vs_COUNTING_WAYS=>exact (.cons ⟨_,rfl⟩ (.cons ⟨_,rfl⟩ .nil)))
    (case a0=>k_is);(case l0=>k_is);(case c0=>k_is);(case k0=>k_is)
    (case a1=>k_is);(case l1=>k_is);(case c1=>k_is);(case k1=>k_is)
    (case a2=>k_is);(case l2=>k_is);(case c2=>k_is);(case k2=>k_is)
    (case a3=>k_is);(case l3=>k_is);(case c3=>k_is);(case k3=>k_is)
    (case a4=>k_is);(case l4=>k_is);(case c4=>k_is);(case k4=>k_is)
    (case a5=>k_is);(case l5=>k_is);(case c5=>k_is);(case k5=>k_is)
    (case a6=>k_is);(case l6=>k_is);(case c6=>k_is);(case k6=>k_is)
    (case a7=>k_is);(case l7=>k_is);(case c7=>k_is);(case k7=>k_is)
    (case a8=>k_is);(case l8=>k_is);(case c8=>k_is);(case k8=>k_is)
    (case a9=>k_is);(case l9=>k_is);(case c9=>k_is);(case k9=>k_is)
    (case a10=>k_is);(case l10=>k_is);(case c10=>k_is);(case k10=>k_is)
    (case a11=>k_is);(case l11=>k_is);(case c11=>k_is);(case k11=>k_is)
    (case a12=>k_is);(case l12=>k_is);(case c12=>k_is);(case k12=>k_is)
    (case a13=>k_is);(case l13=>k_is);(case c13=>k_is);(case k13=>k_is)
    (case a14=>k_is);(case l14=>k_is);(case c14=>k_is);(case k14=>k_is)
    (case a15=>k_is);(case l15=>k_is);(case c15=>k_is);(case k15=>k_is)
    (case a16=>k_is);(case l16=>k_is);(case c16=>k_is);(case k16=>k_is)
    (case a17=>k_is);(case l17=>k_is);(case c17=>k_is);(case k17=>k_is)
    (case a18=>k_is);(case l18=>k_is);(case c18=>k_is);(case k18=>k_is)
    (case a19=>k_is);(case l19=>k_is);(case c19=>k_is);(case k19=>k_is)
    (case a20=>k_is);(case l20=>k_is);(case c20=>k_is);(case k20=>k_is)
    (case a21=>k_is);(case l21=>k_is);(case c21=>k_is);(case k21=>k_is)
    (case a22=>k_is);(case l22=>k_is);(case c22=>k_is);(case k22=>k_is)
    (case a23=>k_is);(case l23=>k_is);(case c23=>k_is);(case k23=>k_is)
    (case a24=>k_is);(case l24=>k_is);(case c24=>k_is);(case k24=>k_is)
    (case a25=>k_is);(case l25=>k_is);(case c25=>k_is);(case k25=>k_is)
    (case a26=>k_is);(case l26=>k_is);(case c26=>k_is);(case k26=>k_is)
    (case a27=>k_is);(case l27=>k_is);(case c27=>k_is);(case k27=>k_is)
    (case a28=>k_is);(case l28=>k_is);(case c28=>k_is);(case k28=>k_is)
    (case a29=>k_is);(case l29=>k_is);(case c29=>k_is);(case k29=>k_is)
    (case a30=>k_is);(case l30=>k_is);(case c30=>k_is);(case k30=>k_is)
    (case a31=>k_is);(case l31=>k_is);(case c31=>k_is);(case k31=>k_is)
    (case a32=>k_is);(case l32=>k_is);(case c32=>k_is);(case k32=>k_is)
    (case a33=>k_is);(case l33=>k_is);(case c33=>k_is);(case k33=>k_is)
    (case a34=>k_is);(case l34=>k_is);(case c34=>k_is);(case k34=>k_is)
    (case a35=>k_is);(case l35=>k_is);(case c35=>k_is);(case k35=>k_is)
    (case a36=>k_is);(case l36=>k_is);(case c36=>k_is);(case k36=>k_is)
    (case a37=>k_is);(case l37=>k_is);(case c37=>k_is);(case k37=>k_is)
    (case a38=>k_is);(case l38=>k_is);(case c38=>k_is);(case k38=>k_is)
    (case a39=>k_is);(case l39=>k_is);(case c39=>k_is);(case k39=>k_is)
    (case a40=>k_is);(case l40=>k_is);(case c40=>k_is);(case k40=>k_is)
    (case a41=>k_is);(case l41=>k_is);(case c41=>k_is);(case k41=>k_is)
    (case a42=>k_is);(case l42=>k_is);(case c42=>k_is);(case k42=>k_is)
    (case a43=>k_is);(case l43=>k_is);(case c43=>k_is);(case k43=>k_is)
    (case a44=>k_is);(case l44=>k_is);(case c44=>k_is);(case k44=>k_is)
    (case a45=>k_is);(case l45=>k_is);(case c45=>k_is);(case k45=>k_is)
    (case i46=>k_is);(case if46=>k_is);(case im46=>k_is);(case ik46=>k_is);(case l46=>k_is);(case c46=>k_is);(case k46=>k_is)
    (case i47=>k_is);(case if47=>k_is);(case im47=>k_is);(case ik47=>k_is);(case l47=>k_is);(case c47=>k_is);(case k47=>k_is)
    (case b_s48=>k_is);(case b_r48=>k_is);(case b_a48=>k_is);(case l48=>k_is);(case c48=>k_is);(case k48=>k_is)
    (case i49=>k_is);(case if49=>k_is);(case im49=>k_is);(case ik49=>k_is);(case l49=>k_is);(case c49=>k_is);(case k49=>k_is)
    (case b_s50=>k_is);(case b_r50=>k_is);(case b_a50=>k_is);(case l50=>k_is);(case c50=>k_is);(case k50=>k_is)
    (case i51=>k_is);(case if51=>k_is);(case im51=>k_is);(case ik51=>k_is);(case l51=>k_is);(case c51=>k_is);(case k51=>k_is)
    (case b_s52=>k_is);(case b_r52=>k_is);(case b_a52=>k_is);(case l52=>k_is);(case c52=>k_is);(case k52=>k_is)
    (case i53=>k_is);(case if53=>k_is);(case im53=>k_is);(case ik53=>k_is);(case l53=>k_is);(case c53=>k_is);(case k53=>k_is)
    (case b_s54=>k_is);(case b_r54=>k_is);(case b_a54=>k_is);(case l54=>k_is);(case c54=>k_is);(case k54=>k_is)
    (case i55=>k_is);(case if55=>k_is);(case im55=>k_is);(case ik55=>k_is);(case l55=>k_is);(case c55=>k_is);(case k55=>k_is)
    (case b_s56=>k_is);(case b_r56=>k_is);(case b_a56=>k_is);(case l56=>k_is);(case c56=>k_is);(case k56=>k_is)
    (case i57=>k_is);(case if57=>k_is);(case im57=>k_is);(case ik57=>k_is);(case l57=>k_is);(case c57=>k_is);(case k57=>k_is)
    (case b_s58=>k_is);(case b_r58=>k_is);(case b_a58=>k_is);(case l58=>k_is);(case c58=>k_is);(case k58=>k_is)
    (case m59=>k_is);(case mf59=>k_is);(case l59=>k_is);(case c59=>k_is);(case k59=>k_is)
    (case m60=>k_is);(case mf60=>k_is);(case l60=>k_is);(case c60=>k_is);(case k60=>k_is)
    (case i61=>k_is);(case if61=>k_is);(case im61=>k_is);(case ik61=>k_is);(case l61=>k_is);(case c61=>k_is);(case k61=>k_is)
    (case b_s62=>k_is);(case b_r62=>k_is);(case b_a62=>k_is);(case l62=>k_is);(case c62=>k_is);(case k62=>k_is)
    (case i63=>k_is);(case if63=>k_is);(case im63=>k_is);(case ik63=>k_is);(case l63=>k_is);(case c63=>k_is);(case k63=>k_is)
    (case b_s64=>k_is);(case b_r64=>k_is);(case b_a64=>k_is);(case l64=>k_is);(case c64=>k_is);(case k64=>k_is)
    (case m65=>k_is);(case mf65=>k_is);(case l65=>k_is);(case c65=>k_is);(case k65=>k_is)
    (case m66=>k_is);(case mf66=>k_is);(case l66=>k_is);(case c66=>k_is);(case k66=>k_is)
    (case m67=>k_is);(case mf67=>k_is);(case l67=>k_is);(case c67=>k_is);(case k67=>k_is)
    (case m68=>k_is);(case mf68=>k_is);(case l68=>k_is);(case c68=>k_is);(case k68=>k_is)
    (case m69=>k_is);(case mf69=>k_is);(case l69=>k_is);(case c69=>k_is);(case k69=>k_is)
    (case m70=>k_is);(case mf70=>k_is);(case l70=>k_is);(case c70=>k_is);(case k70=>k_is)
    (case m71=>k_is);(case mf71=>k_is);(case l71=>k_is);(case c71=>k_is);(case k71=>k_is)
    (case m72=>k_is);(case mf72=>k_is);(case l72=>k_is);(case c72=>k_is);(case k72=>k_is)
    (case m73=>k_is);(case mf73=>k_is);(case l73=>k_is);(case c73=>k_is);(case k73=>k_is)
    (case m74=>k_is);(case mf74=>k_is);(case l74=>k_is);(case c74=>k_is);(case k74=>k_is)
    (case m75=>k_is);(case mf75=>k_is);(case l75=>k_is);(case c75=>k_is);(case k75=>k_is)
    (case m76=>k_is);(case mf76=>k_is);(case l76=>k_is);(case c76=>k_is);(case k76=>k_is)
    (case a77=>k_is);(case l77=>k_is);(case c77=>k_is);(case k77=>k_is)
    (case z0=>k_is)
    (case z1=>k_is)
    (case z2=>k_is)
    (case z3=>k_is)
    (case z4=>k_is)
    (case z5=>k_is)
    (case z6=>k_is)
    (case z7=>k_is)
    (case z8=>k_is)
    (case z9=>k_is)
    (case z10=>k_is)
    (case z11=>k_is)
    (case z12=>k_is)
    (case z13=>k_is)
    (case z14=>k_is)
    (case z15=>k_is)
    (case y0=>k_is)
    (case x0=>exact ⟨_,rfl⟩)
    (case y1=>k_is)
    (case x1=>exact ⟨_,rfl⟩)
    (case y2=>k_is)
    (case x2=>exact ⟨_,rfl⟩)
    (case y3=>k_is)
    (case x3=>exact ⟨_,rfl⟩)
    (case y4=>k_is)
    (case x4=>exact ⟨_,rfl⟩)
    (case pg_First=>first | k_is | rfl | with_unfolding_all rfl)
    (case hd_First=>first | k_is | rfl | with_unfolding_all rfl)
    (case po_First=>first | k_is | rfl | with_unfolding_all rfl)
    (case sa_First=>first | k_is | rfl | with_unfolding_all rfl)
    (case pg_Only=>first | k_is | rfl | with_unfolding_all rfl)
    (case hd_Only=>first | k_is | rfl | with_unfolding_all rfl)
    (case po_Only=>first | k_is | rfl | with_unfolding_all rfl)
    (case sa_Only=>first | k_is | rfl | with_unfolding_all rfl)
    (case pg_Like=>first | k_is | rfl | with_unfolding_all rfl)
    (case hd_Like=>first | k_is | rfl | with_unfolding_all rfl)
    (case po_Like=>first | k_is | rfl | with_unfolding_all rfl)
    (case sa_Like=>first | k_is | rfl | with_unfolding_all rfl)
    (case pg_Low=>first | k_is | rfl | with_unfolding_all rfl)
    (case hd_Low=>first | k_is | rfl | with_unfolding_all rfl)
    (case po_Low=>first | k_is | rfl | with_unfolding_all rfl)
    (case sa_Low=>first | k_is | rfl | with_unfolding_all rfl)
    (case pg_High=>first | k_is | rfl | with_unfolding_all rfl)
    (case hd_High=>first | k_is | rfl | with_unfolding_all rfl)
    (case po_High=>first | k_is | rfl | with_unfolding_all rfl)
    (case sa_High=>first | k_is | rfl | with_unfolding_all rfl)
    (case pg_Sum=>first | k_is | rfl | with_unfolding_all rfl)
    (case hd_Sum=>first | k_is | rfl | with_unfolding_all rfl)
    (case po_Sum=>first | k_is | rfl | with_unfolding_all rfl)
    (case sa_Sum=>first | k_is | rfl | with_unfolding_all rfl)
    (case pg_Numbers=>first | k_is | rfl | with_unfolding_all rfl)
    (case hd_Numbers=>first | k_is | rfl | with_unfolding_all rfl)
    (case po_Numbers=>first | k_is | rfl | with_unfolding_all rfl)
    (case sa_Numbers=>first | k_is | rfl | with_unfolding_all rfl)
    (case pg_Words=>first | k_is | rfl | with_unfolding_all rfl)
    (case hd_Words=>first | k_is | rfl | with_unfolding_all rfl)
    (case po_Words=>first | k_is | rfl | with_unfolding_all rfl)
    (case sa_Words=>first | k_is | rfl | with_unfolding_all rfl)
    (case pg_Table=>first | k_is | rfl | with_unfolding_all rfl)
    (case hd_Table=>first | k_is | rfl | with_unfolding_all rfl)
    (case po_Table=>first | k_is | rfl | with_unfolding_all rfl)
    (case sa_Table=>first | k_is | rfl | with_unfolding_all rfl)
    (case ta_First=>first | k_is | rfl | with_unfolding_all rfl)
    (case tn_First=>first | k_is | rfl | with_unfolding_all rfl)
    (case tt_First=>first | k_is | rfl | with_unfolding_all rfl)
    (case tm_First=>first | k_is | rfl | with_unfolding_all rfl)
    (case ta_Only=>first | k_is | rfl | with_unfolding_all rfl)
    (case tn_Only=>first | k_is | rfl | with_unfolding_all rfl)
    (case tt_Only=>first | k_is | rfl | with_unfolding_all rfl)
    (case tm_Only=>first | k_is | rfl | with_unfolding_all rfl)
    (case ta_Like=>first | k_is | rfl | with_unfolding_all rfl)
    (case tn_Like=>first | k_is | rfl | with_unfolding_all rfl)
    (case tt_Like=>first | k_is | rfl | with_unfolding_all rfl)
    (case tm_Like=>first | k_is | rfl | with_unfolding_all rfl)
    (case ta_Low=>first | k_is | rfl | with_unfolding_all rfl)
    (case tn_Low=>first | k_is | rfl | with_unfolding_all rfl)
    (case tt_Low=>first | k_is | rfl | with_unfolding_all rfl)
    (case tm_Low=>first | k_is | rfl | with_unfolding_all rfl)
    (case ta_High=>first | k_is | rfl | with_unfolding_all rfl)
    (case tn_High=>first | k_is | rfl | with_unfolding_all rfl)
    (case tt_High=>first | k_is | rfl | with_unfolding_all rfl)
    (case tm_High=>first | k_is | rfl | with_unfolding_all rfl)
    (case ta_Sum=>first | k_is | rfl | with_unfolding_all rfl)
    (case tn_Sum=>first | k_is | rfl | with_unfolding_all rfl)
    (case tt_Sum=>first | k_is | rfl | with_unfolding_all rfl)
    (case tm_Sum=>first | k_is | rfl | with_unfolding_all rfl)
    (case ta_Numbers=>first | k_is | rfl | with_unfolding_all rfl)
    (case tn_Numbers=>first | k_is | rfl | with_unfolding_all rfl)
    (case tt_Numbers=>first | k_is | rfl | with_unfolding_all rfl)
    (case tm_Numbers=>first | k_is | rfl | with_unfolding_all rfl)
    (case ta_Words=>first | k_is | rfl | with_unfolding_all rfl)
    (case tn_Words=>first | k_is | rfl | with_unfolding_all rfl)
    (case tt_Words=>first | k_is | rfl | with_unfolding_all rfl)
    (case tm_Words=>first | k_is | rfl | with_unfolding_all rfl)
    (case ta_Table=>first | k_is | rfl | with_unfolding_all rfl)
    (case tn_Table=>first | k_is | rfl | with_unfolding_all rfl)
    (case tt_Table=>first | k_is | rfl | with_unfolding_all rfl)
    (case tm_Table=>first | k_is | rfl | with_unfolding_all rfl)
    (case na_First_called=>first | k_is | rfl | with_unfolding_all rfl)
    (case na_Only_called=>first | k_is | rfl | with_unfolding_all rfl)
    (case na_Like_called=>first | k_is | rfl | with_unfolding_all rfl)
    (case na_Low_called=>first | k_is | rfl | with_unfolding_all rfl)
    (case na_High_called=>first | k_is | rfl | with_unfolding_all rfl)
    (case na_Sum_called=>first | k_is | rfl | with_unfolding_all rfl)
    (case na_Numbers_low=>first | k_is | rfl | with_unfolding_all rfl)
    (case na_Numbers_high=>first | k_is | rfl | with_unfolding_all rfl)
    (case na_Numbers_words=>first | k_is | rfl | with_unfolding_all rfl)
    (case na_Words_low=>first | k_is | rfl | with_unfolding_all rfl)
    (case na_Words_high=>first | k_is | rfl | with_unfolding_all rfl)
    (case na_Words_words=>first | k_is | rfl | with_unfolding_all rfl)
    (case na_Table_name=>first | k_is | rfl | with_unfolding_all rfl)
    (case na_Table_names=>first | k_is | rfl | with_unfolding_all rfl)
    (case na_Table_domains=>first | k_is | rfl | with_unfolding_all rfl)
    (case na_Table_outcome=>first | k_is | rfl | with_unfolding_all rfl)
    (case na_Table_way=>first | k_is | rfl | with_unfolding_all rfl)
    (case na_Table_rows=>first | k_is | rfl | with_unfolding_all rfl)
    (case f_nn=>first | k_is | rfl | with_unfolding_all rfl)
    (case f_wn=>first | k_is | rfl | with_unfolding_all rfl)
    (case f_ww=>first | k_is | rfl | with_unfolding_all rfl)
    (case f_tt=>first | k_is | rfl | with_unfolding_all rfl)
    (case f_nw=>first | k_is | rfl | with_unfolding_all rfl)
