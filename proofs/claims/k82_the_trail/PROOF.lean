import PyProof.Rows.All
import Wide.All
import OpenK.AllK
import Wide.FinOn
import Lean
import PyProof.EqAt
import PyProof.EqKinds
import PyProof.TupleCall
import KE.KIntText
import KE.KTryMore
import KE.KIsAll
import PyProof.ZipIter
import KE.KRevIter
import PyProof.AttrMissHeap
import KE.KDictOf
import PyProof.DictUpdate
import PyProof.DictList
import PySem.Challenge.RW_rowjudge_k82_the_trail
set_option Elab.async false
set_option linter.all false
set_option maxRecDepth 100000
theorem G6 {α:Type _} {l:List α} {i:Nat} (h:i<l.length):l[i]?=some l[i]:=List.getElem?_eq_getElem h
theorem G7 {α:Type _} {a:α} {l:List α} {i:Nat}:l[i]?=some a ↔ ∃ h:i<l.length, l[i]=a:=List.getElem?_eq_some_iff
theorem G8 {α:Type _} {l:List α} {i:Nat} {a:α} (e:l[i]?=some a):a ∈ l:=List.mem_of_getElem? e
namespace L2
open PySem PySem.Spec PyProof.Rows
abbrev Key:=Sum Int Str
def nW:Key->Value->Bool
 | .inl k,v=>Value.isInt k v
 | .inr x,v=>Value.isStrOf x v
def CF (w:World):Key->Int
 | .inl k=>hashInt k
 | .inr x=>hashStr w x
theorem bP:∀ {k:Key} {v:Value},nW k v=true->(∃ i t,k=Sum.inl i/\v=Value.int i t)\/(∃ x t,k=Sum.inr x/\v=Value.str x t)
 | .inl i,v,h=>by
  obtain ⟨t,e⟩:=Value.isInt_shape (k:=i) (v:=v) h
  exact .inl ⟨i,t,rfl,e⟩
 | .inr x,v,h=>by
  obtain ⟨t,e⟩:=Value.isStrOf_shape (x:=x) (v:=v) h
  exact .inr ⟨x,t,rfl,e⟩
theorem ue (i:Int) (t:Tok):nW (.inl i) (.int i t)=true:=by simp [nW,Value.isInt]
theorem uf (x:Str) (t:Tok):nW (.inr x) (.str x t)=true:=by simp [nW,Value.isStrOf]
theorem yJ (a b:Int):decide ((Sum.inl a:Key)=Sum.inl b)=(a == b):=by
 by_cases e:a=b
 ·subst e;simp
 ·have h:¬ (Sum.inl a:Key)=Sum.inl b:=λq=>e (Sum.inl.inj q)
  rw [decide_eq_false h]
  exact (beq_eq_false_iff_ne.mpr e).symm
theorem yK (a b:Str):decide ((Sum.inr a:Key)=Sum.inr b)=decide (a=b):=by
 by_cases e:a=b
 ·subst e;simp
 ·have h:¬ (Sum.inr a:Key)=Sum.inr b:=λq=>e (Sum.inr.inj q)
  rw [decide_eq_false h,decide_eq_false e]
theorem yL (a:Int) (b:Str):decide ((Sum.inl a:Key)=Sum.inr b)=false:=decide_eq_false (λq=>nomatch q)
theorem yM (a:Str) (b:Int):decide ((Sum.inr a:Key)=Sum.inl b)=false:=decide_eq_false (λq=>nomatch q)
def bN (prog:Program) (w:World):PySem.KeyKind prog w Key where
 is:=nW
 hash:=CF w
 inj:=λv a b ha hb=>by
  rcases bP ha with ⟨i,t,rfl,rfl⟩ | ⟨x,t,rfl,rfl⟩
  ·rcases bP hb with ⟨j,u,rfl,e⟩ | ⟨y,u,rfl,e⟩
   ·injection e with e1 _;rw [e1]
   ·exact nomatch e
  ·rcases bP hb with ⟨j,u,rfl,e⟩ | ⟨y,u,rfl,e⟩
   ·exact nomatch e
   ·injection e with e1 _;rw [e1]
 byValue:=λk v h=>by
  rcases bP h with ⟨i,t,rfl,rfl⟩ | ⟨x,t,rfl,rfl⟩ <;> rfl
 pyHash:=λhv h=>by
  rcases bP hv with ⟨i,t,rfl,rfl⟩ | ⟨x,t,rfl,rfl⟩
  ·exact wpAny_pyHash_int h
  ·exact wpAny_pyHash_str h
 eqBool:=λhu hv h=>by
  rcases bP hu with ⟨i,t,rfl,rfl⟩ | ⟨x,t,rfl,rfl⟩
  ·rcases bP hv with ⟨j,u,rfl,rfl⟩ | ⟨y,u,rfl,rfl⟩
   ·rw [yJ] at h;exact wpAny_eqBool_int h
   ·rw [yL] at h;exact SeqAt.EqAt.int_str i t y u _ _ _ _ h
  ·rcases bP hv with ⟨j,u,rfl,rfl⟩ | ⟨y,u,rfl,rfl⟩
   ·rw [yM] at h;exact SeqAt.EqAt.str_int x t j u _ _ _ _ h
   ·rw [yK] at h;exact wpAny_eqBool_str h
 «strs»:=λk x t v h=>by
  rcases bP h with ⟨i,u,rfl,e⟩ | ⟨y,u,rfl,e⟩
  ·exact nomatch e
  ·injection e with e1 _
   subst e1
   cases v <;> rfl
theorem qB (prog:Program) (w:World) (i:Int) (t:Tok):(bN prog w).is (.inl i) (.int i t)=true:=ue i t
theorem gM (prog:Program) (w:World) (x:Str) (t:Tok):(bN prog w).is (.inr x) (.str x t)=true:=uf x t
end L2
namespace L2
open PySem PySem.Spec PyProof.Rows
inductive V where
 | non | bl (b:Bool) | int (i:Int) | str (x:Str) | byt (b:Array UInt8) | flt (b:UInt64) | ref (a:Addr) | ty (n:String)
 deriving DecidableEq
def RelV:V->Value->Prop
 | .non,u=>u=Value.none
 | .bl b,u=>u=Value.bool b
 | .int i,u=>∃ t,u=Value.int i t
 | .str x,u=>∃ t,u=Value.str x t
 | .byt b,u=>∃ t,u=Value.bytes b t
 | .flt b,u=>∃ t,u=Value.float b t
 | .ref a,u=>u=Value.ref a
 | .ty n,u=>u=Value.type n
abbrev Vals:List V->List Value->Prop:=Paired RelV
theorem Vals.length {xs:List V} {us:List Value} (r:Vals xs us):xs.length=us.length:=Paired.length r
theorem Vals.get:∀ {xs:List V} {us:List Value} {i:Nat} {x:V},Vals xs us->xs[i]?=some x->∃ u,us[i]?=some u/\RelV x u
 | _,_,_,_,.nil,e=>by simp at e
 | _,_,0,_,.cons r _,e=>by simp at e;subst e;exact ⟨_,rfl,r⟩
 | _,_,i+1,x,.cons _ t,e=>by
  obtain ⟨u,h1,h2⟩:=Vals.get (i:=i) (x:=x) t (by simpa using e)
  exact ⟨u,by simpa using h1,h2⟩
theorem Vals.set {x:V} {u:Value} (r:RelV x u):∀ {xs:List V} {us:List Value} (i:Nat),Vals xs us->Vals (xs.set i x) (us.set i u)
 | _,_,_,.nil=>.nil
 | _,_,0,.cons _ t=>.cons r t
 | _,_,i+1,.cons q t=>.cons q (Vals.set r i t)
theorem Vals.append:∀ {xs ys:List V} {us ws:List Value},Vals xs us->Vals ys ws->Vals (xs ++ ys) (us ++ ws)
 | _,_,_,_,.nil,s=>s
 | _,_,_,_,.cons r t,s=>.cons r (Vals.append t s)
theorem Vals.take:∀ {xs:List V} {us:List Value} (n:Nat),Vals xs us->Vals (xs.take n) (us.take n)
 | _,_,0,_=>.nil
 | _,_,_+1,.nil=>.nil
 | _,_,n+1,.cons r t=>.cons r (Vals.take n t)
theorem Vals.drop:∀ {xs:List V} {us:List Value} (n:Nat),Vals xs us->Vals (xs.drop n) (us.drop n)
 | _,_,0,r=>r
 | _,_,_+1,.nil=>.nil
 | _,_,n+1,.cons _ t=>Vals.drop n t
def i0:Option V->Option Value->Prop
 | some v,some u=>RelV v u
 | none,none=>True
 | _,_=>False
def KV {κ:Type} : List (κ × V)->List (κ × Value)->Prop:=Paired λ(p:κ × V) (q:κ × Value)=>p.1=q.1/\RelV p.2 q.2
def kV:Key->V
 | .inl i=>.int i
 | .inr x=>.str x
inductive HO where
 | lst (xs:List V)
 | tup (xs:List V)
 | dK (kvs:List (Key × V)) | dT (kvs:List (List Key × V))
 | set (S:Int->Bool) (n:Nat)
 | ins (C dx:Addr) (fs:List (Str × V))
 | own (x:Addr)
 | xd (fs:List (Str × V))
 | met (f x:Addr)
 | rng (lo hi:Int)
 | frz (o:Obj) (u:HO)
 | tbl (ps:Array Value)
 | ext (φ:Heap->Prop)
abbrev Hp:=Addr->Option HO
def upd (H:Hp) (a:Addr) (o:HO):Hp:=λb=>if b=a then some o else H b
theorem af {H:Hp} {a:Addr} {o:HO} : upd H a o a=some o:=by unfold upd;rw [if_pos rfl]
theorem av {H:Hp} {a b:Addr} {o:HO} (h:b ≠ a):upd H a o b=H b:=by unfold upd;rw [if_neg h]
theorem ck {H:Hp} {a b:Addr} {o u:HO} (h:H a=some o) (h' : H b=some u) (d:o ≠ u):a ≠ b:=by
 intro e;subst e;rw [h] at h';exact d (Option.some.inj h')
theorem bB {H:Hp} {a b:Addr} {o:HO} (h:H a=some o) (h' : H b=none):a ≠ b:=by
 intro e;subst e;rw [h] at h';cases h'
section
variable (P:Program) (w:World)
def bR (H:Hp) (h:Heap) (a:Addr):HO->Prop
 | .lst xs=>xs.length<=sizeLine/\∃ (its:List Value) (n:Nat),Vals xs its/\h.get? a=some { cls:=.type "list",data:=.seq its.toArray n }
 | .tup xs=>xs.length<=sizeLine/\∃ its:List Value,Vals xs its/\IsTup h a its.toArray
 | .dK kvs=>kvs.length<=sizeLine/\(a == sysModules)=false/\∃ vs,KV kvs vs/\h.DictOf (bN P w) a vs
 | .dT kvs=>kvs.length<=sizeLine/\(a == sysModules)=false/\∃ xs:List (List Key × Addr × Value),
   Paired (λ(p:List Key × V) (q:List Key × Addr × Value)=>p.1=q.1/\H q.2.1=some (.tup (p.1.map kV))/\RelV p.2 q.2.2) kvs xs /\
   ∃ o es ep,h.get? a=some o/\o.ExactDict/\o.data=.dict es ep/\es.toList=xs.map (entryOfKey (tupleKind (bN P w)))/\(xs.map (·.1)).Nodup
 | .set S n=>h.SetOf (intKind P w) a S n
 | .ins C dx fs=>H dx=some (.own a)/\fs.length<=1000/\dx ≠ a/\h.get? a=some (PySem.W.instObj C dx) /\
   ∃ mA,h.Ns1 dx mA/\(∀ f,i0 (fs.lookup f) (mA f))/\PySem.Within mA (fs.map (·.1))
 | .own _=>∃ o,h.get? a=some o
 | .xd fs=>∃ mA,h.Ns1 a mA/\∀ f,i0 (fs.lookup f) (mA f)
 | .rng lo hi=>∃ t u v,h.get? a=some { cls:=.type "range",data:=.fields #[.int lo t,.int hi u,.int 1 v] }
 | .frz o u=>h.get? a=some o/\bR H h a u
 | .tbl ps=>h.get? a=some { cls:=.none,data:=.fields ps }
 | .met f x=>h.get? a=some (PySem.W.methodObj (.ref f) (.ref x))
 | .ext φ=>φ h/\(∃ o,h.get? a=some o)/\∀ h1 h2:Heap,φ h1->(∀ o,h1.get? a=some o->h2.get? a=some o)->φ h2
def HOk (H:Hp) (h:Heap):Prop:=∀ a o,H a=some o->bR P w H h a o
end
section
variable {P:Program} {w:World} {H H' : Hp} {h h' : Heap} {a:Addr} {o:HO}
theorem bR.lt (x:bR P w H h a o):a < h.objs.size:=by
 cases o with
 | lst xs=>obtain ⟨_,_,_,_,e⟩:=x;exact Heap.lt_size e
 | tup xs=>obtain ⟨_,_,_,p⟩:=x;exact p.lt
 | dK kvs=>obtain ⟨_,_,_,_,o,_,_,e,_⟩:=x;exact Heap.lt_size e
 | dT kvs=>obtain ⟨_,_,_,_,o,_,_,e,_⟩:=x;exact Heap.lt_size e
 | set S n=>obtain ⟨o,_,_,_,e,_⟩:=x;exact Heap.lt_size e
 | ins C dx fs=>obtain ⟨_,_,_,e,_⟩:=x;exact Heap.lt_size e
 | own y=>obtain ⟨_,e⟩:=x;exact Heap.lt_size e
 | xd fs=>obtain ⟨_,⟨_,_,_,e,_⟩,_⟩:=x;exact Heap.lt_size e
 | rng lo hi=>obtain ⟨_,_,_,e⟩:=x;exact Heap.lt_size e
 | frz ob u=>obtain ⟨e,_⟩:=x;exact Heap.lt_size e
 | tbl ps=>exact Heap.lt_size (show h.get? a=some _ from x)
 | met f y=>exact Heap.lt_size (show h.get? a=some _ from x)
 | ext φ=>obtain ⟨_,⟨_,e⟩,_⟩:=x;exact Heap.lt_size e
theorem Paired.mapP {α β:Type} {F G:α->β->Prop} : ∀ {l₁:List α} {l₂:List β},Paired F l₁ l₂->(∀ a b,F a b->G a b)->Paired G l₁ l₂
 | _,_,.nil,_=>.nil
 | _,_,.cons r t,f=>.cons (f _ _ r) (Paired.mapP t f)
theorem bR.stay (x:bR P w H h a o) (k:∀ b u,(b=a\/H b=some (.own a))->h.get? b=some u->h'.get? b=some u)
  (ho:∀ b,H b=some (.own a)->H' b=some (.own a)) (ht:∀ b xs,H b=some (.tup xs)->H' b=some (.tup xs)):bR P w H' h' a o:=by
 induction o with
 | lst xs=>obtain ⟨z,its,n,r,e⟩:=x;exact ⟨z,its,n,r,k _ _ (.inl rfl) e⟩
 | tup xs=>obtain ⟨z,its,r,ob,e,c⟩:=x;exact ⟨z,its,r,ob,k _ _ (.inl rfl) e,c⟩
 | dK kvs=>obtain ⟨z,y,vs,r,ob,es,ep,e,c⟩:=x;exact ⟨z,y,vs,r,ob,es,ep,k _ _ (.inl rfl) e,c⟩
 | dT kvs =>
  obtain ⟨z,y,xs,r,ob,es,ep,e,c⟩:=x
  exact ⟨z,y,xs,Paired.mapP r λp q z=>⟨z.1,ht _ _ z.2.1,z.2.2⟩,ob,es,ep,k _ _ (.inl rfl) e,c⟩
 | set S n=>obtain ⟨ob,es,ep,t,e,c⟩:=x;exact ⟨ob,es,ep,t,k _ _ (.inl rfl) e,c⟩
 | ins C dx fs =>
  obtain ⟨d,z,ne,e,mA,⟨od,es,ep,e2,c⟩,r⟩:=x
  exact ⟨ho _ d,z,ne,k _ _ (.inl rfl) e,mA,⟨od,es,ep,k _ _ (.inr d) e2,c⟩,r⟩
 | own y=>obtain ⟨ob,e⟩:=x;exact ⟨ob,k _ _ (.inl rfl) e⟩
 | xd fs=>obtain ⟨mA,⟨od,es,ep,e,c⟩,r⟩:=x;exact ⟨mA,⟨od,es,ep,k _ _ (.inl rfl) e,c⟩,r⟩
 | rng lo hi=>obtain ⟨t,u,v,e⟩:=x;exact ⟨t,u,v,k _ _ (.inl rfl) e⟩
 | frz ob u ih=>obtain ⟨e,q⟩:=x;exact ⟨k _ _ (.inl rfl) e,ih q⟩
 | tbl ps =>
  have e:h.get? a=some { cls:=.none,data:=.fields ps }:=x
  show h'.get? a=some { cls:=.none,data:=.fields ps }
  exact k a _ (.inl rfl) e
 | met f y =>
  have e:h.get? a=some (PySem.W.methodObj (.ref f) (.ref y)):=x
  show h'.get? a=some (PySem.W.methodObj (.ref f) (.ref y))
  exact k a _ (.inl rfl) e
 | ext φ=>obtain ⟨p,⟨o,e⟩,st⟩:=x;exact ⟨st _ _ p λo q=>k _ _ (.inl rfl) q,⟨o,k _ _ (.inl rfl) e⟩,st⟩
theorem HOk.lt (x:HOk P w H h) (e:H a=some o):a < h.objs.size:=(x a o e).lt
theorem HOk.fresh (x:HOk P w H h) (e:h.objs.size<=a):H a=none:=by
 cases q:H a with
 | none=>rfl
 | some u=>exact absurd (Nat.lt_of_lt_of_le (x.lt q) e) (Nat.lt_irrefl _)
theorem HOk.kept (x:HOk P w H h) (k:∀ b u,h.get? b=some u->h'.get? b=some u):HOk P w H h':=λa o e =>
 (x a o e).stay (λb u _ q=>k b u q) (λ_ q=>q) λ_ _ q=>q
theorem HOk.laid (x:HOk P w H h) (k:∀ b u,h.get? b=some u->h'.get? b=some u) (hp:h.objs.size<=a) (new:bR P w (upd H a o) h' a o):HOk P w (upd H a o) h':=λb u e=>by
 have hn:=x.fresh hp
 by_cases hb:b=a
 ·subst hb;rw [af] at e;cases e;exact new
 ·rw [av hb] at e
  exact (x b u e).stay (λc v _ q=>k c v q) (λc q=>by rw [av (bB q hn)];exact q) λc xs q=>by rw [av (bB q hn)];exact q
end
def Rd (H:Hp) (a:Addr) (u:HO):Prop:=H a=some u\/∃ o,H a=some (.frz o u)
theorem Rd.ok {P:Program} {w:World} {H:Hp} {h:Heap} {a:Addr} {u:HO} (r:Rd H a u) (x:HOk P w H h):bR P w H h a u:=by
 rcases r with r | ⟨o,r⟩
 ·exact x a u r
 ·obtain ⟨_,q⟩:=x a _ r
  exact q
def Mut:Option HO->Prop
 | some (.lst _)=>True
 | some (.dK _)=>True
 | some (.dT _)=>True
 | some (.set _ _)=>True
 | some (.ins _ _ _)=>True
 | some (.ext _)=>True
 | _=>False
section
variable {P:Program} {w:World} {H:Hp} {h h' : Heap} {x e:Addr} {o' : HO}
theorem HOk.write (ok:HOk P w H h) (mu:Mut (H x)) (he:e=x\/H e=some (.own x)) (k:∀ b u,b ≠ e->h.get? b=some u->h'.get? b=some u) (heo:∃ u,h'.get? e=some u)
  (new:bR P w (upd H x o') h' x o'):HOk P w (upd H x o') h':=λb u q=>by
 have Bt:∀ c y,H c=some (.own y)->c ≠ x:=λc y r z=>by subst z;rw [r] at mu;exact mu
 have CG:∀ c xs,H c=some (.tup xs)->c ≠ x:=λc xs r z=>by subst z;rw [r] at mu;exact mu
 by_cases hb:b=x
 ·subst hb;rw [af] at q;cases q;exact new
 ·rw [av hb] at q
  by_cases hbe:b=e
  ·have q' : H b=some (.own x):=by
    rcases he with z | z
    ·exact absurd (hbe.trans z) hb
    ·rw [hbe];exact z
   rw [q] at q';cases q'
   obtain ⟨v,hv⟩:=heo
   exact ⟨v,by rw [hbe];exact hv⟩
  ·refine (ok b u q).stay (λc v hc r=>k c v ?_ r) (λc r=>by rw [av (Bt c b r)];exact r) λc xs r=>by rw [av (CG c xs r)];exact r
   rcases hc with rfl | hc
   ·exact hbe
   ·rintro rfl
    rcases he with z | z
    ·exact Bt c b hc z
    ·rw [hc] at z;cases z;exact hb rfl
end
structure Un (fs ex:List Addr) (H H' : Hp) (h h' : Heap):Prop where
 keep:∀ b o,h.get? b=some o->H b=none->b ∉ fs->b ∉ ex->h'.get? b=some o
 slot:∀ b o,h.get? b=some o->H b=none->b ∈ fs->b ∉ ex->∃ sl,h'.get? b=some { o with slots:=sl }
 free:∀ b o,h.get? b=some o->H b=none->b ∉ ex->H' b=none
 there:∀ b o,h.get? b=some o->b ∉ ex->∃ o',h'.get? b=some o'
 tups:∀ b xs,H b=some (.tup xs)->H' b=some (.tup xs)
 frzs:∀ b o u,H b=some (.frz o u)->H' b=some (.frz o u)
 tbls:∀ b ps,H b=some (.tbl ps)->∃ more,H' b=some (.tbl (ps ++ more))
section
variable {fs fs' ex ex' : List Addr} {H H1 H2:Hp} {h h1 h2 h' : Heap} {a x e:Addr} {o:HO}
theorem Un.any (u:Un fs ex H H1 h h1) {b:Addr} {ob:Obj} (q:h.get? b=some ob) (n:H b=none) (hx:b ∉ ex):∃ sl,h1.get? b=some { ob with slots:=sl }:=by
 by_cases hb:b ∈ fs
 ·exact u.slot b ob q n hb hx
 ·exact ⟨ob.slots,u.keep b ob q n hb hx⟩
theorem Un.kept (k:∀ b u,h.get? b=some u->h'.get? b=some u):Un fs ex H H h h' :=
 ⟨λb ob q _ _ _=>k b ob q,λb ob q _ _ _=>⟨ob.slots,k b ob q⟩,λ_ _ _ n _=>n,λb ob q _=>⟨ob,k b ob q⟩,λ_ _ q=>q,λ_ _ _ q=>q,λ_ ps q=>⟨#[],by rw [q];simp⟩⟩
theorem Un.refl:Un fs ex H H h h:=Un.kept λ_ _ q=>q
theorem Un.laid (k:∀ b u,h.get? b=some u->h'.get? b=some u) (hp:h.objs.size<=a) (hn:H a=none):Un fs ex H (upd H a o) h h' where
 keep:=λb u q _ _ _=>k b u q
 slot:=λb u q _ _ _=>⟨u.slots,k b u q⟩
 free:=λb u q n _=>by rw [av (Nat.ne_of_lt (Nat.lt_of_lt_of_le (Heap.lt_size q) hp))];exact n
 there:=λb u q _=>⟨u,k b u q⟩
 tups:=λb xs q=>by rw [av (bB q hn)];exact q
 frzs:=λb u xs q=>by rw [av (bB q hn)];exact q
 tbls:=λb ps q=>⟨#[],by rw [av (bB q hn),q];simp⟩
theorem Un.write (mu:Mut (H x)) (he:e=x\/H e=some (.own x)) (k:∀ b u,b ≠ e->h.get? b=some u->h'.get? b=some u) (heo:∃ u,h'.get? e=some u):Un fs ex H (upd H x o) h h':=by
 have hx:∀ b,H b=none->b ≠ x:=λb n z=>by subst z;rw [n] at mu;exact mu
 have hb:∀ b,H b=none->b ≠ e:=λb n z=>by
  subst z
  rcases he with r | r
  ·exact hx b n r
  ·rw [n] at r;cases r
 have hm:∀ b u,H b=some u->¬ Mut (some u)->b ≠ x:=λb u q nm z=>by subst z;rw [q] at mu;exact nm mu
 refine ⟨λb u q n _ _=>k b u (hb b n) q,λb u q n _ _=>⟨u.slots,k b u (hb b n) q⟩,λb u q n _=>by rw [av (hx b n)];exact n,λb u q _=>?_,
  λb xs q=>by rw [av (hm b _ q λz=>z)];exact q,λb u xs q=>by rw [av (hm b _ q λz=>z)];exact q,λb ps q=>⟨#[],by rw [av (hm b _ q λz=>z),q];simp⟩⟩
 by_cases hbe:b=e
 ·subst hbe;exact heo
 ·exact ⟨u,k b u hbe q⟩
end
def trk (h:Heap) (H:Hp):List Addr:=(List.range h.objs.size).filter λa=>(H a).isSome
def o6 (h:Heap) (H:Hp):Heap:=PySem.W.hideAll h (trk h H)
theorem ug (h:Heap) (H:Hp):(o6 h H).objs.size=h.objs.size:=PySem.W.hideAll_size _ _
theorem uQ {h:Heap} {H:Hp} {b:Addr} {o:Obj} (e:h.get? b=some o) (n:H b=none):(o6 h H).get? b=some o :=
 PySem.W.hideAll_get _ e λhm=>by
  have q:(H b).isSome=true:=(List.mem_filter.mp hm).2
  rw [n] at q;simp at q
theorem xb {h:Heap} {H:Hp} {b:Addr} {o:Obj} (e:(o6 h H).get? b=some o):h.get? b=some o/\H b=none:=by
 have e' : h.get? b=some o:=PySem.W.of_hideAll (trk h H) e
 refine ⟨e',?_⟩
 cases q:H b with
 | none=>rfl
 | some x =>
  have hm:b ∈ trk h H:=List.mem_filter.mpr ⟨List.mem_range.mpr (Heap.lt_size e'),by simp [q]⟩
  have z:(o6 h H).get? b=none:=PySem.W.hideAll_none (trk h H) hm
  rw [z] at e;cases e
def xc (g h:Heap) (L:Addr):List (Addr × Obj):=(List.range h.objs.size).filterMap λa=>if a=L\/(g.get? a).isSome=true then none else (h.get? a).map λo=>(a,o)
def rest (g h:Heap) (L d:Addr):List (Addr × Obj):=(xc g h L).filter λp=>decide (p.1 ≠ d)
end L2
namespace L2
open PySem PySem.Spec PyProof.Rows
structure Mod (K:PySem.W.Frag) (mg:Str->Option Value) (base:Heap):Prop where
 kin:K.In base
 glob:base.Ns mainGlobals mg
 blt:∃ mb,base.Ns builtinsNs mb/\∀ x:Str,x ≠ "__name__" -> mb x=bootBuiltins x
 nolimit:base.NoLimit
structure Cx where
 prog:Program
 w:World
 K:PySem.W.Frag
 mg:Str->Option Value
 base:Heap
 A:Around
 N:List Str
 s₀:Shared
 H₀:Hp
 env:Env
 outer:List Env
 stack:List Env
 ex:List Addr
 fn:Str->Bool
 calm:Bool
 pn:List (Addr × Obj)
 xe:Value->Shared->Prop
def frs (l:List Env):List Addr:=l.filterMap (·.frame)
abbrev Cx.fs (X:Cx):List Addr:=frs X.outer
def Vis (sc:Scope) (x:Str):Prop:=sc.names.lookup x=some .local\/sc.names.lookup x=some .cell\/sc.names.lookup x=some .free
def Loc (sc:Scope) (x:Str):Prop:=sc.names.lookup x=some .local\/sc.names.lookup x=some .cell
def Look (env:Env) (h:Heap) (m:Str->Option Value) (x:Str) (u:Value):Prop :=
 (env.kindOf x=some .local/\m x=some u)\/((env.kindOf x=some .cell\/env.kindOf x=some .free)/\∃ c,env.cells.lookup x=some c/\h.IsCell c (some u))
structure Cx.Ok (X:Cx):Prop where
 mod:Mod X.K X.mg X.base
 kind:X.env.scope.kind=.function
 glob:X.env.globals=mainGlobals
 blt:X.env.builtins=builtinsNs
 above:X.s₀.heap.objs.size<=X.env.locals
 inj:∀ x y c,X.env.cells.lookup x=some c->X.env.cells.lookup y=some c->x=y
 has:∀ x,(X.env.kindOf x=some .cell\/X.env.kindOf x=some .free)->∃ c,X.env.cells.lookup x=some c
 cab:∀ x c,X.fn x=true->X.env.cells.lookup x=some c->X.s₀.heap.objs.size<=c
 hd:X.calm=true->X.A.handled=none
 frames:X.A.frames=some X.stack
 stk:X.stack=X.outer\/(X.stack=X.env :: X.outer/\X.env.frame=some X.env.locals)
 exf:∀ b ∈ X.ex,b ≠ X.env.locals/\∀ x c,X.env.cells.lookup x=some c->c ≠ b
 bs:∀ b o,X.base.get? b=some o->X.s₀.heap.get? b=some o/\X.H₀ b=none
 bsz:X.base.objs.size<=X.s₀.heap.objs.size
 noex:∀ b o,X.base.get? b=some o->b ∉ X.ex
 exfs:∀ b ∈ X.ex,b ∉ X.fs
 funs:X.s₀.heap.FunFrames X.base X.outer
 frf:∀ b ∈ X.fs,X.H₀ b=none
structure Inv (X:Cx) (pins:List (Addr × Obj)) (σ:List (Option V)) (H:Hp) (s:Shared):Prop where
 ok:X.Ok
 os:s.os=X.s₀.os
 bare:AllBare s.gens
 base:Un X.fs X.ex X.H₀ H X.s₀.heap s.heap
 loc:∃ m,s.heap.Ns X.env.locals m/\∀ (i:Nat) (x:Str) (v:V),X.N[i]?=some x->σ[i]?=some (some v)->Vis X.env.scope x->∃ u,RelV v u/\Look X.env s.heap m x u
 cell:∀ x c,X.env.cells.lookup x=some c->∃ v,s.heap.IsCell c v
 free:H X.env.locals=none
 freeC:∀ x c,X.env.cells.lookup x=some c->H c=none
 pin:∀ p ∈ X.pn ++ pins,s.heap.get? p.1=some p.2/\H p.1=none/\p.1 ≠ X.env.locals/\p.1 ∉ X.fs/\∀ v,p.2.data ≠ .cell v
 hok:HOk X.prog X.w H s.heap
 len:σ.length=X.N.length
section
variable {X:Cx} {pins:List (Addr × Obj)} {σ:List (Option V)} {H H' : Hp} {s:Shared} {h' : Heap}
theorem Cx.Ok.nofr (ok:X.Ok) {b:Addr} {o:Obj} (e:X.base.get? b=some o):b ∉ X.fs:=λhb=>by
 have:=(ok.funs.mem hb).1
 rw [e] at this;cases this
theorem Inv.bs (I:Inv X pins σ H s):∀ b o,X.base.get? b=some o->s.heap.get? b=some o/\H b=none:=λb o e =>
 ⟨I.base.keep b o (I.ok.bs b o e).1 (I.ok.bs b o e).2 (I.ok.nofr e) (I.ok.noex b o e),I.base.free b o (I.ok.bs b o e).1 (I.ok.bs b o e).2 (I.ok.noex b o e)⟩
theorem Inv.bk (I:Inv X pins σ H s):∀ b o,X.base.get? b=some o->s.heap.get? b=some o:=λb o e=>(I.bs b o e).1
theorem Inv.mod (I:Inv X pins σ H s):Mod X.K X.mg X.base:=I.ok.mod
theorem Inv.kIn (I:Inv X pins σ H s):X.K.In s.heap:=I.ok.mod.kin.keeps I.bk
theorem Inv.lt (I:Inv X pins σ H s):X.env.locals < s.heap.objs.size:=by obtain ⟨_,hn,_⟩:=I.loc;exact hn.lt
theorem Inv.sz (I:Inv X pins σ H s):X.s₀.heap.objs.size<=s.heap.objs.size:=Nat.le_trans I.ok.above (Nat.le_of_lt I.lt)
theorem Inv.nofs (I:Inv X pins σ H s) {a:Addr} (h:s.heap.objs.size<=a):a ∉ X.fs:=λhb=>by
 obtain ⟨_,o,ho,_⟩:=I.ok.funs.mem hb
 exact absurd (Nat.lt_of_lt_of_le (Heap.lt_size ho) (Nat.le_trans I.sz h)) (Nat.lt_irrefl _)
theorem Inv.cne (I:Inv X pins σ H s):∀ x c,X.env.cells.lookup x=some c->c ≠ X.env.locals:=λx c e z=>by
 obtain ⟨v,o,ho,hd⟩:=I.cell x c e
 obtain ⟨m,⟨o',es,ep,ho',hd',_⟩,_⟩:=I.loc
 rw [z,ho'] at ho;cases ho;rw [hd'] at hd;cases hd
theorem Inv.funs (I:Inv X pins σ H s):s.heap.FunFrames X.base X.outer:=by
 have all:∀ (l:List Env),(∀ b ∈ frs l,b ∈ X.fs)->X.s₀.heap.FunFrames X.base l->s.heap.FunFrames X.base l:=by
  intro l
  induction l with
  | nil=>intro _ _;trivial
  | cons env r ih =>
   intro hs hl
   obtain ⟨hk,⟨L,o,hf,hn,ho,hd⟩,hr⟩:=hl
   have hL:L ∈ X.fs:=hs L (by unfold frs;rw [List.filterMap_cons,hf];exact List.mem_cons_self)
   obtain ⟨sl,e⟩:=I.base.slot L o ho (I.ok.frf L hL) hL λz=>I.ok.exfs L z hL
   exact ⟨hk,⟨L,_,hf,hn,e,hd⟩,ih (λb hb=>hs b (by unfold frs;rw [List.filterMap_cons,hf];exact List.mem_cons_of_mem _ hb)) hr⟩
 exact all X.outer (λ_ hb=>hb) I.ok.funs
theorem Inv.stack (I:Inv X pins σ H s):s.heap.FunFrames X.base X.stack:=by
 rcases I.ok.stk with e | ⟨e,hf⟩
 ·rw [e];exact I.funs
 ·rw [e]
  obtain ⟨m,hn,_⟩:=I.loc
  refine .cons (by rw [I.ok.kind];decide) hf hn ?_ I.funs
  exact Heap.get?_none_of_le (Nat.le_trans I.ok.bsz I.ok.above)
theorem Inv.stkSub (I:Inv X pins σ H s):∀ b ∈ frs X.stack,b ∈ X.env.locals :: X.fs:=λb hb=>by
 rcases I.ok.stk with e | ⟨e,hf⟩
 ·rw [e] at hb;exact List.mem_cons_of_mem _ hb
 ·rw [e] at hb
  unfold frs at hb
  rw [List.filterMap_cons,hf] at hb
  exact hb
theorem Inv.stkFree (I:Inv X pins σ H s):∀ b ∈ frs X.stack,H b=none:=λb hb=>by
 rcases List.mem_cons.mp (I.stkSub b hb) with e | hb
 ·rw [e];exact I.free
 ·obtain ⟨_,o,ho,_⟩:=I.ok.funs.mem hb
  exact I.base.free b o ho (I.ok.frf b hb) λz=>I.ok.exfs b z hb
theorem Inv.step {g' : Array GenState} {t' : Nat} {d' : Drawn} {ch:List Addr} (I:Inv X pins σ H s)
  (hch:∀ b ∈ ch,(b ∈ X.ex\/X.s₀.heap.objs.size<=b)/\b ≠ X.env.locals/\(∀ x c,X.env.cells.lookup x=some c->c ≠ b)/\∀ p ∈ X.pn ++ pins,p.1 ≠ b)
  (keep:∀ b o,b ≠ X.env.locals->b ∉ X.fs->b ∉ ch->s.heap.get? b=some o->H b=none->h'.get? b=some o)
  (slot:∀ b o,b ≠ X.env.locals->b ∈ X.fs->b ∉ ch->s.heap.get? b=some o->H b=none->∃ sl,h'.get? b=some { o with slots:=sl }) (free:∀ b o,b ∉ ch->s.heap.get? b=some o->H b=none->H' b=none)
  (there:∀ b o,b ∉ ch->s.heap.get? b=some o->∃ o',h'.get? b=some o')
  (tups:∀ b xs,H b=some (.tup xs)->H' b=some (.tup xs)) (frzs:∀ b o u,H b=some (.frz o u)->H' b=some (.frz o u)) (tbls:∀ b ps,H b=some (.tbl ps)->∃ more,H' b=some (.tbl (ps ++ more)))
  (ns:∀ m,s.heap.Ns X.env.locals m->h'.Ns X.env.locals m) (hok:HOk X.prog X.w H' h') (hg:AllBare g') :
  Inv X pins σ H' { s with heap:=h',gens:=g',drawn:=d',toks:=t' }:=by
 have neL:∀ b o,X.s₀.heap.get? b=some o->b ≠ X.env.locals:=λb o e=>Nat.ne_of_lt (Nat.lt_of_lt_of_le (Heap.lt_size e) I.ok.above)
 have neC:∀ b o,X.s₀.heap.get? b=some o->b ∉ X.ex->b ∉ ch:=λb o e hx hb=>by
  rcases (hch b hb).1 with z | z
  ·exact hx z
  ·exact absurd (Nat.lt_of_lt_of_le (Heap.lt_size e) z) (Nat.lt_irrefl _)
 have cellK:∀ x c,X.env.cells.lookup x=some c->∀ v,s.heap.IsCell c v->h'.IsCell c v:=λx c e v ⟨o,ho,hd⟩=>by
  have nch:c ∉ ch:=λz=>(hch c z).2.2.1 x c e rfl
  by_cases hc:c ∈ X.fs
  ·obtain ⟨sl,q⟩:=slot c o (I.cne x c e) hc nch ho (I.freeC x c e)
   exact ⟨_,q,hd⟩
  ·exact ⟨o,keep c o (I.cne x c e) hc nch ho (I.freeC x c e),hd⟩
 refine ⟨I.ok,I.os,hg,⟨λb o e n hb hx=>?_,λb o e n hb hx=>?_,λb o e n hx=>?_,λb o e hx=>?_,λb xs e=>tups b xs (I.base.tups b xs e),λb o xs e=>frzs b o xs (I.base.frzs b o xs e),λb ps e=>?_⟩,?_,λx c e=>?_,?_,λx c e=>?_,λp hp=>?_,hok,I.len⟩
 ·exact keep b o (neL b o e) hb (neC b o e hx) (I.base.keep b o e n hb hx) (I.base.free b o e n hx)
 ·obtain ⟨sl,e1⟩:=I.base.slot b o e n hb hx
  obtain ⟨sl',e2⟩:=slot b _ (neL b o e) hb (neC b o e hx) e1 (I.base.free b o e n hx)
  exact ⟨sl',e2⟩
 ·obtain ⟨o',e1⟩:=I.base.there b o e hx
  exact free b o' (neC b o e hx) e1 (I.base.free b o e n hx)
 ·obtain ⟨o',e1⟩:=I.base.there b o e hx
  exact there b o' (neC b o e hx) e1
 ·obtain ⟨m1,e1⟩:=I.base.tbls b ps e
  obtain ⟨m2,e2⟩:=tbls b _ e1
  exact ⟨m1 ++ m2,by rw [e2,Array.append_assoc]⟩
 ·obtain ⟨m,hn,hl⟩:=I.loc
  refine ⟨m,ns m hn,λi x v e1 e2 e3=>?_⟩
  obtain ⟨u,r,l⟩:=hl i x v e1 e2 e3
  refine ⟨u,r,?_⟩
  rcases l with l | ⟨k,c,e,z⟩
  ·exact .inl l
  ·exact .inr ⟨k,c,e,cellK x c e _ z⟩
 ·obtain ⟨v,z⟩:=I.cell x c e
  exact ⟨v,cellK x c e v z⟩
 ·obtain ⟨m,⟨o,_,_,ho,_⟩,_⟩:=I.loc
  exact free _ o (λz=>(hch _ z).2.1 rfl) ho I.free
 ·obtain ⟨v,o,ho,hd⟩:=I.cell x c e
  exact free c o (λz=>(hch c z).2.2.1 x c e rfl) ho (I.freeC x c e)
 ·obtain ⟨e,n,ne,nf,d⟩:=I.pin p hp
  have nch:p.1 ∉ ch:=λz=>(hch p.1 z).2.2.2 p hp rfl
  exact ⟨keep p.1 p.2 ne nf nch e n,free p.1 p.2 nch e n,ne,nf,d⟩
theorem Inv.un {t' : Nat} (I:Inv X pins σ H s) (u:Un X.fs [] H H' s.heap h') (hok:HOk X.prog X.w H' h'):Inv X pins σ H' { s with heap:=h',toks:=t' }:=by
 obtain ⟨m,⟨o,es,ep,ho,r⟩,_⟩:=id I.loc
 obtain ⟨sl,hL⟩:=u.any ho I.free (by simp)
 exact I.step (g':=s.gens) (d':=s.drawn) (ch:=[]) (λ_ z=>nomatch z) (λb o _ hb _ e n=>u.keep b o e n hb (by simp)) (λb o _ hb _ e n=>u.slot b o e n hb (by simp)) (λb o _ e n=>u.free b o e n (by simp)) (λb o _ e=>u.there b o e (by simp)) u.tups u.frzs u.tbls (λm' hm=>by
  obtain ⟨o',es',ep',ho',r'⟩:=hm
  rw [ho] at ho';cases ho'
  exact ⟨_,es',ep',hL,r'⟩) hok I.bare
theorem Inv.call {g' : Array GenState} {t' : Nat} {d' : Drawn} {ch:List Addr} (I:Inv X pins σ H s) (u:Un (frs X.stack) ch H H' s.heap h') (hok:HOk X.prog X.w H' h') (hg:AllBare g')
  (hch:∀ b ∈ ch,(b ∈ X.ex\/X.s₀.heap.objs.size<=b)/\b ≠ X.env.locals/\(∀ x c,X.env.cells.lookup x=some c->c ≠ b)/\∀ p ∈ X.pn ++ pins,p.1 ≠ b) :
  Inv X pins σ H' { s with heap:=h',gens:=g',drawn:=d',toks:=t' }:=by
 obtain ⟨m,⟨o,es,ep,ho,r⟩,_⟩:=id I.loc
 obtain ⟨sl,hL⟩:=u.any ho I.free λz=>(hch _ z).2.1 rfl
 exact I.step (ch:=ch) hch (λb o hL hb hc e n=>u.keep b o e n (λz=>(List.mem_cons.mp (I.stkSub b z)).elim hL hb) hc) (λb o _ _ hc e n=>u.any e n hc) (λb o hc e n=>u.free b o e n hc) (λb o hc e=>u.there b o e hc) u.tups u.frzs u.tbls (λm' hm=>by
  obtain ⟨o',es',ep',ho',r'⟩:=hm
  rw [ho] at ho';cases ho'
  exact ⟨_,es',ep',hL,r'⟩) hok hg
theorem Inv.turned {t' : Nat} {it:Addr} (I:Inv X pins σ H s) (k:∀ b o,b ≠ it->s.heap.get? b=some o->h'.get? b=some o) (hn:H it=none) (hL:it ≠ X.env.locals)
  (h1:it ∈ X.ex\/X.s₀.heap.objs.size<=it) (h2:∀ x c,X.env.cells.lookup x=some c->c ≠ it) (h3:∀ p ∈ X.pn ++ pins,p.1 ≠ it):Inv X pins σ H { s with heap:=h',toks:=t' }:=by
 have nit:∀ b u,H b=some u->b ≠ it:=λb u e z=>by rw [z,hn] at e;cases e
 refine I.step (g':=s.gens) (d':=s.drawn) (ch:=[it]) (λb hb=>?_) (λb o _ _ hc e _=>k b o (λz=>hc (by simp [z])) e) (λb o _ _ hc e _=>⟨o.slots,k b o (λz=>hc (by simp [z])) e⟩) (λ_ _ _ _ n=>n)
  (λb o hc e=>⟨o,k b o (λz=>hc (by simp [z])) e⟩) (λ_ _ e=>e) (λ_ _ _ e=>e) (λb ps e=>⟨#[],by rw [e];simp⟩) (λm hm=>?_) (λb u e=>?_) I.bare
 ·have e:b=it:=by simpa using hb
  subst e
  exact ⟨h1,hL,h2,h3⟩
 ·obtain ⟨o,es,ep,ho,r⟩:=hm
  exact ⟨o,es,ep,k _ o (Ne.symm hL) ho,r⟩
 ·refine (I.hok b u e).stay (λc v hc q=>k c v ?_ q) (λ_ q=>q) λ_ _ q=>q
  rcases hc with z | z
  ·rw [z];exact nit b u e
  ·exact nit c _ z
theorem Inv.tok (I:Inv X pins σ H s) (t:Nat):Inv X pins σ H { s with toks:=t }:=I.un (h':=s.heap) (t':=t) Un.refl I.hok
theorem Inv.kept {t' : Nat} (I:Inv X pins σ H s) (k:∀ b u,s.heap.get? b=some u->h'.get? b=some u):Inv X pins σ H { s with heap:=h',toks:=t' }:=I.un (Un.kept k) (I.hok.kept k)
theorem Inv.laid {a:Addr} {o:HO} {t' : Nat} (I:Inv X pins σ H s) (k:∀ b u,s.heap.get? b=some u->h'.get? b=some u) (hp:s.heap.objs.size<=a) (new:bR X.prog X.w (upd H a o) h' a o) :
  Inv X pins σ (upd H a o) { s with heap:=h',toks:=t' }:=I.un (Un.laid k hp (I.hok.fresh hp)) (I.hok.laid k hp new)
theorem Inv.write {x e:Addr} {o:HO} {t' : Nat} (I:Inv X pins σ H s) (mu:Mut (H x)) (he:e=x\/H e=some (.own x)) (k:∀ b u,b ≠ e->s.heap.get? b=some u->h'.get? b=some u) (heo:∃ u,h'.get? e=some u)
  (new:bR X.prog X.w (upd H x o) h' x o):Inv X pins σ (upd H x o) { s with heap:=h',toks:=t' }:=I.un (Un.write mu he k heo) (I.hok.write mu he k heo new)
theorem Inv.pins_of {yf : List (Addr × Obj)} (I:Inv X pins σ H s) (h:∀ p ∈ yf,s.heap.get? p.1=some p.2/\H p.1=none/\p.1 ≠ X.env.locals/\p.1 ∉ X.fs/\∀ v,p.2.data ≠ .cell v):Inv X yf σ H s :=
 ⟨I.ok,I.os,I.bare,I.base,I.loc,I.cell,I.free,I.freeC,λp hp=>(List.mem_append.mp hp).elim (λz=>I.pin p (List.mem_append_left _ z)) (h p),I.hok,I.len⟩
theorem l0 {N:List Str} (hN:N.Nodup) {i j:Nat} {x:Str} (a:N[i]?=some x) (b:N[j]?=some x):i=j:=by
 obtain ⟨h1,e1⟩:=G7.mp a
 obtain ⟨h2,e2⟩:=G7.mp b
 exact (List.getElem_inj hN).mp (e1.trans e2.symm)
theorem kz {M:Model} {A:Around} {E:Value->Shared->Prop} {i:Nat} {x:Str} {v:V} {u:Value} {Q:Unit->Shared->Prop} (I:Inv X pins σ H s) (hN:X.N.Nodup) (hi:X.N[i]?=some x) (hx:Loc X.env.scope x) (r:RelV v u)
  (h:∀ s',Inv X pins (σ.set i (some v)) H s'->(∃ a,Heap.SameBut a s.heap s'.heap/\(a=X.env.locals\/X.env.cells.lookup x=some a))->Q () s') (hf:X.fn x=true\/X.env.scope.names.lookup x=some .local:=by first | exact .inl rfl | exact .inr rfl | assumption):wpAny M A (storeName X.env x u) Q E s:=by
 obtain ⟨m,hn,hl⟩:=id I.loc
 have CH:(X.env.scope.kind == .class || (X.env.scope.kind == .module && X.env.locals != X.env.globals))=false:=by rw [I.ok.kind];rfl
 have hiσ:i < σ.length:=by rw [I.len];exact (G7.mp hi).1
 have cne:=I.cne
 have tracked:∀ {a:Addr} {h' : Heap},(∃ o,s.heap.get? a=some o/\H a=none)->Heap.SameBut a s.heap h'->HOk X.prog X.w H h':=λ{a h'} ha hs b ob e=>by
  obtain ⟨_,_,yg⟩:=ha
  refine (I.hok b ob e).stay (λc w' hc q=>(hs.2 c ?_).trans q) (λ_ q=>q) λ_ _ q=>q
  rintro rfl
  rcases hc with rfl | hc
  ·rw [yg] at e;cases e
  ·rw [yg] at hc;cases hc
 rcases hx with hk | hk
 ·refine wpAny_storeName_local hk hn (λh' hn' hs=>?_) CH
  obtain ⟨oL,_,_,hoL,_⟩:=id hn
  refine h _ ⟨I.ok,I.os,I.bare,⟨λb o e n hb hx=>?_,λb o e n hb hx=>?_,I.base.free,λb o e hx=>?_,I.base.tups,I.base.frzs,I.base.tbls⟩,⟨_,hn',λj y v' e1 e2 e3=>?_⟩,λy c e=>?_,I.free,I.freeC,λp hp=>?_,tracked ⟨oL,hoL,I.free⟩ hs,by simpa using I.len⟩ ⟨_,hs,.inl rfl⟩
  ·exact (hs.2 b (Nat.ne_of_lt (Nat.lt_of_lt_of_le (Heap.lt_size e) I.ok.above))).trans (I.base.keep b o e n hb hx)
  ·obtain ⟨sl,e1⟩:=I.base.slot b o e n hb hx
   exact ⟨sl,(hs.2 b (Nat.ne_of_lt (Nat.lt_of_lt_of_le (Heap.lt_size e) I.ok.above))).trans e1⟩
  ·obtain ⟨o',e1⟩:=I.base.there b o e hx
   exact ⟨o',(hs.2 b (Nat.ne_of_lt (Nat.lt_of_lt_of_le (Heap.lt_size e) I.ok.above))).trans e1⟩
  ·by_cases hj:j=i
   ·subst hj
    rw [hi] at e1;cases e1
    rw [List.getElem?_set_self hiσ] at e2
    cases e2
    exact ⟨u,r,.inl ⟨hk,by simp⟩⟩
   ·rw [List.getElem?_set_ne (Ne.symm hj)] at e2
    obtain ⟨u',r',q⟩:=hl j y v' e1 e2 e3
    refine ⟨u',r',?_⟩
    rcases q with ⟨k,e⟩ | ⟨k,c,e,z⟩
    ·refine .inl ⟨k,?_⟩
     have:y ≠ x:=λe=>hj (l0 hN e1 (e ▸ hi))
     simp [this,e]
    ·exact .inr ⟨k,c,e,z.sameBut hs (cne y c e)⟩
  ·obtain ⟨w',z⟩:=I.cell y c e
   exact ⟨w',z.sameBut hs (cne y c e)⟩
  ·obtain ⟨e,n,ne,nf,d⟩:=I.pin p hp
   exact ⟨(hs.2 p.1 ne).trans e,n,ne,nf,d⟩
 ·have hfn:X.fn x=true:=by
   rcases hf with z | z
   ·exact z
   ·rw [z] at hk;cases hk
  obtain ⟨c,hc⟩:=I.ok.has x (.inl hk)
  obtain ⟨w',z⟩:=I.cell x c hc
  refine wpAny_storeName_cell I.ok.kind hk hc z (λh' hc' hs=>?_)
  obtain ⟨oc,hoc,CI⟩:=id z
  refine h { s with heap:=h' } ⟨I.ok,I.os,I.bare,⟨λb o e n hb hx=>?_,λb o e n hb hx=>?_,I.base.free,λb o e hx=>?_,I.base.tups,I.base.frzs,I.base.tbls⟩,⟨m,hn.sameBut hs (Ne.symm (cne x c hc)),λj y v' e1 e2 e3=>?_⟩,λy c' e=>?_,I.free,I.freeC,λp hp=>?_,tracked ⟨oc,hoc,I.freeC x c hc⟩ hs,by simpa using I.len⟩ ⟨c,hs,.inr hc⟩
  ·exact (hs.2 b (Nat.ne_of_lt (Nat.lt_of_lt_of_le (Heap.lt_size e) (I.ok.cab x c hfn hc)))).trans (I.base.keep b o e n hb hx)
  ·obtain ⟨sl,e1⟩:=I.base.slot b o e n hb hx
   exact ⟨sl,(hs.2 b (Nat.ne_of_lt (Nat.lt_of_lt_of_le (Heap.lt_size e) (I.ok.cab x c hfn hc)))).trans e1⟩
  ·obtain ⟨o',e1⟩:=I.base.there b o e hx
   exact ⟨o',(hs.2 b (Nat.ne_of_lt (Nat.lt_of_lt_of_le (Heap.lt_size e) (I.ok.cab x c hfn hc)))).trans e1⟩
  ·by_cases hj:j=i
   ·subst hj
    rw [hi] at e1;cases e1
    rw [List.getElem?_set_self hiσ] at e2
    cases e2
    exact ⟨u,r,.inr ⟨.inl hk,c,hc,hc'⟩⟩
   ·rw [List.getElem?_set_ne (Ne.symm hj)] at e2
    obtain ⟨u',r',q⟩:=hl j y v' e1 e2 e3
    refine ⟨u',r',?_⟩
    rcases q with q | ⟨k,c',e,z'⟩
    ·exact .inl q
    ·refine .inr ⟨k,c',e,z'.sameBut hs ?_⟩
     rintro rfl
     exact hj (l0 hN e1 (I.ok.inj _ _ _ e hc ▸ hi))
  ·by_cases hcc:c'=c
   ·subst hcc;exact ⟨_,hc'⟩
   ·obtain ⟨w2,z2⟩:=I.cell y c' e
    exact ⟨w2,z2.sameBut hs hcc⟩
  ·obtain ⟨e,n,ne,nf,d⟩:=I.pin p hp
   refine ⟨(hs.2 p.1 ?_).trans e,n,ne,nf,d⟩
   intro q
   rw [q,hoc] at e
   have q' : oc=p.2:=Option.some.inj e
   exact d w' (by rw [← q'];exact CI)
theorem qC {M:Model} {A:Around} {E:Value->Shared->Prop} {i:Nat} {x:Str} {v:V} {u:Value} {Q:Unit->Shared->Prop} (I:Inv X pins σ H s) (hN:X.N.Nodup) (hi:X.N[i]?=some x) (hx:Loc X.env.scope x) (r:RelV v u)
  (h:∀ s',Inv X pins (σ.set i (some v)) H s'->Q () s') (hf:X.fn x=true\/X.env.scope.names.lookup x=some .local:=by first | exact .inl rfl | exact .inr rfl | assumption):wpAny M A (storeName X.env x u) Q E s :=
 kz I hN hi hx r (λs' I' _=>h s' I') hf
theorem Inv.call' {s' : Shared} {ch:List Addr} (I:Inv X pins σ H s) (ho:s'.os=s.os) (u:Un (frs X.stack) ch H H' s.heap s'.heap) (hok:HOk X.prog X.w H' s'.heap) (hg:AllBare s'.gens)
  (hch:∀ b ∈ ch,(b ∈ X.ex\/X.s₀.heap.objs.size<=b)/\b ≠ X.env.locals/\(∀ x c,X.env.cells.lookup x=some c->c ≠ b)/\∀ p ∈ X.pn ++ pins,p.1 ≠ b):Inv X pins σ H' s':=by
 obtain ⟨h',g',d',t',o'⟩:=s'
 have e:o'=s.os:=ho
 subst e
 exact I.call (g':=g') (t':=t') (d':=d') u hok hg hch
end
abbrev XK:=Value->Option Addr->Hp->Prop
abbrev St:=List (Option V)
abbrev VK:=V->Hp->Prop
abbrev TE:=St->Hp->VK->Prop
abbrev TT:=St->Hp->(Bool->Hp->Prop)->Prop
abbrev TA:=St->Hp->(List V->Hp->Prop)->Prop
structure Ends where
 nx:St->Hp->Prop
 rt:VK
 bk:St->Hp->Prop:=λ_ _=>False
 ct:St->Hp->Prop:=λ_ _=>False
abbrev TS:=Ends->St->Hp->Prop
def EP (X:Cx) (pins:List (Addr × Obj)) (σ:St) (Q:VK) (u:Value) (s' : Shared):Prop:=∃ v H',Inv X pins σ H' s'/\RelV v u/\Q v H'
def TP (X:Cx) (pins:List (Addr × Obj)) (σ:St) (Q:Bool->Hp->Prop) (b:Bool) (s' : Shared):Prop:=∃ H',Inv X pins σ H' s'/\Q b H'
def AP (X:Cx) (pins:List (Addr × Obj)) (σ:St) (Q:List V->Hp->Prop) (us:List Value) (s' : Shared):Prop:=∃ vs H',Inv X pins σ H' s'/\Vals vs us/\Q vs H'
def SP (X:Cx) (pins:List (Addr × Obj)) (D:Ends) (f:Flow) (s' : Shared):Prop :=
 match f with
 | .next=>∃ σ' H',Inv X pins σ' H' s'/\D.nx σ' H'
 | .brk=>∃ σ' H',Inv X pins σ' H' s'/\D.bk σ' H'
 | .cont=>∃ σ' H',Inv X pins σ' H' s'/\D.ct σ' H'
 | .ret u=>∃ v σ' H',Inv X pins σ' H' s'/\RelV v u/\D.rt v H'
def PE (X:Cx) (e:Expr) (t:TE):Prop :=
 ∀ (pins:List (Addr × Obj)) (s:Shared) (σ:St) (H:Hp) (Q:VK),Inv X pins σ H s->t σ H Q->wpAny (model X.prog X.w) X.A (eval e X.env) (EP X pins σ Q) X.xe s
def PT (X:Cx) (e:Expr) (t:TT):Prop :=
 ∀ (pins:List (Addr × Obj)) (s:Shared) (σ:St) (H:Hp) (Q:Bool->Hp->Prop),Inv X pins σ H s->t σ H Q->wpAny (model X.prog X.w) X.A (isTrue e X.env (eval e X.env)) (TP X pins σ Q) X.xe s
def PW (X:Cx) (e:Expr) (t:TT):Prop :=
 ∀ (whole:Sem Value) (pins:List (Addr × Obj)) (s:Shared) (σ:St) (H:Hp) (Q:Bool->Hp->Prop),Inv X pins σ H s->t σ H Q->wpAny (model X.prog X.w) X.A (isTrue e X.env whole) (TP X pins σ Q) X.xe s
theorem PW.pt {X:Cx} {e:Expr} {t:TT} (h:PW X e t):PT X e t:=h _
def PA (X:Cx) (es:List Expr) (t:TA):Prop :=
 ∀ (pos:Pos) (pins:List (Addr × Obj)) (s:Shared) (σ:St) (H:Hp) (Q:List V->Hp->Prop),Inv X pins σ H s->t σ H Q->wpAny (model X.prog X.w) X.A (spliced (backTo pos (starEach es X.env))) (AP X pins σ Q) X.xe s
def PS (X:Cx) (st:Stmt) (t:TS):Prop :=
 ∀ (pins:List (Addr × Obj)) (s:Shared) (σ:St) (H:Hp) (D:Ends),Inv X pins σ H s->t D σ H->wpAny (model X.prog X.w) X.A (exec st X.env) (SP X pins D) X.xe s
def PSs (X:Cx) (st:List Stmt) (t:TS):Prop :=
 ∀ (pins:List (Addr × Obj)) (s:Shared) (σ:St) (H:Hp) (D:Ends),Inv X pins σ H s->t D σ H->wpAny (model X.prog X.w) X.A (execs st X.env) (SP X pins D) X.xe s
theorem thn {α:Type} {t:Sem α} {Q Q' : α->Shared->Prop} {M:Model} {A:Around} {E:Value->Shared->Prop} {s:Shared} (h:wpAny M A t Q E s) (hQ:∀ a s,Q a s->Q' a s):wpAny M A t Q' E s:=wpAny_mono h hQ λ_ _ x=>x
end L2
namespace L2
open PySem PySem.Spec PyProof.Rows
section
variable {X:Cx}
def Bu (i:Nat):TE:=λσ H Q=>∃ v,σ[i]?=some (some v)/\Q v H
def tC (v:V):TE:=λ_ H Q=>Q v H
theorem y9 {i:Nat} {x:Str} {pos:Pos} (hN:X.N[i]?=some x) (hv:Vis X.env.scope x) (hd:(x == ("__debug__" : Str))=false:=by decide) (hcd:(x == ("__classdict__" : Str))=false:=by decide):PE X (.Name x pos) (Bu i):=by
 intro pins s σ H Q I h
 obtain ⟨v,e,h⟩:=h
 obtain ⟨m,hn,hl⟩:=I.loc
 obtain ⟨u,r,l⟩:=hl i x v hN e hv
 have fin:EP X pins σ Q u s:=⟨v,H,I,r,h⟩
 rcases l with ⟨hk,hm⟩ | ⟨hk,c,hc,yh⟩
 ·exact wpAny_Name (wpAny_loadName_local I.ok.kind hk hn hm fin) hd
 ·rcases hk with hk | hk
  ·exact wpAny_Name (wpAny_loadName_cell I.ok.kind hk hc yh fin) hd
  ·exact wpAny_Name (wpAny_loadName_free I.ok.kind hk hc yh fin hcd) hd
theorem aj {i j pos} : PE X (.Constant (.int i) j pos) (tC (.int i)):=λ_ _ _ H _ I h=>wpAny_Constant_int ⟨.int i,H,I.tok _,⟨_,rfl⟩,h⟩
theorem fE {b j pos} : PE X (.Constant (.bool b) j pos) (tC (.bl b)):=λ_ _ _ H _ I h=>Constant_bool ⟨.bl b,H,I,rfl,h⟩
theorem uR {j pos} : PE X (.Constant .none j pos) (tC .non):=λ_ _ _ H _ I h=>Constant_none ⟨.non,H,I,rfl,h⟩
theorem aT {x j pos} : PE X (.Constant (.str x) j pos) (tC (.str x)):=λ_ _ _ H _ I h=>Calls.Constant_str ⟨.str x,H,I.tok _,⟨_,rfl⟩,h⟩
def Gl (X:Cx) (x:Str):Prop:=X.env.kindOf x=some .globalImplicit
theorem fW {E:Value->Shared->Prop} {pins:List (Addr × Obj)} {s:Shared} {σ:St} {H:Hp} {x:Str} {u:Value} {pos:Pos} {Q:Value->Shared->Prop} (I:Inv X pins σ H s) (hg:Gl X x) (hm:X.mg x=some u) (h:Q u s)
  (hd:(x == ("__debug__" : Str))=false:=by decide):wpAny (model X.prog X.w) X.A (eval (.Name x pos) X.env) Q E s :=
 Calls.Name_function_global I.ok.kind hg (Calls.loadGlobal_global (by rw [I.ok.glob];exact I.mod.glob.keeps I.bk) hm h) hd
theorem i3 {E:Value->Shared->Prop} {pins:List (Addr × Obj)} {s:Shared} {σ:St} {H:Hp} {x:Str} {u:Value} {pos:Pos} {Q:Value->Shared->Prop} (I:Inv X pins σ H s) (hg:Gl X x) (hm:X.mg x=none) (hv:bootBuiltins x=some u) (h:Q u s)
  (hn:x ≠ "__name__" := by decide) (hd:(x == ("__debug__" : Str))=false:=by decide):wpAny (model X.prog X.w) X.A (eval (.Name x pos) X.env) Q E s:=by
 obtain ⟨mb,h1,h2⟩:=I.mod.blt
 exact Calls.Name_function_global I.ok.kind hg (Calls.loadGlobal_builtin (by rw [I.ok.glob];exact I.mod.glob.keeps I.bk) hm (by rw [I.ok.blt];exact h1.keeps I.bk) ((h2 x hn).trans hv) h) hd
theorem cK {x:Str} {v:V} {u:Value} {pos:Pos} (hg:Gl X x) (hm:X.mg x=some u) (r:RelV v u) (hd:(x == ("__debug__" : Str))=false:=by decide):PE X (.Name x pos) (tC v) :=
 λ_ _ _ H _ I h=>fW I hg hm ⟨v,H,I,r,h⟩ hd
theorem lB {x:Str} {v:V} {u:Value} {pos:Pos} (hg:Gl X x) (hm:X.mg x=none) (hv:bootBuiltins x=some u) (r:RelV v u) (hn:x ≠ "__name__" := by decide) (hd:(x == ("__debug__" : Str))=false:=by decide):PE X (.Name x pos) (tC v) :=
 λ_ _ _ H _ I h=>i3 I hg hm hv ⟨v,H,I,r,h⟩ hn hd
variable {a b:Expr} {ta tb:TE} {pos:Pos}
def tB (t:TE):TT:=λσ H Q=>t σ H λx H1=>∃ c,x=.bl c/\Q c H1
theorem cG {e:Expr} {t:TE} (h:PE X e t) (he:∀ whole,isTrue e X.env whole=(do let v ← whole;standAt e.pos;holding [v] (truthy v)):=by intro _;rfl):PT X e (tB t):=by
 intro pins s σ H Q I hw
 refine isTrue_plain (thn (h pins s σ H _ I hw) λv s1 ⟨x,H1,I1,r1,q1⟩=>?_) (he _)
 obtain ⟨d,rfl,q⟩:=q1
 cases r1
 exact wpAny_truthy_bool ⟨H1,I1,q⟩
variable {tA tB' : TT} {rest:List Expr}
def CJ (t u:TT):TT:=λσ H Q=>t σ H λc H1=>if c=true then u σ H1 Q else Q false H1
def tOr (t u:TT):TT:=λσ H Q=>t σ H λc H1=>if c=true then Q true H1 else u σ H1 Q
def CK (t:TT):TT:=λσ H Q=>t σ H λc H1=>Q (!c) H1
theorem d8 (ha:PT X a tA):PW X (.BoolOp .And [a] pos) tA:=by
 intro wh pins s σ H Q I h
 refine isTrue_and (thn (ha pins s σ H Q I h) λc s1 e=>?_)
 cases c with
 | true=>exact isTrue_and_nil e
 | false=>exact e
theorem l5 (ha:PT X a tA):PW X (.BoolOp .Or [a] pos) tA:=by
 intro wh pins s σ H Q I h
 refine isTrue_or (thn (ha pins s σ H Q I h) λc s1 e=>?_)
 cases c with
 | false=>exact isTrue_or_nil e
 | true=>exact e
theorem fX (ha:PT X a tA) (hb:PW X (.BoolOp .And (b :: rest) pos) tB'):PW X (.BoolOp .And (a :: b :: rest) pos) (CJ tA tB'):=by
 intro wh pins s σ H Q I h
 refine isTrue_and (thn (ha pins s σ H _ I h) λc s1 ⟨H1,I1,q1⟩=>?_)
 cases c with
 | true=>exact hb wh pins s1 σ H1 Q I1 q1
 | false=>exact ⟨H1,I1,q1⟩
theorem nX (ha:PT X a tA) (hb:PW X (.BoolOp .Or (b :: rest) pos) tB'):PW X (.BoolOp .Or (a :: b :: rest) pos) (tOr tA tB'):=by
 intro wh pins s σ H Q I h
 refine isTrue_or (thn (ha pins s σ H _ I h) λc s1 ⟨H1,I1,q1⟩=>?_)
 cases c with
 | true=>exact ⟨H1,I1,q1⟩
 | false=>exact hb wh pins s1 σ H1 Q I1 q1
theorem cw (ha:PT X a tA):PT X (.UnaryOp .Not a pos) (CK tA):=by
 intro pins s σ H Q I h
 exact isTrue_not (ha pins s σ H (λc H1=>Q (!c) H1) I h)
def Bv (ta tb:TE):TE:=λσ H Q=>ta σ H λx H1=>∃ c,x=.bl c/\if c=true then tb σ H1 Q else Q (.bl false) H1
def Bw (ta:TE):TE:=λσ H Q=>ta σ H λx H1=>∃ c,x=.bl c/\Q (.bl (!c)) H1
theorem i4 {op} {t:TE} (h:PE X a t):PE X (.BoolOp op [a] pos) t:=λpins s σ H Q I hw=>BoolOp_one (h pins s σ H Q I hw)
theorem fe (ha:PE X a ta) (hb:PE X (.BoolOp .And (b :: rest) pos) tb):PE X (.BoolOp .And (a :: b :: rest) pos) (Bv ta tb):=by
 intro pins s σ H Q I h
 refine BoolOp_and (thn (ha pins s σ H _ I h) λv s1 ⟨x,H1,I1,r1,q1⟩=>?_)
 obtain ⟨c,rfl,q1⟩:=q1
 cases r1
 refine wpAny_truthy_bool ?_
 cases c with
 | true=>exact hb pins s1 σ H1 Q I1 q1
 | false=>exact ⟨.bl false,H1,I1,rfl,q1⟩
theorem za (ha:PE X a ta):PE X (.UnaryOp .Not a pos) (Bw ta):=by
 intro pins s σ H Q I h
 refine UnaryOp_ (thn (ha pins s σ H _ I h) λv s1 ⟨x,H1,I1,r1,q1⟩=>?_)
 obtain ⟨c,rfl,q1⟩:=q1
 cases r1
 exact not_of (wpAny_truthy_bool ⟨.bl (!c),H1,I1,rfl,q1⟩)
def tIf (t:TT) (ta tb:TE):TE:=λσ H Q=>t σ H λc H1=>if c=true then ta σ H1 Q else tb σ H1 Q
theorem qD {c:Expr} (hc:PT X c tA) (ha:PE X a ta) (hb:PE X b tb):PE X (.IfExp c a b pos) (tIf tA ta tb):=by
 intro pins s σ H Q I h
 refine wpAny_IfExp (thn (hc pins s σ H _ I h) λd s1 ⟨H1,I1,q1⟩=>?_)
 cases d with
 | true=>exact ha pins s1 σ H1 Q I1 q1
 | false=>exact hb pins s1 σ H1 Q I1 q1
end
end L2
namespace L2
open PySem PySem.Spec PyProof.Rows
def SqL (K:PySem.W.Frag) (H:Hp) (a:Addr) (xs:List V):Prop :=
 Rd H a (.lst xs) \/
  ∃ (o:Obj) (its:Array Value) (n:Nat),K.lookup a=some o/\o.cls=.type "list" /\ o.dict=none/\o.data=.seq its n/\its.size<=sizeLine/\Vals xs its.toList
def SqT (K:PySem.W.Frag) (H:Hp) (a:Addr) (xs:List V):Prop :=
 Rd H a (.tup xs) \/
  ∃ (o:Obj) (its:Array Value) (n:Nat),K.lookup a=some o/\o.cls=.type "tuple" /\ o.data=.seq its n/\its.size<=sizeLine/\Vals xs its.toList
def CM:Value->Option V
 | .none=>some .non
 | .bool b=>some (.bl b)
 | .int i _=>some (.int i)
 | .str x _=>some (.str x)
 | .bytes b _=>some (.byt b)
 | .float b _=>some (.flt b)
 | .ref a=>some (.ref a)
 | .type n=>some (.ty n)
 | _=>none
theorem RelV.abs {x:V} {u:Value} (r:RelV x u):CM u=some x:=by
 cases x with
 | non=>cases r;rfl
 | bl _=>cases r;rfl
 | int _=>obtain ⟨t,rfl⟩:=r;rfl
 | str _=>obtain ⟨t,rfl⟩:=r;rfl
 | byt _=>obtain ⟨t,rfl⟩:=r;rfl
 | flt _=>obtain ⟨t,rfl⟩:=r;rfl
 | ref _=>cases r;rfl
 | ty _=>cases r;rfl
theorem RelV.inj {x y:V} {u:Value} (r:RelV x u) (q:RelV y u):x=y:=Option.some.inj (r.abs.symm.trans q.abs)
theorem Vals.inj:∀ {xs ys:List V} {us:List Value},Vals xs us->Vals ys us->xs=ys
 | _,_,_,.nil,.nil=>rfl
 | _,_,_,.cons r t,.cons r' t'=>by rw [r.inj r',Vals.inj t t']
section
variable {X:Cx} {pins:List (Addr × Obj)} {σ:St} {H:Hp} {s:Shared} {a:Addr} {xs ys:List V}
theorem SqL.of {K:PySem.W.Frag} (h:H a=some (.lst xs)):SqL K H a xs:=.inl (.inl h)
theorem SqT.of {K:PySem.W.Frag} (h:H a=some (.tup xs)):SqT K H a xs:=.inl (.inl h)
theorem Inv.list (I:Inv X pins σ H s) (h:SqL X.K H a xs):∃ its:List Value,Vals xs its/\PlainL s.heap a its.toArray/\xs.length<=sizeLine:=by
 rcases h with h | ⟨o,its,n,hk,hc,hd,hs,hz,r⟩
 ·obtain ⟨z,its,n,r,e⟩:=h.ok I.hok
  exact ⟨its,r,⟨_,n,e,rfl,rfl,rfl⟩,z⟩
 ·refine ⟨its.toList,r,⟨o,n,I.kIn a o hk,hc,hd,by simpa using hs⟩,?_⟩
  have e:=r.length
  simp only [Array.length_toList] at e
  lia
theorem Inv.tuple (I:Inv X pins σ H s) (h:SqT X.K H a xs):∃ its:List Value,Vals xs its/\IsTup s.heap a its.toArray/\xs.length<=sizeLine:=by
 rcases h with h | ⟨o,its,n,hk,hc,hs,hz,r⟩
 ·obtain ⟨z,its,r,p⟩:=h.ok I.hok
  exact ⟨its,r,p,z⟩
 ·refine ⟨its.toList,r,⟨o,I.kIn a o hk,hc,n,by simpa using hs⟩,?_⟩
  have e:=r.length
  simp only [Array.length_toList] at e
  lia
theorem Inv.list_inj (I:Inv X pins σ H s) (h:SqL X.K H a xs) (h' : SqL X.K H a ys):xs=ys:=by
 obtain ⟨its,r,⟨o,n,e,_,_,d⟩,_⟩:=I.list h
 obtain ⟨its',r',⟨o',n',e',_,_,d'⟩,_⟩:=I.list h'
 rw [e] at e';cases e'
 rw [d] at d'
 injection d' with d1 _
 have:its=its':=by simpa using congrArg Array.toList d1
 subst this
 exact r.inj r'
theorem Inv.tuple_inj (I:Inv X pins σ H s) (h:SqT X.K H a xs) (h' : SqT X.K H a ys):xs=ys:=by
 obtain ⟨its,r,⟨o,e,_,n,d⟩,_⟩:=I.tuple h
 obtain ⟨its',r',⟨o',e',_,n',d'⟩,_⟩:=I.tuple h'
 rw [e] at e';cases e'
 rw [d] at d'
 injection d' with d1 _
 have:its=its':=by simpa using congrArg Array.toList d1
 subst this
 exact r.inj r'
end
abbrev Cx.wish (X:Cx) (E:Value->Shared->Prop):Cx:={ X with xe:=E }
abbrev Cx.nox (X:Cx):Cx:=X.wish λ_ _=>False
theorem Cx.Ok.wish {X:Cx} (ok:X.Ok) (E:Value->Shared->Prop):(X.wish E).Ok :=
 ⟨ok.mod,ok.kind,ok.glob,ok.blt,ok.above,ok.inj,ok.has,ok.cab,ok.hd,ok.frames,ok.stk,ok.exf,ok.bs,ok.bsz,ok.noex,ok.exfs,ok.funs,ok.frf⟩
theorem Cx.Ok.unwish {X:Cx} {E:Value->Shared->Prop} (ok:(X.wish E).Ok):X.Ok :=
 ⟨ok.mod,ok.kind,ok.glob,ok.blt,ok.above,ok.inj,ok.has,ok.cab,ok.hd,ok.frames,ok.stk,ok.exf,ok.bs,ok.bsz,ok.noex,ok.exfs,ok.funs,ok.frf⟩
section
variable {X:Cx} {pins:List (Addr × Obj)} {σ:St} {H:Hp} {s:Shared} {E:Value->Shared->Prop}
theorem Inv.wish (I:Inv X pins σ H s) (E:Value->Shared->Prop):Inv (X.wish E) pins σ H s:=⟨I.ok.wish E,I.os,I.bare,I.base,I.loc,I.cell,I.free,I.freeC,I.pin,I.hok,I.len⟩
theorem Inv.unwish (I:Inv (X.wish E) pins σ H s):Inv X pins σ H s:=⟨I.ok.unwish,I.os,I.bare,I.base,I.loc,I.cell,I.free,I.freeC,I.pin,I.hok,I.len⟩
theorem SP.unwish {D:Ends} {f:Flow} {s' : Shared} (h:SP (X.wish E) pins D f s'):SP X pins D f s':=by
 cases f with
 | next=>obtain ⟨σ',H',I,q⟩:=h;exact ⟨σ',H',I.unwish,q⟩
 | brk=>obtain ⟨σ',H',I,q⟩:=h;exact ⟨σ',H',I.unwish,q⟩
 | cont=>obtain ⟨σ',H',I,q⟩:=h;exact ⟨σ',H',I.unwish,q⟩
 | ret u=>obtain ⟨v,σ',H',I,r,q⟩:=h;exact ⟨v,σ',H',I.unwish,r,q⟩
theorem PSs.nox {st:List Stmt} {t:TS} (h:PSs X.nox st t):PSs X st t:=λpins s σ H D I hw =>
 wpAny_mono (h pins s σ H D (I.wish _) hw) (λ_ _ q=>q.unwish) λ_ _ z=>False.elim z
end
section
variable {X:Cx} {st:Stmt} {rest:List Stmt} {t u:TS} {e:Expr} {te:TE} {pos:Pos}
def Bx:TS:=λD σ H=>D.nx σ H
def CN (t u:TS):TS:=λD σ H=>t { D with nx:=u D } σ H
theorem aI:PSs X [] Bx:=λ_ _ σ H _ I h=>wpAny_execs_nil ⟨σ,H,I,h⟩
theorem aC (h1:PS X st t) (h2:PSs X rest u):PSs X (st :: rest) (CN t u):=by
 intro pins s σ H D I h
 refine wpAny_execs_cons (thn (h1 pins s σ H { D with nx:=u D } I h) λf s1 q=>?_)
 cases f with
 | next =>
  obtain ⟨σ',H',I',q⟩:=q
  exact h2 pins s1 σ' H' D I' q
 | ret v=>exact q
 | brk=>exact q
 | cont=>exact q
theorem ah (h1:PS X st t):PSs X [st] t:=by
 intro pins s σ H D I h
 refine wpAny_execs_cons (thn (h1 pins s σ H D I h) λf s1 q=>?_)
 cases f with
 | next=>exact wpAny_execs_nil q
 | ret v=>exact q
 | brk=>exact q
 | cont=>exact q
theorem Inv.quiet {pins:List (Addr × Obj)} {σ:St} {H:Hp} {s:Shared} (I:Inv X pins σ H s):interactive X.env=false:=by simp [interactive,I.ok.kind]
def By (te:TE):TS:=λD σ H=>te σ H λ_ H1=>D.nx σ H1
theorem aV (he:PE X e te) (hs:swapsWith e none pos.line X.env=pure false:=by rfl):PS X (.Expr e pos) (By te):=by
 intro pins s σ H D I h
 exact wpAny_Expr_any (thn (he pins s σ H _ I h) λv s1 ⟨x,H1,I1,r1,q1⟩=>⟨σ,H1,I1,q1⟩) I.quiet hs
def CO (te:TE):TS:=λD σ H=>te σ H D.rt
theorem aH (he:PE X e te):PS X (.Return (some e) pos) (CO te):=by
 intro pins s σ H D I h
 exact wpAny_Return_some (thn (he pins s σ H _ I h) λv s1 ⟨x,H1,I1,r1,q1⟩=>⟨x,σ,H1,I1,r1,q1⟩)
def CP (c:TT) (t u:TS):TS:=λD σ H=>c σ H λb H1=>if b=true then t D σ H1 else u D σ H1
theorem aR {c:Expr} {a b:List Stmt} {tc:TT} (hc:PT X c tc) (ha:PSs X a t) (hb:PSs X b u):PS X (.If c a b pos) (CP tc t u):=by
 intro pins s σ H D I h
 refine wpAny_If (thn (hc pins s σ H _ I h) λd s1 ⟨H1,I1,q1⟩=>?_)
 cases d with
 | true=>exact ha pins s1 σ H1 D I1 q1
 | false=>exact hb pins s1 σ H1 D I1 q1
def zb:TS:=λ_ _ _=>False
theorem ba:PS X st zb:=λ_ _ _ _ _ _ h=>h.elim
end
abbrev TG:=V->St->Hp->(St->Hp->Prop)->Prop
abbrev TGs:=List V->St->Hp->(St->Hp->Prop)->Prop
def PG (X:Cx) (target:Expr) (t:TG):Prop :=
 ∀ (pins:List (Addr × Obj)) (s:Shared) (σ:St) (H:Hp) (v:V) (u:Value) (Q:St->Hp->Prop),Inv X pins σ H s->RelV v u->t v σ H Q ->
  wpAny (model X.prog X.w) X.A (assign target X.env u) (λ_ s'=>∃ σ' H',Inv X pins σ' H' s'/\Q σ' H') X.xe s
def PGs (X:Cx) (ts:List Expr) (t:TGs):Prop :=
 ∀ (pins:List (Addr × Obj)) (s:Shared) (σ:St) (H:Hp) (vs:List V) (us:List Value) (Q:St->Hp->Prop),Inv X pins σ H s->Vals vs us->t vs σ H Q ->
  wpAny (model X.prog X.w) X.A (assignInOrder ((assignEach ts X.env).map (·.2)) us) (λ_ s'=>∃ σ' H',Inv X pins σ' H' s'/\Q σ' H') X.xe s
abbrev zc:=V->V->V->Hp->(Hp->Prop)->Prop
def Bz (X:Cx) (t:zc):Prop :=
 ∀ (pins:List (Addr × Obj)) (s:Shared) (σ:St) (H:Hp) (o i v:V) (ov iv u:Value) (Q:Hp->Prop),Inv X pins σ H s->RelV o ov->RelV i iv->RelV v u->t o i v H Q ->
  wpAny (model X.prog X.w) X.A (setItem ov iv u) (λ_ s'=>∃ H',Inv X pins σ H' s'/\Q H') X.xe s
section
variable {X:Cx} {pos:Pos}
def nZ (i:Nat):TG:=λv σ H Q=>Q (σ.set i (some v)) H
theorem aF {i:Nat} {x:Str} (hN:X.N.Nodup) (hi:X.N[i]?=some x) (hx:Loc X.env.scope x) (hf:X.fn x=true\/X.env.scope.names.lookup x=some .local:=by first | exact .inl rfl | exact .inr rfl | assumption):PG X (.Name x pos) (nZ i):=by
 intro pins s σ H v u Q I r h
 exact wpAny_assign_Name (qC I hN hi hx r (λs' I'=>⟨_,H,I',h⟩) hf)
def CQ:TGs:=λvs σ H Q=>vs=[]/\Q σ H
def BA (t:TG) (u:TGs):TGs:=λvs σ H Q=>∃ v r,vs=v :: r/\t v σ H λσ' H'=>u r σ' H' Q
theorem bO:PGs X [] CQ:=by
 intro pins s σ H vs us Q I r h
 obtain ⟨e,h⟩:=h
 subst e
 cases r
 exact assignInOrder_nil ⟨σ,H,I,h⟩
theorem aN {e:Expr} {es:List Expr} {t:TG} {u:TGs} (h1:PG X e t) (h2:PGs X es u)
  (hs:(assignEach (e :: es) X.env).map (·.2)=assign e X.env :: (assignEach es X.env).map (·.2):=by rfl):PGs X (e :: es) (BA t u):=by
 intro pins s σ H vs us Q I r h
 obtain ⟨v,vr,e1,h⟩:=h
 subst e1
 cases r with
 | cons r rr =>
  rw [hs]
  refine assignInOrder_cons (thn (h1 pins s σ H _ _ _ I r h) λ_ s1 ⟨σ1,H1,I1,q1⟩=>?_)
  exact h2 pins s1 σ1 H1 _ _ Q I1 rr q1
def BB (K:PySem.W.Frag) (n:Nat) (t:TGs):TG:=λv σ H Q=>∃ a xs,v=.ref a/\SqT K H a xs/\xs.length=n/\t xs σ H Q
theorem dr {es:List Expr} {k:Nat} {t:TGs} {n:Nat} (hc:X.calm=true) (h:PGs X es t)
  (hn:(assignEach es X.env).length=n:=by rfl) (hst:(assignEach es X.env).findIdx? (·.1)=none:=by rfl):PG X (.Tuple es k pos) (BB X.K n t):=by
 intro pins s σ H v u Q I r hw
 obtain ⟨a,xs,e1,hq,hl,hw⟩:=hw
 subst e1
 cases r
 obtain ⟨its,rv,ht,hz⟩:=I.tuple hq
 refine assign_Tuple_tuple (I.ok.hd hc) ht (by simp [hn,← hl,rv.length]) hst λh' hx=>?_
 have I1:Inv X pins σ H { s with heap:=h' }:=I.kept (t':=s.toks) λb o e=>hx b o (Nat.ne_of_lt (Heap.lt_size e)) e
 exact h pins _ σ H xs _ Q I1 (by simpa using rv) hw
def CS (to ti:TE) (t:zc):TG:=λv σ H Q=>to σ H λo H1=>ti σ H1 λi H2=>t o i v H2 λH3=>Q σ H3
theorem zd {o i:Expr} {to ti:TE} {t:zc} (ho:PE X o to) (hi:PE X i ti) (hs:Bz X t)
  (ha:∀ v,assign (.Subscript o i pos) X.env v=(do
   let ov ← holding [v] (eval o X.env)
   let iv ← holding [v,ov] (eval i X.env)
   standAt pos
   holding [v,ov,iv] (setItem ov iv v)
   release [v,ov,iv] []):=by intro _;rfl):PG X (.Subscript o i pos) (CS to ti t):=by
 intro pins s σ H v u Q I r h
 rw [ha]
 refine wpAny_bind (wpAny_holding (thn (ho pins s σ H _ I h) λov s1 ⟨x,H1,I1,r1,q1⟩=>?_))
 refine wpAny_bind (wpAny_holding (thn (hi pins s1 σ H1 _ I1 q1) λiv s2 ⟨y,H2,I2,r2,q2⟩=>?_))
 refine wpAny_bind (wpAny_standAt (wpAny_bind (wpAny_holding (thn (hs pins s2 σ H2 x y v ov iv u _ I2 r1 r2 r q2) λ_ s3 ⟨H3,I3,q3⟩=>?_))))
 exact wpAny_release ⟨σ,H3,I3,q3⟩
def xf (te:TE) (g:TG):TS:=λD σ H=>te σ H λx H1=>g x σ H1 D.nx
theorem i5 {tg e:Expr} {te:TE} {g:TG} (he:PE X e te) (hg:PG X tg g) (hs:swapsWithSole [tg] e pos.line X.env=pure false:=by rfl) (hw:swappedStores [tg] e X.env=pure none:=by rfl)
  (h1:(assignEach [tg] X.env).map (·.2)=[assign tg X.env]:=by rfl):PS X (.Assign [tg] e pos) (xf te g):=by
 intro pins s σ H D I h
 refine wpAny_Assign_stores (thn (he pins s σ H _ I h) λv s1 ⟨x,H1,I1,r1,q1⟩=>?_) hs hw
 rw [h1]
 exact thn (hg pins s1 σ H1 x v _ I1 r1 q1) λ_ s2 q=>q
theorem aL {i:Nat} {x:Str} {e:Expr} {te:TE} {pos' : Pos} (hN:X.N.Nodup) (hi:X.N[i]?=some x) (hx:Loc X.env.scope x) (he:PE X e te) (hs:swapsWith e (some (.Name x pos')) pos.line X.env=pure false:=by rfl) (hf:X.fn x=true\/X.env.scope.names.lookup x=some .local:=by first | exact .inl rfl | exact .inr rfl | assumption) :
  PS X (.Assign [.Name x pos'] e pos) (xf te (nZ i)):=by
 intro pins s σ H D I h
 refine wpAny_Assign_Name (thn (he pins s σ H _ I h) λv s1 ⟨y,H1,I1,r1,q1⟩=>?_) hs
 exact qC I1 hN hi hx r1 (λs2 I2=>⟨_,H1,I2,q1⟩) hf
end
section
variable {X:Cx} {pos:Pos}
def ze (c:TT) (tb:TS):TS:=λD σ H=>∃ W:Nat->St->Hp->Prop,(∃ m,W m σ H)/\∀ m σ H,W m σ H ->
 c σ H λb H1=>if b=true then ∃ N:St->Hp->Prop,(∀ σ' H',N σ' H'->∃ m',m' < m/\W m' σ' H')/\tb { D with nx:=N,ct:=N,bk:=D.nx } σ H1 else D.nx σ H1
theorem uS {c:Expr} {body:List Stmt} {tc:TT} {tb:TS} (hp:PassesOwn (model X.prog X.w) X.A X.env X.xe) (hc:PT X c tc) (hb:PSs X body tb):PS X (.While c body [] pos) (ze tc tb):=by
 intro pins s σ H D I h
 obtain ⟨W,⟨m0,w0⟩,turn⟩:=h
 refine wpAny_While (codeAny_whileLoop (λn s'=>∃ σ' H',Inv X pins σ' H' s'/\W n σ' H') ?_ m0 ⟨σ,H,I,w0⟩)
 rintro n s1 ⟨σ1,H1,I1,w1⟩
 refine wpAny_passesOwn hp (thn (hc pins s1 σ1 H1 _ I1 (turn n σ1 H1 w1)) λb s2 ⟨H2,I2,q2⟩=>?_)
 cases b with
 | true =>
  obtain ⟨N,hN,q2⟩:=q2
  rw [if_pos rfl]
  refine wpAny_passesOwn hp (thn (hb pins s2 σ1 H2 _ I2 q2) λf s3 q3=>?_)
  cases f with
  | next =>
   obtain ⟨σ3,H3,I3,n3⟩:=q3
   obtain ⟨m',hm,w3⟩:=hN σ3 H3 n3
   exact ⟨m',hm,σ3,H3,I3,w3⟩
  | cont =>
   obtain ⟨σ3,H3,I3,n3⟩:=q3
   obtain ⟨m',hm,w3⟩:=hN σ3 H3 n3
   exact ⟨m',hm,σ3,H3,I3,w3⟩
  | brk=>exact q3
  | ret v=>exact q3
 | false =>
  rw [if_neg Bool.false_ne_true]
  exact wpAny_execs_nil ⟨σ1,H2,I2,q2⟩
end
structure It where
 go:Nat->Hp->Prop
 yld:Nat->Hp->V->Hp->Prop
 stop:Nat->Hp->Prop
def kA (X:Cx) (pins:List (Addr × Obj)) (H:Hp) (b:Addr):Prop :=
 H b=none/\b ≠ X.env.locals/\b ∉ X.fs/\(b ∈ X.ex\/X.s₀.heap.objs.size<=b)/\(∀ x c,X.env.cells.lookup x=some c->c ≠ b)/\∀ p ∈ X.pn ++ pins,p.1 ≠ b
theorem Inv.fpOk {X:Cx} {pins:List (Addr × Obj)} {σ:St} {H H' : Hp} {s:Shared} {b:Addr} (I:Inv X pins σ H s) (hb:s.heap.objs.size<=b) (hn:H' b=none):kA X pins H' b:=by
 refine ⟨hn,Nat.ne_of_gt (Nat.lt_of_lt_of_le I.lt hb),I.nofs hb,.inr (Nat.le_trans I.sz hb),λx c e z=>?_,λp hp z=>?_⟩
 ·obtain ⟨v,q⟩:=I.cell x c e
  exact absurd (Nat.lt_of_lt_of_le q.lt (by rw [z];exact hb)) (Nat.lt_irrefl _)
 ·exact absurd (Nat.lt_of_lt_of_le (Heap.lt_size (I.pin p hp).1) (by rw [z];exact hb)) (Nat.lt_irrefl _)
structure Turn (P:Program) (w:World) (K:PySem.W.Frag) (tg:Expr) (J:It) (fp:List Addr) (it:Addr) (tn:Nat->Heap->Prop):Prop where
 mem:it ∈ fp
 obj:∀ i h,tn i h->∀ b ∈ fp,∃ o,h.get? b=some o/\∀ v,o.data ≠ .cell v
 keep:∀ i h h',tn i h->(∀ b ∈ fp,∀ o,h.get? b=some o->h'.get? b=some o)->tn i h'
 item:∀ (X:Cx),X.prog=P->X.w=w->X.K=K->X.calm=true->∀ (i:Nat) (pins:List (Addr × Obj)) (s:Shared) (σ:St) (H:Hp) (E:Value->Shared->Prop),Inv X pins σ H s->(∀ b ∈ fp,kA X pins H b)->tn i s.heap->J.go i H ->
  wpAny (model P w) X.A (pyNext (.ref it)) (λr s1=>∃ u,r=some u /\
   wpAny (model P w) X.A (letOwnedTupleGo tg (.ref it) u) (λ_ s2=>∃ x H',Inv X pins σ H' s2/\RelV x u/\J.yld i H x H'/\tn (i+1) s2.heap/\∀ b ∈ fp,H' b=none) E s1) E s
 done:∀ (X:Cx),X.prog=P->X.w=w->X.K=K->X.calm=true->∀ (i:Nat) (pins:List (Addr × Obj)) (s:Shared) (σ:St) (H:Hp) (E:Value->Shared->Prop),Inv X pins σ H s->(∀ b ∈ fp,kA X pins H b)->tn i s.heap->J.stop i H ->
  wpAny (model P w) X.A (pyNext (.ref it)) (λr s1=>r=none/\Inv X pins σ H s1) E s
 self:∀ (A:Around) (i:Nat) (s:Shared) (Q:Value->Shared->Prop) (E:Value->Shared->Prop),tn i s.heap->Q (.ref it) s->wpAny (model P w) A (pyIter (.ref it)) Q E s
abbrev TI:=St->Hp->(It->Hp->Prop)->Prop
def PIE (X:Cx) (pins:List (Addr × Obj)) (σ:St) (tg:Expr) (R:It->Hp->Prop) (itv:Value) (s2:Shared):Prop :=
 ∃ (it:Addr) (fp:List Addr) (tn:Nat->Heap->Prop) (J:It) (H' : Hp),itv=.ref it/\Inv X pins σ H' s2/\Turn X.prog X.w X.K tg J fp it tn/\tn 0 s2.heap/\(∀ b ∈ fp,kA X pins H' b)/\R J H'
def PI (X:Cx) (tg iter:Expr) (wi:TI):Prop :=
 ∀ (pins:List (Addr × Obj)) (s:Shared) (σ:St) (H:Hp) (R:It->Hp->Prop),Inv X pins σ H s->wi σ H R ->
  wpAny (model X.prog X.w) X.A (eval iter X.env) (λv s1=>wpAny (model X.prog X.w) X.A (pyIter v) (PIE X pins σ tg R) X.xe s1) X.xe s
theorem tj {M:Model} {A:Around} {E:Value->Shared->Prop} {s:Shared} {tg:Expr} {it:Addr} {u:Value} {o:Obj} {n:String} {vs:Array Value} {Q:Unit->Shared->Prop} (ho:s.heap.get? it=some o) (hc:o.cls=.type n) (hd:o.data=.fields vs)
  (hn:["enumerate", "zip", "dict_itemiterator", "dict_reverseitemiterator", "odict_iterator", "itertools.zip_longest", "itertools.pairwise"].contains n=false) (hQ:Q () s):wpAny M A (letOwnedTupleGo tg (.ref it) u) Q E s:=by
 unfold letOwnedTupleGo
 cases tg <;> first
  | exact wpAny_pure hQ
  | (cases u <;> first
    | exact wpAny_pure hQ
    | (refine wpAny_bind (wpAny_load ho ?_);rw [hc,hd];show wpAny M A (if (["enumerate", "zip", "dict_itemiterator", "dict_reverseitemiterator", "odict_iterator", "itertools.zip_longest", "itertools.pairwise"].contains n && vs[0]? == some (rawInt _))=true then _ else _) Q E s;rw [if_neg (by intro h;rw [hn,Bool.false_and] at h;cases h)];exact wpAny_pure hQ))
def Itl (K:PySem.W.Frag) (a:Addr):It :=
 ⟨λi H=>∃ xs x,SqL K H a xs/\xs[i]?=some x,λi H x H'=>H'=H/\∀ xs,SqL K H a xs->xs[i]?=some x,λi H=>∃ xs,SqL K H a xs/\xs.length<=i⟩
def Itr (lo:Int) (n:Nat):It:=⟨λi _=>i < n,λi H x H'=>H'=H/\x=.int (lo+i),λi _=>n<=i⟩
theorem uh {P:Program} {w:World} {K:PySem.W.Frag} {tg:Expr} (a it:Addr):Turn P w K tg (Itl K a) [it] it (λi h=>h.IsListIter it a i) where
 mem:=by simp
 obj:=λi h st b hb=>by
  have e:b=it:=by simpa using hb
  subst e
  obtain ⟨o,e,c,d⟩:=st
  exact ⟨o,e,λv z=>by rw [d] at z;cases z⟩
 keep:=λi h h' st k=>st.at λo e=>k it (by simp) o e
 item:=by
  intro X hP hw hK hc i pins s σ H E I hf st hg
  subst hP hw hK
  obtain ⟨xs,x,hq,hx⟩:=hg
  obtain ⟨its,rv,p,hz⟩:=I.list hq
  obtain ⟨u,hu,ru⟩:=rv.get hx
  obtain ⟨f0,f1,f2,f3,f4,f5⟩:=hf it (by simp)
  refine wpAny_pyNext_list_item st p.isList (x:=u) (by simpa using hu) λh' st' sb=>?_
  have I1:Inv X pins σ H { s with heap:=h' }:=I.turned (t':=s.toks) (λb o hb e=>(sb.2 b hb).trans e) f0 f1 f3 f4 f5
  obtain ⟨o,e,c,d⟩:=id st'
  exact ⟨u,rfl,tj (s:={ s with heap:=h' }) e c d (by decide) ⟨x,H,I1,ru,⟨rfl,λys hy=>by rw [I.list_inj hy hq];exact hx⟩,st',λb hb=>(hf b hb).1⟩⟩
 done:=by
  intro X hP hw hK hc i pins s σ H E I hf st hg
  subst hP hw hK
  obtain ⟨xs,hq,hx⟩:=hg
  obtain ⟨its,rv,p,hz⟩:=I.list hq
  obtain ⟨f0,f1,f2,f3,f4,f5⟩:=hf it (by simp)
  have hl:=rv.length
  exact wpAny_pyNext_list_end (I.ok.hd hc) st p.isList (by simp;lia) λh' eb=>⟨rfl,I.turned (t':=s.toks) (λb o hb e=>eb b o hb e) f0 f1 f3 f4 f5⟩
 self:=λ_ _ _ _ _ st h=>wpAny_pyIter_listiter st h
theorem rE {P:Program} {w:World} {K:PySem.W.Frag} {tg:Expr} (it:Addr) (lo:Int) (n:Nat):Turn P w K tg (Itr lo n) [it] it (λi h=>IsRangeIter h it (lo+(i:Nat) * 1) ((n:Int) - (i:Nat)) 1) where
 mem:=by simp
 obj:=λi h st b hb=>by
  have e:b=it:=by simpa using hb
  subst e
  exact ⟨_,st,λv z=>by
   have z' : Data.fields _=Data.cell v:=z
   cases z'⟩
 keep:=λi h h' st k=>k it (by simp) _ st
 item:=by
  intro X hP hw hK hc i pins s σ H E I hf st hg
  subst hP hw hK
  obtain ⟨f0,f1,f2,f3,f4,f5⟩:=hf it (by simp)
  have W:=Walks.range (prog:=X.prog) (w:=X.w) (I.ok.hd hc) it lo 1 n
  refine W.item i s _ _ hg st λv h' tk hv st' kk=>?_
  obtain ⟨t,rfl⟩:=hv
  have I1:Inv X pins σ H { s with heap:=h',toks:=tk }:=I.turned (λb o hb e=>kk b o (by simpa using hb) e) f0 f1 f3 f4 f5
  refine ⟨_,rfl,tj (s:={ s with heap:=h',toks:=tk }) (n := "range_iterator") st' rfl rfl (by decide) ⟨.int (lo+i),H,I1,⟨t,?_⟩,⟨rfl,rfl⟩,st',λb hb=>(hf b hb).1⟩⟩
  rw [Int.mul_one]
 done:=by
  intro X hP hw hK hc i pins s σ H E I hf st hg
  subst hP hw hK
  obtain ⟨f0,f1,f2,f3,f4,f5⟩:=hf it (by simp)
  exact wpAny_pyNext_range_end (I.ok.hd hc) st (by have:n<=i:=hg;lia) λh' eb=>⟨rfl,I.turned (t':=s.toks) (λb o hb e=>eb b o hb e) f0 f1 f3 f4 f5⟩
 self:=λ_ _ _ _ _ st h=>wpAny_pyIter_rangeiter st h
end L2
namespace L2
open PySem PySem.Spec PyProof.Rows
section
variable {X:Cx} {tg:Expr}
def yi (K:PySem.W.Frag) (tl:TE):TI:=λσ H R=>tl σ H λx H1=>∃ a,x=.ref a/\(∃ xs,SqL K H1 a xs)/\R (Itl K a) H1
theorem aP {l:Expr} {tl:TE} (hl:PE X l tl):PI X tg l (yi X.K tl):=by
 intro pins s σ H R I h
 refine thn (hl pins s σ H _ I h) λv s1 ⟨x,H1,I1,r1,q1⟩=>?_
 obtain ⟨a,e,⟨xs,hq⟩,q⟩:=q1
 subst e
 cases r1
 obtain ⟨its,rv,p,hz⟩:=I1.list hq
 refine wpAny_pyIter_list p.isList ?_
 refine ⟨s1.heap.objs.size,[s1.heap.objs.size],_,_,H1,rfl,I1.kept (t':=s1.toks) λb o e=>Heap.get?_push_of_some _ e,uh a _,⟨_,Heap.get?_push_size _ rfl,rfl,rfl⟩,λb hb=>?_,q⟩
 have e:b=s1.heap.objs.size:=by simpa using hb
 subst e
 exact I1.fpOk (Nat.le_refl _) (I1.hok.fresh (Nat.le_refl _))
theorem qF {pins:List (Addr × Obj)} {σ:St} {H:Hp} {s:Shared} {R:It->Hp->Prop} {E:Value->Shared->Prop} {lo hi:Int} {t u v:Tok} {tk:Nat} (I:Inv X pins σ H s) (h1 : -(2 ^ 62)<=lo) (h2:lo < 2 ^ 62) (h3 : -(2 ^ 62)<=hi) (h4:hi < 2 ^ 62)
  (q:R (Itr lo (hi - lo).toNat) H):wpAny (model X.prog X.w) X.A (pyIter (.ref s.heap.objs.size)) (PIE X pins σ tg R) E { s with heap:=s.heap.push { cls:=.type "range",data:=.fields #[.int lo t,.int hi u,.int 1 v] },toks:=tk }:=by
 refine wpAny_pyIter_range (IsRange.new ..) (small_one h1 h2 h3 h4) ?_
 have I1:Inv X pins σ H { s with heap:=s.heap.push { cls:=.type "range",data:=.fields #[.int lo t,.int hi u,.int 1 v] },toks:=tk }:=I.kept λb o e=>Heap.get?_push_of_some _ e
 refine ⟨(s.heap.push { cls:=.type "range",data:=.fields #[.int lo t,.int hi u,.int 1 v] }).objs.size,[(s.heap.push { cls:=.type "range",data:=.fields #[.int lo t,.int hi u,.int 1 v] }).objs.size],_,_,H,rfl,
  I1.kept (t':=tk) λb o e=>Heap.get?_push_of_some _ e,rE _ lo (hi - lo).toNat,?_,λb hb=>?_,q⟩
 ·have e1:lo+((0:Nat):Int) * 1=lo:=by simp
  have e2:(((hi - lo).toNat:Nat):Int) - ((0:Nat):Int)=Builtin.Range.rangeSize lo hi 1:=by rw [rangeSize_one];split <;> lia
  show IsRangeIter _ _ (lo+((0:Nat):Int) * 1) ((((hi - lo).toNat:Nat):Int) - ((0:Nat):Int)) 1
  rw [e1,e2]
  exact Heap.get?_push_size _ rfl
 ·have e:b=(s.heap.push { cls:=.type "range",data:=.fields #[.int lo t,.int hi u,.int 1 v] }).objs.size:=by simpa using hb
  subst e
  exact I1.fpOk (Nat.le_refl _) (I1.hok.fresh (Nat.le_refl _))
def BC (ta:TA):TI:=λσ H R=>ta σ H λvs H1=>∃ j:Int,vs=[.int j]/\-(2 ^ 62)<=j/\j < 2 ^ 62/\R (Itr 0 j.toNat) H1
def BD (ta:TA):TI:=λσ H R=>ta σ H λvs H1=>∃ i j:Int,vs=[.int i,.int j]/\(-(2 ^ 62)<=i/\i < 2 ^ 62/\-(2 ^ 62)<=j/\j < 2 ^ 62)/\R (Itr i (j - i).toNat) H1
theorem bh {a:Expr} {ta:TA} {p pos:Pos} (hg:Gl X "range") (hm:X.mg "range" = none) (ha:PA X [a] ta) (hs:starEach [a] X.env=[(false,eval a X.env)]:=by rfl):PI X tg (.Call (.Name "range" p) [a] [] pos) (BC ta):=by
 intro pins s σ H R I h
 refine Call_ (i3 I hg hm boot_range (PyProof.Rows.callWith_type1 (thn (ha pos pins s σ H _ I h) λus s1 ⟨vs,H1,I1,r1,q1⟩=>?_) hs rfl))
 obtain ⟨j,e,q1,q2,q⟩:=q1
 subst e
 cases r1 with
 | cons r rr =>
  cases rr
  obtain ⟨t,rfl⟩:=r
  exact call_range_1 (qF I1 (by lia) (by lia) q1 q2 (by simpa using q))
theorem kB {a b:Expr} {ta:TA} {p pos:Pos} (hg:Gl X "range") (hm:X.mg "range" = none) (ha:PA X [a,b] ta) (hs:starEach [a,b] X.env=[(false,eval a X.env),(false,eval b X.env)]:=by rfl) (hs2:starEach [b] X.env=[(false,eval b X.env)]:=by rfl) :
  PI X tg (.Call (.Name "range" p) [a,b] [] pos) (BD ta):=by
 intro pins s σ H R I h
 refine Call_ (i3 I hg hm boot_range (PyProof.Rows.callWith_type1 (thn (ha pos pins s σ H _ I h) λus s1 ⟨vs,H1,I1,r1,q1⟩=>?_) (by rw [hs,hs2]) (by rw [hs2];rfl)))
 obtain ⟨i,j,e,⟨q1,q2,q3,q4⟩,q⟩:=q1
 subst e
 cases r1 with
 | cons r rr =>
  cases rr with
  | cons r' rr =>
   cases rr
   obtain ⟨t,rfl⟩:=r
   obtain ⟨t',rfl⟩:=r'
   exact call_range_2 (qF I1 q1 q2 q3 q4 q)
def CT (wi:TI) (g:TG) (tb:TS):TS:=λD σ H=>wi σ H λJ H1=>∃ W:Nat->Nat->St->Hp->Prop,(∃ m,W 0 m σ H1)/\∀ i m σ H,W i m σ H ->
 (J.stop i H/\D.nx σ H)\/(J.go i H/\∃ N:St->Hp->Prop,(∀ σ' H',N σ' H'->∃ m',m' < m/\W (i+1) m' σ' H')/\∀ x H',J.yld i H x H'->g x σ H' λσ2 H2=>tb { D with nx:=N,ct:=N,bk:=D.nx } σ2 H2)
def kC (fp:List Addr) (h:Heap):List (Addr × Obj):=fp.filterMap λb=>(h.get? b).map λo=>(b,o)
theorem dI {fp:List Addr} {h:Heap} {b:Addr} {o:Obj} (hb:b ∈ fp) (e:h.get? b=some o):(b,o) ∈ kC fp h:=List.mem_filterMap.mpr ⟨b,hb,by rw [e];rfl⟩
theorem ui {fp:List Addr} {h:Heap} {p:Addr × Obj} (hp:p ∈ kC fp h):p.1 ∈ fp/\h.get? p.1=some p.2:=by
 obtain ⟨b,hb,e⟩:=List.mem_filterMap.mp hp
 cases q:h.get? b with
 | none=>rw [q] at e;cases e
 | some o =>
  rw [q] at e
  have e' : (b,o)=p:=Option.some.inj e
  subst e'
  exact ⟨hb,q⟩
theorem Inv.pinned {pins:List (Addr × Obj)} {σ:St} {H:Hp} {s:Shared} {fp:List Addr} (I:Inv X pins σ H s) (hf:∀ b ∈ fp,kA X pins H b) (ho:∀ b ∈ fp,∃ o,s.heap.get? b=some o/\∀ v,o.data ≠ .cell v):Inv X (pins ++ kC fp s.heap) σ H s :=
 I.pins_of λp hp=>(List.mem_append.mp hp).elim (λz=>I.pin p (List.mem_append_right _ z)) λz=>by
  obtain ⟨hb,e⟩:=ui z
  obtain ⟨f0,f1,f2,_⟩:=hf p.1 hb
  obtain ⟨o,e',d⟩:=ho p.1 hb
  rw [e] at e';cases e'
  exact ⟨e,f0,f1,f2,d⟩
theorem Inv.unpinned {pins pl:List (Addr × Obj)} {σ:St} {H:Hp} {s:Shared} (I:Inv X (pins ++ pl) σ H s):Inv X pins σ H s:=I.pins_of λp hp=>I.pin p (List.mem_append_right _ (List.mem_append_left _ hp))
theorem bb {iter:Expr} {body:List Stmt} {wi:TI} {g:TG} {tb:TS} {pos:Pos} (hp:PassesOwn (model X.prog X.w) X.A X.env X.xe) (hc:X.calm=true) (hi:PI X tg iter wi) (hg:PG X tg g) (hb:PSs X body tb)
  (hs:∀ x,foldedSetIterable iter X.env x=pure x:=by intro _;rfl):PS X (.For tg iter body [] pos) (CT wi g tb):=by
 intro pins s σ H D I h
 refine wpAny_For (thn (hi pins s σ H _ I h) λv s1 h1=>thn h1 λitv s2 h2=>?_) hs
 obtain ⟨it,fp,tn,J,H2,e,I2,T,st2,f2,W,⟨m0,w0⟩,turn⟩:=h2
 subst e
 have zf:∀ {H' : Hp},(∀ b ∈ fp,H' b=none)->∀ b ∈ fp,kA X pins H' b:=λhn b hb=>⟨hn b hb,(f2 b hb).2⟩
 refine codeAny_forLoop_any (λn s'=>∃ i σ' H',Inv X pins σ' H' s'/\tn i s'.heap/\(∀ b ∈ fp,H' b=none)/\W i n σ' H') ?_ m0 ⟨0,σ,H2,I2,st2,λb hb=>(f2 b hb).1,w0⟩
 rintro n s3 ⟨i,σ3,H3,I3,st3,fr3,w3⟩
 rcases turn i n σ3 H3 w3 with ⟨stop,qn⟩ | ⟨go,N,hN,step⟩
 ·refine wpAny_passesOwn hp (thn (T.done X rfl rfl rfl hc i pins s3 σ3 H3 X.xe I3 (zf fr3) st3 stop) λr s4 ⟨hr,I4⟩=>?_)
  subst hr
  exact wpAny_execs_nil ⟨σ3,H3,I4,qn⟩
 ·refine wpAny_passesOwn hp (thn (T.item X rfl rfl rfl hc i pins s3 σ3 H3 X.xe I3 (zf fr3) st3 go) λr s4 ⟨u,hr,h4⟩=>?_)
  subst hr
  refine wpAny_passesOwn hp (thn h4 λ_ s5 ⟨x,H5,I5,r5,y5,st5,fr5⟩=>?_)
  have I5':=I5.pinned (zf fr5) (T.obj _ _ st5)
  refine wpAny_passesOwn hp (thn (hg _ s5 σ3 H5 x u _ I5' r5 (step x H5 y5)) λ_ s6 ⟨σ6,H6,I6,q6⟩=>?_)
  refine wpAny_passesOwn hp (thn (hb _ s6 σ6 H6 _ I6 q6) λf s7 q7=>?_)
  have again:∀ {σ7:St} {H7:Hp},Inv X (pins ++ kC fp s5.heap) σ7 H7 s7->N σ7 H7->∃ m,m < n/\∃ i σ' H',Inv X pins σ' H' s7/\tn i s7.heap/\(∀ b ∈ fp,H' b=none)/\W i m σ' H':=λ{σ7 H7} I7 n7=>by
   obtain ⟨m',hm,w7⟩:=hN σ7 H7 n7
   refine ⟨m',hm,i+1,σ7,H7,I7.unpinned,T.keep _ _ _ st5 λb hb o e=>(I7.pin (b,o) (List.mem_append_right _ (List.mem_append_right _ (dI hb e)))).1,λb hb=>?_,w7⟩
   obtain ⟨o,e,d⟩:=T.obj _ _ st5 b hb
   exact (I7.pin (b,o) (List.mem_append_right _ (List.mem_append_right _ (dI hb e)))).2.1
  cases f with
  | next=>obtain ⟨σ7,H7,I7,n7⟩:=q7;exact again I7 n7
  | cont=>obtain ⟨σ7,H7,I7,n7⟩:=q7;exact again I7 n7
  | brk=>obtain ⟨σ7,H7,I7,q7⟩:=q7;exact ⟨σ7,H7,I7.unpinned,q7⟩
  | ret v=>obtain ⟨x7,σ7,H7,I7,r7,q7⟩:=q7;exact ⟨x7,σ7,H7,I7.unpinned,r7,q7⟩
end
theorem bf {K:PySem.W.Frag} {a:Addr} {xs:List V} {g:TG} {tb:TS} {D:Ends} {σ:St} {H:Hp} (Pv:Nat->St->Hp->Prop) (h0:Pv 0 σ H) (hl:∀ i σ H,i<=xs.length->Pv i σ H->SqL K H a xs)
  (hs:∀ i x σ H,xs[i]?=some x->Pv i σ H->g x σ H λσ2 H2=>tb { D with nx:=Pv (i+1),ct:=Pv (i+1),bk:=D.nx } σ2 H2) (hd:∀ σ H,Pv xs.length σ H->D.nx σ H) :
  ∃ W:Nat->Nat->St->Hp->Prop,(∃ m,W 0 m σ H)/\∀ i m σ H,W i m σ H ->
   ((Itl K a).stop i H/\D.nx σ H)\/((Itl K a).go i H/\∃ N:St->Hp->Prop,(∀ σ' H',N σ' H'->∃ m',m' < m/\W (i+1) m' σ' H')/\∀ x H',(Itl K a).yld i H x H'->g x σ H' λσ2 H2=>tb { D with nx:=N,ct:=N,bk:=D.nx } σ2 H2):=by
 refine ⟨λi m σ H=>m=xs.length - i/\i<=xs.length/\Pv i σ H,⟨xs.length,by simp,Nat.zero_le _,h0⟩,?_⟩
 rintro i m σ H ⟨rfl,hi,p⟩
 have q:=hl i σ H hi p
 by_cases hlt:i < xs.length
 ·refine .inr ⟨⟨xs,xs[i],q,by simp [hlt]⟩,Pv (i+1),λσ' H' p'=>⟨xs.length - (i+1),by lia,rfl,hlt,p'⟩,λx H' y=>?_⟩
  obtain ⟨e,y⟩:=y
  subst e
  exact hs i x σ _ (y xs q) p
 ·have e:i=xs.length:=by lia
  subst e
  exact .inl ⟨⟨xs,q,Nat.le_refl _⟩,hd σ H p⟩
theorem dm {lo:Int} {n:Nat} {g:TG} {tb:TS} {D:Ends} {σ:St} {H:Hp} (Pv:Nat->St->Hp->Prop) (h0:Pv 0 σ H)
  (hs:∀ i σ H,i < n->Pv i σ H->g (.int (lo+i)) σ H λσ2 H2=>tb { D with nx:=Pv (i+1),ct:=Pv (i+1),bk:=D.nx } σ2 H2) (hd:∀ σ H,Pv n σ H->D.nx σ H) :
  ∃ W:Nat->Nat->St->Hp->Prop,(∃ m,W 0 m σ H)/\∀ i m σ H,W i m σ H ->
   ((Itr lo n).stop i H/\D.nx σ H)\/((Itr lo n).go i H/\∃ N:St->Hp->Prop,(∀ σ' H',N σ' H'->∃ m',m' < m/\W (i+1) m' σ' H')/\∀ x H',(Itr lo n).yld i H x H'->g x σ H' λσ2 H2=>tb { D with nx:=N,ct:=N,bk:=D.nx } σ2 H2):=by
 refine ⟨λi m σ H=>m=n - i/\i<=n/\Pv i σ H,⟨n,by simp,Nat.zero_le _,h0⟩,?_⟩
 rintro i m σ H ⟨rfl,hi,p⟩
 by_cases hlt:i < n
 ·refine .inr ⟨hlt,Pv (i+1),λσ' H' p'=>⟨n - (i+1),by lia,rfl,hlt,p'⟩,λx H' y=>?_⟩
  obtain ⟨e,y⟩:=y
  subst e y
  exact hs i σ _ hlt p
 ·have e:i=n:=by lia
  subst e
  exact .inl ⟨Nat.le_refl _,hd σ H p⟩
end L2
namespace L2
open PySem PySem.Spec PyProof.Rows
abbrev R2:=V->V->Hp->VK->Prop
def OpR (X:Cx) (f:Value->Value->Sem Value) (r:R2):Prop :=
 ∀ (pins:List (Addr × Obj)) (s:Shared) (σ:St) (H:Hp) (x y:V) (v u:Value) (Q:VK),Inv X pins σ H s->RelV x v->RelV y u->r x y H Q ->
  wpAny (model X.prog X.w) X.A (f v u) (EP X pins σ Q) X.xe s
def dH (X:Cx) (f:Value) (r:List V->Hp->VK->Prop):Prop :=
 ∀ (pins:List (Addr × Obj)) (s:Shared) (σ:St) (H:Hp) (xs:List V) (us:List Value) (Q:VK),Inv X pins σ H s->Vals xs us->r xs H Q ->
  wpAny (model X.prog X.w) X.A (call f us) (EP X pins σ Q) X.xe s
def CU (X:Cx) (r:V->Hp->(Bool->Hp->Prop)->Prop):Prop :=
 ∀ (pins:List (Addr × Obj)) (s:Shared) (σ:St) (H:Hp) (x:V) (v:Value) (Q:Bool->Hp->Prop),Inv X pins σ H s->RelV x v->r x H Q ->
  wpAny (model X.prog X.w) X.A (truthy v) (TP X pins σ Q) X.xe s
def tOp (r:R2) (ta tb:TE):TE:=λσ H Q=>ta σ H λx H1=>tb σ H1 λy H2=>r x y H2 Q
def rI (C:Int->Int->Prop) (g:Int->Int->V):R2:=λx y H Q=>∃ i j,x=.int i/\y=.int j/\C i j/\Q (g i j) H
def rI0 (g:Int->Int->V):R2:=λx y H Q=>∃ i j,x=.int i/\y=.int j/\Q (g i j) H
section
variable {X:Cx} {a b c:Expr} {ta tb tc:TE} {pos:Pos}
theorem zg (ha:PE X a ta) (hb:PE X b tb) {pins:List (Addr × Obj)} {s:Shared} {σ:St} {H:Hp} {R:V->V->Hp->Prop} (I:Inv X pins σ H s)
  (h:ta σ H λx H1=>tb σ H1 λy H2=>R x y H2) {Q:Value->Shared->Prop} {f:Value->Value->Sem Value}
  (hf:∀ v u s2 x y H2,Inv X pins σ H2 s2->RelV x v->RelV y u->R x y H2->wpAny (model X.prog X.w) X.A (f v u) Q X.xe s2) :
  wpAny (model X.prog X.w) X.A (eval a X.env) (λv s₁=>wpAny (model X.prog X.w) X.A (eval b X.env) (λu s₂=>wpAny (model X.prog X.w) X.A (f v u) Q X.xe s₂) X.xe s₁) X.xe s:=by
 refine thn (ha pins s σ H _ I h) λv s1 ⟨x,H1,I1,r1,q1⟩=>?_
 refine thn (hb pins s1 σ H1 _ I1 q1) λu s2 ⟨y,H2,I2,r2,q2⟩=>?_
 exact hf v u s2 x y H2 I2 r1 r2 q2
theorem aG {op:Operator} {r:R2} (ho:OpR X (binaryOp op) r) (ha:PE X a ta) (hb:PE X b tb):PE X (.BinOp a op b pos) (tOp r ta tb):=by
 intro pins s σ H Q I h
 exact wpAny_BinOp (zg ha hb I h λv u s2 x y H2 I2 rx ry q=>ho pins s2 σ H2 x y v u Q I2 rx ry q)
theorem opI {f:Value->Value->Sem Value} {C:Int->Int->Prop} {g:Int->Int->Int}
  (rule:∀ (i j:Int) (t u:Tok) (s:Shared) (Q:Value->Shared->Prop) (E:Value->Shared->Prop),C i j->Q (.int (g i j) s.toks) { s with toks:=s.toks+1 }->wpAny (model X.prog X.w) X.A (f (.int i t) (.int j u)) Q E s) :
  OpR X f (rI C λi j=>.int (g i j)):=by
 intro pins s σ H x y v u Q I rx ry h
 obtain ⟨i,j,rfl,rfl,hc,q⟩:=h
 obtain ⟨t,rfl⟩:=rx
 obtain ⟨t',rfl⟩:=ry
 exact rule i j t t' s _ _ hc ⟨.int (g i j),H,I.tok _,⟨_,rfl⟩,q⟩
theorem zh {f:Value->Value->Sem Value} {g:Int->Int->Int}
  (rule:∀ (i j:Int) (t u:Tok) (s:Shared) (Q:Value->Shared->Prop) (E:Value->Shared->Prop),Q (.int (g i j) s.toks) { s with toks:=s.toks+1 }->wpAny (model X.prog X.w) X.A (f (.int i t) (.int j u)) Q E s) :
  OpR X f (rI0 λi j=>.int (g i j)):=by
 intro pins s σ H x y v u Q I rx ry h
 obtain ⟨i,j,rfl,rfl,q⟩:=h
 obtain ⟨t,rfl⟩:=rx
 obtain ⟨t',rfl⟩:=ry
 exact rule i j t t' s _ _ ⟨.int (g i j),H,I.tok _,⟨_,rfl⟩,q⟩
theorem zi {f:Value->Value->Sem Value} {g:Int->Int->Bool}
  (rule:∀ (i j:Int) (t u:Tok) (s:Shared) (Q:Value->Shared->Prop) (E:Value->Shared->Prop),Q (.bool (g i j)) s->wpAny (model X.prog X.w) X.A (f (.int i t) (.int j u)) Q E s) :
  OpR X f (rI0 λi j=>.bl (g i j)):=by
 intro pins s σ H x y v u Q I rx ry h
 obtain ⟨i,j,rfl,rfl,q⟩:=h
 obtain ⟨t,rfl⟩:=rx
 obtain ⟨t',rfl⟩:=ry
 exact rule i j t t' s _ _ ⟨.bl (g i j),H,I,rfl,q⟩
def BE (i j:Int):Prop:=0 < j/\j < 1073741824
def BF (i j:Int):Prop:=0<=j/\j<=1000000/\i.natAbs < 2 ^ 64
def zj (i j:Int):Prop:=(-(2 ^ 64) < i/\i < 2 ^ 64)\/(-(2 ^ 64) < j/\j < 2 ^ 64)
theorem zj.ok {i j:Int} (h:zj i j):IntMulOk i j:=by
 rcases h with ⟨h1,h2⟩ | ⟨h1,h2⟩
 ·exact .of_left (intBits_le_64 h1 h2)
 ·exact .of_right (intBits_le_64 h1 h2)
theorem rF (k:Nat):(0:Int)<=2 ^ k:=by
 rw [two_pow_cast]
 exact Int.natCast_nonneg _
theorem bC:OpR X (binaryOp .Add) (rI0 λi j=>.int (i+j)):=zh λ_ _ _ _ _ _ _ q=>add_int q
theorem cH:OpR X (binaryOp .Sub) (rI0 λi j=>.int (i - j)):=zh λ_ _ _ _ _ _ _ q=>sub_int q
theorem gN:OpR X (binaryOp .Mult) (rI zj λi j=>.int (i * j)):=opI λ_ _ _ _ _ _ _ hc q=>mul_int q hc.ok
theorem bA:OpR X (binaryOp .FloorDiv) (rI BE λi j=>.int (i / j)):=opI λi j _ _ _ _ _ hc q=>by
 have h1:(0:Int) < j:=hc.1
 have h2:j < 1073741824:=hc.2
 exact floordiv_int (by lia) (by rw [Int.fdiv_eq_ediv_of_nonneg i (by lia)];exact q) (.inl (PyProof.noPylong_small (by lia)))
theorem bj:OpR X (binaryOp .Mod) (rI (λ_ j=>0 < j) λi j=>.int (i % j)):=opI λi j _ _ _ _ _ hc q=>by
 have h1:(0:Int) < j:=hc
 exact mod_int' (by lia) (by rw [Int.fmod_eq_emod_of_nonneg i (by lia)];exact q)
theorem l6:OpR X (binaryOp .Pow) (rI BF λi j=>.int (i ^ j.toNat)):=opI λ_ _ _ _ _ _ _ hc q=>pow_int_small hc.1 hc.2.1 hc.2.2 q
theorem uT:OpR X (binaryOp .LShift) (rI BF λi j=>.int (i * 2 ^ j.toNat)):=opI λ_ _ _ _ _ _ _ hc q=>lshift_int_small hc.1 hc.2.1 hc.2.2 q
theorem zk:OpR X (binaryOp .RShift) (rI (λ_ j=>0<=j) λi j=>.int (i / 2 ^ j.toNat)):=opI λi j _ _ _ _ _ hc q =>
 rshift_int hc (by rw [Int.fdiv_eq_ediv_of_nonneg i (rF _)];exact q)
theorem zl:OpR X (binaryOp .BitAnd) (rI0 λi j=>.int (Builtin.bitAnd i j)):=zh λ_ _ _ _ _ _ _ q=>and_int q
end
def BG:V->V->Bool
 | .non,.non=>true | .non,.int _=>true | .int _,.non=>true | .non,.bl _=>true | .bl _,.non=>true | .non,.str _=>true | .str _,.non=>true
 | .int _,.int _=>true | .bl _,.bl _=>true | .str _,.str _=>true | .byt _,.byt _=>true
 | .int _,.str _=>true | .str _,.int _=>true | .bl _,.str _=>true | .str _,.bl _=>true
 | _,_=>false
def rEq:R2:=λx y H Q=>BG x y=true/\Q (.bl (decide (x=y))) H
def rNe:R2:=λx y H Q=>BG x y=true/\Q (.bl (!decide (x=y))) H
theorem tm {i j:Int} : decide (V.int i=V.int j)=(i == j):=by
 rw [Bool.eq_iff_iff]
 simp
theorem uU {i j:Bool} : decide (V.bl i=V.bl j)=(i == j):=by
 rw [Bool.eq_iff_iff]
 simp
theorem tq {i j:Str} : decide (V.str i=V.str j)=(i == j):=by
 rw [Bool.eq_iff_iff]
 simp
theorem tu {i j:Array UInt8} : decide (V.byt i=V.byt j)=(i.toList == j.toList):=by
 rw [Bool.eq_iff_iff]
 cases i
 cases j
 simp
section
variable {X:Cx} {a b c:Expr} {ta tb tc:TE} {pos:Pos}
theorem bp {pins:List (Addr × Obj)} {σ:St} {H:Hp} {s:Shared} {Q:VK} {k k' : Bool} (I:Inv X pins σ H s) (q:Q (.bl k) H) (e:k=k'):EP X pins σ Q (.bool k') s:=by
 subst e
 exact ⟨.bl k,H,I,rfl,q⟩
theorem bX:OpR X (compareOp .Eq) rEq:=by
 intro pins s σ H x y v u Q I rx ry h
 obtain ⟨hs,q⟩:=h
 cases x with
 | non =>
  cases rx
  cases y with
  | non=>cases ry;exact PySem.EqNone.eq_none_none (bp I q (by simp))
  | bl j=>cases ry;exact PySem.EqNone.eq_none_bool (bp I q (by simp))
  | int j=>obtain ⟨t',rfl⟩:=ry;exact PySem.EqNone.eq_none_int (bp I q (by simp))
  | str j=>obtain ⟨t',rfl⟩:=ry;exact PySem.EqNone.eq_none_str (bp I q (by simp))
  | _=>exact absurd (show false=true from hs) Bool.false_ne_true
 | bl i =>
  cases rx
  cases y with
  | non=>cases ry;exact PySem.EqNone.eq_bool_none (bp I q (by simp))
  | bl j=>cases ry;exact eq_bool (bp I q uU)
  | str j=>obtain ⟨t',rfl⟩:=ry;exact PySem.EqMixed.eq_bool_str (bp I q (by simp))
  | _=>exact absurd (show false=true from hs) Bool.false_ne_true
 | int i =>
  obtain ⟨t,rfl⟩:=rx
  cases y with
  | non=>cases ry;exact PySem.EqNone.eq_int_none (bp I q (by simp))
  | int j=>obtain ⟨t',rfl⟩:=ry;exact eq_int (bp I q tm)
  | str j=>obtain ⟨t',rfl⟩:=ry;exact PySem.EqMixed.eq_int_str (bp I q (by simp))
  | _=>exact absurd (show false=true from hs) Bool.false_ne_true
 | str i =>
  obtain ⟨t,rfl⟩:=rx
  cases y with
  | non=>cases ry;exact PySem.EqNone.eq_str_none (bp I q (by simp))
  | bl j=>cases ry;exact PySem.EqMixed.eq_str_bool (bp I q (by simp))
  | int j=>obtain ⟨t',rfl⟩:=ry;exact PySem.EqMixed.eq_str_int (bp I q (by simp))
  | str j=>obtain ⟨t',rfl⟩:=ry;exact eq_str (bp I q tq)
  | _=>exact absurd (show false=true from hs) Bool.false_ne_true
 | byt i =>
  obtain ⟨t,rfl⟩:=rx
  cases y with
  | byt j=>obtain ⟨t',rfl⟩:=ry;exact PySem.W.eq_bytes (bp I q tu)
  | _=>exact absurd (show false=true from hs) Bool.false_ne_true
 | _=>cases y <;> exact absurd (show false=true from hs) Bool.false_ne_true
theorem n5:OpR X (compareOp .NotEq) rNe:=by
 intro pins s σ H x y v u Q I rx ry h
 obtain ⟨hs,q⟩:=h
 cases x with
 | non =>
  cases rx
  cases y with
  | non=>cases ry;exact PySem.EqNone.ne_none_none (bp I q (by simp))
  | bl j=>cases ry;exact PySem.EqNone.ne_none_bool (bp I q (by simp))
  | int j=>obtain ⟨t',rfl⟩:=ry;exact PySem.EqNone.ne_none_int (bp I q (by simp))
  | str j=>obtain ⟨t',rfl⟩:=ry;exact PySem.EqNone.ne_none_str (bp I q (by simp))
  | _=>exact absurd (show false=true from hs) Bool.false_ne_true
 | bl i =>
  cases rx
  cases y with
  | non=>cases ry;exact PySem.EqNone.ne_bool_none (bp I q (by simp))
  | bl j=>cases ry;exact ne_bool (bp I q (congrArg not uU))
  | str j=>obtain ⟨t',rfl⟩:=ry;exact PySem.EqMixed.ne_bool_str (bp I q (by simp))
  | _=>exact absurd (show false=true from hs) Bool.false_ne_true
 | int i =>
  obtain ⟨t,rfl⟩:=rx
  cases y with
  | non=>cases ry;exact PySem.EqNone.ne_int_none (bp I q (by simp))
  | int j=>obtain ⟨t',rfl⟩:=ry;exact ne_int (bp I q (congrArg not tm))
  | str j=>obtain ⟨t',rfl⟩:=ry;exact PySem.EqMixed.ne_int_str (bp I q (by simp))
  | _=>exact absurd (show false=true from hs) Bool.false_ne_true
 | str i =>
  obtain ⟨t,rfl⟩:=rx
  cases y with
  | non=>cases ry;exact PySem.EqNone.ne_str_none (bp I q (by simp))
  | bl j=>cases ry;exact PySem.EqMixed.ne_str_bool (bp I q (by simp))
  | int j=>obtain ⟨t',rfl⟩:=ry;exact PySem.EqMixed.ne_str_int (bp I q (by simp))
  | str j=>obtain ⟨t',rfl⟩:=ry;exact ne_str (bp I q (congrArg not tq))
  | _=>exact absurd (show false=true from hs) Bool.false_ne_true
 | byt i =>
  obtain ⟨t,rfl⟩:=rx
  cases y with
  | byt j=>obtain ⟨t',rfl⟩:=ry;exact PySem.W.ne_bytes (bp I q (congrArg not tu))
  | _=>exact absurd (show false=true from hs) Bool.false_ne_true
 | _=>cases y <;> exact absurd (show false=true from hs) Bool.false_ne_true
theorem l7:OpR X (compareOp .Lt) (rI0 λi j=>.bl (decide (i < j))):=zi λ_ _ _ _ _ _ _ q=>lt_int q
theorem dZ:OpR X (compareOp .LtE) (rI0 λi j=>.bl (decide (i<=j))):=zi λ_ _ _ _ _ _ _ q=>le_int q
theorem gO:OpR X (compareOp .Gt) (rI0 λi j=>.bl (decide (j < i))):=zi λ_ _ _ _ _ _ _ q=>gt_int q
theorem zm:OpR X (compareOp .Is) (λx y H Q=>y=.non/\Q (.bl (decide (x=.non))) H):=by
 intro pins s σ H x y v u Q I rx ry h
 obtain ⟨rfl,q⟩:=h
 cases ry
 refine is_none_gen (bp I q ?_)
 cases x <;> first
  | (cases rx;rfl)
  | (obtain ⟨t,rfl⟩:=rx;rfl)
theorem o7:OpR X (compareOp .NotIn) (λx y H Q=>∃ i j,x=.str i/\y=.str j/\Q (.bl (!(!(Builtin.Str.occurrences j i 0 j.length 1).isEmpty))) H):=by
 intro pins s σ H x y v u Q I rx ry h
 obtain ⟨i,j,rfl,rfl,q⟩:=h
 obtain ⟨t,rfl⟩:=rx
 obtain ⟨t',rfl⟩:=ry
 exact notIn_str (bp I q rfl)
theorem aO (b:Expr) {op:CmpOp} (h:op ≠ .In:=by decide) (h2:op ≠ .NotIn:=by decide):behindInMarks op b=false:=by
 have e1:(op == CmpOp.In)=false:=by cases op <;> first | rfl | exact absurd rfl h
 have e2:(op == CmpOp.NotIn)=false:=by cases op <;> first | rfl | exact absurd rfl h2
 cases b <;> simp [behindInMarks,e1,e2]
theorem dz {op:CmpOp} {r:R2} (ho:OpR X (compareOp op) r) (ha:PE X a ta) (hb:PE X b tb) (hm:behindInMarks op b=false):PE X (.Compare a [op] [b] pos) (tOp r ta tb):=by
 intro pins s σ H Q I h
 exact wpAny_Compare1 (zg ha hb I h λv u s2 x y H2 I2 rx ry q=>ho pins s2 σ H2 x y v u Q I2 rx ry q) hm
def yj (t:TE):TT:=λσ H Q=>t σ H λx H'=>∃ k,x=.bl k/\Q k H'
theorem aJ {op:CmpOp} {r:R2} (ho:OpR X (compareOp op) r) (ha:PE X a ta) (hb:PE X b tb) (hm:behindInMarks op b=false):PT X (.Compare a [op] [b] pos) (yj (tOp r ta tb)):=by
 intro pins s σ H Q I h
 refine wpAny_isTrue_Compare1 (thn (ha pins s σ H _ I h) λv s1 ⟨x,H1,I1,r1,q1⟩=>thn (hb pins s1 σ H1 _ I1 q1) λu s2 ⟨y,H2,I2,r2,q2⟩ =>
  thn (ho pins s2 σ H2 x y v u _ I2 r1 r2 q2) λc s3 ⟨z,H3,I3,r3,k,e,q3⟩=>?_) hm
 subst e
 cases r3
 exact wpAny_truthy_bool ⟨H3,I3,q3⟩
def uV (r r' : R2) (ta tb tc:TE):TE:=λσ H Q=>ta σ H λx H1=>tb σ H1 λy H2=>r x y H2 λz H3=>∃ k,z=.bl k /\
 (if k=true then tc σ H3 λw' H4=>r' y w' H4 Q else Q (.bl false) H3)
theorem l8 {op op' : CmpOp} {r r' : R2} (ho:OpR X (compareOp op) r) (ho' : OpR X (compareOp op') r') (ha:PE X a ta) (hb:PE X b tb) (hc:PE X c tc)
  (hm:lastMarks [op,op'] [b,c]=false:=by with_unfolding_all rfl):PE X (.Compare a [op,op'] [b,c] pos) (uV r r' ta tb tc):=by
 intro pins s σ H Q I h
 refine Compare_chain (thn (ha pins s σ H _ I h) λv s1 ⟨x,H1,I1,r1,q1⟩=>chain_link (thn (hb pins s1 σ H1 _ I1 q1) λu s2 ⟨y,H2,I2,r2,q2⟩ =>
  thn (ho pins s2 σ H2 x y v u _ I2 r1 r2 q2) λd s3 ⟨z,H3,I3,r3,k,e,q3⟩=>?_)) hm
 subst e
 cases r3
 refine wpAny_truthy_bool ?_
 cases k with
 | false=>exact ite_ff ⟨.bl false,H3,I3,rfl,q3⟩
 | true=>exact ite_tt (chain_last (thn (hc pins s3 σ H3 _ I3 q3) λw' s4 ⟨z',H4,I4,r4,q4⟩=>ho' pins s4 σ H4 y z' u w' Q I4 r2 r4 q4))
theorem l9 {op op' : CmpOp} {r r' : R2} (ho:OpR X (compareOp op) r) (ho' : OpR X (compareOp op') r') (ha:PE X a ta) (hb:PE X b tb) (hc:PE X c tc)
  (hm:lastMarks [op,op'] [b,c]=false:=by with_unfolding_all rfl):PT X (.Compare a [op,op'] [b,c] pos) (yj (uV r r' ta tb tc)):=by
 intro pins s σ H Q I h
 refine isTrue_chain (thn (ha pins s σ H _ I h) λv s1 ⟨x,H1,I1,r1,q1⟩=>test_link (thn (hb pins s1 σ H1 _ I1 q1) λu s2 ⟨y,H2,I2,r2,q2⟩ =>
  thn (ho pins s2 σ H2 x y v u _ I2 r1 r2 q2) λd s3 ⟨z,H3,I3,r3,k,e,q3⟩=>?_)) hm
 subst e
 cases r3
 refine wpAny_truthy_bool ?_
 cases k with
 | false =>
  obtain ⟨k',e',q'⟩:=q3
  cases e'
  exact ite_ff ⟨H3,I3,q'⟩
 | true =>
  refine ite_tt (test_last (thn (hc pins s3 σ H3 _ I3 q3) λw' s4 ⟨z',H4,I4,r4,q4⟩=>thn (ho' pins s4 σ H4 y z' u w' _ I4 r2 r4 q4) λd' s5 ⟨z2,H5,I5,r5,k2,e2,q5⟩=>?_))
  subst e2
  cases r5
  exact wpAny_truthy_bool ⟨H5,I5,q5⟩
def zo (K:PySem.W.Frag) (x:V) (H:Hp) (k:Bool):Prop :=
 match x with
 | .non=>k=false
 | .bl b=>k=b
 | .int i=>k=(i != 0)
 | .str y=>y.length<=sizeLine/\k=((y.length:Int) != 0)
 | .byt y=>y.size<=sizeLine/\k=((y.size:Int) != 0)
 | .ref p=>(∃ xs,SqL K H p xs/\k = !xs.isEmpty)\/(∃ xs,SqT K H p xs/\k = !xs.isEmpty)\/∃ kvs,H p=some (.dK kvs)/\k = !kvs.isEmpty
 | _=>False
theorem rG {κ:Type} {kvs:List (κ × V)} {vs:List (κ × Value)} (r:KV kvs vs):(!vs.isEmpty) = !kvs.isEmpty:=by
 cases r <;> rfl
theorem md {xs:List V} {its:List Value} (r:Vals xs its):(!its.toArray.isEmpty) = !xs.isEmpty:=by
 cases r <;> simp
theorem i6:(sizeLine:Nat) < 2 ^ 63:=by rw [sizeLine_eq];decide
theorem zp:CU X (λx H Q=>∃ k,zo X.K x H k/\Q k H):=by
 intro pins s σ H x v Q I rx h
 obtain ⟨k,e,q⟩:=h
 have hl:=i6
 have hs:sizeLine=16777216:=sizeLine_eq
 cases x with
 | non =>
  cases rx
  have e' : k=false:=e
  subst e'
  exact truthy_none ⟨H,I,q⟩
 | bl b =>
  cases rx
  have e' : k=b:=e
  subst e'
  exact wpAny_truthy_bool ⟨H,I,q⟩
 | int i =>
  obtain ⟨t,rfl⟩:=rx
  have e' : k=(i != 0):=e
  subst e'
  exact PySem.P.truthy_int ⟨H,I,q⟩
 | str y =>
  obtain ⟨t,rfl⟩:=rx
  obtain ⟨hy,e'⟩:y.length<=sizeLine/\k=((y.length:Int) != 0):=e
  subst e'
  exact PySem.P.truthy_str (by lia) ⟨H,I.tok _,q⟩
 | byt y =>
  obtain ⟨t,rfl⟩:=rx
  obtain ⟨hy,e'⟩:y.size<=sizeLine/\k=((y.size:Int) != 0):=e
  subst e'
  exact PySem.W.truthy_bytes (by lia) ⟨H,I.tok _,q⟩
 | ref p =>
  cases rx
  have e' : (∃ xs,SqL X.K H p xs/\k = !xs.isEmpty)\/(∃ xs,SqT X.K H p xs/\k = !xs.isEmpty)\/∃ kvs,H p=some (.dK kvs)/\k = !kvs.isEmpty:=e
  rcases e' with ⟨xs,hx,e'⟩ | ⟨xs,hx,e'⟩ | ⟨kvs,hx,e'⟩
  ·subst e'
   obtain ⟨its,r,pl,hz⟩:=I.list hx
   have hlen:=r.length
   exact wpAny_truthy_list pl.isList (by simp only [List.size_toArray];lia) ⟨H,I.tok _,by rw [md r];exact q⟩
  ·subst e'
   obtain ⟨its,r,pl,hz⟩:=I.tuple hx
   have hlen:=r.length
   exact truthy_tuple pl (by simp only [List.size_toArray];lia) ⟨H,I.tok _,by rw [md r];exact q⟩
  ·subst e'
   obtain ⟨hz,hS,vs,r,m⟩:kvs.length<=sizeLine/\(p == sysModules)=false/\∃ vs,KV kvs vs/\s.heap.DictOf (bN X.prog X.w) p vs:=I.hok p _ hx
   have hlen:kvs.length=vs.length:=Paired.length r
   exact wpAny_truthy_dict hS m (by lia) ⟨H,I.tok _,by rw [rG r];exact q⟩
 | _=>exact (show False from e).elim
theorem dB (ha:PE X a ta) (he:∀ whole,isTrue a X.env whole=(do let v ← whole;standAt a.pos;holding [v] (truthy v))) :
  PT X a (λσ H Q=>ta σ H λx H'=>∃ k,zo X.K x H' k/\Q k H'):=by
 intro pins s σ H Q I h
 exact isTrue_plain (thn (ha pins s σ H _ I h) λv s1 ⟨x,H1,I1,r1,q1⟩=>zp pins s1 σ H1 x v Q I1 r1 q1) (he _)
theorem mf:OpR X (binaryOp .Add) (λx y H Q=>∃ i j,x=.str i/\y=.str j/\i.length+j.length<=sizeLine/\Q (.str (i ++ j)) H):=by
 intro pins s σ H x y v u Q I rx ry h
 obtain ⟨i,j,rfl,rfl,hz,q⟩:=h
 obtain ⟨t,rfl⟩:=rx
 obtain ⟨t',rfl⟩:=ry
 exact add_str (λt' tk=>⟨.str (i ++ j),H,I.tok _,⟨_,rfl⟩,q⟩) hz
theorem zq:OpR X (binaryOp .Add) (λx y H Q=>∃ i j,x=.byt i/\y=.byt j/\i.size+j.size<=16777216/\Q (.byt (i ++ j)) H):=by
 intro pins s σ H x y v u Q I rx ry h
 obtain ⟨i,j,rfl,rfl,hz,q⟩:=h
 obtain ⟨t,rfl⟩:=rx
 obtain ⟨t',rfl⟩:=ry
 exact PySem.W.KBy.add_bytes hz (λt' tk=>⟨.byt (i ++ j),H,I.tok _,⟨_,rfl⟩,q⟩)
theorem vals1 {x:V} {us:List Value} (r:Vals [x] us):∃ u,us=[u]/\RelV x u:=by
 cases r with
 | cons r1 r2=>cases r2;exact ⟨_,rfl,r1⟩
theorem vals2 {x y:V} {us:List Value} (r:Vals [x,y] us):∃ u w',us=[u,w']/\RelV x u/\RelV y w':=by
 cases r with
 | cons r1 r2 =>
  cases r2 with
  | cons r3 r4=>cases r4;exact ⟨_,_,rfl,r1,r3⟩
theorem ir (hc:X.calm=true):dH X (.builtin "max") (λxs H Q=>∃ i j,xs=[.int i,.int j]/\Q (.int (if j > i then j else i)) H):=by
 intro pins s σ H xs us Q I r h
 obtain ⟨i,j,rfl,q⟩:=h
 obtain ⟨u,w',rfl,⟨t,rfl⟩,⟨t',rfl⟩⟩:=vals2 r
 refine max_two_ints (I.ok.hd hc) λh' tk k=>⟨_,H,I.kept k,?_,q⟩
 by_cases hj:j > i
 ·rw [if_pos hj,if_pos hj];exact ⟨_,rfl⟩
 ·rw [if_neg hj,if_neg hj];exact ⟨_,rfl⟩
theorem fF (hc:X.calm=true):dH X (.builtin "min") (λxs H Q=>∃ i j,xs=[.int i,.int j]/\Q (.int (if j < i then j else i)) H):=by
 intro pins s σ H xs us Q I r h
 obtain ⟨i,j,rfl,q⟩:=h
 obtain ⟨u,w',rfl,⟨t,rfl⟩,⟨t',rfl⟩⟩:=vals2 r
 refine min_two_ints (I.ok.hd hc) λh' tk k=>⟨_,H,I.kept k,?_,q⟩
 by_cases hj:j < i
 ·rw [if_pos hj,if_pos hj];exact ⟨_,rfl⟩
 ·rw [if_neg hj,if_neg hj];exact ⟨_,rfl⟩
end
end L2
namespace L2
open PySem PySem.Spec PyProof.Rows
structure rH (h:Heap) (x dx C:Addr) (mA:Str->Option Value):Prop where
 obj:h.get? x=some (PySem.W.instObj C dx)
 ns:h.Ns1 dx mA
 ne:dx ≠ x
theorem uj {h:Heap} {dx:Addr} {mA:Str->Option Value} (n:h.Ns1 dx mA):∃ od,h.get? dx=some od/\∀ name,PySem.W.lookIn name od=some (mA name):=by
 obtain ⟨o,es,ep,ho,hd,hk,_,hm⟩:=n
 refine ⟨o,ho,λname=>?_⟩
 have e:=hm name
 unfold nsFind findBy at e
 rw [← Array.find?_toList] at e
 unfold PySem.W.lookIn
 rw [hd]
 dsimp only
 split
 ·rename_i y q
  rw [q] at e
  exact congrArg some e
 ·rename_i q
  rw [q] at e
  have a:es.toList.any (·.refKey)=false:=by
   rw [List.any_eq_false]
   intro y hy
   obtain ⟨z,t,zr⟩:=hk y (Array.mem_toList_iff.mp hy)
   simp [DictEntry.refKey,zr]
  have a' : ¬ es.toList.any (·.refKey)=true:=by rw [a];exact Bool.false_ne_true
  rw [if_neg a']
  exact congrArg some e
theorem rH.look {h:Heap} {x dx C:Addr} {mA:Str->Option Value} (I:rH h x dx C mA):∃ od,PySem.W.InstAt h x (PySem.W.instObj C dx) C (some od)/\∀ name,PySem.W.lookIn name od=some (mA name):=by
 obtain ⟨od,ho,hl⟩:=uj I.ns
 exact ⟨od,⟨I.obj,rfl,rfl,ho⟩,hl⟩
section
variable {prog:Program} {w:World} {A:Around} {E:Value->Shared->Prop} {s:Shared} {K:PySem.W.Frag} {x dx C f:Addr} {mA:Str->Option Value} {name:Str} {v:Value}
theorem get_map {expr:Bool} {Q:Value->Shared->Prop} (X:K.In s.heap) (I:rH s.heap x dx C mA) (hg:PySem.W.plainGet K C name=true) (hh:PySem.W.hasDictIn K C=true)
  (ha:PySem.W.findIn K (.ref C) name=some none) (hv:mA name=some v) (hv' : PySem.W.handedIn v=true) (h:Q v { s with toks:=s.toks+1 }) :
  wpAny (model prog w) A (getAttr (.ref x) name expr) Q E s:=by
 obtain ⟨od,J,hl⟩:=I.look
 exact PySem.W.get_value X J (PySem.W.plainGet_of hg).1 (PySem.W.findObj_own hh ha rfl (by rw [hl,hv])) hv' h
theorem uW {pl:Sem Bool} {Q:Value × List Value->Shared->Prop} (X:K.In s.heap) (I:rH s.heap x dx C mA) (hg:PySem.W.plainGet K C name=true)
  (hf:PySem.W.findIn K (.ref C) name=some (some (.ref f))) (ht:PySem.W.isFn K (.ref f)=true) (hv:mA name=none) (h:Q (.ref f,[.ref x]) s) :
  wpAny (model prog w) A (getMethod (.ref x) name pl) Q E s:=by
 obtain ⟨od,J,hl⟩:=I.look
 exact PySem.W.method_fn X J (PySem.W.plainGet_of hg).1 (PySem.W.plainGet_of hg).2 hf (beq_iff_eq.mp ht) (by show (PySem.W.lookIn name od).map (·.isSome)=some false;rw [hl,hv];rfl) h
theorem xg {ns:List Str} {Q:Unit->Shared->Prop} (X:K.In s.heap) (I:rH s.heap x dx C mA)
  (hs:PySem.W.findIn K (.ref C) "__setattr__" = some (some (.builtin "object.__setattr__"))) (hp:PySem.W.plainOver K C=true) (ht:PySem.W.takerIn K C name=some none) (hh:PySem.W.hasDictIn K C=true)
  (hw:PySem.Within mA ns) (hsz:ns.length<=sizeLine)
  (h:∀ h',rH h' x dx C (λy=>if y=name then some v else mA y)->Heap.SameBut dx s.heap h'->Q () { s with heap:=h',toks:=s.toks+2 }) :
  wpAny (model prog w) A (setAttr (.ref x) name v) Q E s:=by
 obtain ⟨od,J,hl⟩:=I.look
 refine PySem.W.set_plain X J hs (PySem.W.osa_open (s:={ s with toks:=s.toks+1 }) (r:=none) X J hp ht λb=>?_)
 obtain ⟨cd,hc,hd'⟩:=PySem.W.any_some hh
 have hx:s.heap.get? x=some ⟨.ref C,some dx,.plain,#[]⟩:=I.obj
 refine wpAny_bind (wpAny_pure (wpAny_bind (wpAny_bind (wpAny_loadPart hx (wpAny_bind (PySem.W.Looks.here (s:={ s with toks:=s.toks+1 }) (PySem.W.looks_clsIn X hc) ?_))))))
 rw [hd']
 refine wpAny_pure (a:=some dx) (wpAny_bind (wpAny_pure (wpAny_bind ?_)))
 refine wpAny_nsSet1 (s:={ s with toks:=s.toks+1 }) I.ns λh' hn2 hs2=>?_
 obtain ⟨oD,esD,epD,hoD,hdD,hcD⟩:=hn2.count (PySem.Within.cons name v hw)
 refine wpAny_bind (wpAny_lookBehind hoD (by rw [hdD];exact pastItsLine_dict (Nat.le_trans hcD (by rw [List.length_cons];lia))) ?_)
 exact wpAny_pure (h _ ⟨(hs2.2 _ (Ne.symm I.ne)).trans I.obj,hn2,I.ne⟩ hs2)
theorem uX {R:Result->Shared->Prop} {vs:List Value} {kw:List (Str × Value)} (X:K.In s.heap) (hm:PySem.W.makesIn K C=true)
  (hi:PySem.W.findIn K (.ref C) "__init__" = some (some (.ref f))) (hf:PySem.W.typeIn K (.ref f)=some (.type "function"))
  (h:codeAny (model prog w) (A.under (.builtin "type.__call__" ⟨.ref C :: vs,kw⟩)) (.call (.ref f) ⟨.ref (s.heap.objs.size+1) :: vs,kw⟩) (PySem.W.InitBack (s.heap.objs.size+1) R)
   { s with heap:=(s.heap.push PySem.W.emptyDict).push (PySem.W.instObj C s.heap.objs.size) }) :
  codeAny (model prog w) A (.call (.ref C) ⟨vs,kw⟩) R s:=by
 obtain ⟨hh,g,d,t,os⟩:=s
 exact PySem.W.make_core (PySem.W.makes_of X hm) (PySem.W.looks_findIn X hi) (λself=>PySem.W.bind_fn X self hf) (.inl rfl) h
end
def bz (f:Str) (v:V):List (Str × V)->List (Str × V)
 | []=>[(f,v)]
 | (g,x) :: r=>if g=f then (g,v) :: r else (g,x) :: bz f v r
theorem kZ (f g:Str) (v:V):∀ fs:List (Str × V),(bz f v fs).lookup g=if g=f then some v else fs.lookup g
 | []=>by
  show List.lookup g [(f,v)]=_
  by_cases h:g=f
  ·have hb:(g == f)=true:=beq_iff_eq.mpr h
   simp only [List.lookup,hb,if_pos h]
  ·have hb:(g == f)=false:=beq_eq_false_iff_ne.mpr h
   simp only [List.lookup,hb,if_neg h]
 | (k,x) :: r=>by
  have ih:=kZ f g v r
  rw [show bz f v ((k,x) :: r)=(if k=f then (k,v) :: r else (k,x) :: bz f v r) from rfl]
  by_cases hk:k=f
  ·rw [if_pos hk]
   by_cases h:g=k
   ·have hb:(g == k)=true:=beq_iff_eq.mpr h
    simp only [List.lookup,hb,if_pos (h.trans hk)]
   ·have hb:(g == k)=false:=beq_eq_false_iff_ne.mpr h
    simp only [List.lookup,hb,if_neg (λe:g=f=>h (e.trans hk.symm))]
  ·rw [if_neg hk]
   by_cases h:g=k
   ·have hb:(g == k)=true:=beq_iff_eq.mpr h
    simp only [List.lookup,hb,if_neg (λe:g=f=>hk (h.symm.trans e))]
   ·have hb:(g == k)=false:=beq_eq_false_iff_ne.mpr h
    simp only [List.lookup,hb]
    exact ih
theorem kD (f:Str) (v:V):∀ fs:List (Str × V),f ∈ (bz f v fs).map (·.1)/\∀ g,g ∈ fs.map (·.1)->g ∈ (bz f v fs).map (·.1)
 | []=>⟨by simp [bz],λg h=>by simp at h⟩
 | (k,x) :: r=>by
  obtain ⟨i1,i2⟩:=kD f v r
  rw [show bz f v ((k,x) :: r)=(if k=f then (k,v) :: r else (k,x) :: bz f v r) from rfl]
  by_cases hk:k=f
  ·rw [if_pos hk]
   subst hk
   exact ⟨by simp,λg h=>by simpa using h⟩
  ·rw [if_neg hk]
   refine ⟨?_,λg h=>?_⟩
   ·rw [List.map_cons]
    exact List.mem_cons_of_mem _ i1
   ·rw [List.map_cons] at h ⊢
    rcases List.mem_cons.mp h with e | e
    ·exact List.mem_cons.mpr (.inl e)
    ·exact List.mem_cons_of_mem _ (i2 g e)
theorem lg (f:Str) (v:V):∀ fs:List (Str × V),(bz f v fs).length<=fs.length+1
 | []=>by simp [bz]
 | (k,x) :: r=>by
  have ih:=lg f v r
  rw [show bz f v ((k,x) :: r)=(if k=f then (k,v) :: r else (k,x) :: bz f v r) from rfl]
  by_cases hk:k=f
  ·rw [if_pos hk,List.length_cons,List.length_cons];lia
  ·rw [if_neg hk,List.length_cons,List.length_cons];lia
theorem i0.some_of {v:V} {o:Option Value} (r:i0 (some v) o):∃ u,o=some u/\RelV v u:=by
 cases o with
 | none=>exact (show False from r).elim
 | some u=>exact ⟨u,rfl,r⟩
theorem i0.none_of {o:Option Value} (r:i0 none o):o=none:=by
 cases o with
 | none=>rfl
 | some u=>exact (show False from r).elim
theorem n6 {v:V} {u:Value} (r:RelV v u):PySem.W.handedIn u=true:=by
 cases v with
 | non=>cases (show u=Value.none from r);rfl
 | bl b=>cases (show u=Value.bool b from r);rfl
 | int i=>obtain ⟨t,e⟩:=(show ∃ t,u=Value.int i t from r);cases e;rfl
 | str x=>obtain ⟨t,e⟩:=(show ∃ t,u=Value.str x t from r);cases e;rfl
 | byt b=>obtain ⟨t,e⟩:=(show ∃ t,u=Value.bytes b t from r);cases e;rfl
 | flt b=>obtain ⟨t,e⟩:=(show ∃ t,u=Value.float b t from r);cases e;rfl
 | ref a=>cases (show u=Value.ref a from r);rfl
 | ty n=>cases (show u=Value.type n from r);rfl
section
variable {P:Program} {w:World} {H H' : Hp} {h h' : Heap} {a C dx:Addr} {fs fs' : List (Str × V)}
theorem lC (hok:HOk P w H h) (e:H a=some (.ins C dx fs)):∃ mA,rH h a dx C mA/\(∀ f,i0 (fs.lookup f) (mA f))/\PySem.Within mA (fs.map (·.1))/\fs.length<=1000/\H dx=some (.own a):=by
 obtain ⟨d,z,ne,ob,mA,n,r,q⟩:=(show bR P w H h a (.ins C dx fs) from hok a _ e)
 exact ⟨mA,⟨ob,n,ne⟩,r,q,z,d⟩
end
structure Cls (K:PySem.W.Frag) (C:Addr):Prop where
 pg:PySem.W.plainGet K C Str.empty=true
 hd:PySem.W.hasDictIn K C=true
 po:PySem.W.plainOver K C=true
 sa:PySem.W.findIn K (.ref C) "__setattr__" = some (some (.builtin "object.__setattr__"))
theorem Cls.get {K:PySem.W.Frag} {C:Addr} (c:Cls K C) (f:Str):PySem.W.plainGet K C f=true:=c.pg
def bq (K:PySem.W.Frag) (C:Addr) (f:Str):Prop:=PySem.W.findIn K (.ref C) f=some none
theorem bq.taker {K:PySem.W.Frag} {C:Addr} {f:Str} (n:bq K C f):PySem.W.takerIn K C f=some none:=by
 unfold PySem.W.takerIn
 rw [show PySem.W.findIn K (.ref C) f=some none from n]
 rfl
structure Con (K:PySem.W.Frag) (C:Addr) (f:Str) (v:V) (u:Value):Prop where
 at_:PySem.W.findIn K (.ref C) f=some (some u)
 rel:RelV v u
 get:PySem.W.specialIn K u "__get__" = some none
 cp:PySem.W.copiedNames.contains f=false
structure Meth (K:PySem.W.Frag) (C:Addr) (m:Str) (f:Addr):Prop where
 at_:PySem.W.findIn K (.ref C) m=some (some (.ref f))
 fn:PySem.W.isFn K (.ref f)=true
 kp:PySem.W.keepIn K (.ref f)=true
section
variable {X:Cx} {pins:List (Addr × Obj)} {σ:St} {H:Hp} {s:Shared} {a C dx:Addr} {fs:List (Str × V)} {f:Str} {v:V} {A:Around} {E:Value->Shared->Prop}
theorem rJ {b:Bool} {Q:Value->Shared->Prop} (I:Inv X pins σ H s) (e:H a=some (.ins C dx fs)) (c:Cls X.K C) (n:bq X.K C f) (l:fs.lookup f=some v)
  (h:∀ u s',Inv X pins σ H s'->RelV v u->Q u s'):wpAny (model X.prog X.w) A (getAttr (.ref a) f b) Q E s:=by
 obtain ⟨mA,O,r,_,_,_⟩:=lC I.hok e
 obtain ⟨u,hu,ru⟩:=i0.some_of (v:=v) (o:=mA f) (by rw [← l];exact r f)
 exact get_map I.kIn O (c.get f) c.hd n hu (n6 ru) (h u _ (I.tok _) ru)
theorem mh {m:Str} {g:Addr} {pl:Sem Bool} {Q:Value × List Value->Shared->Prop} (I:Inv X pins σ H s) (e:H a=some (.ins C dx fs)) (c:Cls X.K C) (k:Meth X.K C m g) (l:fs.lookup m=none)
  (h:Q (.ref g,[.ref a]) s):wpAny (model X.prog X.w) A (getMethod (.ref a) m pl) Q E s:=by
 obtain ⟨mA,O,r,_,_,_⟩:=lC I.hok e
 have hn:mA m=none:=i0.none_of (by rw [← l];exact r m)
 exact uW I.kIn O (c.get m) k.at_ k.fn hn h
theorem rK {y:V} {u:Value} {Q:Unit->Shared->Prop} (I:Inv X pins σ H s) (e:H a=some (.ins C dx fs)) (c:Cls X.K C) (n:bq X.K C f) (hl:fs.length < 1000) (ry:RelV y u)
  (h:∀ s',Inv X pins σ (upd H a (.ins C dx (bz f y fs))) s'->Q () s'):wpAny (model X.prog X.w) A (setAttr (.ref a) f u) Q E s:=by
 obtain ⟨mA,O,r,wi,_,ho⟩:=lC I.hok e
 have hz:(fs.map (·.1)).length<=sizeLine:=by rw [List.length_map,sizeLine_eq];lia
 refine xg I.kIn O c.sa c.po n.taker c.hd wi hz λh' O' sb=>h _ ?_
 have hd:∃ o,h'.get? dx=some o:=let ⟨o,_,_,e',_⟩:=O'.ns;⟨o,e'⟩
 refine I.write (x:=a) (e:=dx) (by rw [e];exact True.intro) (.inr ho) (λb q hb z=>(sb.2 b hb).trans z) hd ?_
 refine ⟨by rw [av O.ne];exact ho,?_,O.ne,O'.obj,_,O'.ns,λg=>?_,λg hg=>?_⟩
 ·have:=lg f y fs;lia
 ·show i0 ((bz f y fs).lookup g) (if g=f then some u else mA g)
  rw [kZ]
  by_cases q:g=f
  ·rw [if_pos q,if_pos q];exact ry
  ·rw [if_neg q,if_neg q];exact r g
 ·by_cases q:g=f
  ·rw [q];exact (kD f y fs).1
  ·refine (kD f y fs).2 g (wi g λz=>hg ?_)
   show (if g=f then some u else mA g)=none
   rw [if_neg q];exact z
theorem Inv.made (I:Inv X pins σ H s):Inv X pins σ (upd (upd H s.heap.objs.size (.own (s.heap.objs.size+1))) (s.heap.objs.size+1) (.ins C s.heap.objs.size []))
  { s with heap:=(s.heap.push PySem.W.emptyDict).push (PySem.W.instObj C s.heap.objs.size) }:=by
 have e1:(s.heap.push PySem.W.emptyDict).get? s.heap.objs.size=some PySem.W.emptyDict:=Heap.get?_push_size s.heap rfl
 have e2:((s.heap.push PySem.W.emptyDict).push (PySem.W.instObj C s.heap.objs.size)).get? (s.heap.objs.size+1)=some (PySem.W.instObj C s.heap.objs.size):=by
  have:=Heap.get?_push_size (s.heap.push PySem.W.emptyDict) (o:=PySem.W.instObj C s.heap.objs.size) rfl
  rwa [Heap.size_push] at this
 have e3:(s.heap.push PySem.W.emptyDict).Ns s.heap.objs.size (λ_=>none):=⟨PySem.W.emptyDict,#[],_,e1,rfl,(λe he=>absurd he (by simp)),λ_=>rfl⟩
 have I1:=I.laid (a:=s.heap.objs.size) (o:=.own (s.heap.objs.size+1)) (h':=s.heap.push PySem.W.emptyDict) (t':=s.toks) (λb u q=>Heap.get?_push_of_some _ q) (Nat.le_refl _) ⟨_,e1⟩
 refine I1.laid (a:=s.heap.objs.size+1) (o:=.ins C s.heap.objs.size []) (t':=s.toks) (λb u q=>Heap.get?_push_of_some _ q) (Nat.le_of_eq (Heap.size_push _ _)) ?_
 have ne:s.heap.objs.size ≠ s.heap.objs.size+1:=Nat.ne_of_lt (Nat.lt_succ_self _)
 refine ⟨by rw [av ne,af],Nat.zero_le _,ne,e2,λ_=>none,(Heap.Ns1.of_empty e3).at λo q=>Heap.get?_push_of_some _ q,λ_=>True.intro,λy hy=>absurd rfl hy⟩
theorem xh {prog:Program} {w:World} {env:Env} {e:Expr} {f:Str} {pos:Pos} {s:Shared} {Q:Value->Shared->Prop} (hb:attributeBase e f env (eval e env)=eval e env)
  (h:wpAny (model prog w) A (eval e env) (λo s₁=>wpAny (model prog w) A (getAttr o f true) Q E s₁) E s):wpAny (model prog w) A (eval (.Attribute e f pos) env) Q E s :=
 Attribute_any_ h (by rw [arm_eval_Attribute,hb])
end
def BH (K:PySem.W.Frag) (ta:TE) (f:Str):TE:=λσ H Q=>ta σ H λx H1=>∃ a C dx fs v,x=.ref a/\H1 a=some (.ins C dx fs)/\Cls K C/\bq K C f/\fs.lookup f=some v/\Q v H1
def CV (K:PySem.W.Frag) (ta tv:TE) (f:Str):TS:=λD σ H=>tv σ H λy H1=>ta σ H1 λx H2=>∃ a C dx fs,x=.ref a/\H2 a=some (.ins C dx fs)/\Cls K C/\bq K C f/\fs.length < 1000 /\
 D.nx σ (upd H2 a (.ins C dx (bz f y fs)))
section
variable {X:Cx} {o e value:Expr} {f:Str} {pos pos' BI:Pos} {ta tv:TE}
theorem aY (he:PE X e ta) (hb:attributeBase e f X.env (eval e X.env)=eval e X.env):PE X (.Attribute e f pos) (BH X.K ta f):=by
 intro pins s σ H Q I h
 refine xh hb (thn (he pins s σ H _ I h) λu s1 ⟨x,H1,I1,rx,a,C,dx,fs,v,ex,ea,c,n,l,q⟩=>?_)
 subst ex
 obtain rfl:u=Value.ref a:=rx
 exact rJ I1 ea c n l λu' s2 I2 ru=>⟨v,H1,I2,ru,q⟩
theorem cx (ha:PE X o ta) (hv:PE X value tv) (hs:swapsWith value (some (.Attribute o f pos')) pos.line X.env=pure false):PS X (.Assign [.Attribute o f pos'] value pos) (CV X.K ta tv f):=by
 intro pins s σ H D I h
 refine plainObj_wpAny_Assign_Attribute (thn (hv pins s σ H _ I h) λu s1 ⟨y,H1,I1,ry,q⟩=>thn (ha pins s1 σ H1 _ I1 q) λov s2 ⟨x,H2,I2,rx,a,C,dx,fs,ex,ea,c,n,l,q2⟩=>?_) hs
 subst ex
 obtain rfl:ov=Value.ref a:=rx
 exact rK I2 ea c n l ry λs3 I3=>⟨σ,_,I3,q2⟩
end
section
variable {X:Cx} {pins:List (Addr × Obj)} {σ:St} {H:Hp} {s:Shared} {A:Around} {E:Value->Shared->Prop} {Q:Value->Shared->Prop} {c:Value} {b:Bool}
inductive kE (K:PySem.W.Frag) (H:Hp):V->Value->Prop where
 | non:kE K H .non (.type "NoneType")
 | bl (x:Bool):kE K H (.bl x) (.type "bool")
 | int (i:Int):kE K H (.int i) (.type "int")
 | str (x:Str):kE K H (.str x) (.type "str")
 | flt (x:UInt64):kE K H (.flt x) (.type "float")
 | lst {a:Addr} {xs:List V} (e:H a=some (.lst xs)):kE K H (.ref a) (.type "list")
 | frz {a:Addr} {o:Obj} {xs:List V} (e:H a=some (.frz o (.lst xs))):kE K H (.ref a) (.type "list")
 | tup {a:Addr} {xs:List V} (e:H a=some (.tup xs)):kE K H (.ref a) (.type "tuple")
 | dK {a:Addr} {kvs:List (Key × V)} (e:H a=some (.dK kvs)):kE K H (.ref a) (.type "dict")
 | dT {a:Addr} {kvs:List (List Key × V)} (e:H a=some (.dT kvs)):kE K H (.ref a) (.type "dict")
 | ins {a C dx:Addr} {fs:List (Str × V)} (e:H a=some (.ins C dx fs)) (cl:Cls K C) (ha:PySem.W.findIn K (.ref C) "__class__" = some (some (.builtin "object.__class__")))
   (hn:PySem.W.specialIn K (.builtin "object.__class__") "__get__" = some (some (.builtin "getset_descriptor.__get__"))) (htk:PySem.W.takesIn K (.builtin "object.__class__")=some true)
   (hm:PySem.W.mroIn K C (.type "object")=some true):kE K H (.ref a) (.ref C)
theorem uk {x:V} {u t:Value} (I:Inv X pins σ H s) (rx:RelV x u) (ty:kE X.K H x t) (e:PySem.W.kitOne X.K t c=some b) (h:∀ tk,Q (.bool b) { s with toks:=tk }) :
  wpAny (model X.prog X.w) A (call (.builtin "isinstance") [u,c]) Q E s:=by
 cases ty with
 | non=>cases (show u=Value.none from rx);exact PySem.W.kia_one PySem.W.kitx_none I.kIn True.intro e (λz=>nomatch z) h
 | bl y=>cases (show u=Value.bool y from rx);exact PySem.W.kia_one PySem.W.kitx_bool I.kIn True.intro e (λz=>nomatch z) h
 | int i=>obtain ⟨t,q⟩:=(show ∃ t,u=Value.int i t from rx);cases q;exact PySem.W.kia_one PySem.W.kitx_int I.kIn True.intro e (λz=>nomatch z) h
 | str y=>obtain ⟨t,q⟩:=(show ∃ t,u=Value.str y t from rx);cases q;exact PySem.W.kia_one PySem.W.kitx_str I.kIn True.intro e (λz=>nomatch z) h
 | flt y=>obtain ⟨t,q⟩:=(show ∃ t,u=Value.float y t from rx);cases q;exact PySem.W.kia_one PySem.W.kitx_float I.kIn True.intro e (λz=>nomatch z) h
 | @lst a xs ea =>
  cases (show u=Value.ref a from rx)
  obtain ⟨_,_,n,_,h1⟩:=(show bR X.prog X.w H s.heap a (.lst xs) from I.hok a _ ea)
  exact PySem.W.kia_one PySem.W.kitx_list I.kIn ⟨_,h1,rfl⟩ e (λz=>nomatch z) h
 | @frz a ob xs ea =>
  cases (show u=Value.ref a from rx)
  obtain ⟨_,_,_,n,_,h1⟩:=(show bR X.prog X.w H s.heap a (.frz ob (.lst xs)) from I.hok a _ ea)
  exact PySem.W.kia_one PySem.W.kitx_list I.kIn ⟨_,h1,rfl⟩ e (λz=>nomatch z) h
 | @tup a xs ea =>
  cases (show u=Value.ref a from rx)
  obtain ⟨_,_,_,p⟩:=(show bR X.prog X.w H s.heap a (.tup xs) from I.hok a _ ea)
  obtain ⟨o,h1,h2,_⟩:=p
  exact PySem.W.kia_one PySem.W.kitx_tuple I.kIn ⟨o,h1,h2⟩ e (λz=>nomatch z) h
 | @dK a kvs ea =>
  cases (show u=Value.ref a from rx)
  obtain ⟨_,_,vs,_,p⟩:=(show bR X.prog X.w H s.heap a (.dK kvs) from I.hok a _ ea)
  obtain ⟨o,es,ep,h1,h2,_⟩:=p
  exact PySem.W.kia_one PySem.W.kitx_dict I.kIn ⟨o,h1,h2.1⟩ e (λz=>nomatch z) h
 | @dT a kvs ea =>
  cases (show u=Value.ref a from rx)
  obtain ⟨_,_,xs,_,o,es,ep,h1,h2,_⟩:=(show bR X.prog X.w H s.heap a (.dT kvs) from I.hok a _ ea)
  exact PySem.W.kia_one PySem.W.kitx_dict I.kIn ⟨o,h1,h2.1⟩ e (λz=>nomatch z) h
 | @ins a C dx fs ea cl ha hn htk hm =>
  cases (show u=Value.ref a from rx)
  obtain ⟨mA,O,_⟩:=lC I.hok ea
  obtain ⟨od,J,_⟩:=O.look
  exact PySem.W.kia_one (PySem.W.kitx_own (cl.get _) cl.hd ha hn htk hm) I.kIn J e (λz=>nomatch z) h
end
end L2
namespace L2
open PySem PySem.Spec PyProof.Rows
structure cI (k:Nat) (A:Around):Prop where
 hd:A.handled=none
 dp:A.depth+3 * k+5 < recursionLimit
 un:A.units+16 * k+200 < cLine
theorem cI.mono {j k:Nat} {A:Around} (r:cI k A) (h:j<=k):cI j A:=⟨r.hd,by have:=r.dp;lia,by have:=r.un;lia⟩
theorem cI.deeper {k:Nat} {A:Around} (r:cI (k+1) A) (env:Env):cI k (A.deeper env) :=
 ⟨r.hd,by have:=r.dp;show A.depth+1+3 * k+5 < _;lia,by have:=r.un;show A.units+3+16 * k+200 < _;lia⟩
theorem rL {A:Around} {C:Addr} {us:List Value} {kw:List (Str × Value)} : (A.under (.builtin "type.__call__" ⟨.ref C :: us,kw⟩)).depth=A.depth+1:=by
 first | rfl | simp [Around.under,Code.weight,Code.isCreation,Code.isGuard,Code.isCaller,Code.frames,Code.isFrame,guardIds]
theorem rM {A:Around} {C:Addr} {us:List Value} {kw:List (Str × Value)} : (A.under (.builtin "type.__call__" ⟨.ref C :: us,kw⟩)).units=A.units+1:=by
 first | rfl | simp [Around.under,Code.cUnits,Code.frames,Code.isFrame]
theorem cI.make {k:Nat} {A:Around} (r:cI (k+1) A) (C:Addr) (us:List Value) (kw:List (Str × Value)):cI k (A.under (.builtin "type.__call__" ⟨.ref C :: us,kw⟩)) :=
 ⟨r.hd,by have:=r.dp;rw [rL];lia,by have:=r.un;rw [rM];lia⟩
theorem cI.depth {k:Nat} {A:Around} (r:cI k A):A.depth < recursionLimit:=by have:=r.dp;lia
theorem cI.units {k:Nat} {A:Around} (r:cI k A):A.units+64 < cLine:=by have:=r.un;lia
def zt:TA:=λ_ H Q=>Q [] H
def BJ (ta:TE) (tr:TA):TA:=λσ H Q=>ta σ H λx H1=>tr σ H1 λxs H2=>Q (x :: xs) H2
section
variable {X:Cx} {e:Expr} {es:List Expr} {te:TE} {t:TA} {pos:Pos}
theorem ag:PA X [] zt:=λ_ _ _ _ H Q I h=>Calls.spliced_nil ⟨[],H,I,.nil,h⟩
theorem aa (ha:PE X e te) (hr:PA X es t) (hs:starEach (e :: es) X.env=(false,eval e X.env) :: starEach es X.env:=by rfl):PA X (e :: es) (BJ te t):=by
 intro pos pins s σ H Q I h
 rw [hs]
 show wpAny _ _ (spliced ((false,eval e X.env) :: backTo pos (starEach es X.env))) _ _ s
 refine Calls.spliced_cons (thn (ha pins s σ H _ I h) λu s1 ⟨x,H1,I1,r1,q1⟩=>?_)
 exact thn (hr pos pins s1 σ H1 _ I1 q1) λus s2 ⟨xs,H2,I2,r2,q2⟩=>⟨x :: xs,H2,I2,.cons r1 r2,q2⟩
def CW (t:TA):TE:=λσ H Q=>t σ H λxs H1=>xs.length<=sizeLine/\∀ p,H1 p=none->Q (.ref p) (upd H1 p (.tup xs))
def CY (t:TA):TE:=λσ H Q=>t σ H λxs H1=>xs.length<=sizeLine/\∀ p,H1 p=none->Q (.ref p) (upd H1 p (.lst xs))
theorem bc {x1} (h:PA X es t):PE X (.Tuple es x1 pos) (CW t):=by
 intro pins s σ H Q I hq
 refine wpAny_Tuple_spliced (thn (h pos pins s σ H _ I hq) λus s1 ⟨xs,H1,I1,r,z,q⟩=>⟨by rw [← r.length];exact z,?_⟩)
 have hf:H1 s1.heap.objs.size=none:=I1.hok.fresh (Nat.le_refl _)
 refine ⟨.ref s1.heap.objs.size,upd H1 s1.heap.objs.size (.tup xs),I1.laid (t':=s1.toks) (λb u e=>Heap.get?_push_of_some _ e) (Nat.le_refl _) ?_,rfl,q _ hf⟩
 exact ⟨z,us,r,⟨_,Heap.get?_push_size _ rfl,rfl,_,rfl⟩⟩
theorem bK (h:PA X es t):PE X (.List es pos) (CY t):=by
 intro pins s σ H Q I hq
 refine wpAny_List_spliced (thn (h pos pins s σ H _ I hq) λus s1 ⟨xs,H1,I1,r,z,q⟩=>⟨by rw [← r.length];exact z,?_⟩)
 have hf:H1 s1.heap.objs.size=none:=I1.hok.fresh (Nat.le_refl _)
 refine ⟨.ref s1.heap.objs.size,upd H1 s1.heap.objs.size (.lst xs),I1.laid (t':=s1.toks) (λb u e=>Heap.get?_push_of_some _ e) (Nat.le_refl _) ?_,rfl,q _ hf⟩
 exact ⟨z,us,0,r,Heap.get?_push_size _ rfl⟩
end
abbrev Sp:=List V->Hp->VK->XK->Prop
abbrev CXT:=List Env->Hp->Shared->XK->Value->Shared->Prop
structure rN (P:Program) (w:World) (K:PySem.W.Frag) (mg:Str->Option Value) (base:Heap) (A:Around) (outer:List Env) (s:Shared) (H:Hp):Prop where
 frames:A.frames=some outer
 mod:Mod K mg base
 bs:∀ b o,base.get? b=some o->s.heap.get? b=some o/\H b=none
 bsz:base.objs.size<=s.heap.objs.size
 funs:s.heap.FunFrames base outer
 frf:∀ b ∈ frs outer,H b=none
 hok:HOk P w H s.heap
 bare:AllBare s.gens
def CE (outer:List Env) (P:Program) (w:World) (H:Hp) (s:Shared) (Q:VK) (u:Value) (s' : Shared):Prop :=
 ∃ v H',s'.os=s.os/\AllBare s'.gens/\Un (frs outer) [] H H' s.heap s'.heap/\HOk P w H' s'.heap/\RelV v u/\Q v H'
def CR (CX:CXT) (outer:List Env) (P:Program) (w:World) (H:Hp) (s:Shared) (Q:VK) (E:XK) (r:Result) (s' : Shared):Prop :=
 match r with
 | .ok (.ret u)=>CE outer P w H s Q u s'
 | .ok _=>False
 | .error e=>CX outer H s E e s'
structure aQ (P:Program) (w:World) (K:PySem.W.Frag) (mg:Str->Option Value) (base:Heap) (CX:CXT) (k:Nat) (f:Addr) (fd:FuncData) (ps:List Str) (sp:Sp):Prop where
 len:∀ vs H Q E,sp vs H Q E->vs.length=ps.length
 run:∀ (A:Around) (outer:List Env) (s:Shared) (H:Hp) (args:Args) (us:List Value) (vs:List V) (Q:VK) (E:XK),cI k A->rN P w K mg base A outer s H->BindsTo s fd args (ps.zip us)->Vals vs us->sp vs H Q E ->
  codeAny (model P w) A (.call (.ref f) args) (CR CX outer P w H s Q E) s
theorem aQ.mono {P:Program} {w:World} {K:PySem.W.Frag} {mg:Str->Option Value} {base:Heap} {CX:CXT} {j k:Nat} {f:Addr} {fd:FuncData} {ps:List Str} {sp:Sp} (F:aQ P w K mg base CX j f fd ps sp) (h:j<=k) :
  aQ P w K mg base CX k f fd ps sp:=⟨F.len,λA outer s H args us vs Q E hr=>F.run A outer s H args us vs Q E (hr.mono h)⟩
theorem rN.make {P:Program} {w:World} {K:PySem.W.Frag} {mg:Str->Option Value} {base:Heap} {A:Around} {outer:List Env} {s:Shared} {H:Hp} (e:rN P w K mg base A outer s H) (C:Addr) (us:List Value) (kw:List (Str × Value)) :
  rN P w K mg base (A.under (.builtin "type.__call__" ⟨.ref C :: us,kw⟩)) outer s H:=⟨by first | exact e.frames | (simpa [Around.under,Code.envs,Code.isFrame,pushEnvs] using e.frames),e.mod,e.bs,e.bsz,e.funs,e.frf,e.hok,e.bare⟩
section
variable {X:Cx} {pins:List (Addr × Obj)} {σ:St} {H:Hp} {s s' : Shared}
theorem Inv.env0 (I:Inv X pins σ H s):rN X.prog X.w X.K X.mg X.base X.A X.stack s H :=
 ⟨I.ok.frames,I.ok.mod,I.bs,Nat.le_trans I.ok.bsz I.sz,I.stack,I.stkFree,I.hok,I.bare⟩
theorem Inv.after {Q:VK} {u:Value} (I:Inv X pins σ H s) (h:CE X.stack X.prog X.w H s Q u s'):EP X pins σ Q u s':=by
 obtain ⟨v,H',os,bare,un,hok,r,q⟩:=h
 obtain ⟨hh,g,d,t,os'⟩:=s'
 obtain rfl:os'=s.os:=os
 exact ⟨v,H',I.call (h':=hh) (g':=g) (d':=d) (t':=t) (ch:=[]) un hok bare (λb z=>absurd z (by simp)),r,q⟩
end
def BK (sp:Sp) (dvs:List V) (E:XK) (t:TA):TE:=λσ H Q=>t σ H λvs H1=>sp (vs ++ dvs) H1 Q E
def yk (C:Addr) (sp:Sp) (dvs:List V) (E:XK) (t:TA):TE:=λσ H Q=>t σ H λvs H1=>∀ x dx,H1 x=none->H1 dx=none->dx ≠ x ->
 sp (.ref x :: (vs ++ dvs)) (upd (upd H1 dx (.own x)) x (.ins C dx [])) (λv H2=>v=.non/\Q (.ref x) H2) E
def Binds (K:PySem.W.Frag) (fd:FuncData) (ps:List Str) (ds:List Value):Prop :=
 ∀ (s:Shared) (us:List Value),K.In s.heap->(us ++ ds).length=ps.length->BindsTo s fd ⟨us,[]⟩ (ps.zip (us ++ ds))
theorem Binds.all {K:PySem.W.Frag} {fd:FuncData} {ps:List Str} (h:∀ us:List Value,us.length=ps.length->bindArgs fd ⟨us,[]⟩=pure (ps.zip us)):Binds K fd ps []:=λs us _ hl=>by
 rw [List.append_nil] at hl ⊢
 exact .of_eq (h us hl)
def Passes (CX:CXT) (X:Cx) (E:XK):Prop:=∀ (pins:List (Addr × Obj)) (σ:St) (H:Hp) (s:Shared) (e:Value) (s' : Shared),Inv X pins σ H s->CX X.stack H s E e s'->X.xe e s'
section
variable {X:Cx} {CX:CXT} {k:Nat} {f C:Addr} {fd:FuncData} {ps:List Str} {sp:Sp} {dvs:List V} {ds:List Value} {E:XK} {x m:Str} {p pos apos:Pos} {e o:Expr} {es:List Expr} {ta:TE} {t:TA}
theorem uY {pins:List (Addr × Obj)} {σ:St} {H:Hp} {s:Shared} {Q:VK} {us:List Value} {vs:List V} (F:aQ X.prog X.w X.K X.mg X.base CX k f fd ps sp) (hr:cI k X.A) (hb:Binds X.K fd ps ds) (hd:Vals dvs ds) (hx:Passes CX X E)
  (I:Inv X pins σ H s) (r:Vals vs us) (h:sp (vs ++ dvs) H Q E):wpAny (model X.prog X.w) X.A (call (.ref f) us) (EP X pins σ Q) X.xe s:=by
 have r2:Vals (vs ++ dvs) (us ++ ds):=r.append hd
 have hl:(us ++ ds).length=ps.length:=by rw [← r2.length];exact F.len _ _ _ _ h
 refine wpAny_call (codeAny_mono (F.run X.A X.stack s H ⟨us,[]⟩ (us ++ ds) (vs ++ dvs) Q E hr I.env0 (hb s us I.kIn hl) r2 h) λr s' hq=>?_)
 cases r with
 | error e=>exact hx pins σ H s e s' I hq
 | ok fl =>
  cases fl with
  | ret u=>exact I.after hq
  | next=>exact False.elim hq
  | brk=>exact False.elim hq
  | cont=>exact False.elim hq
theorem xi (F:aQ X.prog X.w X.K X.mg X.base CX k f fd ps sp) (hr:cI k X.A) (hg:Gl X x) (hm:X.mg x=some (.ref f)) (hk:PySem.W.keepIn X.K (.ref f)=true) (hb:Binds X.K fd ps ds) (hd:Vals dvs ds) (hx:Passes CX X E)
  (ha:PA X (e :: es) t) (hdb:(x == ("__debug__" : Str))=false:=by decide) (he:starEach (e :: es) X.env=(false,eval e X.env) :: starEach es X.env:=by rfl) (hpl:(backTo pos (starEach es X.env)).any (·.1)=false:=by rfl) :
  PE X (.Call (.Name x p) (e :: es) [] pos) (BK sp dvs E t):=by
 intro pins s σ H Q I h
 refine wpAny_Call_Name_kw (fW I hg hm ?_ hdb)
 refine PySem.W.callWith_K (h₀:=X.base) I.ok.mod.kin hk (thn (ha pos pins s σ H _ I h) λus s1 ⟨vs,H1,I1,r,q⟩=>⟨I1.kIn,?_⟩) he hpl
 exact uY F hr hb hd hx I1 r q
structure Mk (K:PySem.W.Frag) (C f:Addr):Prop where
 makes:PySem.W.makesIn K C=true
 init:PySem.W.findIn K (.ref C) "__init__" = some (some (.ref f))
 fn:PySem.W.isFn K (.ref f)=true
 kp:PySem.W.keepIn K (.ref C)=true
theorem qG {pins:List (Addr × Obj)} {σ:St} {H:Hp} {s:Shared} {Q:VK} {us:List Value} {vs:List V} (M:Mk X.K C f) (F:aQ X.prog X.w X.K X.mg X.base CX k f fd ps sp) (hr:cI (k+1) X.A) (hb:Binds X.K fd ps ds) (hd:Vals dvs ds)
  (hx:Passes CX X E) (I:Inv X pins σ H s) (r:Vals vs us)
  (h:∀ x dx,H x=none->H dx=none->dx ≠ x->sp (.ref x :: (vs ++ dvs)) (upd (upd H dx (.own x)) x (.ins C dx [])) (λv H2=>v=.non/\Q (.ref x) H2) E) :
  wpAny (model X.prog X.w) X.A (call (.ref C) us) (EP X pins σ Q) X.xe s:=by
 have hq:=h (s.heap.objs.size+1) s.heap.objs.size (I.hok.fresh (Nat.le_succ _)) (I.hok.fresh (Nat.le_refl _)) (Nat.ne_of_lt (Nat.lt_succ_self _))
 have I2:=Inv.made (C:=C) I
 have r2:Vals (V.ref (s.heap.objs.size+1) :: (vs ++ dvs)) (Value.ref (s.heap.objs.size+1) :: (us ++ ds)):=.cons rfl (r.append hd)
 have hl:(Value.ref (s.heap.objs.size+1) :: us ++ ds).length=ps.length:=by
  have e:=r2.length
  rw [F.len _ _ _ _ hq] at e
  exact e.symm
 refine wpAny_call (uX (f:=f) I.kIn M.makes M.init (beq_iff_eq.mp M.fn) (codeAny_mono (F.run _ X.stack _ _ ⟨Value.ref (s.heap.objs.size+1) :: us,[]⟩ (Value.ref (s.heap.objs.size+1) :: (us ++ ds)) _ _ E (hr.make C us [])
  (I2.env0.make C us []) (hb _ (Value.ref (s.heap.objs.size+1) :: us) I2.kIn hl) r2 hq) λr s' hq'=>?_))
 cases r with
 | error e=>exact hx pins σ _ _ e s' I2 hq'
 | ok fl =>
  cases fl with
  | ret u =>
   obtain ⟨v,H',I3,rv,ev,q3⟩:=I2.after hq'
   subst ev
   exact ⟨rv,⟨V.ref (s.heap.objs.size+1),H',I3,rfl,q3⟩⟩
  | next=>exact False.elim hq'
  | brk=>exact False.elim hq'
  | cont=>exact False.elim hq'
theorem xj (M:Mk X.K C f) (F:aQ X.prog X.w X.K X.mg X.base CX k f fd ps sp) (hr:cI (k+1) X.A) (hg:Gl X x) (hm:X.mg x=some (.ref C)) (hb:Binds X.K fd ps ds) (hd:Vals dvs ds) (hx:Passes CX X E)
  (ha:PA X (e :: es) t) (hdb:(x == ("__debug__" : Str))=false:=by decide) (he:starEach (e :: es) X.env=(false,eval e X.env) :: starEach es X.env:=by rfl) (hpl:(backTo pos (starEach es X.env)).any (·.1)=false:=by rfl) :
  PE X (.Call (.Name x p) (e :: es) [] pos) (yk C sp dvs E t):=by
 intro pins s σ H Q I h
 refine wpAny_Call_Name_kw (fW I hg hm ?_ hdb)
 refine PySem.W.callWith_K (h₀:=X.base) I.ok.mod.kin M.kp (thn (ha pos pins s σ H _ I h) λus s1 ⟨vs,H1,I1,r,q⟩=>⟨I1.kIn,?_⟩) he hpl
 exact qG M F hr hb hd hx I1 r q
theorem uZ (M:Mk X.K C f) (F:aQ X.prog X.w X.K X.mg X.base CX k f fd ps sp) (hr:cI (k+1) X.A) (hg:Gl X x) (hm:X.mg x=some (.ref C)) (hb:Binds X.K fd ps ds) (hd:Vals dvs ds) (hx:Passes CX X E)
  (hdb:(x == ("__debug__" : Str))=false:=by decide):PE X (.Call (.Name x p) [] [] pos) (yk C sp dvs E zt):=by
 intro pins s σ H Q I h
 refine wpAny_Call_Name_kw (fW I hg hm ?_ hdb)
 exact PySem.W.callWith_K0 I.kIn M.kp (qG (us:=[]) M F hr hb hd hx I .nil h)
end
section
variable {X:Cx} {CX:CXT} {k:Nat} {f C:Addr} {fd:FuncData} {ps ks:List Str} {sp:Sp} {E:XK} {x m:Str} {p pos apos CZ:Pos} {e o:Expr} {es:List Expr} {kws:List Keyword} {te ta:TE} {t tk:TA} {nm:Option Str}
structure C0 (K:PySem.W.Frag) (fd:FuncData) (ps ks:List Str) (g:List Value->List Value->List Value) (gV:List V->List V->List V):Prop where
 to:∀ (s:Shared) (us ws:List Value),K.In s.heap->(g us ws).length=ps.length->BindsTo s fd ⟨us,ks.zip ws⟩ (ps.zip (g us ws))
 rel:∀ {vs:List V} {us:List Value} {zs:List V} {ws:List Value},Vals vs us->Vals zs ws->Vals (gV vs zs) (g us ws)
variable {g:List Value->List Value->List Value} {gV:List V->List V->List V}
end
structure ay (N P:List Str) (sc:Scope):Prop where
 kind:sc.kind=.function
 co:sc.isCoroutine=false
 gen:sc.isGenerator=false
 nd:N.Nodup
 pre:N.take P.length=P
 par:∀ x ∈ P,sc.names.lookup x=some .local\/sc.names.lookup x=some .cell
 nofree:∀ y ∈ sc.names,y.2 ≠ .free
theorem n8 {kindOf:Str->Option NameKind} {x:Str} : ∀ {binds:List (Str × Value)} {m:Str->Option Value},(∀ v,(x,v) ∉ binds)->bindL kindOf binds m x=m x
 | [],_,_=>rfl
 | (n,v) :: r,m,h=>by
  unfold bindL
  rw [n8 λw hw=>h w (List.mem_cons_of_mem _ hw)]
  split
  ·have:x ≠ n:=by rintro rfl;exact h v List.mem_cons_self
   simp [this]
  ·rfl
theorem og {kindOf:Str->Option NameKind} {x:Str} : ∀ {binds:List (Str × Value)} {m:Str->Option Value},(∀ v,(x,v) ∉ binds)->bindC kindOf binds m x=m x
 | [],_,_=>rfl
 | (n,v) :: r,m,h=>by
  unfold bindC
  rw [og λw hw=>h w (List.mem_cons_of_mem _ hw)]
  split
  ·rfl
  ·have:x ≠ n:=by rintro rfl;exact h v List.mem_cons_self
   simp [this]
theorem oh {kindOf:Str->Option NameKind} {x:Str} {v:Value} : ∀ {P:List Str} {vs:List Value} {i:Nat} {m:Str->Option Value},P.Nodup->P[i]?=some x->vs[i]?=some v->kindOf x=some .local ->
  bindL kindOf (P.zip vs) m x=some v
 | [],_,_,_,_,h,_,_=>by simp at h
 | _ :: _,[],_,_,_,_,h,_=>by simp at h
 | p :: P,w :: vs,0,m,nd,h1,h2,hk=>by
  simp at h1 h2;subst h1;subst h2
  show bindL kindOf ((p,w) :: P.zip vs) m p=_
  unfold bindL
  rw [n8 λv hv=>(List.nodup_cons.mp nd).1 (List.of_mem_zip hv).1,if_pos hk]
  simp
 | p :: P,w :: vs,i+1,m,nd,h1,h2,hk=>by
  show bindL kindOf ((p,w) :: P.zip vs) m x=_
  unfold bindL
  exact oh (i:=i) (List.nodup_cons.mp nd).2 (by simpa using h1) (by simpa using h2) hk
theorem oi {kindOf:Str->Option NameKind} {x:Str} {v:Value} : ∀ {P:List Str} {vs:List Value} {i:Nat} {m:Str->Option Value},P.Nodup->P[i]?=some x->vs[i]?=some v->kindOf x ≠ some .local ->
  bindC kindOf (P.zip vs) m x=some v
 | [],_,_,_,_,h,_,_=>by simp at h
 | _ :: _,[],_,_,_,_,h,_=>by simp at h
 | p :: P,w :: vs,0,m,nd,h1,h2,hk=>by
  simp at h1 h2;subst h1;subst h2
  show bindC kindOf ((p,w) :: P.zip vs) m p=_
  unfold bindC
  rw [og λv hv=>(List.nodup_cons.mp nd).1 (List.of_mem_zip hv).1,if_neg hk]
  simp
 | p :: P,w :: vs,i+1,m,nd,h1,h2,hk=>by
  show bindC kindOf ((p,w) :: P.zip vs) m x=_
  unfold bindC
  exact oi (i:=i) (List.nodup_cons.mp nd).2 (by simpa using h1) (by simpa using h2) hk
def start (N:List Str) (vs:List V):St:=vs.map some ++ List.replicate (N.length - vs.length) none
def jR (CX:CXT) (P:Program) (w:World) (K:PySem.W.Frag) (mg:Str->Option Value) (base:Heap) (N:List Str) (qual:Str) (scope:Scope) (f:Addr) (cd:Value) (A:Around) (outer:List Env) (s:Shared) (H:Hp) (E:XK):Cx where
 prog:=P
 w:=w
 K:=K
 mg:=mg
 base:=base
 A:=A.deeper (envOfC qual scope s.heap.objs.size f cd)
 N:=N
 s₀:=s
 H₀:=H
 env:=envOfC qual scope s.heap.objs.size f cd
 outer:=outer
 stack:=envOfC qual scope s.heap.objs.size f cd :: outer
 ex:=[]
 calm:=true
 fn:=λ_=>true
 pn:=[]
 xe:=λe s'=>wpAny (model P w) (A.deeper (envOfC qual scope s.heap.objs.size f cd)) (leaving (envOfC qual scope s.heap.objs.size f cd) e) (λ_ s''=>CX outer H s E e s'') (λe' s''=>CX outer H s E e' s'') s'
theorem qH {sc:Scope} {n:Nat} {x:Str} (h:sc.names.lookup x=some .cell):∃ c,(cellsFrom n sc.names []).lookup x=some c:=by
 have q:=PySem.W.cellsFrom_some sc.names n [] (.inl h)
 exact Option.isSome_iff_exists.mp q
theorem um {CX:CXT} {P:Program} {w:World} {K:PySem.W.Frag} {mg:Str->Option Value} {base:Heap} {N ps:List Str} {qual:Str} {scope:Scope} {f:Addr} {cd:Value} {A:Around} {outer:List Env} {s s1:Shared} {H:Hp} {E:XK} {us:List Value} {vs:List V}
  (S:ay N ps scope) (hd:A.handled=none) (e0:rN P w K mg base A outer s H) (hl:vs.length=ps.length) (r:Vals vs us)
  (x:InCallC s s.heap.objs.size (bindL (envOfC qual scope s.heap.objs.size f cd).kindOf (ps.zip us) λ_=>none) (cellsFrom (s.heap.objs.size+1) scope.names []) (bindC (envOfC qual scope s.heap.objs.size f cd).kindOf (ps.zip us) λ_=>none) s1) :
  Inv (jR CX P w K mg base N qual scope f cd A outer s H E) [] (start N vs) H s1:=by
 have hpl:ps.length<=N.length:=by have:=congrArg List.length S.pre;rw [List.length_take] at this;lia
 obtain ⟨h1,tk,rfl,hk⟩:=x.done
 have noA:∀ b:Addr,b ∉ (jR CX P w K mg base N qual scope f cd A outer s H E).ex:=λb z=>absurd (show b ∈ ([]:List Addr) from z) (by simp)
 refine ⟨⟨e0.mod,S.kind,rfl,rfl,Nat.le_refl _,λy z c h1 h2=>?_,λy hy=>?_,λy c _ h=>?_,λ_=>hd,Around.frames_deeper e0.frames,.inr ⟨rfl,rfl⟩,λb z=>absurd z (noA b),e0.bs,e0.bsz,λb _ _=>noA b,λb z=>absurd z (noA b),e0.funs,e0.frf⟩,
  rfl,e0.bare,Un.kept hk,⟨_,x.toInCall.ns,λi y v h1 h2 h3=>?_⟩,λy c h=>⟨_,x.cell y c h⟩,e0.hok.fresh (Nat.le_refl _),λy c h=>?_,λp hp=>absurd (show p ∈ ([]:List (Addr × Obj)) from hp) (by simp),e0.hok.kept hk,?_⟩
 ·exact name_of_addr x.apart (PySem.mem_of_lookup h1) (PySem.mem_of_lookup h2)
 ·have hy:scope.names.lookup y=some .cell\/scope.names.lookup y=some .free:=hy
  rcases hy with hy | hy
  ·exact qH hy
  ·exact absurd rfl (S.nofree _ (PySem.mem_of_lookup hy))
 ·exact Nat.le_of_lt (x.above y c (PySem.mem_of_lookup h))
 ·have hi:i < vs.length:=by
   unfold start at h2
   by_cases hi:i < vs.length
   ·exact hi
   ·rw [List.getElem?_append_right (by simpa using hi)] at h2
    rw [List.getElem?_replicate] at h2
    split at h2 <;> cases h2
  have ha:vs[i]?=some v:=by
   unfold start at h2
   rw [List.getElem?_append_left (by simpa using hi),List.getElem?_map] at h2
   cases e:vs[i]? with
   | none=>rw [e] at h2;cases h2
   | some a=>rw [e] at h2;cases h2;rfl
  obtain ⟨u,hu,rv⟩:=r.get ha
  have hp:ps[i]?=some y:=by
   rw [← S.pre,List.getElem?_take_of_lt (by lia)];exact h1
  have ndP:ps.Nodup:=by rw [← S.pre];exact S.nd.sublist (List.take_sublist _ _)
  refine ⟨u,rv,?_⟩
  rcases S.par y (G8 hp) with k | k
  ·exact .inl ⟨k,oh ndP hp hu k⟩
  ·obtain ⟨c,e⟩:=qH (n:=s.heap.objs.size+1) k
   refine .inr ⟨.inl k,c,e,?_⟩
   have q:=x.cell y c e
   rw [oi ndP hp hu (by show scope.names.lookup y ≠ _;rw [k];decide)] at q
   exact q
 ·exact e0.hok.fresh (Nat.le_of_lt (x.above y c (PySem.mem_of_lookup h)))
 ·unfold start
  show _=N.length
  rw [List.length_append,List.length_map,List.length_replicate]
  lia
theorem ym {CX:CXT} {P:Program} {w:World} {K:PySem.W.Frag} {mg:Str->Option Value} {base:Heap} {k:Nat} {f:Addr} {name qual:Str} {params:Arguments} {body:List Stmt} {scope:Scope} {dV kV doc pm cdv ct oc:Value} {an od:Option Addr}
  {osl:Array (Option Value)} {N ps:List Str} {sp:Sp} (lk:K.lookup f=some ⟨oc,od,.func (PySem.W.fnOf name qual params body scope dV kV doc pm an cdv ct),osl⟩) (hcd:PySem.W.codeIn K cdv qual=true) (S:ay N ps scope)
  (len:∀ vs H Q E,sp vs H Q E->vs.length=ps.length)
  (qI:∀ (A:Around) (outer:List Env) (s:Shared) (H:Hp) (vs:List V) (Q:VK) (E:XK),cI k (A.deeper (envOfC qual scope s.heap.objs.size f cdv))->sp vs H Q E ->
   ∃ t,PSs (jR CX P w K mg base N qual scope f cdv A outer s H E) body t/\t { nx:=λ_ H'=>Q .non H',rt:=Q } (start N vs) H) :
  aQ P w K mg base CX (k+1) f (PySem.W.fnOf name qual params body scope dV kV doc pm an cdv ct) ps sp:=by
 refine ⟨len,λA outer s H args us vs Q E hr e0 hb r hsp=>?_⟩
 have hl:=len _ _ _ _ hsp
 have KX:K.In s.heap:=e0.mod.kin.keeps λb o e=>(e0.bs b o e).1
 have lim:s.heap.NoLimit:=e0.mod.nolimit.keeps λb o e=>(e0.bs b o e).1
 have BL:∀ y ∈ ps.zip us,scope.names.lookup y.1=some .local\/(scope.names.lookup y.1=some .cell/\((cellsFrom (s.heap.objs.size+1) scope.names []).lookup y.1).isSome=true):=λ⟨n,v⟩ hy=>by
  rcases S.par n (List.of_mem_zip hy).1 with q | q
  ·exact .inl q
  ·exact .inr ⟨q,PySem.W.cellsFrom_some _ _ _ (.inl q)⟩
 refine codeAny_call_function hr.depth (KX _ _ lk) rfl S.co S.gen rfl (PySem.W.codeRec_of KX hcd) (hb _ _ _ _ ?_)
 refine wpAny_newFunctionEnv_cells S.kind BL λenv he s1 x=>?_
 subst he
 refine ⟨lim.keeps x.toInCall.keep,codeAny_func ?_⟩
 obtain ⟨t,ht,hq⟩:=qI A outer s H vs Q E (hr.deeper _) hsp
 have I:Inv (jR CX P w K mg base N qual scope f cdv A outer s H E) [] (start N vs) H s1:=um S hr.hd e0 hl r x
 refine wpAny_mono (ht [] s1 (start N vs) H _ I hq) (λfl s' hs=>?_) λe s' hs=>hs
 have fin:∀ {σ' : St} {H' : Hp} {v:V} {u:Value},Inv (jR CX P w K mg base N qual scope f cdv A outer s H E) [] σ' H' s'->RelV v u->Q v H'->CE outer P w H s Q u s' :=
  λ{σ' H' v u} J rv q=>⟨v,H',J.os,J.bare,J.base,J.hok,rv,q⟩
 cases fl with
 | ret u =>
  obtain ⟨v,σ',H',J,rv,q⟩:=hs
  exact fin J rv q
 | next =>
  obtain ⟨σ',H',J,q⟩:=hs
  exact fin (v:=V.non) (u:=Value.none) J rfl q
 | brk =>
  obtain ⟨_,_,_,q⟩:=hs
  exact False.elim q
 | cont =>
  obtain ⟨_,_,_,q⟩:=hs
  exact False.elim q
end L2
namespace L2
open PySem PySem.Spec PyProof.Rows
section
variable {X:Cx} {x:Str} {p pos:Pos} {e:Expr} {es:List Expr} {t:TA} {id T:String} {r:List V->Hp->VK->Prop}
def tCB (r:List V->Hp->VK->Prop) (t:TA):TE:=λσ H Q=>t σ H λvs H1=>r vs H1 Q
theorem au (hc:dH X (.builtin id) r) (hg:Gl X x) (hm:X.mg x=none) (hv:bootBuiltins x=some (.builtin id)) (ha:PA X (e :: es) t) (hn:x ≠ "__name__" := by decide) (hdb:(x == ("__debug__" : Str))=false:=by decide)
  (he:starEach (e :: es) X.env=(false,eval e X.env) :: starEach es X.env:=by rfl) (hpl:(backTo pos (starEach es X.env)).any (·.1)=false:=by rfl):PE X (.Call (.Name x p) (e :: es) [] pos) (tCB r t):=by
 intro pins s σ H Q I h
 refine wpAny_Call_Name_kw (i3 I hg hm hv ?_ hn hdb)
 exact PyProof.Rows.callWith_builtin1 (thn (ha pos pins s σ H _ I h) λus s1 ⟨vs,H1,I1,r1,q1⟩=>hc pins s1 σ H1 vs us Q I1 r1 q1) he hpl
theorem bD (hc:dH X (.type T) r) (hg:Gl X x) (hm:X.mg x=none) (hv:bootBuiltins x=some (.type T)) (ha:PA X (e :: es) t) (hn:x ≠ "__name__" := by decide) (hdb:(x == ("__debug__" : Str))=false:=by decide)
  (he:starEach (e :: es) X.env=(false,eval e X.env) :: starEach es X.env:=by rfl) (hpl:(backTo pos (starEach es X.env)).any (·.1)=false:=by rfl):PE X (.Call (.Name x p) (e :: es) [] pos) (tCB r t):=by
 intro pins s σ H Q I h
 refine wpAny_Call_Name_kw (i3 I hg hm hv ?_ hn hdb)
 exact PyProof.Rows.callWith_type1 (thn (ha pos pins s σ H _ I h) λus s1 ⟨vs,H1,I1,r1,q1⟩=>hc pins s1 σ H1 vs us Q I1 r1 q1) he hpl
end
end L2
namespace HT
open PySem PyProof.Rows
section
open PySem.SeqAt
open PySem.AutoSeq1 (wpAny_loadPart')
open PySem.MeetsSeq PySem.MeetsSeq2 PySem.MeetsSeq3
end
section
variable {prog:Program} {w:World} {A:Around} {E:Value->Shared->Prop} {s:Shared}
def sIx (n d:Nat):Option Int->Nat
 | none=>d
 | some v=>if v < 0 then (v+(n:Int)).toNat else min v.toNat n
end
end HT
namespace L2
open PySem PySem.Spec PyProof.Rows
abbrev TO:=St->Hp->(Option Int->Hp->Prop)->Prop
def PO (X:Cx) (e:Option Expr) (t:TO):Prop :=
 ∀ (pins:List (Addr × Obj)) (s:Shared) (σ:St) (H:Hp) (Q:Option Int->Hp->Prop),Inv X pins σ H s->t σ H Q ->
  wpAny (model X.prog X.w) X.A (evalPart e X.env) (λu s'=>∃ o H',Inv X pins σ H' s'/\IsPart u o/\Q o H') X.xe s
def BM (t:TE):TO:=λσ H Q=>t σ H λx H1=>∃ i,x=.int i/\Q (some i) H1
section
variable {X:Cx} {e:Expr} {te:TE} {lo hi:Option Expr} {tl th:TO} {pos p2:Pos}
theorem tw (h:PE X e te):PO X (some e) (BM te):=by
 intro pins s σ H Q I hw
 rw [evalPart_some]
 refine thn (h pins s σ H _ I hw) λu s1 ⟨x,H1,I1,r1,q1⟩=>?_
 obtain ⟨i,rfl,q⟩:=q1
 obtain ⟨t,rfl⟩:=r1
 exact ⟨some i,H1,I1,.int i t,q⟩
def SlR (X:Cx) (r:V->Option Int->Option Int->Hp->VK->Prop):Prop :=
 ∀ (pins:List (Addr × Obj)) (s:Shared) (σ:St) (H:Hp) (x:V) (v vl vu:Value) (lo hi:Option Int) (sl:Addr) (Q:VK),Inv X pins σ H s->RelV x v->s.heap.IsSliceOf sl vl vu .none->IsPart vl lo->IsPart vu hi->r x lo hi H Q ->
  ∃ T id,typeLookup (.type T) "__getitem__" = pure (some (.builtin id))/\s.TypeIs v T/\wpAny (model X.prog X.w) X.A (getItem v (.ref sl)) (EP X pins σ Q) X.xe s
def tSl (r:V->Option Int->Option Int->Hp->VK->Prop) (te:TE) (tl th:TO):TE:=λσ H Q=>te σ H λx H1=>tl σ H1 λl H2=>th σ H2 λu H3=>r x l u H3 Q
theorem u4 {r:V->Option Int->Option Int->Hp->VK->Prop} (hr:SlR X r) (he:PE X e te) (hl:PO X lo tl) (hu:PO X hi th):PE X (.Subscript e (.Slice lo hi none p2) pos) (tSl r te tl th):=by
 intro pins s σ H Q I h
 refine Subscript_ (thn (he pins s σ H _ I h) λv s1 ⟨x,H1,I1,r1,q1⟩=>?_)
 refine wpAny_Slice (thn (hl pins s1 σ H1 _ I1 q1) λvl s2 ⟨l,H2,I2,pl,q2⟩=>thn (hu pins s2 σ H2 _ I2 q2) λvu s3 ⟨u,H3,I3,pu,q3⟩=>?_)
 rw [evalPart_none]
 refine wpAny_pure ?_
 have I4:Inv X pins σ H3 { s3 with heap:=s3.heap.push { cls:=.type "slice",data:=.fields #[vl,vu,.none] } }:=I3.kept (t':=s3.toks) λb ob q=>Heap.get?_push_of_some _ q
 obtain ⟨T,id,hT,ht,hg⟩:=hr pins { s3 with heap:=s3.heap.push { cls:=.type "slice",data:=.fields #[vl,vu,.none] } } σ H3 x v vl vu l u s3.heap.objs.size Q I4 r1 (Heap.IsSliceOf.new ..) pl pu q3
 show wpAny (model X.prog X.w) X.A (subscriptTail e (.Slice lo hi none p2) v (.ref s3.heap.objs.size)) (EP X pins σ Q) X.xe { s3 with heap:=s3.heap.push { cls:=.type "slice",data:=.fields #[vl,vu,.none] } }
 exact tail_any (ops:=[.ref s3.heap.objs.size,v]) ht hT hg (by with_unfolding_all rfl)
def lr (xs:List V) (lo hi:Option Int):List V:=(xs.drop (HT.sIx xs.length 0 lo)).take (HT.sIx xs.length xs.length hi - HT.sIx xs.length 0 lo)
theorem lh (xs:List V) (lo hi:Option Int):(lr xs lo hi).length<=xs.length:=by
 unfold lr
 rw [List.length_take,List.length_drop]
 lia
end
end L2
namespace L2
open PySem PySem.Spec PyProof.Rows
def ixN (n:Nat) (i:Int):Option Nat:=if 0<=i then (if i < n then some i.toNat else none) else if -(n:Int)<=i then some (i+n).toNat else none
def atI {α:Type} (xs:List α) (i:Int):Option α:=(ixN xs.length i).bind λj=>xs[j]?
theorem tD {n:Nat} {i:Int} {j:Nat} (h:ixN n i=some j):seqIndex? i n=some j/\j < n/\-(n:Int)<=i/\i < n:=by
 unfold ixN at h
 by_cases h0:0<=i
 ·rw [if_pos h0] at h
  by_cases h1:i < n
  ·rw [if_pos h1] at h
   have e:i.toNat=j:=Option.some.inj h
   exact ⟨by rw [seqIndex_of h0 h1,e],by lia,by lia,h1⟩
  ·rw [if_neg h1] at h;cases h
 ·rw [if_neg h0] at h
  by_cases h1 : -(n:Int)<=i
  ·rw [if_pos h1] at h
   have e:(i+n).toNat=j:=Option.some.inj h
   exact ⟨by rw [seqIndex_neg (by lia) h1,e],by lia,h1,by lia⟩
  ·rw [if_neg h1] at h;cases h
theorem o8 {α:Type} {xs:List α} {i:Int} {v:α} (h:atI xs i=some v):∃ j,seqIndex? i xs.length=some j/\xs[j]?=some v/\j < xs.length/\-(xs.length:Int)<=i/\i < xs.length:=by
 unfold atI at h
 cases e:ixN xs.length i with
 | none=>rw [e] at h;cases h
 | some j =>
  rw [e] at h
  obtain ⟨h1,h2,h3,h4⟩:=tD e
  exact ⟨j,h1,h,h2,h3,h4⟩
theorem aM {α:Type} {xs:List α} {j:Nat} {v:α} (h:xs[j]?=some v):atI xs (j:Int)=some v:=by
 have hj:j < xs.length:=(G7.mp h).1
 have e:ixN xs.length (j:Int)=some j:=by
  unfold ixN
  rw [if_pos (by lia),if_pos (by lia)];simp
 unfold atI;rw [e];exact h
def xk (b:Expr):Prop:=∀ o i,subscripted b false o i=operate [o,i] (getItem o i)
def IxR (X:Cx) (r:R2):Prop :=
 ∀ (value slice:Expr) (pins:List (Addr × Obj)) (s:Shared) (σ:St) (H:Hp) (x y:V) (v u:Value) (Q:VK),Inv X pins σ H s->RelV x v->RelV y u->r x y H Q ->
  subscripted slice false v u=operate [v,u] (getItem v u)->wpAny (model X.prog X.w) X.A (subscriptTail value slice v u) (EP X pins σ Q) X.xe s
def MtR (X:Cx) (id:String) (r:V->List V->Hp->VK->Prop):Prop :=
 ∀ (pins:List (Addr × Obj)) (s:Shared) (σ:St) (H:Hp) (x:V) (xs:List V) (v:Value) (us:List Value) (Q:VK),Inv X pins σ H s->RelV x v->Vals xs us->r x xs H Q ->
  wpAny (model X.prog X.w) X.A (call (.builtin id) (v :: us)) (EP X pins σ Q) X.xe s
section
variable {X:Cx} {a b:Expr} {ta tb:TE} {pos:Pos}
theorem aE {r:R2} (hr:IxR X r) (ha:PE X a ta) (hb:PE X b tb) (hs:xk b):PE X (.Subscript a b pos) (tOp r ta tb):=by
 intro pins s σ H Q I h
 exact Subscript_ (zg ha hb I h λv u s2 x y H2 I2 rx ry q=>hr a b pins s2 σ H2 x y v u Q I2 rx ry q (hs _ _))
def BN (K:PySem.W.Frag):R2:=λx y H Q=>∃ p xs i v,x=.ref p/\y=.int i/\SqL K H p xs/\atI xs i=some v/\Q v H
def BO (K:PySem.W.Frag):R2:=λx y H Q=>∃ p xs i v,x=.ref p/\y=.int i/\SqT K H p xs/\atI xs i=some v/\Q v H
def C3:R2:=λx y H Q=>∃ z i c,x=.str z/\y=.int i/\z.length<=sizeLine/\atI z.cps.toList i=some c/\Q (.str ⟨#[c]⟩) H
theorem aK:IxR X (BN X.K):=by
 intro value slice pins s σ H x y v u Q I rx ry h hs
 obtain ⟨p,xs,i,z,rfl,rfl,hq,he,q⟩:=h
 cases rx
 obtain ⟨t,rfl⟩:=ry
 obtain ⟨its,r,pl,hz⟩:=I.list hq
 obtain ⟨j,h1,h2,h3,h4,h5⟩:=o8 he
 obtain ⟨w,ew,rw'⟩:=r.get h2
 have hl:=r.length
 have hn:=i6
 have fin:EP X pins σ Q w s:=⟨z,H,I,rw',q⟩
 by_cases h0:0<=i
 ·have hj:i.toNat=j:=by
   rw [seqIndex_of h0 h5] at h1
   exact Option.some.inj h1
  exact item_listR pl.isList h0 (by lia) (by rw [hj];simpa using ew) fin hs
 ·have hj:(i+(its.toArray.size:Int)).toNat=j:=by
   rw [seqIndex_neg (by lia) h4] at h1
   rw [List.size_toArray,← hl]
   exact Option.some.inj h1
  exact subscriptTail_builtinR (x:=w) pl.isList.typeIs slot_list_getitem.lookup
   (wpAny_getItem_list_neg (Q:=λr s'=>r=w/\EP X pins σ Q r s') pl.isList (by lia) (by rw [List.size_toArray] <;> lia) (by lia) (by rw [hj];simpa using ew) ⟨rfl,fin⟩) hs
theorem aS:IxR X (BO X.K):=by
 intro value slice pins s σ H x y v u Q I rx ry h hs
 obtain ⟨p,xs,i,z,rfl,rfl,hq,he,q⟩:=h
 cases rx
 obtain ⟨t,rfl⟩:=ry
 obtain ⟨its,r,pl,hz⟩:=I.tuple hq
 obtain ⟨j,h1,h2,h3,h4,h5⟩:=o8 he
 obtain ⟨w,ew,rw'⟩:=r.get h2
 have hl:=r.length
 have hn:=i6
 have fin:EP X pins σ Q w s:=⟨z,H,I,rw',q⟩
 exact subscriptTail_builtinR (x:=w) pl.typeIs slot_tuple_getitem.lookup
  (getItem_tuple (j:=j) (Q:=λr s'=>r=w/\EP X pins σ Q r s') pl (by lia) (by lia) (by rw [List.size_toArray,← hl];exact h1) (by simpa using ew) ⟨rfl,fin⟩) hs
theorem rO:IxR X C3:=by
 intro value slice pins s σ H x y v u Q I rx ry h hs
 obtain ⟨z,i,c,rfl,rfl,hz,he,q⟩:=h
 obtain ⟨t,rfl⟩:=rx
 obtain ⟨t',rfl⟩:=ry
 obtain ⟨j,h1,h2,h3,h4,h5⟩:=o8 he
 have hl:z.cps.toList.length=z.length:=by simp [Str.length]
 rw [hl] at h1 h4 h5
 have hn:=i6
 exact tail_any (typeIs_str s z t) slot_str_getitem.lookup (getItem_str (c:=c) (by
  have e1:decide (i < -(2 ^ 63:Int))=false:=decide_eq_false (by lia)
  have e2:decide (i ≥ 2 ^ 63)=false:=decide_eq_false (by lia)
  rw [e1,e2,Bool.or_false]) (by rw [h1];simpa using h2) ⟨.str ⟨#[c]⟩,H,I.tok _,⟨_,rfl⟩,q⟩) hs
theorem rP (its:List Value) (n j:Nat) (u:Value):Obj.mapSeq (·.setIfInBounds j u) { cls:=.type "list",data:=.seq its.toArray n } = { cls:=.type "list",data:=.seq (its.set j u).toArray n }:=by
 simp [Obj.mapSeq]
theorem Inv.lst {pins:List (Addr × Obj)} {σ:St} {H:Hp} {s:Shared} {p:Addr} {xs:List V} (I:Inv X pins σ H s) (h:H p=some (.lst xs)) :
  ∃ (its:List Value) (n:Nat),Vals xs its/\s.heap.get? p=some { cls:=.type "list",data:=.seq its.toArray n }/\xs.length<=sizeLine:=by
 obtain ⟨z,its,n,r,e⟩:=I.hok p _ h
 exact ⟨its,n,r,e,z⟩
theorem Inv.lstUpd {pins:List (Addr × Obj)} {σ:St} {H:Hp} {s:Shared} {p:Addr} {xs ys:List V} {its its' : List Value} {n n' : Nat} {f:Obj->Obj} (I:Inv X pins σ H s) (h:H p=some (.lst xs))
  (ho:s.heap.get? p=some { cls:=.type "list",data:=.seq its.toArray n }) (hf:f { cls:=.type "list",data:=.seq its.toArray n } = { cls:=.type "list",data:=.seq its'.toArray n' }) (r:Vals ys its') (hz:ys.length<=sizeLine) (t:Nat) :
  Inv X pins σ (upd H p (.lst ys)) { s with heap:=s.heap.update p f,toks:=t }:=by
 have e:(s.heap.update p f).get? p=some { cls:=.type "list",data:=.seq its'.toArray n' }:=by
  rw [Heap.get?_update_self f ho (by rw [hf] <;> rfl),hf]
 refine I.write (x:=p) (e:=p) (by rw [h];trivial) (.inl rfl) (λb u hb q=>(Heap.get?_update_other _ _ (Ne.symm hb)).trans q) ⟨_,e⟩ ?_
 exact ⟨hz,its',n',r,e⟩
def BP:V->V->V->Hp->(Hp->Prop)->Prop:=λo i v H Q=>∃ p xs k j,o=.ref p/\i=.int k/\H p=some (.lst xs)/\ixN xs.length k=some j/\Q (upd H p (.lst (xs.set j v)))
theorem set_list:Bz X BP:=by
 intro pins s σ H o i v ov iv u Q I ro ri rv h
 obtain ⟨p,xs,k,j,rfl,rfl,hp,hj,q⟩:=h
 cases ro
 obtain ⟨t,rfl⟩:=ri
 obtain ⟨its,n,r,ho,hz⟩:=I.lst hp
 obtain ⟨h1,h2,h3,h4⟩:=tD hj
 have hl:=r.length
 have hn:=i6
 have I' : Inv X pins σ (upd H p (.lst (xs.set j v))) { s with heap:=s.heap.update p (Obj.mapSeq (·.setIfInBounds j u)) } :=
  I.lstUpd hp ho (rP its n j u) (r.set rv j) (by rw [List.length_set];exact hz) s.toks
 by_cases h0:0<=k
 ·have hk:k.toNat=j:=by
   rw [seqIndex_of h0 h4] at h1
   exact Option.some.inj h1
  exact PySem.W.ki_setAt ho h0 (by lia) (by rw [List.size_toArray,← hl];exact h4) (by rw [hk];exact ⟨_,I',q⟩)
 ·have hk:(k+(its.toArray.size:Int)).toNat=j:=by
   rw [seqIndex_neg (by lia) h3] at h1
   rw [List.size_toArray,← hl]
   exact Option.some.inj h1
  exact PySem.W.ki_setBack ho (by lia) (by rw [List.size_toArray,← hl];exact h3) (by lia) (by rw [hk];exact ⟨_,I',q⟩)
theorem o9 (lo hi:Option Int) (n:Nat):(sliceBounds lo hi none n).1=((HT.sIx n 0 lo:Nat):Int)/\(sliceBounds lo hi none n).2.1=((HT.sIx n n hi:Nat):Int)/\(sliceBounds lo hi none n).2.2=1:=by
 refine ⟨?_,?_,rfl⟩
 ·cases lo with
  | none=>simp [sliceBounds,HT.sIx]
  | some i =>
   simp only [sliceBounds,HT.sIx,Option.getD_none,show (1:Int) > 0 by decide,if_true]
   by_cases h:i < 0
   ·simp only [h,if_true] <;> lia
   ·simp only [h,if_false] <;> lia
 ·cases hi with
  | none=>simp [sliceBounds,HT.sIx]
  | some i =>
   simp only [sliceBounds,HT.sIx,Option.getD_none,show (1:Int) > 0 by decide,if_true]
   by_cases h:i < 0
   ·simp only [h,if_true] <;> lia
   ·simp only [h,if_false] <;> lia
theorem nJ (its:List Value) (lo hi:Option Int):slicePick its.toArray lo hi none=((its.drop (HT.sIx its.length 0 lo)).take (HT.sIx its.length its.length hi - HT.sIx its.length 0 lo)).toArray:=by
 obtain ⟨h1,h2,h3⟩:=o9 lo hi its.toArray.size
 unfold slicePick
 rw [h1,h2,h3]
 simp only [sliceRange_one,pick_run,List.size_toArray] <;> rfl
def C4 (K:PySem.W.Frag):V->Option Int->Option Int->Hp->VK->Prop:=λx lo hi H Q=>∃ a xs,x=.ref a/\SqL K H a xs/\∀ p,H p=none->Q (.ref p) (upd H p (.lst (lr xs lo hi)))
theorem xl:SlR X (C4 X.K):=by
 intro pins s σ H x v vl vu lo hi sl Q I rx hs pl pu h
 obtain ⟨a,xs,rfl,hx,q⟩:=h
 cases rx
 obtain ⟨its,r,ht,hz⟩:=I.list hx
 have hlen:=r.length
 refine ⟨"list",_,slot_list_getitem.lookup,ht.isList.typeIs,?_⟩
 refine wpAny_getItem_list_slice ht.isList hs pl pu .none (by simp) ?_ (by rw [List.size_toArray] <;> lia)
 rw [nJ,← hlen]
 refine ⟨.ref s.heap.objs.size,_,I.laid (t':=s.toks) (o:=.lst (lr xs lo hi)) (λb ob q=>Heap.get?_push_of_some _ q) (Nat.le_refl _) ?_,rfl,q _ (I.hok.fresh (Nat.le_refl _))⟩
 exact ⟨Nat.le_trans (lh xs lo hi) hz,_,0,(r.drop (HT.sIx xs.length 0 lo)).take (HT.sIx xs.length xs.length hi - HT.sIx xs.length 0 lo),Heap.get?_push_size _ rfl⟩
def cn:V->Bool
 | .non=>true
 | .bl _=>true
 | .int _=>true
 | .str _=>true
 | _=>false
def eqV:V->V->Bool
 | .non,.non=>true
 | .bl a,.bl b=>a == b
 | .bl a,.int b=>(if a then 1 else 0) == b
 | .int a,.bl b=>a == (if b then 1 else 0)
 | .int a,.int b=>a == b
 | .str a,.str b=>a == b
 | _,_=>false
theorem rQ {A:Around} {s:Shared} {y x:V} {u v:Value} (ry:RelV y u) (rx:RelV x v) (fy:cn y=true) (fx:cn x=true):SeqAt.EqAt A s u v (eqV y x):=by
 cases y with
 | non =>
  cases ry
  cases x with
  | non=>cases rx;exact SeqAt.EqAt.same _
  | bl b=>cases rx;exact SeqAt.EqAt.none_bool b
  | int b=>obtain ⟨t,rfl⟩:=rx;exact SeqAt.EqAt.none_int b t
  | str b=>obtain ⟨t,rfl⟩:=rx;exact SeqAt.EqAt.none_str b t
  | _=>exact absurd (show false=true from fx) Bool.false_ne_true
 | bl a =>
  cases ry
  cases x with
  | non=>cases rx;exact SeqAt.EqAt.bool_none a
  | bl b=>cases rx;exact SeqAt.EqAt.bool_bool a b
  | int b=>obtain ⟨t,rfl⟩:=rx;exact SeqAt.EqAt.bool_int a b t
  | str b=>obtain ⟨t,rfl⟩:=rx;exact SeqAt.EqAt.bool_str a b t
  | _=>exact absurd (show false=true from fx) Bool.false_ne_true
 | int a =>
  obtain ⟨t',rfl⟩:=ry
  cases x with
  | non=>cases rx;exact SeqAt.EqAt.int_none a t'
  | bl b=>cases rx;exact SeqAt.EqAt.int_bool a t' b
  | int b=>obtain ⟨t,rfl⟩:=rx;exact SeqAt.EqAt.int_int a t' b t
  | str b=>obtain ⟨t,rfl⟩:=rx;exact SeqAt.EqAt.int_str a t' b t
  | _=>exact absurd (show false=true from fx) Bool.false_ne_true
 | str a =>
  obtain ⟨t',rfl⟩:=ry
  cases x with
  | non=>cases rx;exact SeqAt.EqAt.str_none a t'
  | bl b=>cases rx;exact SeqAt.EqAt.str_bool a t' b
  | int b=>obtain ⟨t,rfl⟩:=rx;exact SeqAt.EqAt.str_int a t' b t
  | str b=>obtain ⟨t,rfl⟩:=rx;exact SeqAt.EqAt.str_str a t' b t
  | _=>exact absurd (show false=true from fx) Bool.false_ne_true
 | _=>exact absurd (show false=true from fy) Bool.false_ne_true
def eqU (x:V) (u:Value):Bool:=match u with
 | .none=>eqV .non x
 | .bool b=>eqV (.bl b) x
 | .int i _=>eqV (.int i) x
 | .str z _=>eqV (.str z) x
 | _=>false
theorem rR {x y:V} {u:Value} (r:RelV y u) (f:cn y=true):eqU x u=eqV y x:=by
 cases y with
 | non=>cases r;rfl
 | bl b=>cases r;rfl
 | int i=>obtain ⟨t,rfl⟩:=r;rfl
 | str z=>obtain ⟨t,rfl⟩:=r;rfl
 | _=>exact absurd (show false=true from f) Bool.false_ne_true
theorem jS {x:V} : ∀ {xs:List V} {us:List Value},Vals xs us->xs.all cn=true->us.any (eqU x)=xs.any λy=>eqV y x
 | _,_,.nil,_=>rfl
 | y :: xs,u :: us,.cons r t,f=>by
  rw [List.all_cons,Bool.and_eq_true] at f
  rw [List.any_cons,List.any_cons,rR r f.1,jS t f.2]
theorem fG {A:Around} {s:Shared} {x:V} {v:Value} (rx:RelV x v) (fx:cn x=true):∀ {xs:List V} {us:List Value},Vals xs us->xs.all cn=true->∀ u ∈ us,SeqAt.EqAt A s u v (eqU x u)
 | _,_,.nil,_=>λu hu=>by cases hu
 | y :: xs,u :: us,.cons r t,f=>λu' hu=>by
  rw [List.all_cons,Bool.and_eq_true] at f
  rcases List.mem_cons.mp hu with rfl | hu
  ·rw [rR r f.1];exact rQ r rx f.1 fx
  ·exact fG rx fx t f.2 u' hu
def inV (x:V) (xs:List V):Bool:=xs.any λy=>eqV y x
def rIn (K:PySem.W.Frag) (neg:Bool):R2:=λx y H Q=>∃ p xs,y=.ref p/\(SqL K H p xs\/SqT K H p xs)/\cn x=true/\xs.all cn=true/\Q (.bl (if neg then !inV x xs else inV x xs)) H
theorem oj:OpR X (compareOp .In) (rIn X.K false):=by
 intro pins s σ H x y v u Q I rx ry h
 obtain ⟨p,xs,rfl,hq,fx,fs,q⟩:=h
 cases ry
 rcases hq with hq | hq
 ·obtain ⟨its,r,pl,hz⟩:=I.list hq
  refine SeqAt.in_listAt (eqU x) pl.isList (λw hw=>fG rx fx r fs w (by simpa using hw)) ⟨.bl _,H,I,rfl,?_⟩
  rw [show its.toArray.any (eqU x)=its.any (eqU x) by simp,jS r fs]
  exact q
 ·obtain ⟨its,r,pl,hz⟩:=I.tuple hq
  refine SeqAt.in_tupleAt (eqU x) pl (λw hw=>fG rx fx r fs w (by simpa using hw)) ⟨.bl _,H,I,rfl,?_⟩
  rw [show its.toArray.any (eqU x)=its.any (eqU x) by simp,jS r fs]
  exact q
theorem jT:OpR X (compareOp .NotIn) (rIn X.K true):=by
 intro pins s σ H x y v u Q I rx ry h
 obtain ⟨p,xs,rfl,hq,fx,fs,q⟩:=h
 cases ry
 rcases hq with hq | hq
 ·obtain ⟨its,r,pl,hz⟩:=I.list hq
  refine SeqAt.notIn_listAt (eqU x) pl.isList (λw hw=>fG rx fx r fs w (by simpa using hw)) ⟨.bl _,H,I,rfl,?_⟩
  rw [show its.toArray.any (eqU x)=its.any (eqU x) by simp,jS r fs]
  exact q
 ·obtain ⟨its,r,pl,hz⟩:=I.tuple hq
  refine SeqAt.notIn_tupleAt (eqU x) pl (λw hw=>fG rx fx r fs w (by simpa using hw)) ⟨.bl _,H,I,rfl,?_⟩
  rw [show its.toArray.any (eqU x)=its.any (eqU x) by simp,jS r fs]
  exact q
theorem ar:dH X (.builtin "len") (λxs H Q=>∃ p ys,xs=[.ref p]/\(SqL X.K H p ys\/SqT X.K H p ys)/\Q (.int ys.length) H):=by
 intro pins s σ H xs us Q I r h
 obtain ⟨p,ys,rfl,hq,q⟩:=h
 obtain ⟨u,rfl,rx⟩:=vals1 r
 cases rx
 have hn:=i6
 rcases hq with hq | hq
 ·obtain ⟨its,r',pl,hz⟩:=I.list hq
  have hlen:=r'.length
  exact Calls.call_len_list pl.isList (by simp only [List.size_toArray] <;> lia) ⟨.int ys.length,H,I.tok _,⟨s.toks+1,by rw [List.size_toArray,hlen]⟩,q⟩
 ·obtain ⟨its,r',pl,hz⟩:=I.tuple hq
  have hlen:=r'.length
  exact len_tuple pl (by simp only [List.size_toArray] <;> lia) ⟨.int ys.length,H,I.tok _,⟨s.toks+1,by rw [List.size_toArray,hlen]⟩,q⟩
theorem pb:dH X (.builtin "len") (λxs H Q=>∃ z,xs=[.str z]/\z.length<=sizeLine/\Q (.int z.length) H):=by
 intro pins s σ H xs us Q I r h
 obtain ⟨z,rfl,hz,q⟩:=h
 obtain ⟨u,rfl,t,rfl⟩:=vals1 r
 have hn:=i6
 exact len_str (by lia) ⟨.int z.length,H,I.tok _,⟨_,rfl⟩,q⟩
theorem cR:dH X (.type "list") (λxs H Q=>∃ p ys,xs=[.ref p]/\(SqL X.K H p ys\/SqT X.K H p ys)/\∀ l,H l=none->Q (.ref l) (upd H l (.lst ys))):=by
 intro pins s σ H xs us Q I r h
 obtain ⟨p,ys,rfl,hq,q⟩:=h
 obtain ⟨u,rfl,rx⟩:=vals1 r
 cases rx
 have fin:∀ (its:List Value),Vals ys its->ys.length<=sizeLine->∀ (h' : Heap) (c' : Nat),(∀ b o',s.heap.get? b=some o'->h'.get? b=some o') ->
   h'.get? s.heap.objs.size=some { cls:=.type "list",dict:=none,data:=.seq its.toArray c',slots:=#[] }->EP X pins σ Q (.ref s.heap.objs.size) { s with heap:=h' }:=λits r' hz h' c' kp e =>
  ⟨.ref s.heap.objs.size,_,I.laid (t':=s.toks) kp (Nat.le_refl _) (show bR X.prog X.w _ h' _ (.lst ys) from ⟨hz,its,c',r',e⟩),rfl,q _ (I.hok.fresh (Nat.le_refl _))⟩
 rcases hq with hq | hq
 ·obtain ⟨its,r',pl,hz⟩:=I.list hq
  have hlen:=r'.length
  obtain ⟨o,ho,hc,n,hd⟩:=pl.isList
  exact call_list_seq p (.inl rfl) ho hc hd (λh' c' kp e=>fin its r' hz h' c' kp e) (by simp only [List.size_toArray] <;> lia)
 ·obtain ⟨its,r',pl,hz⟩:=I.tuple hq
  have hlen:=r'.length
  obtain ⟨o,ho,hc,n,hd⟩:=pl
  exact call_list_seq p (.inr rfl) ho hc hd (λh' c' kp e=>fin its r' hz h' c' kp e) (by simp only [List.size_toArray] <;> lia)
def tyV (K:PySem.W.Frag) (T:String) (x:V) (H:Hp):Prop:=match x with
 | .str _=>T = "str"
 | .int _=>T = "int"
 | .ref p=>(T = "list" /\ ∃ xs,SqL K H p xs)\/(T = "tuple" /\ ∃ o,K.lookup p=some o/\o.cls=.type "tuple" /\ o.dict=none) \/
   (T = "dict" /\ ((∃ kvs,H p=some (.dK kvs))\/∃ kvs,H p=some (.dT kvs)))\/(T = "set" /\ ∃ S n,H p=some (.set S n))
 | _=>False
theorem u6 {pins:List (Addr × Obj)} {σ:St} {H:Hp} {s:Shared} {T:String} {x:V} {v:Value} (I:Inv X pins σ H s) (r:RelV x v) (ty:tyV X.K T x H) :
  s.TypeIs v T/\∀ a,v=.ref a->∃ ob,s.heap.get? a=some ob/\ob.dict=none:=by
 cases x with
 | str z =>
  obtain ⟨t,rfl⟩:=r
  cases (show T = "str" from ty)
  exact ⟨typeIs_str s z t,λ_ e=>nomatch e⟩
 | int i =>
  obtain ⟨t,rfl⟩:=r
  cases (show T = "int" from ty)
  exact ⟨typeIs_int s i t,λ_ e=>nomatch e⟩
 | ref p =>
  cases r
  rcases ty with ⟨rfl,xs,hq⟩ | ⟨rfl,o,hk,hc,hd⟩ | ⟨rfl,hk⟩ | ⟨rfl,S,n,hk⟩
  ·obtain ⟨its,_,pl,_⟩:=I.list hq
   refine ⟨pl.isList.typeIs,λa e=>?_⟩
   cases e
   obtain ⟨o,n,e,c,hd,_⟩:=pl
   exact ⟨o,e,hd⟩
  ·refine ⟨⟨o,I.kIn p o hk,hc⟩,λa e=>?_⟩
   cases e
   exact ⟨o,I.kIn _ o hk,hd⟩
  ·have z:∃ o,s.heap.get? p=some o/\o.ExactDict:=by
    rcases hk with ⟨kvs,hk⟩ | ⟨kvs,hk⟩
    ·obtain ⟨_,_,_,_,o,_,_,e,ex,_⟩:=I.hok p _ hk
     exact ⟨o,e,ex⟩
    ·obtain ⟨_,_,_,_,o,_,_,e,ex,_⟩:=I.hok p _ hk
     exact ⟨o,e,ex⟩
   obtain ⟨o,e,ex⟩:=z
   refine ⟨⟨o,e,ex.1⟩,λa e2=>?_⟩
   cases e2
   exact ⟨o,e,ex.2.1⟩
  ·obtain ⟨o,_,_,_,e,ex,_⟩:=I.hok p _ hk
   refine ⟨⟨o,e,ex.1⟩,λa e2=>?_⟩
   cases e2
   exact ⟨o,e,ex.2.1⟩
 | _=>exact False.elim ty
def C5 (K:PySem.W.Frag) (T:String) (r:V->List V->Hp->VK->Prop) (to:TE):TE:=λσ H Q=>to σ H λx H1=>tyV K T x H1/\r x [] H1 Q
def tBM (K:PySem.W.Frag) (T:String) (r:V->List V->Hp->VK->Prop) (to:TE) (t:TA):TE:=λσ H Q=>to σ H λx H1=>tyV K T x H1/\t σ H1 λxs H2=>r x xs H2 Q
variable {o e:Expr} {es:List Expr} {to:TE} {t:TA} {name:Str} {apos di:Pos} {T id:String} {r:V->List V->Hp->VK->Prop}
theorem zu (pa:PlainAttrs T) (slot:Slot T name id) (hty:typeOf (.builtin id)=pure (.type "method_descriptor")) (hm:MtR X id r) (ho:PE X o to)
  (qJ:attributeBase o name X.env (eval o X.env)=eval o X.env:=by rfl) (qK:(apos.endLine == di.line)=true:=by rfl):PE X (.Call (.Attribute o name apos) [] [] di) (C5 X.K T r to):=by
 intro pins s σ H Q I h
 refine wpAny_Call_method0_late qJ qK (thn (ho pins s σ H _ I h) λv s1 ⟨x,H1,I1,r1,ty,q1⟩=>?_)
 obtain ⟨h1,h2⟩:=u6 I1 r1 ty
 exact ⟨T,id,pa,slot,hty,h1,h2,Calls.callWith_builtin rfl (PySem.evalArgs_none (hm pins s1 σ H1 x [] v [] Q I1 r1 .nil q1))⟩
theorem dR (pa:PlainAttrs T) (slot:Slot T name id) (hty:typeOf (.builtin id)=pure (.type "method_descriptor")) (hm:MtR X id r) (ho:PE X o to) (ha:PA X (e :: es) t)
  (qJ:attributeBase o name X.env (eval o X.env)=eval o X.env:=by rfl)
  (rS:((backTo di (starEach (e :: es) X.env)).all (λx=>!x.1) && (backToKw di (keywordEach [] X.env)).all (λx=>x.1.isSome)
   && decide ((e :: es).length+([]:List Keyword).length+(if ([]:List Keyword).isEmpty then 0 else 1) < 30))=true:=by rfl)
  (qK:(apos.endLine == di.line)=true:=by rfl) (hs:starEach (e :: es) X.env=(false,eval e X.env) :: starEach es X.env:=by rfl) (zv:(backTo di (starEach es X.env)).any (·.1)=false:=by rfl) :
  PE X (.Call (.Attribute o name apos) (e :: es) [] di) (tBM X.K T r to t):=by
 intro pins s σ H Q I h
 refine wpAny_Call_method_late qJ rS qK rfl (thn (ho pins s σ H _ I h) λv s1 ⟨x,H1,I1,r1,ty,q1⟩=>?_)
 obtain ⟨h1,h2⟩:=u6 I1 r1 ty
 refine ⟨T,id,pa,slot,hty,h1,h2,?_⟩
 have hA:=ha di pins s1 σ H1 _ I1 q1
 rw [hs] at hA ⊢
 refine Calls.callWith_builtin (by show (false || (backTo di (starEach es X.env)).any (·.1))=false;rw [zv] <;> rfl) (Calls.evalArgs_plain ?_)
 exact thn hA λus s2 ⟨vs,H2,I2,r2,q2⟩=>hm pins s2 σ H2 x vs v us Q I2 r1 r2 q2
end
end L2
namespace L2
open PySem PySem.Spec PyProof.Rows
def MtM (X:Cx) (id:String) (r:V->List V->Hp->VK->Prop):Prop :=
 ∀ (pins:List (Addr × Obj)) (s:Shared) (σ:St) (H:Hp) (x:V) (xs:List V) (v:Value) (us:List Value) (Q:VK),Inv X pins σ H s->RelV x v->Vals xs us->r x xs H Q ->
  wpAny (model X.prog X.w) X.A (call (.builtin id) (v :: us)) (EP X pins σ Q) X.xe s
theorem Vals.one:∀ {x:V} {us:List Value},Vals [x] us->∃ u,us=[u]/\RelV x u
 | _,_,.cons r .nil=>⟨_,rfl,r⟩
theorem Vals.two:∀ {x y:V} {us:List Value},Vals [x,y] us->∃ u v,us=[u,v]/\RelV x u/\RelV y v
 | _,_,_,.cons r (.cons q .nil)=>⟨_,_,rfl,r,q⟩
theorem Vals.zero:∀ {us:List Value},Vals [] us->us=[]
 | _,.nil=>rfl
theorem Vals.reverse {xs:List V} {us:List Value} (h:Vals xs us):Vals xs.reverse us.reverse:=by
 induction h with
 | nil=>exact .nil
 | cons r t ih=>rw [List.reverse_cons,List.reverse_cons];exact Vals.append ih (.cons r .nil)
section
variable {X:Cx} {pins:List (Addr × Obj)} {σ:St} {H:Hp} {s:Shared} {l b:Addr} {xs ys zs:List V}
theorem Inv.lset {its its' : List Value} {n:Nat} {f:Array Value->Array Value} {t' : Nat} (I:Inv X pins σ H s) (hH:H l=some (.lst xs))
  (e:s.heap.get? l=some { cls:=.type "list",data:=.seq its.toArray n }) (hf:f its.toArray=its'.toArray) (hv:Vals ys its') (hz:ys.length<=sizeLine) :
  Inv X pins σ (upd H l (.lst ys)) { s with heap:=s.heap.update l (Obj.mapSeq f),toks:=t' }:=by
 have q:=PySem.IsL.update e f
 rw [hf] at q
 refine I.write (x:=l) (e:=l) (by rw [hH];exact trivial) (.inl rfl) (λb' u hb hu=>(Heap.get?_update_other s.heap (Obj.mapSeq f) (Ne.symm hb)).trans hu) ⟨_,q⟩ ?_
 exact ⟨hz,its',_,hv,q⟩
theorem Inv.lnew {its:List Value} {t' : Nat} (I:Inv X pins σ H s) (hv:Vals ys its) (hz:ys.length<=sizeLine) :
  Inv X pins σ (upd H s.heap.objs.size (.lst ys)) { s with heap:=s.heap.push { cls:=.type "list",data:=.seq its.toArray },toks:=t' } :=
 I.laid (λ_ _ q=>Heap.get?_push_of_some _ q) (Nat.le_refl _) ⟨hz,its,0,hv,Heap.get?_push_size _ rfl⟩
theorem Inv.fresh (I:Inv X pins σ H s):H s.heap.objs.size=none:=I.hok.fresh (Nat.le_refl _)
theorem Inv.lstM (I:Inv X pins σ H s) (hH:H l=some (.lst xs)):xs.length<=sizeLine/\∃ (its:List Value) (n:Nat),Vals xs its/\xs.length=its.length/\s.heap.get? l=some { cls:=.type "list",data:=.seq its.toArray n }:=by
 obtain ⟨z,its,n,r,e⟩:=I.hok l _ hH
 exact ⟨z,its,n,r,r.length,e⟩
theorem u9 {n:Nat} (h:n<=sizeLine):Builtin.List.listTooLong n=false:=by
 unfold Builtin.List.listTooLong
 exact decide_eq_false (by lia)
end
section
variable {X:Cx}
def xm:V->List V->Hp->VK->Prop:=λx vs H Q=>∃ l xs y,x=.ref l/\vs=[y]/\H l=some (.lst xs)/\xs.length < sizeLine/\Q .non (upd H l (.lst (xs ++ [y])))
theorem bW:MtM X "list.append" xm:=by
 intro pins s σ H x vs v us Q I rx rv h
 obtain ⟨l,xs,y,rfl,rfl,hH,hz,q⟩:=h
 cases rx
 obtain ⟨u,rfl,ru⟩:=rv.one
 obtain ⟨z,its,n,r,hl,e⟩:=I.lstM hH
 refine call_meets F.slot_list_append ⟨_,e,rfl⟩ F.entry_list_append (F.args_list_append_2 _ _) (PySem.list_append l its.toArray n u (by rw [List.size_toArray];lia)) ⟨e,?_⟩
 refine ⟨.non,_,I.lset (its':=its ++ [u]) hH e (by simp) (r.append (.cons ru .nil)) ?_,rfl,q⟩
 rw [List.length_append,List.length_singleton]
 lia
def xn:V->List V->Hp->VK->Prop:=λx vs H Q=>∃ l b xs zs,x=.ref l/\vs=[.ref b]/\H l=some (.lst xs)/\H b=some (.lst zs)/\xs.length+zs.length<=sizeLine/\Q .non (upd H l (.lst (xs ++ zs)))
theorem kF:MtM X "list.extend" xn:=by
 intro pins s σ H x vs v us Q I rx rv h
 obtain ⟨l,b,xs,zs,rfl,rfl,hH,hB,hz,q⟩:=h
 cases rx
 obtain ⟨u,rfl,ru⟩:=rv.one
 cases ru
 obtain ⟨z,its,n,r,hl,e⟩:=I.lstM hH
 obtain ⟨z2,rT,n2,r2,hl2,e2⟩:=I.lstM hB
 have hsz:its.toArray.size+rT.toArray.size<=sizeLine:=by rw [List.size_toArray,List.size_toArray];lia
 have BQ:¬ (!its.toArray.isEmpty && Builtin.List.listTooLong (its.toArray.size+rT.toArray.size))=true:=by
  rw [u9 hsz,Bool.and_false]
  exact Bool.false_ne_true
 refine call_meets F.slot_list_extend ⟨_,e,rfl⟩ F.entry_list_extend (F.args_list_extend_2 _ _)
  (AutoSeq1.list_extend_list_list_0 l its.toArray n b rT.toArray n2 BQ (by rw [List.size_toArray];lia) (by lia)) ⟨e,e2,?_⟩
 refine ⟨.non,_,I.lset (its':=its ++ rT) hH e (by simp) (r.append r2) ?_,rfl,q⟩
 rw [List.length_append]
 lia
def va:V->List V->Hp->VK->Prop:=λx vs H Q=>∃ l xs,x=.ref l/\vs=[]/\H l=some (.lst xs)/\Q .non (upd H l (.lst xs.reverse))
theorem rU:MtM X "list.reverse" va:=by
 intro pins s σ H x vs v us Q I rx rv h
 obtain ⟨l,xs,rfl,rfl,hH,q⟩:=h
 cases rx
 have hus:=rv.zero
 subst hus
 obtain ⟨z,its,n,r,hl,e⟩:=I.lstM hH
 refine call_meets F.slot_list_reverse ⟨_,e,rfl⟩ F.entry_list_reverse (F.args_list_reverse_1 _) (AutoSeq1.list_reverse_list_0 l its.toArray n (by rw [List.size_toArray];lia)) ⟨e,?_⟩
 refine ⟨.non,_,I.lset (its':=its.reverse) hH e (by simp) r.reverse ?_,rfl,q⟩
 rw [List.length_reverse]
 lia
def C6:R2:=λx y H Q=>∃ l b xs zs,x=.ref l/\y=.ref b/\H l=some (.lst xs)/\H b=some (.lst zs)/\xs.length+zs.length<=sizeLine/\∀ p,H p=none->Q (.ref p) (upd H p (.lst (xs ++ zs)))
theorem mi:OpR X (binaryOp .Add) C6:=by
 intro pins s σ H x y v u Q I rx ry h
 obtain ⟨l,b,xs,zs,rfl,rfl,hH,hB,hz,q⟩:=h
 cases rx
 cases ry
 obtain ⟨z,its,n,r,hl,e⟩:=I.lstM hH
 obtain ⟨z2,rT,n2,r2,hl2,e2⟩:=I.lstM hB
 refine PySem.P.add_list e e2 ?_ (by rw [List.size_toArray,List.size_toArray];lia)
 have ea:its.toArray ++ rT.toArray=(its ++ rT).toArray:=by simp
 rw [ea]
 exact ⟨.ref _,_,I.lnew (t':=s.toks) (r.append r2) (by rw [List.length_append];lia),rfl,q _ I.fresh⟩
end
section
variable {prog:Program} {w:World} {A:Around} {E:Value->Shared->Prop} {s:Shared}
end
section
variable {X:Cx}
end
end L2
namespace Att
open PySem PySem.W PySem.Calls PyProof.Rows
theorem lu {P:Params} {h:Heap} : ∀ (ns:List Int) (vs:List Value),WellAll P h vs (ns.map WData.int)->IntsAre vs ns:=by
 intro ns
 induction ns with
 | nil =>
  intro vs w
  rw [List.map_nil] at w
  cases w
  exact .nil
 | cons n ns ih =>
  intro vs w
  rw [List.map_cons] at w
  cases w with
  | cons a b =>
   cases a
   exact .cons _ _ (ih _ b)
theorem uo {l:OpenLaw} {n:Nat} (hn:l.most=some n) {P:Params} {h:Heap} {args:List WData} {vals:List Value}
  (xo:l.row.toRowW.claim.pre args=true) (hwl:WellAll P h vals args) :
  ∃ a vs ns,vals=[Value.ref a]/\args=[WData.list (ns.map WData.int)]/\h.get? a=some { cls:=.type "list",data:=.seq vs.toArray }/\IntsAre vs ns/\ns.length<=n:=by
 have hsh:WShape.hasAll [] args [.list .int]=true:=(pre_splitW xo).1
 have hc:l.pre.holds [] { args:=args } = true:=(pre_splitW xo).2
 obtain ⟨d,r,rfl,h1,h2⟩:=hasAllW_cons hsh
 obtain rfl:=hasAllW_nil h2
 obtain ⟨xs,rfl,h3⟩:=hasW_list h1
 obtain ⟨ns,rfl⟩:=items_int h3
 have hlen:ns.length<=n:=by
  unfold OpenLaw.pre at hc
  have h4:(WTm.not (.lt (.lit (.int (n:Int))) (.len (.arg 0)))).holds [] { args:=[.list (ns.map .int)] } = true:=by
   have h4:=(holds_andW hc).1
   rw [hn] at h4
   exact h4
  have h5:=condW_of h4 (w_not (w_lt w_lit (w_len_list (w_arg rfl))))
  rw [List.length_map] at h5
  refine Nat.le_of_not_lt λq=>?_
  have q' : (n:Int) < ((ns.length:Nat):Int):=by lia
  first
   | (rw [decide_eq_true q'] at h5;exact absurd h5 (by decide))
   | (simp at h5;lia)
 cases hwl with
 | cons w1 w2 =>
  cases w2
  cases w1 with
  | list ho cy=>exact ⟨_,_,ns,rfl,rfl,ho,lu ns _ cy,hlen⟩
theorem uq (l:OpenLaw) (args:List WData):l.row.toRowW.claim.post args (.bool true) args=true :=
 postW_of (r:=l.row.toRowW) (X:=(true == true))
  (show WShape.has [] (.bool true) .bool=true by first | rfl | decide | simp [WShape.has,WShape.arms,WShape.armsAll])
  (show (WTm.eq .res (.lit (.bool true))).value [] { args:=args,res:=some (.bool true),after:=args } = some (.bool (true == true)) from w_eq_bool (w_res rfl) w_lit) rfl
theorem attach_call {l:OpenLaw} {n:Nat} {q:Program} {loose:List Str} {XP:(Str->Option Value)->Heap->Prop} {YP:World->Heap->Prop} {d:DefRec}
  (hn:l.most=some n) (hdf:d.params.defaults=[])
  (call:∀ (w:World) (s₀ s₁:Shared) (mg mb:Str->Option Value) (fa:Addr) (o:Obj) (pm cd doc:Value) (a:Addr) (vs:List Value) (ns:List Int),
   Ground q loose [] XP w s₀ mg mb s₁.heap->YP w s₁.heap ->
   s₁.heap.get? fa=some o->o.data=.func (docDef d.name d.params d.body d.scope pm cd doc)->s₁.heap.CodeRec cd d.name->mg d.name=some (.ref fa) ->
   s₁.heap.get? a=some { cls:=.type "list",data:=.seq vs.toArray }->IntsAre vs ns->ns.length<=n->s₁.gens = #[] ->
   codeAny (model l.prog w) callerA (.call (.ref fa) ⟨[.ref a],[]⟩) (λr s'=>r=.ok (.ret (.bool true))/\OldK s₁.heap s'.heap/\s'.os=s₁.os/\AllBare s'.gens) s₁) :
  WalkO q loose XP YP l.row.toRowW d [] (λf vs=>PySem.call f vs):=by
 intro w s₀ s₁ mg mb G Y fa o pm cd doc dV kV ho hd hcd hD hmg hg args vals as xo GQ hrd hwl hlo
 obtain rfl:dV=.none:=Dflts.none hD hdf
 obtain rfl:kV=.none:=Dflts.noKw hD
 obtain ⟨a,vs,ns,rfl,rfl,zw,hints,hlen⟩:=uo hn xo hwl
 refine enter_call (codeAny_mono (call w s₀ s₁ mg mb fa o pm cd doc a vs ns G Y ho (fd_plain hd) hcd hmg zw hints hlen hg) λr s' hq=>?_)
 obtain ⟨rfl,h2,h3,h4⟩:=hq
 exact ⟨.inl ⟨.bool true,.bool true,[],rfl,λ_=>rfl,.bool true,uq l _,λ_=>⟨List.Pairwise.nil,λ_ hm=>(nomatch hm)⟩⟩,h2,h3,h4⟩
section
variable {prog:Program} {w:World} {A:Around} {E:Value->Shared->Prop} {s:Shared} {K:Frag}
end
end Att
namespace L2
open PySem PySem.Spec PyProof.Rows
theorem om:∀ {vs:List Value} {ns:List Int},IntsAre vs ns->Vals (ns.map V.int) vs
 | _,_,.nil=>.nil
 | _,_,.cons n t h=>.cons ⟨t,rfl⟩ (om h)
def zy (H:Hp):Prop:=∀ b,H b=none\/∃ o xs,H b=some (.frz o (.lst xs))
theorem vb {P:Program} {w:World} {K:PySem.W.Frag} {mg mb:Str->Option Value} {CX:CXT} {k:Nat} {fa a:Addr} {fd:FuncData} {x:Str} {sp:Sp} {s₁:Shared} {vs:List Value} {ns:List Int}
  (KX:K.In s₁.heap) (hns:s₁.heap.Ns mainGlobals mg) (hb:s₁.heap.Ns builtinsNs mb) (hbb:∀ x:Str,x ≠ "__name__" -> mb x=bootBuiltins x) (C7:s₁.heap.NoLimit) (hg:s₁.gens = #[])
  (ha:s₁.heap.get? a=some { cls:=.type "list",data:=.seq vs.toArray }) (hi:IntsAre vs ns) (hl:ns.length<=sizeLine) (hr:cI k callerA)
  (F:∀ base:Heap,K.In base->base.Ns mainGlobals mg->aQ P w K mg base CX k fa fd [x] sp) (BR:∀ (s:Shared) (u:Value),BindsTo s fd ⟨[u],[]⟩ [(x,u)])
  (hsp:∀ H:Hp,zy H->SqL K H a (ns.map V.int)->sp [.ref a] H (λv _=>v=.bl true) λ_ _ _=>False)
  (hCX:∀ H e s',CX [] H s₁ (λ_ _ _=>False) e s'->False) :
  codeAny (model P w) callerA (.call (.ref fa) ⟨[.ref a],[]⟩) (λr s'=>r=.ok (.ret (.bool true))/\OldK s₁.heap s'.heap/\s'.os=s₁.os/\AllBare s'.gens) s₁:=by
 have rv:=om hi
 have C8:=hi.length
 have core:∀ H:Hp,zy H->SqL K H a (ns.map V.int)->HOk P w H s₁.heap->(∀ b,H b ≠ none->b=a)->(H a ≠ none->K.lookup a=none) ->
   codeAny (model P w) callerA (.call (.ref fa) ⟨[.ref a],[]⟩) (λr s'=>r=.ok (.ret (.bool true))/\OldK s₁.heap s'.heap/\s'.os=s₁.os/\AllBare s'.gens) s₁:=by
  intro H hO hS hok hA hK
  have tE:∀ {b:Addr} {o:Obj},s₁.heap.get? b=some o->H b=none->(o6 s₁.heap H).get? b=some o:=λe n=>uQ e n
  have noA:∀ {b:Addr} {o:Obj} {es:Array DictEntry} {ep:Nat},s₁.heap.get? b=some o->o.data=.dict es ep->H b=none:=λ{b o es ep} e d=>by
   cases q:H b with
   | none=>rfl
   | some u =>
    have e' : b=a:=hA b (by rw [q];simp)
    subst e'
    rw [ha] at e;cases e
    have d' : Data.seq vs.toArray _=Data.dict es ep:=d
    cases d'
  have nsK:∀ {b:Addr} {m:Str->Option Value},s₁.heap.Ns b m->(o6 s₁.heap H).Ns b m:=λ{b m} ⟨o,es,ep,e,d,r⟩=>⟨o,es,ep,tE e (noA e d),d,r⟩
  have hKb:K.In (o6 s₁.heap H):=λb o e=>tE (KX b o e) (by
   cases q:H b with
   | none=>rfl
   | some u =>
    have e' : b=a:=hA b (by rw [q];simp)
    subst e'
    rw [hK (by rw [q];simp)] at e;cases e)
  have hM:Mod K mg (o6 s₁.heap H):=⟨hKb,nsK hns,⟨mb,nsK hb,hbb⟩,let ⟨mc,h1,h2⟩:=C7;⟨mc,nsK h1,h2⟩⟩
  have e0:rN P w K mg (o6 s₁.heap H) callerA [] s₁ H:=⟨rfl,hM,λb o e=>xb e,Nat.le_of_eq (ug _ _),trivial,λb hb=>absurd (show b ∈ ([]:List Addr) from hb) (by simp),hok,.of_eq hg⟩
  refine codeAny_mono ((F _ hKb (nsK hns)).run callerA [] s₁ H ⟨[.ref a],[]⟩ [.ref a] [.ref a] _ _ hr e0 (BR s₁ (.ref a)) (.cons rfl .nil) (hsp H hO hS)) λr s' h=>?_
  cases r with
  | error e=>exact (hCX H e s' h).elim
  | ok fl =>
   cases fl with
   | next=>exact False.elim h
   | brk=>exact False.elim h
   | cont=>exact False.elim h
   | ret u =>
    obtain ⟨v,H',os,bare,un,C9,r',q⟩:=h
    have q' : v=.bl true:=q
    subst q'
    obtain rfl:u=Value.bool true:=r'
    refine ⟨rfl,OldK.of_keep λb o e=>?_,os,bare⟩
    cases q:H b with
    | none=>exact un.keep b o e q (by intro z;exact absurd (show b ∈ ([]:List Addr) from z) (by simp)) (by simp)
    | some u =>
     rcases hO b with z | ⟨ob,xs,z⟩
     ·rw [q] at z;cases z
     ·have z2:=un.frzs b ob _ z
      obtain ⟨e1,_⟩:=hok b _ z
      obtain ⟨e2,_⟩:=C9 b _ z2
      rw [e] at e1;cases e1
      exact e2
 cases hk:K.lookup a with
 | some o =>
  have e:=KX a o hk
  rw [ha] at e
  cases e
  refine core (λ_=>none) (λ_=>.inl rfl) (.inr ⟨_,vs.toArray,_,hk,rfl,rfl,rfl,by rw [List.size_toArray,C8];exact hl,by simpa using rv⟩) (λb u z=>by have z' : (none:Option HO)=some u:=z;cases z') (λb z=>absurd rfl z) λz=>absurd rfl z
 | none =>
  refine core (λb=>if b=a then some (.frz { cls:=.type "list",data:=.seq vs.toArray } (.lst (ns.map V.int))) else none) (λb=>?_) (.inl (.inr ⟨{ cls:=.type "list",data:=.seq vs.toArray },if_pos rfl⟩)) (λb u z=>?_) (λb z=>?_) λ_=>hk
  ·by_cases hb:b=a
   ·exact .inr ⟨_,_,if_pos hb⟩
   ·exact .inl (if_neg hb)
  ·by_cases hb:b=a
   ·have z':=(if_pos hb).symm.trans z
    cases z'
    subst hb
    exact ⟨ha,by rw [List.length_map];exact hl,vs,_,rv,ha⟩
   ·have z':=(if_neg hb).symm.trans z
    cases z'
  ·by_cases hb:b=a
   ·exact hb
   ·exact absurd (if_neg hb) z
end L2
namespace L2
open PySem PySem.Spec PyProof.Rows
theorem walk_of {l:PySem.W.OpenLaw} {n k:Nat} {q:Program} {loose:List Str} {XP:(Str->Option Value)->Heap->Prop} {YP:World->Heap->Prop} {d:DefRec} {K:Params->PySem.W.Frag} {CX:World->CXT} {sp:World->Sp} {x:Str}
  (hn:l.most=some n) (hn2:n<=sizeLine) (hdf:d.params.defaults=[]) (hr:cI k callerA)
  (hY:∀ (w:World) (h:Heap),YP w h->(K w.params).In h)
  (F:∀ (w:World) (mg:Str->Option Value) (fa:Addr) (h:Heap),(K w.params).In h->h.Ns mainGlobals mg->mg d.name=some (.ref fa) ->
   ∃ fd:FuncData,(∀ (s:Shared) (u:Value),BindsTo s fd ⟨[u],[]⟩ [(x,u)]) /\
    ∀ base:Heap,(K w.params).In base->base.Ns mainGlobals mg->aQ l.prog w (K w.params) mg base (CX w) k fa fd [x] (sp w))
  (hsp:∀ (w:World) (H:Hp) (a:Addr) (ns:List Int),ns.length<=n->zy H->SqL (K w.params) H a (ns.map V.int)->sp w [.ref a] H (λv _=>v=.bl true) λ_ _ _=>False)
  (hCX:∀ (w:World) (H:Hp) (s:Shared) (e:Value) (s' : Shared),CX w [] H s (λ_ _ _=>False) e s'->False) :
  PySem.W.WalkO q loose XP YP l.row.toRowW d [] (λf vs=>PySem.call f vs):=by
 refine Att.attach_call hn hdf λw s₀ s₁ mg mb fa o pm cd doc a vs ns G Y ho hd hcd hmg zw hints hlen hg=>?_
 have KX:=hY w _ Y
 obtain ⟨fd,hb,hF⟩:=F w mg fa _ KX G.T.g hmg
 exact vb KX G.T.g G.T.b G.T.builtins G.T.nolimit hg zw hints (Nat.le_trans hlen hn2) hr hF hb (λH hO hS=>hsp w H a ns hlen hO hS) λH e s'=>hCX w H s₁ e s'
end L2
namespace L2
open PySem PySem.Spec PyProof.Rows
def inClass (s:Stmt) (j:Nat):Stmt:=match s with
 | .ClassDef _ _ _ body _ _ _ _ _ _ _=>body.getD j (.Pass ⟨0,0,0,0⟩)
 | _=>.Pass ⟨0,0,0,0⟩
def lD (s:Stmt):Arguments:=match s with
 | .FunctionDef _ a _ _ _ _ _ _ _ _=>a
 | _=>{ posonlyargs:=[],args:=[],vararg:=none,kwonlyargs:=[],kw_defaults:=[],kwarg:=none,defaults:=[] }
def iu (s:Stmt):List Stmt:=match s with
 | .FunctionDef _ _ b _ _ _ _ _ _ _=>b
 | _=>[]
def ao (s:Stmt):Scope:=match s with
 | .FunctionDef _ _ _ _ _ _ sc _ _ _=>sc
 | _=>{ kind:=.function,names:=[],isGenerator:=false,isCoroutine:=false }
abbrev CX0:CXT:=λ_ _ _ _ _ _=>False
abbrev E0:XK:=λ_ _ _=>False
theorem bL {X:Cx} : Passes CX0 X E0:=λ_ _ _ _ _ _ _ h=>h.elim
structure Fun (K:PySem.W.Frag) (x qual:Str) (st:Stmt) (f:Addr) (fd:FuncData):Prop where
 ex:∃ (oc:Value) (od:Option Addr) (kV doc pm:Value) (an:Option Addr) (cdv ct:Value) (osl:Array (Option Value)),
  fd=PySem.W.fnOf x qual (lD st) (iu st) (ao st) .none kV doc pm an cdv ct/\K.lookup f=some ⟨oc,od,.func fd,osl⟩/\PySem.W.codeIn K cdv qual=true
 kp:PySem.W.keepIn K (.ref f)=true
section
variable {P:Program} {w:World} {K:PySem.W.Frag} {mg:Str->Option Value} {base:Heap}
theorem Fun.ok {x qual:Str} {st:Stmt} {f:Addr} {fd:FuncData} {N ps:List Str} {k:Nat} {sp:Sp} (F:Fun K x qual st f fd) (S:ay N ps (ao st)) (len:∀ vs H Q E,sp vs H Q E->vs.length=ps.length)
  (qI:∀ (cdv:Value) (A:Around) (outer:List Env) (s:Shared) (H:Hp) (vs:List V) (Q:VK) (E:XK),cI k (A.deeper (envOfC qual (ao st) s.heap.objs.size f cdv))->sp vs H Q E ->
   ∃ t,PSs (jR CX0 P w K mg base N qual (ao st) f cdv A outer s H E).nox (iu st) t/\t { nx:=λ_ H'=>Q .non H',rt:=Q } (start N vs) H):aQ P w K mg base CX0 (k+1) f fd ps sp:=by
 obtain ⟨oc,od,kV,doc,pm,an,cdv,ct,osl,rfl,lk,hcd⟩:=F.ex
 refine ym lk hcd S len λA outer s H vs Q E hr hsp=>?_
 obtain ⟨t,h,q⟩:=qI cdv A outer s H vs Q E hr hsp
 exact ⟨t,h.nox,q⟩
theorem Fun.binds {x qual:Str} {st:Stmt} {f:Addr} {fd:FuncData} {ps:List Str} (F:Fun K x qual st f fd)
  (h:∀ (kV doc pm:Value) (an:Option Addr) (cdv ct:Value) (us:List Value),us.length=ps.length->bindArgs (PySem.W.fnOf x qual (lD st) (iu st) (ao st) .none kV doc pm an cdv ct) ⟨us,[]⟩=pure (ps.zip us)):Binds K fd ps []:=by
 obtain ⟨oc,od,kV,doc,pm,an,cdv,ct,osl,rfl,lk,hcd⟩:=F.ex
 exact .all (h kV doc pm an cdv ct)
theorem fun_mk {x qual:Str} {st:Stmt} {f:Addr} {oc:Value} {od an:Option Addr} {osl:Array (Option Value)} {kV doc pm cdv ct:Value} (l:K.lookup f=some ⟨oc,od,.func (PySem.W.fnOf x qual (lD st) (iu st) (ao st) .none kV doc pm an cdv ct),osl⟩)
  (c:PySem.W.codeIn K cdv qual=true) (k:PySem.W.keepIn K (.ref f)=true):Fun K x qual st f (PySem.W.fnOf x qual (lD st) (iu st) (ao st) .none kV doc pm an cdv ct):=⟨⟨oc,od,kV,doc,pm,an,cdv,ct,osl,rfl,l,c⟩,k⟩
end
theorem aD {n:Nat} (h:n<=1000):n < sizeLine:=Nat.lt_of_le_of_lt h (by decide)
section
variable {X:Cx}
theorem pv (i:Nat) {x:Str} {pos:Pos} (hN:X.N[i]?=some x:=by rfl) (hv:Vis X.env.scope x:=by first | exact Or.inl rfl | exact Or.inr (Or.inl rfl) | exact Or.inr (Or.inr rfl)) (hd:(x == ("__debug__" : Str))=false:=by decide)
  (hcd:(x == ("__classdict__" : Str))=false:=by decide):PE X (.Name x pos) (Bu i):=y9 hN hv hd hcd
end
theorem b8 {A B:Prop} (h:B):if false=true then A else B:=by
 rw [if_neg Bool.false_ne_true]
 exact h
theorem dJ {A B:Prop} (h:A):if true=true then A else B:=by
 rw [if_pos rfl]
 exact h
theorem dj {c A B:Prop} [Decidable c] (h1:c->A) (h2:¬ c->B):if c then A else B:=by
 by_cases h:c
 ·rw [if_pos h]
  exact h1 h
 ·rw [if_neg h]
  exact h2 h
theorem qL {c A B:Prop} [Decidable c] (hc:c) (h:B):if (!decide c)=true then A else B:=by
 rw [decide_eq_true hc]
 exact b8 h
def aq (H H' : Hp):Prop:=∀ b o,H b=some o->H' b=some o
theorem aq.refl (H:Hp):aq H H:=λ_ _ h=>h
theorem aq.trans {H H1 H2:Hp} (a:aq H H1) (b:aq H1 H2):aq H H2:=λc o h=>b c o (a c o h)
theorem aq.free {H H' : Hp} (e:aq H H') {l:Addr} (h:H' l=Option.none):H l=Option.none:=by
 cases q:H l with
 | none=>rfl
 | some o =>
  rw [e l o q] at h
  cases h
theorem aq.seq {K:PySem.W.Frag} {H H' : Hp} {a:Addr} {xs:List V} (e:aq H H') (h:SqL K H a xs):SqL K H' a xs:=by
 rcases h with (h | ⟨o,h⟩) | h
 ·exact .inl (.inl (e _ _ h))
 ·exact .inl (.inr ⟨o,e _ _ h⟩)
 ·exact .inr h
end L2
set_option maxHeartbeats 4000000
namespace L2
abbrev Pr:=Int × Int
def inR (n:Int) (p:Pr):Bool:=decide (p.1<=n) && decide (n<=p.2)
def inP (ps:List Pr) (n:Int):Bool:=ps.any (inR n)
structure Apart (R:List Pr):Prop where
 le:∀ p ∈ R,p.1<=p.2
 gap:R.Pairwise λp q=>p.2+2<=q.1
structure GR (R qs:List Pr):Prop where
 ap:Apart R
 mem:∀ n,inP R n=inP qs n
 cov:∀ p ∈ qs,p.1<=p.2->∃ r ∈ R,r.1<=p.1/\p.2<=r.2
 low:∀ r ∈ R,∃ q ∈ qs,r.1=q.1
end L2
namespace L2
open PySem PySem.Spec PyProof.Rows
def Callee (P:Program) (w:World) (K:PySem.W.Frag) (mg:Str->Option Value) (base:Heap) (k:Nat) (x:Str) (ps:List Str) (sp:Sp):Prop :=
 ∃ f fd,aQ P w K mg base CX0 k f fd ps sp/\Binds K fd ps []/\PySem.W.keepIn K (.ref f)=true/\mg x=some (.ref f)
theorem Callee.mono {P:Program} {w:World} {K:PySem.W.Frag} {mg:Str->Option Value} {base:Heap} {j k:Nat} {x:Str} {ps:List Str} {sp:Sp} (C:Callee P w K mg base j x ps sp) (h:j<=k):Callee P w K mg base k x ps sp:=by
 obtain ⟨f,fd,F,r⟩:=C
 exact ⟨f,fd,F.mono h,r⟩
section
variable {X:Cx} {k:Nat} {x:Str} {ps:List Str} {sp:Sp} {e:Expr} {es:List Expr} {t:TA} {p pos:Pos}
def tFn (sp:Sp) (t:TA):TE:=λσ H Q=>t σ H λvs H1=>sp vs H1 Q E0
theorem aW (C:Callee X.prog X.w X.K X.mg X.base k x ps sp) (hr:cI k X.A) (hg:Gl X x) (ha:PA X (e :: es) t) (hdb:(x == ("__debug__" : Str))=false:=by decide)
  (he:starEach (e :: es) X.env=(false,eval e X.env) :: starEach es X.env:=by rfl) (hpl:(backTo pos (starEach es X.env)).any (·.1)=false:=by rfl):PE X (.Call (.Name x p) (e :: es) [] pos) (tFn sp t):=by
 obtain ⟨f,fd,F,b,kk,m⟩:=C
 have h:=xi (E:=E0) (dvs:=[]) (ds:=[]) (p:=p) F hr hg m kk b .nil bL ha hdb he hpl
 intro pins s σ H Q I q
 refine h pins s σ H Q I ?_
 have q' : t σ H λvs H1=>sp vs H1 Q E0:=q
 have e1:(λ(vs:List V) (H1:Hp)=>sp (vs ++ []) H1 Q E0)=λvs H1=>sp vs H1 Q E0:=by
  funext vs H1
  rw [List.append_nil]
 show t σ H λvs H1=>sp (vs ++ []) H1 Q E0
 rw [e1]
 exact q'
end
def Dc (t u:TS):TS:=λD σ H=>∃ M:St->Hp->Prop,t { D with nx:=M } σ H/\∀ σ' H',M σ' H'->u D σ' H'
theorem aw {X:Cx} {st:Stmt} {rest:List Stmt} {t u:TS} (h1:PS X st t) (h2:PSs X rest u):PSs X (st :: rest) (Dc t u):=by
 intro pins s σ H D I ⟨M,a,b⟩
 refine wpAny_execs_cons (thn (h1 pins s σ H { D with nx:=M } I a) λfl s1 q=>?_)
 cases fl with
 | next=>obtain ⟨σ',H',I',q⟩:=q;exact h2 pins s1 σ' H' D I' (b σ' H' q)
 | ret v=>exact q
 | brk=>exact q
 | cont=>exact q
section
variable {X:Cx}
end
inductive EqI (K:PySem.W.Frag) (H:Hp):V->V->Bool->Prop where
 | flat {x y:V} (fx:cn x=true) (fy:cn y=true):EqI K H x y (eqV x y)
 | same (a:Addr):EqI K H (.ref a) (.ref a) true
 | tup {a b:Addr} {xs ys:List V} (ha:SqT K H a xs) (hb:SqT K H b ys) (fx:xs.all cn=true) (fy:ys.all cn=true):EqI K H (.ref a) (.ref b) (decide (xs.length=ys.length) && (List.zipWith eqV xs ys).all id)
theorem jU:∀ {x:V},cn x=true->eqV x x=true
 | .non,_=>rfl
 | .bl b,_=>by simp [eqV]
 | .int i,_=>by simp [eqV]
 | .str z,_=>by simp [eqV]
theorem mj:∀ {xs:List V},xs.all cn=true->(List.zipWith eqV xs xs).all id=true
 | [],_=>rfl
 | x :: xs,h=>by
  rw [List.all_cons,Bool.and_eq_true] at h
  rw [List.zipWith_cons_cons,List.all_cons,mj h.2,Bool.and_true]
  exact jU h.1
theorem iW {f:Nat->Bool} : ∀ {xs ys:List V},(∀ j x y,xs[j]?=some x->ys[j]?=some y->f j=eqV x y)->(List.range (min xs.length ys.length)).all f=(List.zipWith eqV xs ys).all id
 | [],ys,_=>by simp
 | x :: xs,[],_=>by simp
 | x :: xs,y :: ys,h=>by
  have ih:=iW (f:=λj=>f (j+1)) (xs:=xs) (ys:=ys) λj a b e1 e2=>h (j+1) a b (by simpa using e1) (by simpa using e2)
  have e0:=h 0 x y rfl rfl
  have em:min (x :: xs).length (y :: ys).length=min xs.length ys.length+1:=by simp only [List.length_cons];lia
  rw [em,List.range_succ_eq_map,List.all_cons,List.zipWith_cons_cons,List.all_cons,List.all_map,e0]
  show (eqV x y && (List.range (min xs.length ys.length)).all (λj=>f (j+1)))=_
  rw [ih]
  rfl
section
variable {X:Cx} {pins:List (Addr × Obj)} {σ:St} {H:Hp} {s:Shared}
theorem EqI.at {A:Around} {x y:V} {u v:Value} {b:Bool} (e:EqI X.K H x y b) (I:Inv X pins σ H s) (hu:A.units+1 < cLine) (rx:RelV x u) (ry:RelV y v):SeqAt.EqAt A s u v b:=by
 cases e with
 | flat fx fy=>exact rQ rx ry fx fy
 | same a =>
  cases (show u=Value.ref a from rx)
  cases (show v=Value.ref a from ry)
  exact SeqAt.EqAt.same _
 | @tup a b xs ys ha hb fx fy =>
  cases (show u=Value.ref a from rx)
  cases (show v=Value.ref b from ry)
  by_cases z:a=b
  ·subst z
   have e:=I.tuple_inj ha hb
   subst e
   rw [mj fx,decide_eq_true rfl]
   exact SeqAt.EqAt.same _
  ·obtain ⟨its,r,p,_⟩:=I.tuple ha
   obtain ⟨its',r',p',_⟩:=I.tuple hb
   have l1:=r.length
   have l2:=r'.length
   have h0:=SeqAt.RcAt.tuples (A:=A) (e:=λj=>match its[j]?,xs[j]?,ys[j]? with | _,some x,some y=>eqV x y | _,_,_=>false) (show s.heap.IsTuple a its.toArray from p) (show s.heap.IsTuple b its'.toArray from p') (by lia) (λj h1 h2=>by
    have j1:j < its.length:=by simpa using h1
    have j2:j < its'.length:=by simpa using h2
    have x1:xs[j]?=some xs[j]:=G6 (by lia)
    have y1:ys[j]?=some ys[j]:=G6 (by lia)
    obtain ⟨u1,q1,r1⟩:=r.get x1
    obtain ⟨u2,q2,r2⟩:=r'.get y1
    have eu:its.toArray[j]=u1:=by
     have:=G6 j1
     rw [this] at q1;simpa using Option.some.inj q1
    have ev:its'.toArray[j]=u2:=by
     have:=G6 j2
     rw [this] at q2;simpa using Option.some.inj q2
    rw [eu,ev]
    rw [x1,y1]
    have f1:cn xs[j]=true:=List.all_eq_true.mp fx _ (List.getElem_mem _)
    have f2:cn ys[j]=true:=List.all_eq_true.mp fy _ (List.getElem_mem _)
    exact rQ r1 r2 f1 f2)
   have h1:=SeqAt.EqAt.of_refs z h0
   have e1:((List.range (min its.toArray.size its'.toArray.size)).all λj=>match its[j]?,xs[j]?,ys[j]? with | _,some x,some y=>eqV x y | _,_,_=>false)=(List.zipWith eqV xs ys).all id:=by
    have es:min its.toArray.size its'.toArray.size=min xs.length ys.length:=by simp only [List.size_toArray];lia
    rw [es]
    exact iW λj x y q1 q2=>by rw [q1,q2]
   rw [e1] at h1
   have e2:(its.toArray.size == its'.toArray.size)=decide (xs.length=ys.length):=by
    simp only [List.size_toArray,← l1,← l2]
    exact Bool.beq_eq_decide_eq _ _
   rw [e2,Bool.and_comm] at h1
   exact h1
end
inductive vc (K:PySem.W.Frag) (neg:Bool) (x:V) (y:V) (H:Hp) (Q:VK):Prop
 | mk (a b xs ys:_) (_:x=.ref a) (_:y=.ref b) (_:SqL K H a xs) (_:SqL K H b ys) (_:((xs.length ≠ ys.length/\Q (.bl neg) H)\/(xs.length=ys.length/\∃ f:Nat->Bool,(∀ j x y,xs[j]?=some x->ys[j]?=some y->EqI K H x y (f j))/\Q (.bl (if neg then !(List.range xs.length).all f else (List.range xs.length).all f)) H))):vc K neg x y H Q
section
variable {X:Cx}
theorem rV {pins:List (Addr × Obj)} {σ:St} {H:Hp} {s:Shared} {A:Around} {xs ys:List V} {its its' : List Value} {f:Nat->Bool} (I:Inv X pins σ H s) (hu:A.units+1 < cLine) (r:Vals xs its) (r' : Vals ys its')
  (hf:∀ j x y,xs[j]?=some x->ys[j]?=some y->EqI X.K H x y (f j)):∀ j (h1:j < its.toArray.size) (h2:j < its'.toArray.size),SeqAt.EqAt A s its.toArray[j] its'.toArray[j] (f j):=λj h1 h2=>by
 have j1:j < its.length:=by simpa using h1
 have j2:j < its'.length:=by simpa using h2
 have l1:=r.length
 have l2:=r'.length
 have x1:xs[j]?=some xs[j]:=G6 (by lia)
 have y1:ys[j]?=some ys[j]:=G6 (by lia)
 obtain ⟨u1,q1,r1⟩:=r.get x1
 obtain ⟨u2,q2,r2⟩:=r'.get y1
 have eu:its.toArray[j]=u1:=by
  have:=G6 j1
  rw [this] at q1;simpa using Option.some.inj q1
 have ev:its'.toArray[j]=u2:=by
  have:=G6 j2
  rw [this] at q2;simpa using Option.some.inj q2
 rw [eu,ev]
 exact (hf j _ _ x1 y1).at I hu r1 r2
theorem vf {k:Nat} (hr:cI k X.A):OpR X (compareOp .Eq) (vc X.K false):=by
 intro pins s σ H x y v u Q I rx ry h
 obtain ⟨a,b,xs,ys,rfl,rfl,ha,hb,h⟩:=h
 cases (show v=Value.ref a from rx)
 cases (show u=Value.ref b from ry)
 obtain ⟨its,r,p,_⟩:=I.list ha
 obtain ⟨its',r',p',_⟩:=I.list hb
 have l1:=r.length
 have l2:=r'.length
 have hu:=hr.units
 rcases h with ⟨hn,q⟩ | ⟨hl,f,hf,q⟩
 ·refine SeqAt.eq_list_lengthsAt p.isList p'.isList (by simp only [List.size_toArray,bne_iff_ne,ne_eq];lia) (by lia) ⟨.bl false,H,I,rfl,q⟩
 ·refine SeqAt.eq_listAt (e:=f) p.isList p'.isList (by simp only [List.size_toArray];lia) (by lia) (rV I (by show X.A.units+1+1 < cLine;lia) r r' hf) ⟨.bl _,H,I,rfl,?_⟩
  rw [show its.toArray.size=xs.length by simp only [List.size_toArray];lia]
  exact q
theorem zA {k:Nat} (hr:cI k X.A):OpR X (compareOp .NotEq) (vc X.K true):=by
 intro pins s σ H x y v u Q I rx ry h
 obtain ⟨a,b,xs,ys,rfl,rfl,ha,hb,h⟩:=h
 cases (show v=Value.ref a from rx)
 cases (show u=Value.ref b from ry)
 obtain ⟨its,r,p,_⟩:=I.list ha
 obtain ⟨its',r',p',_⟩:=I.list hb
 have l1:=r.length
 have l2:=r'.length
 have hu:=hr.units
 rcases h with ⟨hn,q⟩ | ⟨hl,f,hf,q⟩
 ·refine SeqAt.RcNeAt.lists_lengths p.isList p'.isList (by simp only [List.size_toArray,bne_iff_ne,ne_eq];lia) (by lia) X.prog X.w X.xe _ ⟨.bl true,H,I,rfl,q⟩
 ·refine SeqAt.RcNeAt.lists (e:=f) p.isList p'.isList (by simp only [List.size_toArray];lia) (by lia) (rV I (by show X.A.units+1+1 < cLine;lia) r r' hf) X.prog X.w X.xe _ ⟨.bl _,H,I,rfl,?_⟩
  rw [show its.toArray.size=xs.length by simp only [List.size_toArray];lia]
  exact q
end
def iX (H H' : Hp):Prop:=∀ b xs,H b=some (.tup xs)->H' b=some (.tup xs)
theorem aq.tups {H H' : Hp} (h:aq H H'):iX H H':=λb xs e=>h b _ e
theorem oo {H:Hp} {p:Addr} {o:HO} {ys:List V} (h:H p=some (.lst ys)):iX H (upd H p o):=λb xs e=>by rw [av (ck e h (by intro z;cases z))];exact e
theorem ai {H:Hp} {p:Addr} (h:H p=none) (o:HO):aq H (upd H p o):=λb u q=>by rw [av (bB q h)];exact q
theorem aq.upd {H H' : Hp} {p:Addr} {o:HO} (s:aq H H') (h:H p=none):aq H (upd H' p o):=λb u q=>by rw [av (bB q h)];exact s b u q
def PL (H:Hp):List V->List (Int × Int)->Prop:=Paired λx p=>∃ r,x=.ref r/\H r=some (.tup [.int p.1,.int p.2])
theorem PL.mono {H H' : Hp} {xs:List V} {ps:List (Int × Int)} (h:PL H xs ps) (s:iX H H'):PL H' xs ps:=Paired.mapP h λ_ _ ⟨r,e,z⟩=>⟨r,e,s r _ z⟩
theorem PL.get {H:Hp} : ∀ {xs:List V} {ps:List (Int × Int)} {i:Nat} {x:V},PL H xs ps->xs[i]?=some x->∃ p r,ps[i]?=some p/\x=.ref r/\H r=some (.tup [.int p.1,.int p.2])
 | _,_,_,_,.nil,e=>by simp at e
 | _,_,0,_,.cons (b:=b) ⟨r,e1,z⟩ _,e=>by simp at e;subst e;exact ⟨b,r,rfl,e1,z⟩
 | _,_,i+1,x,.cons _ t,e=>by
  obtain ⟨p,r,q⟩:=PL.get (i:=i) (x:=x) t (by simpa using e)
  exact ⟨p,r,by simpa using q.1,q.2⟩
theorem PL.length {H:Hp} {xs:List V} {ps:List (Int × Int)} (h:PL H xs ps):xs.length=ps.length:=Paired.length h
theorem PL.snoc {H:Hp} {xs:List V} {ps:List (Int × Int)} {r:Addr} {a b:Int} (h:PL H xs ps) (e:H r=some (.tup [.int a,.int b])):PL H (xs ++ [.ref r]) (ps ++ [(a,b)]):=Paired.snoc h ⟨r,rfl,e⟩
theorem dN {ps:List (Int × Int)} {i:Nat} {p:Int × Int} {f:Int × Int->Bool} (e:ps[i]?=some p) (h:(ps.take i).any f=false) (hf:f p=false):(ps.take (i+1)).any f=false:=by
 rw [List.take_add_one,e,List.any_append,h]
 simp [hf]
theorem ml {ps:List (Int × Int)} {i:Nat} {p:Int × Int} {f:Int × Int->Bool} (e:ps[i]?=some p) (hf:f p=true):ps.any f=true:=List.any_eq_true.mpr ⟨p,G8 e,hf⟩
theorem oq {p:Prop} [Decidable p] (h:decide p=true):p:=of_decide_eq_true h
theorem tF {p:Prop} [Decidable p] (h:¬ decide p=true):¬ p:=λe=>h (decide_eq_true e)
end L2
namespace L2
open PySem PySem.Spec PyProof.Rows
theorem dc {X:Cx} {K:PySem.W.Frag} (h:X.K=K):IxR X (BN K):=h ▸ aK
theorem dh {X:Cx} {K:PySem.W.Frag} (h:X.K=K):IxR X (BO K):=h ▸ aS
def bG (X:Cx) (N:List Str) (scope:Scope) (cl:List (Str × Addr)) (fp:List Addr) (C:Addr) (s2:Shared) (H2:Hp):Cx :=
 { prog:=X.prog,w:=X.w,K:=X.K,mg:=X.mg,base:=X.base,A:=X.A,N:=N,s₀:=s2,H₀:=H2,env:=compEnvC scope cl C X.env,outer:=X.stack,stack:=X.stack,ex:=fp,fn:=λ_=>false,calm:=X.calm,pn:=[],xe:=λ_ _=>False }
def PIf (X:Cx) (ifs:List Expr) (t:TT):Prop :=
 ∀ (pins:List (Addr × Obj)) (s:Shared) (σ:St) (H:Hp) (Q:Bool->Hp->Prop),Inv X pins σ H s->t σ H Q ->
  wpAny (model X.prog X.w) X.A (forIn ifs true λc r=>if r=true then do let ok ← isTrue c X.env (eval c X.env);pure (ForInStep.yield ok) else pure (ForInStep.yield r)) (TP X pins σ Q) X.xe s
def Dd:TT:=λ_ H Q=>Q true H
theorem aU {X:Cx} : PIf X [] Dd:=λ_ _ _ H _ I h=>wpAny_tests_nil ⟨H,I,h⟩
theorem eQ {X:Cx} {c:Expr} {t:TT} (h:PT X c t):PIf X [c] t:=λpins s σ H Q I q=>wpAny_tests_one (h pins s σ H Q I q)
structure qM (X:Cx) (N:List Str) (fr:List Nat) (scope:Scope) (cl:List (Str × Addr)) (x:Str):Prop where
 clos:closureFor scope X.env=pure cl
 kind:scope.kind=.function
 nocell:∀ y ∈ scope.names,y.2 ≠ .cell
 names:∀ y ∈ scope.names,y.2=.local->scope.names.lookup y.1=some .local
 hx:scope.names.lookup x=some .local
 nd:N.Nodup
 n0:N[0]?=some x
 len:N.length=fr.length+1
 sub:∀ (i:Nat) (y:Str),N[i+1]?=some y->∃ j,fr[i]?=some j/\X.N[j]?=some y/\(X.env.kindOf y=some .cell\/X.env.kindOf y=some .free)/\((relabel scope X.env).names.lookup y=some .cell\/(relabel scope X.env).names.lookup y=some .free)
 cells:∀ y c,cl.lookup y=some c->X.env.cells.lookup y=some c
 has:∀ y,((relabel scope X.env).names.lookup y=some .cell\/(relabel scope X.env).names.lookup y=some .free)->∃ c,cl.lookup y=some c
theorem bg {X:Cx} {scope:Scope} {x:Str} (kind:scope.kind=.function) (nofree:∀ y ∈ scope.names,y.2 ≠ .free) (nocell:∀ y ∈ scope.names,y.2 ≠ .cell)
  (names:∀ y ∈ scope.names,y.2=.local->scope.names.lookup y.1=some .local) (hx:scope.names.lookup x=some .local):qM X [x] [] scope [] x:=by
 have er:(relabel scope X.env).names=scope.names:=map_eq_self λy hy=>by
  have z:(y.2 == NameKind.free)=false:=by simpa using nofree y hy
  simp [z]
 have no:∀ y,¬ ((relabel scope X.env).names.lookup y=some .cell\/(relabel scope X.env).names.lookup y=some .free):=λy h=>by
  rw [er] at h
  rcases h with h | h
  ·exact nocell _ (PySem.mem_of_lookup h) rfl
  ·exact nofree _ (PySem.mem_of_lookup h) rfl
 exact ⟨closureFor_none nofree,kind,nocell,names,hx,by simp,rfl,rfl,λi y e=>by simp at e,(λy c e=>by cases e),λy h=>absurd h (no y)⟩
theorem aX {X:Cx} {N:List Str} {fr:List Nat} {scope:Scope} {cl:List (Str × Addr)} {x:Str} (clos:closureFor scope X.env=pure cl) (kind:scope.kind=.function) (nocell:∀ y ∈ scope.names,y.2 ≠ .cell)
  (names:∀ y ∈ scope.names,y.2=.local->scope.names.lookup y.1=some .local) (hx:scope.names.lookup x=some .local) (nd:N.Nodup) (n0:N[0]?=some x) (len:N.length=fr.length+1)
  (sub:((List.range fr.length).all λi=>match N[i+1]?,fr[i]? with | some y,some j=>(X.N[j]? == some y) && ((X.env.kindOf y == some .cell) && ((relabel scope X.env).names.lookup y == some .cell)) | _,_=>false)=true)
  (cells:∀ p ∈ cl,X.env.cells.lookup p.1=some p.2) (has:((relabel scope X.env).names.all λp=>(p.2 != .cell && p.2 != .free) || (cl.lookup p.1).isSome)=true):qM X N fr scope cl x:=by
 refine ⟨clos,kind,nocell,names,hx,nd,n0,len,λi y e=>?_,λy c e=>cells _ (PySem.mem_of_lookup e),λy h=>?_⟩
 ·have hi:i < fr.length:=by have:=(G7.mp e).1;lia
  have z:=List.all_eq_true.mp sub i (List.mem_range.mpr hi)
  rw [e,G6 hi] at z
  simp only [Bool.and_eq_true,beq_iff_eq] at z
  exact ⟨_,G6 hi,z.1,.inl z.2.1,.inl z.2.2⟩
 ·have look:∀ k,(relabel scope X.env).names.lookup y=some k->(k=.cell\/k=.free)->∃ c,cl.lookup y=some c:=λk e hk=>by
   have z:=List.all_eq_true.mp has _ (PySem.mem_of_lookup e)
   rcases hk with rfl | rfl
   ·exact Option.isSome_iff_exists.mp (by simpa using z)
   ·exact Option.isSome_iff_exists.mp (by simpa using z)
  rcases h with h | h
  ·exact look _ h (.inl rfl)
  ·exact look _ h (.inr rfl)
def fH (σ:St) (fr:List Nat) (x:Option V):St:=x :: fr.map λj=>(σ[j]?).join
def pe (J:It) (fr:List Nat) (tt:TT) (te:TE) (σ:St) (Q:VK) (H1:Hp):Prop:=∀ D,H1 D=none->∃ W:Nat->Nat->Hp->Prop,(∃ m,W 0 m (upd H1 D (.lst [])))/\∀ i m H,W i m H ->
 (J.stop i H/\Q (.ref D) H)\/(J.go i H/\∀ x H',J.yld i H x H'->tt (fH σ fr (some x)) H' λb H2=>if b=true then te (fH σ fr (some x)) H2 λy H3=>∃ ys,H3 D=some (.lst ys)/\ys.length < sizeLine/\∃ m',m' < m/\W (i+1) m' (upd H3 D (.lst (ys ++ [y])))
  else ∃ m',m' < m/\W (i+1) m' H2)
def yn (wi:TI) (fr:List Nat) (tt:TT) (te:TE):TE:=λσ H Q=>wi σ H λJ H1=>pe J fr tt te σ Q H1
section
variable {prog:Program} {w:World} {A:Around} {R:Result->Shared->Prop} {s:Shared}
theorem mn {elt target iter:Expr} {ifs:List Expr} {scope:Scope} {pos:Pos} {it acc:Value} {env:Env} (J:Nat->Shared->Prop)
  (turn:∀ n s,J n s->wpAny (model prog w) A (pyNext it) (λr s1=>match r with
   | none=>R (.ok .next) s1
   | some v=>wpAny (model prog w) A (letOwnedTupleGo target it v) (λ_ s2=>wpAny (model prog w) A (assign target env v) (λ_ s3 =>
     wpAny (model prog w) A (forIn ifs true λc r=>if r=true then do let ok ← isTrue c env (eval c env);pure (ForInStep.yield ok) else pure (ForInStep.yield r)) (λok s4 =>
      if ok=true then wpAny (model prog w) A (eval elt env) (λy s5=>wpAny (model prog w) A (call (.builtin "list.append") [acc,y]) (λ_ s6=>∃ m,m < n/\J m s6) (λ_ _=>False) s5) (λ_ _=>False) s4
      else ∃ m,m < n/\J m s4) (λ_ _=>False) s3) (λ_ _=>False) s2) (λ_ _=>False) s1) (λ_ _=>False) s)
  (n:Nat) (h:J n s):codeAny (model prog w) A (.compLoop (.ListComp elt [⟨target,iter,ifs,0⟩] scope pos) 0 it acc env) R s:=by
 refine codeAny_loop rfl J (λn s hJ=>?_) n h
 show wpAny _ A ((compTurn (.ListComp elt [⟨target,iter,ifs,0⟩] scope pos) 0 it acc env).onRaise (λx=>do noteFrame x env;theTreesLotGoes x)) _ _ s
 refine wpAny_noted ?_
 rw [compTurn_list]
 refine wpAny_bind (wpAny_standAt (wpAny_bind (wpAny_mono (turn n s hJ) (λr s1 h1=>?_) λ_ _ z=>z.elim)))
 cases r with
 | none=>exact wpAny_pure h1
 | some v =>
  refine wpAny_bind (wpAny_mono h1 (λ_ s2 h2=>?_) λ_ _ z=>z.elim)
  refine wpAny_bind (wpAny_mono h2 (λ_ s3 h3=>wpAny_bind (wpAny_mono h3 (λok s4 h4=>?_) λ_ _ z=>z.elim)) λ_ _ z=>z.elim)
  cases ok with
  | false=>exact wpAny_pure ⟨rfl,h4⟩
  | true=>exact wpAny_bind (wpAny_bind (wpAny_mono h4 (λy s5 h5=>wpAny_bind (wpAny_mono h5 (λ_ s6 h6=>wpAny_pure (wpAny_pure ⟨rfl,h6⟩)) λ_ _ z=>z.elim)) λ_ _ z=>z.elim))
end
section
variable {X:Cx} {elt iter:Expr} {ifs:List Expr} {x:Str} {px pos:Pos} {scope:Scope} {cl:List (Str × Addr)} {N:List Str} {fr:List Nat} {tt:TT} {te:TE}
theorem ot {pins:List (Addr × Obj)} {σ:St} {s2:Shared} {H2:Hp} {it:Addr} {fp:List Addr} {tn:Nat->Heap->Prop} {J:It} {Q:VK} {E:Value->Shared->Prop} {RR:Value->Addr->Result->Shared->Prop}
  (O:qM X N fr scope cl x) (hc:X.calm=true) (I2:Inv X pins σ H2 s2) (T:Turn X.prog X.w X.K (.Name x px) J fp it tn) (st2:tn 0 s2.heap) (f2:∀ b ∈ fp,kA X pins H2 b)
  (ht:∀ fp C s H,PIf (bG X N scope cl fp C s H) ifs tt) (he:∀ fp C s H,PE (bG X N scope cl fp C s H) elt te)
  (hW:pe J fr tt te σ Q H2)
  (fin:∀ D C s' H',s2.heap.objs.size<=C->H' C=none->(∃ m,s'.heap.Ns C m)->Inv X pins σ H' s'->Q (.ref D) H'->RR (.ref D) C (.ok .next) s') :
  wpAny (model X.prog X.w) X.A (newList []) (λacc s3=>wpAny (model X.prog X.w) X.A (newFunctionEnv scope X.env.globals cl [] X.env.qual none .none (some X.env)) (λvg s4 =>
   codeAny (model X.prog X.w) X.A (.compStart (.ListComp elt [⟨.Name x px,iter,ifs,0⟩] scope pos) 0 (.ref it) acc { vg with scope:=relabel scope X.env }) (RR acc vg.locals) s4) E s3) E s2:=by
 refine wpAny_newObj_type (wpAny_newFunctionEnv O.nocell (by intro y hy;simp at hy) (λh1 hns hsb=>?_) O.kind)
 dsimp only at hns hsb ⊢
 generalize hG:s2.heap.push { cls:=.type "list",dict:=none,data:=.seq ([]:List Value).toArray } = G at hns hsb ⊢
 have hC:G.objs.size=s2.heap.objs.size+1:=by rw [← hG,Heap.size_push]
 have old:∀ b o,s2.heap.get? b=some o->h1.get? b=some o:=λb o e=>hsb.extBut b o (Nat.ne_of_lt (by rw [hC];exact Nat.lt_succ_of_lt (Heap.lt_size e))) (Heap.get?_push_of_some _ (hG ▸ Heap.get?_push_of_some _ e))
 have zB:h1.get? s2.heap.objs.size=some { cls:=.type "list",data:=.seq ([]:List Value).toArray 0 }:=hsb.extBut _ _ (Nat.ne_of_lt (by rw [hC];exact Nat.lt_succ_self _)) (Heap.get?_push_of_some _ (hG ▸ Heap.get?_push_size _ rfl))
 have hD:H2 s2.heap.objs.size=none:=I2.fresh
 have okX:(bG X N scope cl fp G.objs.size s2 H2).Ok:=by
  refine ⟨I2.ok.mod,O.kind,I2.ok.glob,I2.ok.blt,by show s2.heap.objs.size<=G.objs.size;rw [hC];exact Nat.le_succ _,λy z c e1 e2=>I2.ok.inj y z c (O.cells y c e1) (O.cells z c e2),λy hy=>O.has y hy,λy c z=>absurd (show false=true from z) Bool.false_ne_true,I2.ok.hd,I2.ok.frames,.inl rfl,
   λb hb=>⟨?_,λy c e=>(f2 b hb).2.2.2.2.1 y c (O.cells y c e)⟩,I2.bs,Nat.le_trans I2.ok.bsz I2.sz,λb o e hb=>?_,λb hb z=>?_,I2.stack,I2.stkFree⟩
  ·obtain ⟨o,e,_⟩:=T.obj _ _ st2 b hb
   show b ≠ G.objs.size
   exact Nat.ne_of_lt (by rw [hC];exact Nat.lt_succ_of_lt (Heap.lt_size e))
  ·rcases (f2 b hb).2.2.2.1 with z | z
   ·exact I2.ok.noex b o e z
   ·exact absurd (Nat.lt_of_lt_of_le (Heap.lt_size e) (Nat.le_trans I2.ok.bsz z)) (Nat.lt_irrefl _)
  ·rcases List.mem_cons.mp (I2.stkSub b z) with z | z
   ·exact (f2 b hb).2.1 z
   ·exact (f2 b hb).2.2.1 z
 have mq:∀ {H' : Hp},(∀ b ∈ fp,H' b=none)->∀ b ∈ fp,kA (bG X N scope cl fp G.objs.size s2 H2) [] H' b:=λhn b hb =>
  ⟨hn b hb,(okX.exf b hb).1,okX.exfs b hb,.inl hb,(okX.exf b hb).2,λp hp=>absurd (show p ∈ ([]:List (Addr × Obj)) from hp) (by simp)⟩
 have I' : Inv (bG X N scope cl fp G.objs.size s2 H2) [] (fH σ fr none) (upd H2 s2.heap.objs.size (.lst [])) { s2 with heap:=h1,toks:=s2.toks+([]:List (Str × Value)).length }:=by
  refine ⟨okX,rfl,I2.bare,Un.laid old (Nat.le_refl _) hD,⟨_,hns,λi y v e1 e2 e3=>?_⟩,λy c e=>?_,?_,λy c e=>?_,λp hp=>absurd (show p ∈ ([]:List (Addr × Obj)) from hp) (by simp),I2.hok.laid old (Nat.le_refl _) ⟨Nat.zero_le _,[],0,.nil,zB⟩,?_⟩
  ·cases i with
   | zero=>cases e2
   | succ i =>
    obtain ⟨j,q1,q2,q3,q4⟩:=O.sub i y e1
    have e2' : (σ[j]?).join=some v:=by
     have:(fr.map λj=>(σ[j]?).join)[i]?=some (some v):=e2
     rw [List.getElem?_map,q1] at this
     exact Option.some.inj this
    have e4:σ[j]?=some (some v):=by
     cases z:σ[j]? with
     | none=>rw [z] at e2';cases e2'
     | some t=>rw [z] at e2';exact congrArg some e2'
    obtain ⟨m,_,hl⟩:=I2.loc
    have vis:Vis X.env.scope y:=.inr q3
    obtain ⟨u,r,l⟩:=hl j y v q2 e4 vis
    refine ⟨u,r,.inr ⟨q4,?_⟩⟩
    obtain ⟨c',hc'⟩:=O.has y q4
    rcases l with ⟨k,_⟩ | ⟨_,c,ec,ic⟩
    ·rcases q3 with z | z
     ·rw [z] at k;cases k
     ·rw [z] at k;cases k
    ·have:=O.cells y c' hc'
     have e' : c=c':=Option.some.inj (ec.symm.trans this)
     obtain ⟨o,ho,hd⟩:=ic
     rw [e'] at ho
     exact ⟨c',hc',o,old c' o ho,hd⟩
  ·obtain ⟨v,o,ho,hd⟩:=I2.cell y c (O.cells y c e)
   exact ⟨v,o,old c o ho,hd⟩
  ·show upd H2 s2.heap.objs.size (.lst []) G.objs.size=none
   rw [av (Nat.ne_of_gt (by rw [hC];exact Nat.lt_succ_self _))]
   exact I2.hok.fresh (by rw [hC];exact Nat.le_succ _)
  ·obtain ⟨v,o,ho,hd⟩:=I2.cell y c (O.cells y c e)
   rw [av (Nat.ne_of_lt (Heap.lt_size ho))]
   exact I2.freeC y c (O.cells y c e)
  ·show (fH σ fr none).length=N.length
   rw [O.len];simp [fH]
 have st1:tn 0 h1:=T.keep _ _ _ st2 λb hb o e=>old b o e
 have loop:∀ s3:Shared,s3 = { s2 with heap:=h1,toks:=s2.toks+([]:List (Str × Value)).length } ->
   codeAny (model X.prog X.w) X.A (.compLoop (.ListComp elt [⟨.Name x px,iter,ifs,0⟩] scope pos) 0 (.ref it) (.ref s2.heap.objs.size) (compEnvC scope cl G.objs.size X.env)) (RR (.ref s2.heap.objs.size) G.objs.size) s3:=by
  rintro s3 rfl
  obtain ⟨W,⟨m0,w0⟩,turn⟩:=hW _ hD
  refine mn (λn s'=>∃ i t H',Inv (bG X N scope cl fp G.objs.size s2 H2) [] (fH σ fr t) H' s'/\tn i s'.heap/\(∀ b ∈ fp,H' b=none)/\W i n H') ?_ m0
   ⟨0,none,_,I',st1,λb hb=>by
    rw [av (by obtain ⟨o,e,_⟩:=T.obj _ _ st2 b hb;exact Nat.ne_of_lt (Heap.lt_size e))]
    exact (f2 b hb).1,w0⟩
  rintro n s' ⟨i,t,H',I3,st3,fr3,w3⟩
  rcases turn i n H' w3 with ⟨stop,qn⟩ | ⟨go,step⟩
  ·refine thn (T.done (bG X N scope cl fp G.objs.size s2 H2) rfl rfl rfl hc i [] s' _ H' _ I3 (mq fr3) st3 stop) λr s4 ⟨hr,I4⟩=>?_
   subst hr
   obtain ⟨m,hm,_⟩:=I4.loc
   refine fin _ _ s4 H' (by rw [hC];exact Nat.le_succ _) I4.free ⟨m,hm⟩ (I2.call' (ch:=fp) I4.os I4.base I4.hok I4.bare λb hb=>?_) qn
   exact ⟨(f2 b hb).2.2.2.1,(f2 b hb).2.1,(f2 b hb).2.2.2.2.1,(f2 b hb).2.2.2.2.2⟩
  ·refine thn (T.item (bG X N scope cl fp G.objs.size s2 H2) rfl rfl rfl hc i [] s' _ H' _ I3 (mq fr3) st3 go) λr s4 ⟨u,hr,h4⟩=>?_
   subst hr
   refine thn h4 λ_ s5 ⟨y,H5,I5,r5,y5,st5,fr5⟩=>?_
   have I5':=I5.pinned (mq fr5) (T.obj _ _ st5)
   have lx:(bG X N scope cl fp G.objs.size s2 H2).env.scope.names.lookup x=some .local:=lookup_relabel_local O.hx
   refine thn (aF (X:=bG X N scope cl fp G.objs.size s2 H2) (i:=0) O.nd O.n0 (.inl lx) (.inr lx) _ s5 _ H5 y u (λσ' H'=>σ'=fH σ fr (some y)/\H'=H5) I5' r5 ⟨rfl,rfl⟩) λ_ s6 ⟨σ6,H6,I6,e6,e6'⟩=>?_
   subst e6;subst e6'
   have again:∀ {σ7:St} {H7:Hp} {s7:Shared} {m' : Nat},σ7=fH σ fr (some y)->Inv (bG X N scope cl fp G.objs.size s2 H2) ([] ++ kC fp s5.heap) σ7 H7 s7->m' < n->W (i+1) m' H7 ->
     ∃ m,m < n/\∃ i t H',Inv (bG X N scope cl fp G.objs.size s2 H2) [] (fH σ fr t) H' s7/\tn i s7.heap/\(∀ b ∈ fp,H' b=none)/\W i m H':=λ{σ7 H7 s7 m'} e7 I7 hm w7=>by
    subst e7
    refine ⟨m',hm,i+1,some y,H7,I7.unpinned,T.keep _ _ _ st5 λb hb o e=>(I7.pin (b,o) (List.mem_append_right _ (List.mem_append_right _ (dI hb e)))).1,λb hb=>?_,w7⟩
    obtain ⟨o,e,d⟩:=T.obj _ _ st5 b hb
    exact (I7.pin (b,o) (List.mem_append_right _ (List.mem_append_right _ (dI hb e)))).2.1
   refine thn (ht fp G.objs.size s2 H2 _ s6 _ H6 _ I6 (step y H6 y5)) λok s7 ⟨H7,I7,q7⟩=>?_
   cases ok with
   | false =>
    rw [if_neg Bool.false_ne_true] at q7 ⊢
    obtain ⟨m',hm,w7⟩:=q7
    exact again rfl I7 hm w7
   | true =>
    rw [if_pos rfl] at q7 ⊢
    refine thn (he fp G.objs.size s2 H2 _ s7 _ H7 _ I7 q7) λu8 s8 ⟨v8,H8,I8,r8,ys,hys,hlen,m',hm,w8⟩=>?_
    refine thn (bW (X:=bG X N scope cl fp G.objs.size s2 H2) _ s8 _ H8 (.ref s2.heap.objs.size) [v8] _ [u8] (λ_ H9=>W (i+1) m' H9) I8 rfl (.cons r8 .nil) ⟨_,ys,v8,rfl,rfl,hys,hlen,w8⟩) λ_ s9 ⟨_,H9,I9,_,w9⟩=>?_
    exact again rfl I9 hm w9
 exact codeAny_compStart_list (loop _ rfl) (T.self _ 0 _ _ _ st1 (loop _ rfl))
theorem Inv.left {pins:List (Addr × Obj)} {σ σ2:St} {s2 s' : Shared} {H2 H' : Hp} {C:Addr} {h' : Heap} (I2:Inv X pins σ2 H2 s2) (I' : Inv X pins σ H' s') (hC:s2.heap.objs.size<=C) (hn:H' C=none) (hs:Heap.SameBut C s'.heap h'):Inv X pins σ H' { s' with heap:=h' }:=by
 refine I'.turned (t':=s'.toks) (it:=C) (λb o hb e=>(hs.2 b hb).trans e) hn (Nat.ne_of_gt (Nat.lt_of_lt_of_le I2.lt hC)) (.inr (Nat.le_trans I2.sz hC)) (λy c e=>?_) λp hp=>?_
 ·obtain ⟨v,o,ho,_⟩:=I2.cell y c e
  exact Nat.ne_of_lt (Nat.lt_of_lt_of_le (Heap.lt_size ho) hC)
 ·exact Nat.ne_of_lt (Nat.lt_of_lt_of_le (Heap.lt_size (I2.pin p hp).1) hC)
theorem bt {wi:TI} (hi:PI X (.Name x px) iter wi) (O:qM X N fr scope cl x) (hc:X.calm=true) (ht:∀ fp C s H,PIf (bG X N scope cl fp C s H) ifs tt) (he:∀ fp C s H,PE (bG X N scope cl fp C s H) elt te)
  (hs:∀ v,foldedSetIterable iter X.env v=pure v:=by intro _;rfl):PE X (.ListComp elt [⟨.Name x px,iter,ifs,0⟩] scope pos) (yn wi fr tt te):=by
 intro pins s σ H Q I h
 rw [eval_ListComp]
 refine wpAny_comprehension_free (use:=none) rfl hs O.clos O.kind O.names (thn (hi pins s σ H _ I h) λv s1 h1=>thn h1 λitv s2 h2=>?_)
 obtain ⟨it,fp,tn,J,H2,e,I2,T,st2,f2,hW⟩:=h2
 subst e
 refine ot (RR:=λacc C=>compPost (model X.prog X.w) X.A X.xe none (EP X pins σ Q) acc C) O hc I2 T st2 f2 ht he hW λD C s' H' hC hn ⟨m,hm⟩ I' q=>?_
 exact ⟨m,hm,λh' hs'=>⟨.ref D,H',I2.left I' hC hn hs',rfl,q⟩⟩
theorem d9 {wi:TI} {i:Nat} {y:Str} {py vh:Pos} (hN:X.N.Nodup) (hy:X.N[i]?=some y) (hl:Loc X.env.scope y) (hi:PI X (.Name x px) iter wi) (O:qM X N fr scope cl x) (hc:X.calm=true)
  (ht:∀ fp C s H,PIf (bG X N scope cl fp C s H) ifs tt) (he:∀ fp C s H,PE (bG X N scope cl fp C s H) elt te) (hs:∀ v,foldedSetIterable iter X.env v=pure v:=by intro _;rfl)
  (hsw:swapsWith (.ListComp elt [⟨.Name x px,iter,ifs,0⟩] scope pos) (some (.Name y py)) vh.line X.env=pure true:=by rfl) (hf:X.fn y=true\/X.env.scope.names.lookup y=some .local:=by first | exact .inl rfl | exact .inr rfl | assumption) :
  PS X (.Assign [.Name y py] (.ListComp elt [⟨.Name x px,iter,ifs,0⟩] scope pos) vh) (xf (yn wi fr tt te) (nZ i)):=by
 intro pins s σ H D0 I h
 rw [exec_Assign_Name_used _ _ _ _ hsw]
 refine wpAny_bind (wpAny_standAt (wpAny_bind ?_))
 show wpAny _ X.A (do let _ ← comprehension (.ListComp elt [⟨.Name x px,iter,ifs,0⟩] scope pos) scope X.env _ (newList []) false (eval iter X.env) (some (assign (.Name y py) X.env))) _ _ s
 refine wpAny_bind (wpAny_mono (wpAny_comprehension_free (use:=some (assign (.Name y py) X.env)) (Q:=λ_ s'=>SP X pins D0 .next s') rfl hs O.clos O.kind O.names (thn (hi pins s σ H _ I h) λv s1 h1=>thn h1 λitv s2 h2=>?_)) (λ_ s' hq=>wpAny_pure (wpAny_pure hq)) λ_ _ z=>z)
 obtain ⟨it,fp,tn,J,H2,e,I2,T,st2,f2,hW⟩:=h2
 subst e
 refine ot (Q:=λv H1=>nZ i v σ H1 D0.nx) (RR:=λacc C=>compPost (model X.prog X.w) X.A X.xe (some (assign (.Name y py) X.env)) (λ_ s'=>SP X pins D0 .next s') acc C) O hc I2 T st2 f2 ht he hW λD C s' H' hC hn ⟨m,hm⟩ I' q=>?_
 show wpAny _ X.A (assign (.Name y py) X.env (.ref D)) _ _ s'
 refine wpAny_assign_Name (kz I' hN hy hl (v:=.ref D) rfl (λs3 I3 ⟨a,hsa,ha⟩=>?_) hf)
 have hCa:C ≠ a:=by
  rcases ha with z | z
  ·rw [z];exact Nat.ne_of_gt (Nat.lt_of_lt_of_le I2.lt hC)
  ·obtain ⟨v,o,ho,_⟩:=I2.cell y a z
   exact Nat.ne_of_gt (Nat.lt_of_lt_of_le (Heap.lt_size ho) hC)
 exact ⟨m,hm.sameBut hsa hCa,λh' hs'=>⟨_,H',I2.left I3 hC hn hs',q⟩⟩
def d6 (Pv:Addr->Nat->List V->Hp->Prop) (D:Addr) (i n:Nat) (H2:Hp):Prop:=∃ m',m' < n - i/\m'=n - (i+1)/\i+1<=n/\∃ zs,Pv D (i+1) zs H2
def bQ (Pv:Addr->Nat->List V->Hp->Prop) (D:Addr) (i n:Nat):VK:=λy H3=>∃ ys,H3 D=some (.lst ys)/\ys.length < sizeLine/\d6 Pv D i n (upd H3 D (.lst (ys ++ [y])))
theorem d6.mk {Pv:Addr->Nat->List V->Hp->Prop} {D:Addr} {i n:Nat} {H2:Hp} {zs:List V} (hi:i < n) (h:Pv D (i+1) zs H2):d6 Pv D i n H2:=⟨n - (i+1),by lia,rfl,hi,zs,h⟩
theorem bQ.mk {Pv:Addr->Nat->List V->Hp->Prop} {D:Addr} {i n:Nat} {H3:Hp} {ys:List V} {y:V} (hi:i < n) (e:H3 D=some (.lst ys)) (hl:ys.length < sizeLine) (h:Pv D (i+1) (ys ++ [y]) (upd H3 D (.lst (ys ++ [y])))):bQ Pv D i n y H3:=⟨ys,e,hl,.mk hi h⟩
theorem aZ {K:PySem.W.Frag} {a:Addr} {xs:List V} {σ:St} {H1:Hp} {Q:VK} (Pv:Addr->Nat->List V->Hp->Prop) (h0:∀ D,H1 D=none->Pv D 0 [] (upd H1 D (.lst [])))
  (hk:∀ D i ys H,H1 D=none->i<=xs.length->Pv D i ys H->SqL K H a xs)
  (hs:∀ D i x ys H,H1 D=none->xs[i]?=some x->Pv D i ys H->tt (fH σ fr (some x)) H λb H2=>if b=true then te (fH σ fr (some x)) H2 (bQ Pv D i xs.length) else d6 Pv D i xs.length H2)
  (hd:∀ D ys H,H1 D=none->Pv D xs.length ys H->Q (.ref D) H):pe (Itl K a) fr tt te σ Q H1:=by
 intro D hD
 refine ⟨λi m H=>m=xs.length - i/\i<=xs.length/\∃ ys,Pv D i ys H,⟨_,rfl,Nat.zero_le _,[],h0 D hD⟩,?_⟩
 rintro i m H ⟨rfl,hi,ys,p⟩
 have q:=hk D i ys H hD hi p
 by_cases hlt:i < xs.length
 ·refine .inr ⟨⟨xs,xs[i],q,by simp [hlt]⟩,λx H' y=>?_⟩
  obtain ⟨e,y⟩:=y
  subst e
  exact hs D i x ys _ hD (y xs q) p
 ·have e:i=xs.length:=by lia
  subst e
  exact .inl ⟨⟨xs,q,Nat.le_refl _⟩,hd D ys H hD p⟩
theorem bE {lo:Int} {n:Nat} {σ:St} {H1:Hp} {Q:VK} (Pv:Addr->Nat->List V->Hp->Prop) (h0:∀ D,H1 D=none->Pv D 0 [] (upd H1 D (.lst [])))
  (hs:∀ D i ys H,H1 D=none->i < n->Pv D i ys H->tt (fH σ fr (some (.int (lo+i)))) H λb H2=>if b=true then te (fH σ fr (some (.int (lo+i)))) H2 (bQ Pv D i n) else d6 Pv D i n H2)
  (hd:∀ D ys H,H1 D=none->Pv D n ys H->Q (.ref D) H):pe (Itr lo n) fr tt te σ Q H1:=by
 intro D hD
 refine ⟨λi m H=>m=n - i/\i<=n/\∃ ys,Pv D i ys H,⟨_,rfl,Nat.zero_le _,[],h0 D hD⟩,?_⟩
 rintro i m H ⟨rfl,hi,ys,p⟩
 by_cases hlt:i < n
 ·refine .inr ⟨hlt,λx H' y=>?_⟩
  obtain ⟨e,y⟩:=y
  subst e;subst y
  exact hs D i ys _ hD hlt p
 ·have e:i=n:=by lia
  subst e
  exact .inl ⟨Nat.le_refl _,hd D ys H hD p⟩
end
end L2
namespace L2
open PySem PySem.Spec PyProof.Rows
structure mr (X:Cx) (N:List Str) (k:Nat) (fr:List Nat) (scope:Scope) (cl:List (Str × Addr)):Prop where
 clos:closureFor scope X.env=pure cl
 kind:scope.kind=.function
 nocell:∀ y ∈ scope.names,y.2 ≠ .cell
 names:∀ y ∈ scope.names,y.2=.local->scope.names.lookup y.1=some .local
 len:N.length=k+fr.length
 sub:∀ (i:Nat) (y:Str),N[k+i]?=some y->∃ j,fr[i]?=some j/\X.N[j]?=some y/\(X.env.kindOf y=some .cell\/X.env.kindOf y=some .free)/\((relabel scope X.env).names.lookup y=some .cell\/(relabel scope X.env).names.lookup y=some .free)
 cells:∀ y c,cl.lookup y=some c->X.env.cells.lookup y=some c
 has:∀ y,((relabel scope X.env).names.lookup y=some .cell\/(relabel scope X.env).names.lookup y=some .free)->∃ c,cl.lookup y=some c
theorem cS {X:Cx} {N:List Str} {k:Nat} {scope:Scope} (len:N.length=k) (kind:scope.kind=.function) (nofree:∀ y ∈ scope.names,y.2 ≠ .free) (nocell:∀ y ∈ scope.names,y.2 ≠ .cell)
  (names:∀ y ∈ scope.names,y.2=.local->scope.names.lookup y.1=some .local):mr X N k [] scope []:=by
 have er:(relabel scope X.env).names=scope.names:=map_eq_self λy hy=>by
  have z:(y.2 == NameKind.free)=false:=by simpa using nofree y hy
  simp [z]
 have no:∀ y,¬ ((relabel scope X.env).names.lookup y=some .cell\/(relabel scope X.env).names.lookup y=some .free):=λy h=>by
  rw [er] at h
  rcases h with h | h
  ·exact nocell _ (PySem.mem_of_lookup h) rfl
  ·exact nofree _ (PySem.mem_of_lookup h) rfl
 refine ⟨closureFor_none nofree,kind,nocell,names,by rw [len];rfl,λi y e=>?_,(λy c e=>by cases e),λy h=>absurd h (no y)⟩
 have:=(G7.mp e).1
 lia
def dC (σ:St) (fr:List Nat) (ts:St):St:=ts ++ fr.map λj=>(σ[j]?).join
def jV (J:It) (gt:TG) (k:Nat) (fr:List Nat) (tt:TT) (te:TE) (σ:St) (Q:VK) (H1:Hp):Prop:=∀ D,H1 D=none->∃ W:Nat->Nat->Hp->Prop,(∃ m,W 0 m (upd H1 D (.lst [])))/\∀ i m H,W i m H ->
 (J.stop i H/\Q (.ref D) H)\/(J.go i H/\∀ x H',J.yld i H x H'->∀ ts:St,ts.length=k->gt x (dC σ fr ts) H' λσ2 H2=>(∃ ts2:St,ts2.length=k/\σ2=dC σ fr ts2)/\tt σ2 H2 λb H3=>if b=true then te σ2 H3 λy H4=>∃ ys,H4 D=some (.lst ys)/\ys.length < sizeLine/\∃ m',m' < m/\W (i+1) m' (upd H4 D (.lst (ys ++ [y])))
  else ∃ m',m' < m/\W (i+1) m' H3)
def vi (wi:TI) (gt:TG) (k:Nat) (fr:List Nat) (tt:TT) (te:TE):TE:=λσ H Q=>wi σ H λJ H1=>jV J gt k fr tt te σ Q H1
section
variable {X:Cx} {elt iter tg:Expr} {ifs:List Expr} {pos:Pos} {scope:Scope} {cl:List (Str × Addr)} {N:List Str} {k:Nat} {fr:List Nat} {gt:TG} {tt:TT} {te:TE}
theorem mx {pins:List (Addr × Obj)} {σ:St} {s2:Shared} {H2:Hp} {it:Addr} {fp:List Addr} {tn:Nat->Heap->Prop} {J:It} {Q:VK} {E:Value->Shared->Prop} {RR:Value->Addr->Result->Shared->Prop}
  (O:mr X N k fr scope cl) (hc:X.calm=true) (I2:Inv X pins σ H2 s2) (T:Turn X.prog X.w X.K tg J fp it tn) (st2:tn 0 s2.heap) (f2:∀ b ∈ fp,kA X pins H2 b)
  (ht:∀ fp C s H,PIf (bG X N scope cl fp C s H) ifs tt) (he:∀ fp C s H,PE (bG X N scope cl fp C s H) elt te)
  (hg:∀ fp C s H,PG (bG X N scope cl fp C s H) tg gt) (hW:jV J gt k fr tt te σ Q H2)
  (fin:∀ D C s' H',s2.heap.objs.size<=C->H' C=none->(∃ m,s'.heap.Ns C m)->Inv X pins σ H' s'->Q (.ref D) H'->RR (.ref D) C (.ok .next) s') :
  wpAny (model X.prog X.w) X.A (newList []) (λacc s3=>wpAny (model X.prog X.w) X.A (newFunctionEnv scope X.env.globals cl [] X.env.qual none .none (some X.env)) (λvg s4 =>
   codeAny (model X.prog X.w) X.A (.compStart (.ListComp elt [⟨tg,iter,ifs,0⟩] scope pos) 0 (.ref it) acc { vg with scope:=relabel scope X.env }) (RR acc vg.locals) s4) E s3) E s2:=by
 refine wpAny_newObj_type (wpAny_newFunctionEnv O.nocell (by intro y hy;simp at hy) (λh1 hns hsb=>?_) O.kind)
 dsimp only at hns hsb ⊢
 generalize hG:s2.heap.push { cls:=.type "list",dict:=none,data:=.seq ([]:List Value).toArray } = G at hns hsb ⊢
 have hC:G.objs.size=s2.heap.objs.size+1:=by rw [← hG,Heap.size_push]
 have old:∀ b o,s2.heap.get? b=some o->h1.get? b=some o:=λb o e=>hsb.extBut b o (Nat.ne_of_lt (by rw [hC];exact Nat.lt_succ_of_lt (Heap.lt_size e))) (Heap.get?_push_of_some _ (hG ▸ Heap.get?_push_of_some _ e))
 have zB:h1.get? s2.heap.objs.size=some { cls:=.type "list",data:=.seq ([]:List Value).toArray 0 }:=hsb.extBut _ _ (Nat.ne_of_lt (by rw [hC];exact Nat.lt_succ_self _)) (Heap.get?_push_of_some _ (hG ▸ Heap.get?_push_size _ rfl))
 have hD:H2 s2.heap.objs.size=none:=I2.fresh
 have okX:(bG X N scope cl fp G.objs.size s2 H2).Ok:=by
  refine ⟨I2.ok.mod,O.kind,I2.ok.glob,I2.ok.blt,by show s2.heap.objs.size<=G.objs.size;rw [hC];exact Nat.le_succ _,λy z c e1 e2=>I2.ok.inj y z c (O.cells y c e1) (O.cells z c e2),λy hy=>O.has y hy,λy c z=>absurd (show false=true from z) Bool.false_ne_true,I2.ok.hd,I2.ok.frames,.inl rfl,
   λb hb=>⟨?_,λy c e=>(f2 b hb).2.2.2.2.1 y c (O.cells y c e)⟩,I2.bs,Nat.le_trans I2.ok.bsz I2.sz,λb o e hb=>?_,λb hb z=>?_,I2.stack,I2.stkFree⟩
  ·obtain ⟨o,e,_⟩:=T.obj _ _ st2 b hb
   show b ≠ G.objs.size
   exact Nat.ne_of_lt (by rw [hC];exact Nat.lt_succ_of_lt (Heap.lt_size e))
  ·rcases (f2 b hb).2.2.2.1 with z | z
   ·exact I2.ok.noex b o e z
   ·exact absurd (Nat.lt_of_lt_of_le (Heap.lt_size e) (Nat.le_trans I2.ok.bsz z)) (Nat.lt_irrefl _)
  ·rcases List.mem_cons.mp (I2.stkSub b z) with z | z
   ·exact (f2 b hb).2.1 z
   ·exact (f2 b hb).2.2.1 z
 have mq:∀ {H' : Hp},(∀ b ∈ fp,H' b=none)->∀ b ∈ fp,kA (bG X N scope cl fp G.objs.size s2 H2) [] H' b:=λhn b hb =>
  ⟨hn b hb,(okX.exf b hb).1,okX.exfs b hb,.inl hb,(okX.exf b hb).2,λp hp=>absurd (show p ∈ ([]:List (Addr × Obj)) from hp) (by simp)⟩
 have I' : Inv (bG X N scope cl fp G.objs.size s2 H2) [] (dC σ fr (List.replicate k none)) (upd H2 s2.heap.objs.size (.lst [])) { s2 with heap:=h1,toks:=s2.toks+([]:List (Str × Value)).length }:=by
  refine ⟨okX,rfl,I2.bare,Un.laid old (Nat.le_refl _) hD,⟨_,hns,λi y v e1 e2 e3=>?_⟩,λy c e=>?_,?_,λy c e=>?_,λp hp=>absurd (show p ∈ ([]:List (Addr × Obj)) from hp) (by simp),I2.hok.laid old (Nat.le_refl _) ⟨Nat.zero_le _,[],0,.nil,zB⟩,?_⟩
  ·by_cases hik:i < k
   ·have e2' : (List.replicate k none ++ fr.map λj=>(σ[j]?).join)[i]?=some (some v):=e2
    rw [List.getElem?_append_left (by rw [List.length_replicate];exact hik),List.getElem?_replicate,if_pos hik] at e2'
    cases e2'
   ·obtain ⟨j,q1,q2,q3,q4⟩:=O.sub (i - k) y (by rw [show k+(i - k)=i by lia];exact e1)
    have e2' : (σ[j]?).join=some v:=by
     have:(List.replicate k none ++ fr.map λj=>(σ[j]?).join)[i]?=some (some v):=e2
     rw [List.getElem?_append_right (by rw [List.length_replicate];lia),List.length_replicate,List.getElem?_map,q1] at this
     exact Option.some.inj this
    have e4:σ[j]?=some (some v):=by
     cases z:σ[j]? with
     | none=>rw [z] at e2';cases e2'
     | some t=>rw [z] at e2';exact congrArg some e2'
    obtain ⟨m,_,hl⟩:=I2.loc
    have vis:Vis X.env.scope y:=.inr q3
    obtain ⟨u,r,l⟩:=hl j y v q2 e4 vis
    refine ⟨u,r,.inr ⟨q4,?_⟩⟩
    obtain ⟨c',hc'⟩:=O.has y q4
    rcases l with ⟨k,_⟩ | ⟨_,c,ec,ic⟩
    ·rcases q3 with z | z
     ·rw [z] at k;cases k
     ·rw [z] at k;cases k
    ·have:=O.cells y c' hc'
     have e' : c=c':=Option.some.inj (ec.symm.trans this)
     obtain ⟨o,ho,hd⟩:=ic
     rw [e'] at ho
     exact ⟨c',hc',o,old c' o ho,hd⟩
  ·obtain ⟨v,o,ho,hd⟩:=I2.cell y c (O.cells y c e)
   exact ⟨v,o,old c o ho,hd⟩
  ·show upd H2 s2.heap.objs.size (.lst []) G.objs.size=none
   rw [av (Nat.ne_of_gt (by rw [hC];exact Nat.lt_succ_self _))]
   exact I2.hok.fresh (by rw [hC];exact Nat.le_succ _)
  ·obtain ⟨v,o,ho,hd⟩:=I2.cell y c (O.cells y c e)
   rw [av (Nat.ne_of_lt (Heap.lt_size ho))]
   exact I2.freeC y c (O.cells y c e)
  ·show (dC σ fr (List.replicate k none)).length=N.length
   rw [O.len];simp [dC]
 have st1:tn 0 h1:=T.keep _ _ _ st2 λb hb o e=>old b o e
 have loop:∀ s3:Shared,s3 = { s2 with heap:=h1,toks:=s2.toks+([]:List (Str × Value)).length } ->
   codeAny (model X.prog X.w) X.A (.compLoop (.ListComp elt [⟨tg,iter,ifs,0⟩] scope pos) 0 (.ref it) (.ref s2.heap.objs.size) (compEnvC scope cl G.objs.size X.env)) (RR (.ref s2.heap.objs.size) G.objs.size) s3:=by
  rintro s3 rfl
  obtain ⟨W,⟨m0,w0⟩,turn⟩:=hW _ hD
  refine mn (λn s'=>∃ i ts H',ts.length=k/\Inv (bG X N scope cl fp G.objs.size s2 H2) [] (dC σ fr ts) H' s'/\tn i s'.heap/\(∀ b ∈ fp,H' b=none)/\W i n H') ?_ m0
   ⟨0,List.replicate k none,_,List.length_replicate,I',st1,λb hb=>by
    rw [av (by obtain ⟨o,e,_⟩:=T.obj _ _ st2 b hb;exact Nat.ne_of_lt (Heap.lt_size e))]
    exact (f2 b hb).1,w0⟩
  rintro n s' ⟨i,ts,H',hts,I3,st3,fr3,w3⟩
  rcases turn i n H' w3 with ⟨stop,qn⟩ | ⟨go,step⟩
  ·refine thn (T.done (bG X N scope cl fp G.objs.size s2 H2) rfl rfl rfl hc i [] s' _ H' _ I3 (mq fr3) st3 stop) λr s4 ⟨hr,I4⟩=>?_
   subst hr
   obtain ⟨m,hm,_⟩:=I4.loc
   refine fin _ _ s4 H' (by rw [hC];exact Nat.le_succ _) I4.free ⟨m,hm⟩ (I2.call' (ch:=fp) I4.os I4.base I4.hok I4.bare λb hb=>?_) qn
   exact ⟨(f2 b hb).2.2.2.1,(f2 b hb).2.1,(f2 b hb).2.2.2.2.1,(f2 b hb).2.2.2.2.2⟩
  ·refine thn (T.item (bG X N scope cl fp G.objs.size s2 H2) rfl rfl rfl hc i [] s' _ H' _ I3 (mq fr3) st3 go) λr s4 ⟨u,hr,h4⟩=>?_
   subst hr
   refine thn h4 λ_ s5 ⟨y,H5,I5,r5,y5,st5,fr5⟩=>?_
   have I5':=I5.pinned (mq fr5) (T.obj _ _ st5)
   refine thn (hg fp G.objs.size s2 H2 _ s5 _ H5 y u _ I5' r5 (step y H5 y5 ts hts)) λ_ s6 ⟨σ6,H6,I6,⟨ts6,De,e6⟩,q6⟩=>?_
   subst e6
   have again:∀ {σ7:St} {H7:Hp} {s7:Shared} {m' : Nat},σ7=dC σ fr ts6->Inv (bG X N scope cl fp G.objs.size s2 H2) ([] ++ kC fp s5.heap) σ7 H7 s7->m' < n->W (i+1) m' H7 ->
     ∃ m,m < n/\∃ i ts H',ts.length=k/\Inv (bG X N scope cl fp G.objs.size s2 H2) [] (dC σ fr ts) H' s7/\tn i s7.heap/\(∀ b ∈ fp,H' b=none)/\W i m H':=λ{σ7 H7 s7 m'} e7 I7 hm w7=>by
    subst e7
    refine ⟨m',hm,i+1,ts6,H7,De,I7.unpinned,T.keep _ _ _ st5 λb hb o e=>(I7.pin (b,o) (List.mem_append_right _ (List.mem_append_right _ (dI hb e)))).1,λb hb=>?_,w7⟩
    obtain ⟨o,e,d⟩:=T.obj _ _ st5 b hb
    exact (I7.pin (b,o) (List.mem_append_right _ (List.mem_append_right _ (dI hb e)))).2.1
   refine thn (ht fp G.objs.size s2 H2 _ s6 _ H6 _ I6 q6) λok s7 ⟨H7,I7,q7⟩=>?_
   cases ok with
   | false =>
    rw [if_neg Bool.false_ne_true] at q7 ⊢
    obtain ⟨m',hm,w7⟩:=q7
    exact again rfl I7 hm w7
   | true =>
    rw [if_pos rfl] at q7 ⊢
    refine thn (he fp G.objs.size s2 H2 _ s7 _ H7 _ I7 q7) λu8 s8 ⟨v8,H8,I8,r8,ys,hys,hlen,m',hm,w8⟩=>?_
    refine thn (bW (X:=bG X N scope cl fp G.objs.size s2 H2) _ s8 _ H8 (.ref s2.heap.objs.size) [v8] _ [u8] (λ_ H9=>W (i+1) m' H9) I8 rfl (.cons r8 .nil) ⟨_,ys,v8,rfl,rfl,hys,hlen,w8⟩) λ_ s9 ⟨_,H9,I9,_,w9⟩=>?_
    exact again rfl I9 hm w9
 exact codeAny_compStart_list (loop _ rfl) (T.self _ 0 _ _ _ st1 (loop _ rfl))
theorem fI {wi:TI} (hi:PI X tg iter wi) (O:mr X N k fr scope cl) (hc:X.calm=true) (hg:∀ fp C s H,PG (bG X N scope cl fp C s H) tg gt) (ht:∀ fp C s H,PIf (bG X N scope cl fp C s H) ifs tt) (he:∀ fp C s H,PE (bG X N scope cl fp C s H) elt te)
  (hs:∀ v,foldedSetIterable iter X.env v=pure v:=by intro _;rfl):PE X (.ListComp elt [⟨tg,iter,ifs,0⟩] scope pos) (vi wi gt k fr tt te):=by
 intro pins s σ H Q I h
 rw [eval_ListComp]
 refine wpAny_comprehension_free (use:=none) rfl hs O.clos O.kind O.names (thn (hi pins s σ H _ I h) λv s1 h1=>thn h1 λitv s2 h2=>?_)
 obtain ⟨it,fp,tn,J,H2,e,I2,T,st2,f2,hW⟩:=h2
 subst e
 refine mx (RR:=λacc C=>compPost (model X.prog X.w) X.A X.xe none (EP X pins σ Q) acc C) O hc I2 T st2 f2 ht he hg hW λD C s' H' hC hn ⟨m,hm⟩ I' q=>?_
 exact ⟨m,hm,λh' hs'=>⟨.ref D,H',I2.left I' hC hn hs',rfl,q⟩⟩
theorem dM {K:PySem.W.Frag} {a:Addr} {xs:List V} {σ:St} {H1:Hp} {Q:VK} (Pv:Addr->Nat->List V->Hp->Prop) (h0:∀ D,H1 D=none->Pv D 0 [] (upd H1 D (.lst [])))
  (hk:∀ D i ys H,H1 D=none->i<=xs.length->Pv D i ys H->SqL K H a xs)
  (hs:∀ D i x ys H,H1 D=none->xs[i]?=some x->Pv D i ys H->∀ ts:St,ts.length=k->gt x (dC σ fr ts) H λσ2 H2=>(∃ ts2:St,ts2.length=k/\σ2=dC σ fr ts2)/\tt σ2 H2 λb H3=>if b=true then te σ2 H3 (bQ Pv D i xs.length) else d6 Pv D i xs.length H3)
  (hd:∀ D ys H,H1 D=none->Pv D xs.length ys H->Q (.ref D) H):jV (Itl K a) gt k fr tt te σ Q H1:=by
 intro D hD
 refine ⟨λi m H=>m=xs.length - i/\i<=xs.length/\∃ ys,Pv D i ys H,⟨_,rfl,Nat.zero_le _,[],h0 D hD⟩,?_⟩
 rintro i m H ⟨rfl,hi,ys,p⟩
 have q:=hk D i ys H hD hi p
 by_cases hlt:i < xs.length
 ·refine .inr ⟨⟨xs,xs[i],q,by simp [hlt]⟩,λx H' y=>?_⟩
  obtain ⟨e,y⟩:=y
  subst e
  exact hs D i x ys _ hD (y xs q) p
 ·have e:i=xs.length:=by lia
  subst e
  exact .inl ⟨⟨xs,q,Nat.le_refl _⟩,hd D ys H hD p⟩
end
theorem ox {X:Cx} {K:PySem.W.Frag} {es:List Expr} {k:Nat} {t:TGs} {n:Nat} {pos:Pos} (hK:X.K=K) (hc:X.calm=true) (h:PGs X es t) (hn:(assignEach es X.env).length=n:=by rfl) (hst:(assignEach es X.env).findIdx? (·.1)=none:=by rfl):PG X (.Tuple es k pos) (BB K n t):=hK ▸ dr hc h hn hst
end L2
namespace Srt
open PySem PySem.W PyProof.Rows
def Ok (n:Nat) (lt:Nat->Nat->Bool) {α:Type} : KasT α->(α->Prop)->Prop
 | .ret a,Q=>Q a
 | .ask i j k,Q=>i < n/\j < n/\Ok n lt (k (lt i j)) Q
section
variable {n:Nat} {lt:Nat->Nat->Bool}
abbrev g (p:Array Nat) (i:Nat):Nat:=p.getD i 0
structure Ord (lt:Nat->Nat->Bool):Prop where
 tr:∀ a b c,lt b a=false->lt c b=false->lt c a=false
 as:∀ a b,lt a b=true->lt b a=false
end
end Srt
namespace L2
open PySem PySem.Spec PySem.W PyProof.Rows
section
variable {prog:Program} {w:World} {A:Around} {E:Value->Shared->Prop} {s:Shared}
end
section
variable {X:Cx}
end
end L2
namespace L2
structure GK (S A B A0 B0:List Pr):Prop where
 ap:Apart S
 aA:Apart A
 aB:Apart B
 mem:∀ n,(inP A0 n && inP B0 n)=(inP S n || (inP A n && inP B n))
 gap:∀ s ∈ S,(∀ p ∈ A,s.2+2<=p.1)\/(∀ p ∈ B,s.2+2<=p.1)
structure GS (F T:List Pr) (lo hi st:Int):Prop where
 ap:Apart F
 lt:∀ s ∈ F,s.2+2<=st
 rng:∀ s ∈ F,lo<=s.1/\s.2<=hi
 tk:∀ p ∈ T,p.2 < st
 fr:st=lo\/∃ p ∈ T,st=p.2+1
 ge:lo<=st
 mem:∀ n,lo<=n->n<=hi->n < st->inP F n = !inP T n
end L2
namespace L2
structure Walk (ts:List (Int × Int × Int)):Prop where
 le:∀ t ∈ ts,t.1<=t.2.1
 nx:∀ (i:Nat) a b,ts[i]?=some a->ts[i+1]?=some b->b.1=a.2.1+1
def pcs (msk:Int->Bool) (ts:List (Int × Int × Int)) (n:Int):Bool:=ts.any λt=>inR n (t.1,t.2.1) && msk t.2.2
structure GU (R:List Pr) (ts:List (Int × Int × Int)) (msk:Int->Bool) (i:Nat) (at_:Int):Prop where
 ap:Apart R
 mem:∀ n,inP R n=pcs msk (ts.take i) n
 lt:∀ r ∈ R,r.2 < at_
 few:2 * R.length<=i\/(2 * R.length<=i+1/\∃ R' l,R=R' ++ [l]/\l.2=at_ - 1)
section
variable {R:List Pr} {ts:List (Int × Int × Int)} {msk:Int->Bool} {i:Nat} {at_:Int} {t:Int × Int × Int}
end
end L2
namespace L2
def ends (R:List Pr):List Int:=R.flatMap λp=>[p.1,p.2+1]
end L2
namespace L2
open PySem PySem.Spec PyProof.Rows
theorem lj (ns:List Int):∀ k,k<=ns.length->preSum (λi=>ns.getD i 0) k=(ns.take k).sum
 | 0,_=>rfl
 | k+1,h=>by
  have ih:=lj ns k (by lia)
  show preSum (λi=>ns.getD i 0) k+ns.getD k 0=_
  have e:ns[k]?=some ns[k]:=G6 (by lia)
  rw [ih,List.take_add_one,e,List.sum_append,List.getD_eq_getElem?_getD,e]
  simp
section
variable {X:Cx}
theorem dP (hc:X.calm=true):dH X (.builtin "sum") (λus H Q=>∃ (a:Addr) (ns:List Int),us=[.ref a]/\SqL X.K H a (ns.map V.int)/\Q (.int ns.sum) H):=by
 intro pins s σ H us vs Q I r h
 obtain ⟨a,ns,rfl,hq,q⟩:=h
 obtain ⟨u,rfl,rx⟩:=r.one
 cases (show u=Value.ref a from rx)
 obtain ⟨its,rv,pl,hz⟩:=I.list hq
 have l1:=rv.length
 rw [List.length_map] at l1
 obtain ⟨oa,ea,_⟩:=id pl.isList
 have hax:a < s.heap.objs.size:=Heap.lt_size ea
 refine call_sum_walkG (wpAny_pyIter_list pl.isList ?_)
 refine ⟨s.heap.objs.size,[s.heap.objs.size,a],[s.heap.objs.size],_,_,_,λi=>ns.getD i 0,rfl,Walks.list (A:=X.A.in1) (I.ok.hd hc) _ a (Nat.ne_of_lt hax) its.toArray,⟨⟨_,Heap.get?_push_size _ rfl,rfl,rfl⟩,pl.isList.at λo e=>Heap.get?_push_of_some _ e⟩,λb hb=>?_,λi v e=>?_,λh' tk t' hk=>?_⟩
 ·show b < (s.heap.push _).objs.size
  rw [Heap.size_push]
  rcases List.mem_cons.mp hb with z | z
  ·rw [z];exact Nat.lt_succ_self _
  ·have z2:b=a:=by simpa using z
   rw [z2];exact Nat.lt_succ_of_lt hax
 ·have e' : its[i]?=some v:=by simpa using e
  have hi:i < ns.length:=by rw [l1];exact (G7.mp e').1
  have ex:(ns.map V.int)[i]?=some (.int ns[i]):=by rw [List.getElem?_map,G6 hi];rfl
  obtain ⟨u,q1,ru⟩:=rv.get ex
  rw [e'] at q1;cases q1
  obtain ⟨t,rfl⟩:=ru
  exact ⟨t,by show Value.int ns[i] t=Value.int (ns.getD i 0) t;rw [List.getD_eq_getElem?_getD,G6 hi];rfl⟩
 ·refine ⟨.int ns.sum,H,I.kept (t':=tk) λb o e=>hk b o (λz=>?_) (Heap.get?_push_of_some _ e),⟨t',?_⟩,q⟩
  ·have z2:b=s.heap.objs.size:=by simpa using z
   exact absurd (Heap.lt_size e) (by rw [z2];exact Nat.lt_irrefl _)
  ·rw [List.size_toArray,← l1,lj ns _ (Nat.le_refl _),List.take_length]
end
section
variable {prog:Program} {w:World} {A:Around} {E:Value->Shared->Prop} {s:Shared}
end
section
variable {X:Cx}
end
end L2
namespace L2
open PySem PySem.Spec PyProof.Rows
def Its (z:Str):It:=⟨λi _=>i < z.cps.size,λi H x H'=>H'=H/\∃ c,z.cps[i]?=some c/\x=.str ⟨#[c]⟩,λi _=>z.cps.size<=i⟩
theorem rW {P:Program} {w:World} {K:PySem.W.Frag} {tg:Expr} (z:Str) (t:Tok) (it:Addr):Turn P w K tg (Its z) [it] it (λi h=>h.IsStrIter it "str_ascii_iterator" z t i) where
 mem:=by simp
 obj:=λi h st b hb=>by
  obtain ⟨o,e,c,d⟩:=st
  rw [show b=it by simpa using hb]
  exact ⟨o,e,λv q=>by rw [d] at q;cases q⟩
 keep:=λi h h' ⟨o,e,r⟩ k=>⟨o,k it (by simp) o e,r⟩
 item:=by
  intro X hP hw hK hc i pins s σ H E I hf st hg
  subst hP hw hK
  have hlt:i < z.cps.size:=hg
  have hi:z.cps[i]?=some z.cps[i]:=Array.getElem?_eq_getElem hlt
  obtain ⟨f0,f1,f2,f3,f4,f5⟩:=hf it (by simp)
  refine wpAny_pyNext_ascii_item st hi λh' st' sb=>?_
  have I1:Inv X pins σ H { s with heap:=h',toks:=s.toks+1 }:=I.turned (t':=s.toks+1) (λb o hb e=>(sb.2 b hb).trans e) f0 f1 f3 f4 f5
  obtain ⟨o,e,c,d⟩:=id st'
  exact ⟨_,rfl,tj (s:={ s with heap:=h',toks:=s.toks+1 }) e c d (by decide) ⟨.str ⟨#[z.cps[i]]⟩,H,I1,⟨_,rfl⟩,⟨rfl,_,hi,rfl⟩,st',λb hb=>(hf b hb).1⟩⟩
 done:=by
  intro X hP hw hK hc i pins s σ H E I hf st hg
  subst hP hw hK
  obtain ⟨f0,f1,f2,f3,f4,f5⟩:=hf it (by simp)
  exact wpAny_pyNext_ascii_end (I.ok.hd hc) st (by simpa using (show z.cps.size<=i from hg)) λh' eb=>⟨rfl,I.turned (t':=s.toks) (λb o hb e=>eb b o hb e) f0 f1 f3 f4 f5⟩
 self:=λ_ _ _ _ _ st h=>wpAny_pyIter_striter_ascii st h
theorem ur {P:Program} {w:World} {K:PySem.W.Frag} {tg:Expr} (z:Str) (t:Tok) (it:Addr):Turn P w K tg (Its z) [it] it (λi h=>h.IsStrIter it "str_iterator" z t i) where
 mem:=by simp
 obj:=λi h st b hb=>by
  obtain ⟨o,e,c,d⟩:=st
  rw [show b=it by simpa using hb]
  exact ⟨o,e,λv q=>by rw [d] at q;cases q⟩
 keep:=λi h h' ⟨o,e,r⟩ k=>⟨o,k it (by simp) o e,r⟩
 item:=by
  intro X hP hw hK hc i pins s σ H E I hf st hg
  subst hP hw hK
  have hlt:i < z.cps.size:=hg
  have hi:z.cps[i]?=some z.cps[i]:=Array.getElem?_eq_getElem hlt
  obtain ⟨f0,f1,f2,f3,f4,f5⟩:=hf it (by simp)
  refine wpAny_pyNext_wide_item st hi λh' st' sb=>?_
  have I1:Inv X pins σ H { s with heap:=h',toks:=s.toks+1 }:=I.turned (t':=s.toks+1) (λb o hb e=>(sb.2 b hb).trans e) f0 f1 f3 f4 f5
  obtain ⟨o,e,c,d⟩:=id st'
  exact ⟨_,rfl,tj (s:={ s with heap:=h',toks:=s.toks+1 }) e c d (by decide) ⟨.str ⟨#[z.cps[i]]⟩,H,I1,⟨_,rfl⟩,⟨rfl,_,hi,rfl⟩,st',λb hb=>(hf b hb).1⟩⟩
 done:=by
  intro X hP hw hK hc i pins s σ H E I hf st hg
  subst hP hw hK
  obtain ⟨f0,f1,f2,f3,f4,f5⟩:=hf it (by simp)
  exact wpAny_pyNext_wide_end (I.ok.hd hc) st (by simpa using (show z.cps.size<=i from hg)) λh' eb=>⟨rfl,I.turned (t':=s.toks) (λb o hb e=>eb b o hb e) f0 f1 f3 f4 f5⟩
 self:=λ_ _ _ _ _ st h=>wpAny_pyIter_striter_wide st h
section
variable {X:Cx} {tg:Expr}
inductive yo  (R:(It->Hp->Prop)) (x:V) (H1:Hp):Prop
 | mk (z:_) (_:x=.str z) (_:R (Its z) H1):yo R x H1
def Df (tl:TE):PySem.W.Frag->St->Hp->(It->Hp->Prop)->Prop:=λ_ σ H R=>tl σ H λx H1=>yo R x H1
theorem zC {l:Expr} {tl:TE} (hl:PE X l tl):PI X tg l (Df tl X.K):=by
 intro pins s σ H R I h
 refine thn (hl pins s σ H _ I h) λv s1 ⟨x,H1,I1,r1,q1⟩=>?_
 obtain ⟨z,e,q⟩:=q1
 subst e
 obtain ⟨t,rfl⟩:=r1
 have fpo:∀ b ∈ [s1.heap.objs.size],kA X pins H1 b:=λb hb=>by
  rw [show b=s1.heap.objs.size by simpa using hb]
  exact I1.fpOk (Nat.le_refl _) (I1.hok.fresh (Nat.le_refl _))
 cases ha:z.cps.all (· < 128) with
 | true=>exact wpAny_pyIter_ascii ha ⟨s1.heap.objs.size,[s1.heap.objs.size],_,_,H1,rfl,I1.kept (t':=s1.toks) λb o e=>Heap.get?_push_of_some _ e,rW z t _,⟨_,Heap.get?_push_size _ rfl,rfl,rfl⟩,fpo,q⟩
 | false=>exact wpAny_pyIter_wide ha ⟨s1.heap.objs.size,[s1.heap.objs.size],_,_,H1,rfl,I1.kept (t':=s1.toks) λb o e=>Heap.get?_push_of_some _ e,ur z t _,⟨_,Heap.get?_push_size _ rfl,rfl,rfl⟩,fpo,q⟩
end
theorem xp {z:Str} {g:TG} {tb:TS} {D:Ends} {σ:St} {H:Hp} (Pv:Nat->St->Hp->Prop) (h0:Pv 0 σ H)
  (hs:∀ i c σ H,z.cps.toList[i]?=some c->Pv i σ H->g (.str ⟨#[c]⟩) σ H λσ2 H2=>tb { D with nx:=Pv (i+1),ct:=Pv (i+1),bk:=D.nx } σ2 H2) (hd:∀ σ H,Pv z.cps.size σ H->D.nx σ H) :
  ∃ W:Nat->Nat->St->Hp->Prop,(∃ m,W 0 m σ H)/\∀ i m σ H,W i m σ H ->
   ((Its z).stop i H/\D.nx σ H)\/((Its z).go i H/\∃ N:St->Hp->Prop,(∀ σ' H',N σ' H'->∃ m',m' < m/\W (i+1) m' σ' H')/\∀ x H',(Its z).yld i H x H'->g x σ H' λσ2 H2=>tb { D with nx:=N,ct:=N,bk:=D.nx } σ2 H2):=by
 refine ⟨λi m σ H=>m=z.cps.size - i/\i<=z.cps.size/\Pv i σ H,⟨_,rfl,Nat.zero_le _,h0⟩,?_⟩
 rintro i m σ H ⟨rfl,hi,p⟩
 by_cases hlt:i < z.cps.size
 ·refine .inr ⟨hlt,Pv (i+1),λσ' H' p'=>⟨z.cps.size - (i+1),by lia,rfl,hlt,p'⟩,λx H' y=>?_⟩
  obtain ⟨e,c,y1,y2⟩:=y
  subst e;subst y2
  exact hs i c σ _ (by simpa using y1) p
 ·have e:i=z.cps.size:=by lia
  subst e
  exact .inl ⟨Nat.le_refl _,hd σ H p⟩
theorem qN:∀ {ys:List Str} {us:List Value},Vals (ys.map V.str) us->StrsAre us ys
 | [],_,.nil=>.nil
 | y :: ys,_,.cons r t=>by
  obtain ⟨t0,rfl⟩:=r
  exact .cons y t0 (qN t)
section
variable {X:Cx}
inductive rJoin (K:PySem.W.Frag) (x:V) (vs:List V) (H:Hp) (Q:VK):Prop
 | mk (z:Str) (a:Addr) (ys:List Str) (_:x=.str z) (_:vs=[.ref a]) (_:SqL K H a (ys.map V.str)) (_:z.length<=64) (_:(ys.map (·.length)).sum+ys.length * 64<=16777216) (_:Q (.str (Txt.join z ys)) H):rJoin K x vs H Q
theorem tG:MtM X "str.join" (rJoin X.K):=by
 intro pins s σ H x vs v us Q I rx rv h
 obtain ⟨z,a,ys,rfl,rfl,hq,h1,h2,q⟩:=h
 obtain ⟨t,rfl⟩:=rx
 obtain ⟨u,rfl,ru⟩:=rv.one
 cases (show u=Value.ref a from ru)
 obtain ⟨its,r,pl,hz⟩:=I.list hq
 exact join_listC pl.isList (by simpa using qN r) h1 h2 λt' k=>⟨.str (Txt.join z ys),H,I.tok k,⟨_,rfl⟩,q⟩
theorem my {x:Str} {v:V} {pos:Pos} (hg:Gl X x) (h:∃ u,X.mg x=some u/\RelV v u) (hd:(x == ("__debug__" : Str))=false:=by decide):PE X (.Name x pos) (tC v):=by
 obtain ⟨_,m,r⟩:=h
 exact cK hg m r hd
end
def sg (g:Str) (c:Nat):Bool:=!(Builtin.Str.occurrences g ⟨#[c]⟩ 0 g.length 1).isEmpty
def mz (z g:Str):Bool:=z.cps.toList.all (sg g)
end L2
namespace L2
open PySem PySem.Spec PyProof.Rows PySem.NumText
section
variable {X:Cx}
end
structure GV (cs:List Nat):Prop where
 all:AllDigits cs
 one:cs.length=1\/∃ c r,cs=c :: r/\49<=c
end L2
namespace L2
open PySem PySem.Spec PyProof.Rows PySem.W
end L2
namespace L2
open PySem PySem.Spec PyProof.Rows
def BS (h:Heap) (e T:Addr) (cls a0:Value):Prop :=
 ∃ oe vs oT ts,h.get? e=some oe/\(oe.cls=cls/\vs[0]?=some a0)/\oe.data=.fields vs/\vs[1]?=some (.ref T)/\T ≠ e/\h.get? T=some oT/\oT.data=.fields ts/\ts[3]?=some .none
structure Stp (F X:List Addr) (h h' : Heap):Prop where
 keep:∀ b o,b ∉ F->b ∉ X->h.get? b=some o->h'.get? b=some o
 slot:∀ b o,b ∈ F->h.get? b=some o->∃ sl,h'.get? b=some { o with slots:=sl }
section
variable {M:Model} {A:Around} {E:Value->Shared->Prop} {s:Shared} {base:Heap} {env:Env} {outer:List Env} {L e T:Addr} {oe:Obj} {vs:Array Value} {a0 cls:Value} {Q:Unit->Shared->Prop}
theorem mB {base h:Heap} {l:List Env} (xs:List Addr) (ff:h.FunFrames base l):h.FunFrames (PySem.W.hideAll h (xs ++ frs l)) l :=
 PySem.W.funFrames_hide ff λv hv a ha=>List.mem_append_right _ (List.mem_filterMap.mpr ⟨v,hv,ha⟩)
theorem qO {base h h' : Heap} {l:List Env} {xs:List Addr} (ff:h.FunFrames base l) (hT:(PySem.W.hideAll h (xs ++ frs l)).get? T=none) (sl:∀ b o,b ∈ frs l->h.get? b=some o->∃ sl,h'.get? b=some { o with slots:=sl })
  {oT:Obj} {ts:Array Value} (h1:h'.get? T=some oT) (h2:oT.data=.fields ts):h.get? T=none\/T ∈ xs:=by
 cases q:h.get? T with
 | none=>exact .inl rfl
 | some o =>
  by_cases hx:T ∈ xs
  ·exact .inr hx
  ·by_cases hF:T ∈ frs l
   ·obtain ⟨_,o2,q2,nf⟩:=ff.mem hF
    obtain ⟨sl',q3⟩:=sl T o2 hF q2
    rw [h1] at q3
    have q4:=Option.some.inj q3
    exact absurd (by rw [q4] at h2;exact h2) (nf ts)
   ·have z:=PySem.W.hideAll_get (xs ++ frs l) q (by simp [hx,hF])
    rw [hT] at z;cases z
end
end L2
namespace L2
open PySem PySem.Spec PyProof.Rows
section
variable {P:Program} {w:World} {H H' : Hp} {h h' : Heap} {a:Addr} {o:HO} {F Y fs:List Addr}
theorem bR.there (x:bR P w H h a o):∃ ob,h.get? a=some ob:=by
 cases o with
 | lst xs=>obtain ⟨_,_,_,_,e⟩:=x;exact ⟨_,e⟩
 | tup xs=>obtain ⟨_,_,_,ob,e,_⟩:=x;exact ⟨_,e⟩
 | dK kvs=>obtain ⟨_,_,_,_,o,_,_,e,_⟩:=x;exact ⟨_,e⟩
 | dT kvs=>obtain ⟨_,_,_,_,o,_,_,e,_⟩:=x;exact ⟨_,e⟩
 | set S n=>obtain ⟨o,_,_,_,e,_⟩:=x;exact ⟨_,e⟩
 | ins C dx fs=>obtain ⟨_,_,_,e,_⟩:=x;exact ⟨_,e⟩
 | own y=>obtain ⟨_,e⟩:=x;exact ⟨_,e⟩
 | xd fs=>obtain ⟨_,⟨_,_,_,e,_⟩,_⟩:=x;exact ⟨_,e⟩
 | rng lo hi=>obtain ⟨_,_,_,e⟩:=x;exact ⟨_,e⟩
 | frz ob u=>obtain ⟨e,_⟩:=x;exact ⟨_,e⟩
 | tbl ps=>exact ⟨_,(show h.get? a=some _ from x)⟩
 | met f y=>exact ⟨_,(show h.get? a=some _ from x)⟩
 | ext φ=>obtain ⟨_,⟨_,e⟩,_⟩:=x;exact ⟨_,e⟩
theorem HOk.none_of (x:HOk P w H h) (e:h.get? a=none):H a=none:=by
 cases q:H a with
 | none=>rfl
 | some u =>
  obtain ⟨ob,z⟩:=(x a u q).there
  rw [e] at z;cases z
theorem HOk.stp (x:HOk P w H h) (st:Stp F Y h h') (hF:∀ b ∈ F,H b=none) (hY:∀ b ∈ Y,H b=none):HOk P w H h':=λa o e =>
 (x a o e).stay (λb u hb q=>by
  have hn:H b ≠ none:=by
   rcases hb with rfl | hb
   ·rw [e];simp
   ·rw [hb];simp
  exact st.keep b u (λz=>hn (hF b z)) (λz=>hn (hY b z)) q) (λ_ q=>q) λ_ _ q=>q
theorem Un.stp {H0:Hp} {h0:Heap} (u:Un fs [] H0 H h0 h) (st:Stp F Y h h') (h1:∀ b o,h0.get? b=some o->b ∈ F->b ∈ fs) (h2:∀ b ∈ fs,b ∈ F) (hY:∀ b ∈ Y,h0.get? b=none):Un fs [] H0 H h0 h':=by
 have nY:∀ b o,h0.get? b=some o->b ∉ Y:=λb o q z=>by rw [hY b z] at q;cases q
 refine ⟨λb o q n hb hx=>st.keep b o (λz=>hb (h1 b o q z)) (nY b o q) (u.keep b o q n hb hx),λb o q n hb hx=>?_,u.free,λb o q hx=>?_,u.tups,u.frzs,u.tbls⟩
 ·obtain ⟨sl,q1⟩:=u.slot b o q n hb hx
  obtain ⟨sl2,q2⟩:=st.slot b _ (h2 b hb) q1
  exact ⟨sl2,q2⟩
 ·obtain ⟨o1,q1⟩:=u.there b o q hx
  by_cases hF:b ∈ F
  ·obtain ⟨sl2,q2⟩:=st.slot b _ hF q1
   exact ⟨_,q2⟩
  ·exact ⟨_,st.keep b o1 hF (nY b o q) q1⟩
end
def CX1 (P:Program) (w:World):CXT:=λouter H s E ev s'=>∃ (e T C:Addr) (a0:Value) (H' : Hp),ev=.ref e/\s'.os=s.os/\AllBare s'.gens/\Un (frs outer) [] H H' s.heap s'.heap/\HOk P w H' s'.heap /\
 BS s'.heap e T (.ref C) a0/\s.heap.get? e=none/\s.heap.get? T=none/\H' e=none/\H' T=none/\E (.ref C) none H'
structure jW (X:Cx) (pins:List (Addr × Obj)) (H:Hp) (b:Addr):Prop where
 ent:X.s₀.heap.get? b=none
 unt:H b=none
 loc:b ≠ X.env.locals
 cel:∀ x c,X.env.cells.lookup x=some c->c ≠ b
 pin:∀ p ∈ X.pn ++ pins,p.1 ≠ b
section
variable {X:Cx} {pins:List (Addr × Obj)} {σ:St} {H:Hp} {s:Shared} {h' : Heap} {e T:Addr}
theorem Inv.newAt (I:Inv X pins σ H s) (hx:X.ex=[]) {b:Addr} (hb:s.heap.get? b=none):jW X pins H b:=by
 refine ⟨?_,I.hok.none_of hb,?_,?_,?_⟩
 ·cases q:X.s₀.heap.get? b with
  | none=>rfl
  | some o =>
   obtain ⟨o',q'⟩:=I.base.there b o q (by rw [hx];simp)
   rw [hb] at q';cases q'
 ·rintro rfl
  obtain ⟨m,⟨o,_,_,q,_⟩,_⟩:=I.loc
  rw [hb] at q;cases q
 ·rintro x c hc rfl
  obtain ⟨v,o,q,_⟩:=I.cell x c hc
  rw [hb] at q;cases q
 ·rintro p hp rfl
  obtain ⟨q,_⟩:=I.pin p hp
  rw [hb] at q;cases q
end
structure i7 (K:PySem.W.Frag) (C:Addr):Prop where
 ex:∃ (bmB bmN:List Value) (newId B Bn nid vj inN:String),PySem.W.excIn K C bmB newId=true/\ExcBaseFacts Bn newId inN bmN/\bmB.contains (Value.type Bn)=true/\ExcBaseFacts B nid vj bmB
theorem i7.value {K:PySem.W.Frag} {C:Addr} (h:PySem.W.excIn K C [.type "ValueError",.type "Exception",.type "BaseException",.type "object"] "ValueError.__new__" = true):i7 K C :=
 ⟨_,_,_,_,_,_,_,_,h,PySem.F.excBase_ValueError,by decide,PySem.F.excBase_ValueError⟩
theorem i7.obj {K:PySem.W.Frag} {C:Addr} {h:Heap} {bmB:List Value} {newId:String} (KI:K.In h) (e:PySem.W.excIn K C bmB newId=true):∃ bm N nm q bs hdct sn sub ab col dd k0 k1 k2 k3 k5 mN,
   h.get? C=some (excClassObj nm q C N bs bm hdct sn sub ab col dd k0 k1 k2 k3 k5 newId)/\h.Ns N mN/\mN "__init__" = none/\OwnTail h bmB bm:=by
 unfold PySem.W.excIn at e
 split at e
 ·rename_i dd cd sl lk
  split at e
  ·rename_i C' bm k0 k1 k2 k3 n k5 em es
   simp only [Bool.and_eq_true,beq_iff_eq,Bool.not_eq_true'] at e
   obtain ⟨⟨⟨⟨⟨rfl,rfl⟩,hd⟩,ht⟩,hn⟩,hi⟩:=e
   obtain ⟨nm,bs,mro,ns,q,hdct,sn,sub,ab,col,GW⟩:=cd
   dsimp only at em hd ht hn hi
   subst em hd
   have hsl:sl = #[k0,k1,k2,k3,some (Value.builtin n),k5]:=by
    apply Array.toList_inj.mp
    rw [es]
   subst hsl
   exact ⟨bm,ns,nm,q,bs,hdct,sn,sub,ab,col,dd,k0,k1,k2,k3,k5,_,KI _ _ lk,Heap.Ns.of_isNs (PySem.W.isNs_of_in KI hn),PySem.W.nsMap_none_of_in KI hn hi,PySem.W.tail_of_in KI ht⟩
  ·cases e
 ·cases e
section
variable {P:Program} {w:World} {K:PySem.W.Frag} {mg:Str->Option Value} {base:Heap} {N:List Str} {qual:Str} {scope:Scope} {f:Addr} {cd:Value} {A:Around} {outer:List Env} {s0:Shared} {H0:Hp} {E:XK}
def zD (C:Addr) (E:XK) (t:TA):TS:=λ_ σ H=>t σ H λvs H1=>vs.length<=sizeLine/\E (.ref C) none H1
end
end L2
namespace L2
open PySem PySem.Spec PyProof.Rows
def XP (X:Cx) (pins:List (Addr × Obj)) (σ:St) (EX:Addr->Hp->Prop) (ev:Value) (s' : Shared):Prop :=
 ∃ (e T C:Addr) (a0:Value) (H' : Hp),ev=.ref e/\Inv X pins σ H' s'/\BS s'.heap e T (.ref C) a0/\jW X pins H' e/\jW X pins H' T/\EX C H'
def CalleeX (P:Program) (w:World) (K:PySem.W.Frag) (mg:Str->Option Value) (base:Heap) (k:Nat) (x:Str) (ps:List Str) (sp:Sp):Prop :=
 ∃ f fd,aQ P w K mg base (CX1 P w) k f fd ps sp/\Binds K fd ps []/\PySem.W.keepIn K (.ref f)=true/\mg x=some (.ref f)
theorem CalleeX.mono {P:Program} {w:World} {K:PySem.W.Frag} {mg:Str->Option Value} {base:Heap} {j k:Nat} {x:Str} {ps:List Str} {sp:Sp} (C:CalleeX P w K mg base j x ps sp) (h:j<=k):CalleeX P w K mg base k x ps sp:=by
 obtain ⟨f,fd,F,r⟩:=C
 exact ⟨f,fd,F.mono h,r⟩
section
variable {X:Cx} {pins:List (Addr × Obj)} {σ:St} {H:Hp} {s s' : Shared}
theorem Inv.afterX {E:XK} {EX:Addr->Hp->Prop} {ev:Value} (I:Inv X pins σ H s) (hx:X.ex=[]) (hE:∀ C H',E (.ref C) none H'->EX C H') (h:CX1 X.prog X.w X.stack H s E ev s'):XP X pins σ EX ev s':=by
 obtain ⟨e,T,C,a0,H',rfl,os,bare,un,hok,x,ne,nT,he,hT,q⟩:=h
 have I' : Inv X pins σ H' s':=I.call' (ch:=[]) os un hok bare λb z=>absurd z (by simp)
 have a:=I.newAt hx ne
 have b:=I.newAt hx nT
 exact ⟨e,T,C,a0,H',rfl,I',x,⟨a.ent,he,a.loc,a.cel,a.pin⟩,⟨b.ent,hT,b.loc,b.cel,b.pin⟩,hE _ _ q⟩
end
section
variable {X:Cx} {k:Nat} {x:Str} {ps:List Str} {sp:Sp} {e:Expr} {es:List Expr} {t:TA} {p pos:Pos}
abbrev TSX:=Ends->St->Hp->(Addr->Hp->Prop)->Prop
end
section
variable {X:Cx} {pins:List (Addr × Obj)} {σ:St} {H:Hp} {s s' : Shared} {e:Addr} {oe:Obj}
end
section
variable {X:Cx} {pins:List (Addr × Obj)} {σ:St} {H:Hp} {s:Shared}
end
section
variable {X:Cx} {st b₀:Stmt} {su:List Stmt} {tb:TSX} {ts:Addr->Addr->TS} {Tn n:Str} {B:Addr} {i:Nat} {np zE pos:Pos}
end
end L2
namespace L2
open PySem PySem.Spec PyProof.Rows
structure xq (K:PySem.W.Frag) (C:Addr):Prop where
 ga:PySem.W.findIn K (.ref C) "__getattribute__" = some (some (.builtin "BaseException.__getattribute__"))
 hk:PySem.W.findIn K (.ref C) "__getattr__" = some none
 cl:PySem.W.findIn K (.ref C) "__class__" = some (some (.builtin "object.__class__"))
 gt:PySem.W.specialIn K (.builtin "object.__class__") "__get__" = some (some (.builtin "getset_descriptor.__get__"))
 tk:PySem.W.takesIn K (.builtin "object.__class__")=some true
 ob:PySem.W.mroIn K C (.type "object")=some true
 be:PySem.W.mroIn K C (.type "BaseException")=some true
 me:PySem.W.kitCls K (.ref C) (.ref C)=some true
section
variable {prog:Program} {w:World} {A:Around} {E:Value->Shared->Prop} {s:Shared} {K:PySem.W.Frag} {e C:Addr} {oe:Obj}
end
section
variable {X:Cx} {e C:Addr} {oe:Obj}
end
end L2
namespace L2
open PySem PySem.Spec PyProof.Rows
section
variable {X:Cx}
inductive BU (c:Str) (Q:VK) (x:V) (H1:Hp):Prop
 | mk (z:Str) (_:x=.str z) (_:z.length<=1000) (_:(∀ n ∈ z.cps.toList,n < 16 ^ 8)) (_:c.length<=1000) (_:∀ z2:Str,Q (.str z2) H1):BU c Q x H1
def tFr (c:Str) (ta:TE):TE:=λσ H Q=>ta σ H λx H1=>BU c Q x H1
theorem len_app (x y:Str):(x ++ y).length=x.length+y.length:=by
 show (Str.append x y).cps.size=x.cps.size+y.cps.size
 unfold Str.append
 simp
end
end L2
namespace L2
open PySem PySem.Spec PyProof.Rows
theorem tH {P:Program} {w:World} {X:Cx} : Passes (CX1 P w) X E0:=λ_ _ _ _ _ _ _ h=>by
 obtain ⟨_,_,_,_,_,_,_,_,_,_,_,_,_,_,_,q⟩:=h
 exact q.elim
def MCallee (CX:CXT) (P:Program) (w:World) (K:PySem.W.Frag) (mg:Str->Option Value) (base:Heap) (k:Nat) (C:Addr) (m:Str) (ps:List Str) (sp:Sp):Prop :=
 ∃ f fd,Meth K C m f/\aQ P w K mg base CX k f fd ps sp/\Binds K fd ps []
def MkCallee (CX:CXT) (P:Program) (w:World) (K:PySem.W.Frag) (mg:Str->Option Value) (base:Heap) (k:Nat) (x:Str) (C:Addr) (ps:List Str) (sp:Sp):Prop :=
 ∃ f fd,Mk K C f/\aQ P w K mg base CX k f fd ps sp/\Binds K fd ps []/\mg x=some (.ref C)
structure BV (K:PySem.W.Frag) (B:Addr) (m:Str) (f:Addr):Prop where
 sp:PySem.W.specialIn K (.ref B) "__getattribute__" = some (some (.builtin "type.__getattribute__"))
 rd:PySem.W.readsIn K B (.type "type")=true
 at_:PySem.W.findCls K (.ref B) (.type "type") m=some (.val (.ref f))
 kp:PySem.W.keepIn K (.ref f)=true
def BCallee (CX:CXT) (P:Program) (w:World) (K:PySem.W.Frag) (mg:Str->Option Value) (base:Heap) (k:Nat) (x:Str) (m:Str) (ps:List Str) (sp:Sp):Prop :=
 ∃ f fd B,BV K B m f/\aQ P w K mg base CX k f fd ps sp/\Binds K fd ps []/\mg x=some (.ref B)
section
variable {CX:CXT} {P:Program} {w:World} {K:PySem.W.Frag} {mg:Str->Option Value} {base:Heap} {j k:Nat} {C:Addr} {x m:Str} {ps:List Str} {sp:Sp}
theorem MCallee.mono (c:MCallee CX P w K mg base j C m ps sp) (h:j<=k):MCallee CX P w K mg base k C m ps sp:=by
 obtain ⟨f,fd,M,F,b⟩:=c
 exact ⟨f,fd,M,F.mono h,b⟩
theorem MkCallee.mono (c:MkCallee CX P w K mg base j x C ps sp) (h:j<=k):MkCallee CX P w K mg base k x C ps sp:=by
 obtain ⟨f,fd,M,F,b⟩:=c
 exact ⟨f,fd,M,F.mono h,b⟩
theorem BCallee.mono (c:BCallee CX P w K mg base j x m ps sp) (h:j<=k):BCallee CX P w K mg base k x m ps sp:=by
 obtain ⟨f,fd,B,M,F,b⟩:=c
 exact ⟨f,fd,B,M,F.mono h,b⟩
end
inductive BX (C:Addr) (m:Str) (sp:Sp) (t:TA) (σ:St) (Q:VK) (x:V) (H1:Hp):Prop
 | mk (a dx fs:_) (_:x=.ref a) (_:H1 a=some (.ins C dx fs)) (_:fs.lookup m=none) (_:t σ H1 λvs H2=>sp (x :: vs) H2 Q E0):BX C m sp t σ Q x H1
def tMt (C:Addr) (m:Str) (sp:Sp) (ta:TE) (t:TA):TE:=λσ H Q=>ta σ H λx H1=>BX C m sp t σ Q x H1
def tMk (C:Addr) (sp:Sp) (t:TA):TE:=λσ H Q=>t σ H λvs H1=>∀ x dx,H1 x=none->H1 dx=none->dx ≠ x ->
 sp (.ref x :: vs) (upd (upd H1 dx (.own x)) x (.ins C dx [])) (λv H2=>v=.non/\Q (.ref x) H2) E0
section
variable {X:Cx} {CX:CXT} {k:Nat} {f C:Addr} {fd:FuncData} {ps:List Str} {sp:Sp} {x m:Str} {p np pos apos:Pos} {e o:Expr} {es:List Expr} {ta:TE} {t:TA}
theorem xr {pins:List (Addr × Obj)} {σ:St} {H:Hp} {s:Shared} {Q:VK} {us:List Value} {vs:List V} {E:XK} (F:aQ X.prog X.w X.K X.mg X.base CX k f fd ps sp) (hr:cI k X.A) (hb:Binds X.K fd ps []) (hx:Passes CX X E)
  (I:Inv X pins σ H s) (r:Vals vs us) (h:sp vs H Q E):wpAny (model X.prog X.w) X.A (call (.ref f) us) (EP X pins σ Q) X.xe s :=
 uY (dvs:=[]) (ds:=[]) F hr hb .nil hx I r (by rw [List.append_nil];exact h)
theorem gP {pl:Sem Bool} (M:MCallee CX X.prog X.w X.K X.mg X.base k C m ps sp) (hx:Passes CX X E0) (c:Cls X.K C) (hr:cI k X.A) (he:PE X o ta) (ha:PA X (e :: es) t)
  (hst:starEach (e :: es) X.env=(false,eval e X.env) :: starEach es X.env:=by rfl) (hpl:(backTo pos (starEach es X.env)).any (·.1)=false:=by rfl)
  (ht:eval (.Call (.Attribute o m apos) (e :: es) [] pos) X.env=(do
   let ov ← eval o X.env
   standAt apos.atName
   let (f,first) ← holding [ov] (getMethod ov m pl)
   callWith pos f first (backTo pos (starEach (e :: es) X.env)) (backToKw pos (keywordEach [] X.env))):=by rfl) :
  PE X (.Call (.Attribute o m apos) (e :: es) [] pos) (tMt C m sp ta t):=by
 obtain ⟨f,fd,hm,F,hb⟩:=M
 intro pins s σ H Q I h
 refine PySem.W.methodCall_KW (pl:=pl) (thn (he pins s σ H _ I h) λu s1 ⟨x,H1,I1,rx,a,dx,fs,ex,ea,l,q⟩=>?_) ht
 subst ex
 obtain rfl:u=Value.ref a:=rx
 refine mh I1 ea c hm l ?_
 refine PySem.W.callWith_K (first:=[.ref a]) (h₀:=X.base) I.ok.mod.kin hm.kp (thn (ha pos pins s1 σ H1 _ I1 q) λus s2 ⟨vs,H2,I2,r,q2⟩=>⟨I2.kIn,?_⟩) hst hpl
 exact xr (us:=.ref a :: us) (vs:=.ref a :: vs) F hr hb hx I2 (.cons rfl r) q2
theorem eR {pl:Sem Bool} (M:BCallee CX X.prog X.w X.K X.mg X.base k x m ps sp) (hx:Passes CX X E0) (hr:cI k X.A) (hg:Gl X x) (ha:PA X (e :: es) t) (hdb:(x == ("__debug__" : Str))=false:=by decide)
  (hst:starEach (e :: es) X.env=(false,eval e X.env) :: starEach es X.env:=by rfl) (hpl:(backTo pos (starEach es X.env)).any (·.1)=false:=by rfl)
  (ht:eval (.Call (.Attribute (.Name x np) m apos) (e :: es) [] pos) X.env=(do
   let ov ← eval (.Name x np) X.env
   standAt apos.atName
   let (f,first) ← holding [ov] (getMethod ov m pl)
   callWith pos f first (backTo pos (starEach (e :: es) X.env)) (backToKw pos (keywordEach [] X.env))):=by rfl) :
  PE X (.Call (.Attribute (.Name x np) m apos) (e :: es) [] pos) (tFn sp t):=by
 obtain ⟨f,fd,B,hB,F,hb,hm⟩:=M
 intro pins s σ H Q I h
 refine PySem.W.methodCall_KW (pl:=pl) (fW I hg hm ?_ hdb) ht
 refine PySem.W.method_cls I.kIn hB.sp (PySem.W.cls_value (mc:=.type "type") I.kIn hB.rd hB.at_ (n6 (v:=.ref f) rfl) ?_)
 refine PySem.W.callWith_K (first:=[]) (h₀:=X.base) I.ok.mod.kin hB.kp (thn (ha pos pins _ σ H _ (I.tok _) h) λus s2 ⟨vs,H2,I2,r,q2⟩=>⟨I2.kIn,?_⟩) hst hpl
 exact xr (us:=us) (vs:=vs) F hr hb hx I2 r q2
theorem tI (M:MkCallee CX X.prog X.w X.K X.mg X.base k x C ps sp) (hx:Passes CX X E0) (hr:cI (k+1) X.A) (hg:Gl X x) (ha:PA X (e :: es) t) (hdb:(x == ("__debug__" : Str))=false:=by decide)
  (he:starEach (e :: es) X.env=(false,eval e X.env) :: starEach es X.env:=by rfl) (hpl:(backTo pos (starEach es X.env)).any (·.1)=false:=by rfl) :
  PE X (.Call (.Name x p) (e :: es) [] pos) (tMk C sp t):=by
 obtain ⟨f,fd,M,F,hb,hm⟩:=M
 have h:=xj (E:=E0) (dvs:=[]) (ds:=[]) (p:=p) M F hr hg hm hb .nil hx ha hdb he hpl
 intro pins s σ H Q I q
 refine h pins s σ H Q I ?_
 have q' : t σ H λvs H1=>∀ x dx,H1 x=none->H1 dx=none->dx ≠ x->sp (.ref x :: vs) (upd (upd H1 dx (.own x)) x (.ins C dx [])) (λv H2=>v=.non/\Q (.ref x) H2) E0:=q
 show t σ H λvs H1=>∀ x dx,H1 x=none->H1 dx=none->dx ≠ x->sp (.ref x :: (vs ++ [])) (upd (upd H1 dx (.own x)) x (.ins C dx [])) (λv H2=>v=.non/\Q (.ref x) H2) E0
 have e1:(λ(vs:List V) (H1:Hp)=>∀ x dx,H1 x=none->H1 dx=none->dx ≠ x->sp (.ref x :: (vs ++ [])) (upd (upd H1 dx (.own x)) x (.ins C dx [])) (λv H2=>v=.non/\Q (.ref x) H2) E0)=λvs H1=>∀ x dx,H1 x=none->H1 dx=none->dx ≠ x->sp (.ref x :: vs) (upd (upd H1 dx (.own x)) x (.ins C dx [])) (λv H2=>v=.non/\Q (.ref x) H2) E0:=by
  funext vs H1
  rw [List.append_nil]
 rw [e1]
 exact q'
end
section
variable {X:Cx}
end
inductive zF (K:PySem.W.Frag) (neg:Bool) (x:V) (y:V) (H:Hp) (Q:VK):Prop
 | mk (a b xs ys:_) (_:x=.ref a) (_:y=.ref b) (_:SqT K H a xs) (_:SqT K H b ys) (f:Nat->Bool) (_:(∀ j x y,xs[j]?=some x->ys[j]?=some y->EqI K H x y (f j))) (_:Q (.bl (if neg then !((List.range (min xs.length ys.length)).all f && xs.length == ys.length) else (List.range (min xs.length ys.length)).all f && xs.length == ys.length)) H):zF K neg x y H Q
section
variable {X:Cx}
theorem vm {k:Nat} (hr:cI k X.A):OpR X (compareOp .Eq) (zF X.K false):=by
 intro pins s σ H x y v u Q I rx ry h
 obtain ⟨a,b,xs,ys,rfl,rfl,ha,hb,f,hf,q⟩:=h
 cases (show v=Value.ref a from rx)
 cases (show u=Value.ref b from ry)
 obtain ⟨its,r,p,_⟩:=I.tuple ha
 obtain ⟨its',r',p',_⟩:=I.tuple hb
 have l1:=r.length
 have l2:=r'.length
 have hu:=hr.units
 refine SeqAt.eq_tupleAt (e:=f) (show s.heap.IsTuple a its.toArray from p) (show s.heap.IsTuple b its'.toArray from p') (by lia) (rV I (by show X.A.units+1+1 < cLine;lia) r r' hf) ⟨.bl _,H,I,rfl,?_⟩
 simp only [List.size_toArray]
 rw [← l1,← l2]
 exact q
end
end L2
namespace L2
open PySem PySem.Spec PyProof.Rows
section
variable {X:Cx}
end
end L2
namespace L2
open PySem PySem.Spec PyProof.Rows
theorem aQ.no {P:Program} {w:World} {K:PySem.W.Frag} {mg:Str->Option Value} {base:Heap} {CX:CXT} {k:Nat} {f:Addr} {fd:FuncData} {ps:List Str} {sp:Sp} (h:∀ vs H Q E,¬ sp vs H Q E):aQ P w K mg base CX k f fd ps sp :=
 ⟨λvs H Q E q=>(h vs H Q E q).elim,λ_ _ _ H _ _ vs Q E _ _ _ _ q=>(h vs H Q E q).elim⟩
end L2
namespace L2
open PySem PySem.Spec PyProof.Rows
theorem jX {X:Cx} {K:PySem.W.Frag} {e:Expr} {f:Str} {pos:Pos} {ta:TE} (h:X.K=K) (he:PE X e ta) (hb:attributeBase e f X.env (eval e X.env)=eval e X.env):PE X (.Attribute e f pos) (BH K ta f):=h ▸ aY he hb
end L2
namespace L2
open PySem
set_option maxRecDepth 100000
section
variable {X:Cx} {pins:List (Addr × Obj)} {σ:St} {H:Hp} {s:Shared}
end
section
variable {X:Cx}
end
end L2
namespace L2
open PySem PySem.Spec PyProof.Rows
section
variable {κ:Type} [DecidableEq κ]
def cntK (ks:List κ):Nat->Nat
 | 0=>0
 | i+1=>match ks[i]? with
  | some k=>if k ∈ ks.take i then cntK ks i else cntK ks i+1
  | none=>cntK ks i
theorem jY (ks:List κ):∀ i,cntK ks i<=i
 | 0=>Nat.le_refl _
 | i+1=>by
  have ih:=jY ks i
  unfold cntK
  split
  ·split <;> lia
  ·lia
theorem iw (ks:List κ):∀ i,i<=ks.length->(cntK ks i=i↔(ks.take i).Nodup)
 | 0,_=>by simp [cntK]
 | i+1,h=>by
  have ih:=iw ks i (by lia)
  have le:=jY ks i
  have e:ks[i]?=some ks[i]:=G6 (by lia)
  have et:ks.take (i+1)=ks.take i ++ [ks[i]]:=by rw [List.take_add_one,e];rfl
  unfold cntK
  rw [e,et,List.nodup_append]
  dsimp only
  by_cases m:ks[i] ∈ ks.take i
  ·rw [if_pos m]
   exact ⟨λz=>absurd z (by lia),λz=>absurd rfl (z.2.2 _ m _ (by simp))⟩
  ·rw [if_neg m]
   refine ⟨λz=>⟨ih.mp (by lia),by simp,λa ha b hb=>?_⟩,λz=>by rw [ih.mpr z.1]⟩
   rw [show b=ks[i] by simpa using hb]
   exact λq=>m (q ▸ ha)
variable {prog:Program} {w:World} {A:Around} {E:Value->Shared->Prop} {s:Shared} {knd:KeyKind prog w κ}
theorem fY {h h' : Heap} {a:Addr} {S:κ->Bool} {n:Nat} (x:h.SetOf knd a S n) (k:∀ o,h.get? a=some o->h'.get? a=some o):h'.SetOf knd a S n:=by
 obtain ⟨o,es,ep,t,ho,r⟩:=x
 exact ⟨o,es,ep,t,k o ho,r⟩
theorem mC {h:Heap} {a:Addr} {S S' : κ->Bool} {n n' : Nat} (x:h.SetOf knd a S n) (e1:S=S') (e2:n=n'):h.SetOf knd a S' n':=e1 ▸ e2 ▸ x
theorem uu {R:Result->Shared->Prop} {I:Addr} {fp wr:List Addr} {G:Array GenState->Array GenState->Prop} {n:Nat} {P:Nat->Value->Prop} {St:Nat->Shared->Prop} (W:WalksS prog w A.in1 I fp wr G n P St) {a:Addr} (ha:a ∉ fp) {ks:List κ}
  (hv:∀ i v,P i v->∃ k,ks[i]?=some k/\knd.is k v=true/\v.scannable=true) (hb:n+1 < scanBound):∀ (d i:Nat) (s:Shared),n=i+d->St i s->s.heap.SetOf knd a (λk=>decide (k ∈ ks.take i)) (cntK ks i) ->
   (∀ s',Moved (a :: wr) G s s'->s'.heap.SetOf knd a (λk=>decide (k ∈ ks.take n)) (cntK ks n)->R (.ok (.ret .none)) s')->codeAny (model prog w) A (.builtin "set.update.loop" ⟨[.ref a,.ref I],[]⟩) R s:=by
 have hw:a ∉ wr:=λz=>ha (W.sub a z)
 intro d
 induction d with
 | zero =>
  intro i s e st x fin
  rw [show n=i by lia] at W fin
  refine codeAny_builtin (R:=R) (A:=A) F.entry_set_update_loop ?_
  rw [Around.under_plainId (A:=A) F.plain_set_update_loop _]
  show wpAny (model prog w) A.in1 (pyNext (.ref I) >>= _) _ _ s
  exact wpAny_bind (W.done s _ _ st λs' m=>wpAny_pure (fin s' (m.mono λb hb=>List.mem_cons_of_mem a hb) (fY x λo q=>m.heap a o hw q)))
 | succ d ih =>
  intro i s e st x fin
  refine codeAny_builtin (R:=R) (A:=A) F.entry_set_update_loop ?_
  rw [Around.under_plainId (A:=A) F.plain_set_update_loop _]
  show wpAny (model prog w) A.in1 (pyNext (.ref I) >>= _) _ _ s
  refine wpAny_bind (W.item i s _ _ (by lia) st λv s1 p st1 m=>?_)
  obtain ⟨k,ek,ik,sc⟩:=hv i v p
  have x1:=fY x λo q=>m.heap a o hw q
  show wpAny (model prog w) A.in1 (holding [v] (setAdd a v) >>= _) _ _ s1
  refine wpAny_bind (wpAny_holding (show wpAny (model prog w) A.in1 (setAdd a v) _ _ s1 from ?_))
  unfold setAdd
  refine wpAny_holding (wpAny_bind (knd.pyHash ik ?_))
  have le:=jY ks i
  refine wpAny_setAddHashed_of (knd:=knd) (s:={ s1 with toks:=s1.toks+1 }) ik sc x1 (by lia) λh' sb x2=>?_
  have et:ks.take (i+1)=ks.take i ++ [k]:=by rw [List.take_add_one,ek];rfl
  have x3:h'.SetOf knd a (λq=>decide (q ∈ ks.take (i+1))) (cntK ks (i+1)):=by
   refine mC x2 (funext λq=>?_) ?_
   ·rw [et]
    by_cases z:q ∈ ks.take i <;> by_cases y:q=k <;> simp [z,y]
   ·show (if decide (k ∈ ks.take i)=true then cntK ks i else cntK ks i+1)=match ks[i]? with | some k=>if k ∈ ks.take i then cntK ks i else cntK ks i+1 | none=>cntK ks i
    rw [ek]
    by_cases z:k ∈ ks.take i <;> simp [z]
  refine wpAny_pure ⟨plainId_quiet F.plain_set_update_loop _,ih (i+1) { s1 with heap:=h',toks:=s1.toks+1 } (by lia) (W.frame (i+1) s1 h' (s1.toks+1) st1 (Nat.le_succ _) λb hbf o q=>(sb.2 b λz=>ha (z ▸ hbf)).trans q) x3 λs2 m2 x4=>?_⟩
  refine fin s2 (Moved.trans W.gtrans ((m.mono λb hb=>List.mem_cons_of_mem a hb).then_heap (Nat.le_succ _) λb o hbn q=>?_) m2) x4
  exact (sb.2 b λz=>hbn (z ▸ List.mem_cons_self)).trans q
abbrev ja (led:Bool):Obj:={ cls:=.type "set",dict:=none,data:=.set #[] 0 (.fresh 0 0 led) }
def Filled (knd:KeyKind prog w κ) (s:Shared) (ks:List κ) (h' : Heap):Prop :=
 h'.SetOf knd s.heap.objs.size (λk=>decide (k ∈ ks)) (cntK ks ks.length)/\∀ b o,b < s.heap.objs.size->s.heap.get? b=some o->h'.get? b=some o
theorem vn {l:Addr} {items:Array Value} {ks:List κ} {led:Bool} (hh:A.handled=none) (hl:s.heap.IsList l items) (hk:∀ (i:Nat) (v:Value),items[i]?=some v->∃ k,ks[i]?=some k/\knd.is k v=true/\v.scannable=true) (hn:ks.length=items.size) (hb:items.size+1 < scanBound) :
  codeAny (model prog w) A (.call (.builtin "set.__init__") ⟨[.ref s.heap.objs.size,.ref l],[]⟩) (wants (λr s2=>r=.none/\∃ h' tk,s2 = { s with heap:=h',toks:=tk }/\Filled knd s ks h') E) { s with heap:=s.heap.push (ja led) }:=by
 have g0:(s.heap.push (ja led)).get? s.heap.objs.size=some (ja led):=Heap.get?_push_size s.heap rfl
 have ty:Shared.TypeIs { s with heap:=s.heap.push (ja led) } (.ref s.heap.objs.size) "set" := ⟨ja led,g0,rfl⟩
 refine codeAny_call_builtin F.called_set.init.plain F.entry_set_init (check_set_init_1 ty ?_)
 obtain ⟨⟨c1,c2,c3,c4⟩,ho,hc,m,hd⟩:=hl
 dsimp only at hc hd
 subst hc hd
 have g1:(s.heap.push (ja led)).get? l=some { cls:=.type "list",dict:=c2,data:=.seq items m,slots:=c4 }:=Heap.get?_push_of_some _ ho
 have y1:=F.sub_list_set
 have y2:=F.sub_list_frozenset
 have y3:(Value.type "list" == Value.type "dict")=false:=by decide
 have l1:(s.heap.push (ja led)).IsList l items:=⟨_,g1,rfl,m,rfl⟩
 have lt:l < s.heap.objs.size:=Heap.lt_size ho
 unfold Builtin.«set.__init__» Builtin.Frozenset.updateFrom noKeywords
 generalize hI:pyIter=it
 wp_walk
 subst hI
 refine wpAny_pyIter_list l1 (wpAny_bind (wpAny_runValue ?_))
 have nl:l ≠ (s.heap.push (ja led)).objs.size:=by rw [Heap.size_push];exact Nat.ne_of_lt (Nat.lt_succ_of_lt lt)
 have nf:s.heap.objs.size ∉ [(s.heap.push (ja led)).objs.size,l]:=by
  rw [Heap.size_push]
  intro z
  rcases List.mem_cons.mp z with z | z
  ·exact absurd z (Nat.ne_of_lt (Nat.lt_succ_self _))
  ·exact absurd (by simpa using z) (Nat.ne_of_gt lt)
 refine uu (knd:=knd) ((Walks.list (by simp [hh]) _ l nl items).toS) nf (ks:=ks) hk hb items.size 0 _ (Nat.zero_add _).symm ⟨⟨_,Heap.get?_push_size _ rfl,rfl,rfl⟩,l1.push _⟩ (mC ((setObjOf_fresh (knd:=knd) led).setOf (Heap.get?_push_of_some _ g0) (by unfold scanBound;lia)) (funext λk=>by simp) rfl) λs' mv x=>?_
 obtain ⟨h',g',d',t',o'⟩:=s'
 obtain rfl:g'=s.gens:=mv.gens
 obtain rfl:d'=s.drawn:=mv.drawn
 obtain rfl:o'=s.os:=mv.os
 refine wpAny_pure (show wpAny (model prog w) _ (ret Value.none) _ _ _ from wpAny_pure ⟨rfl,h',t',rfl,?_,λb o hb' q=>?_⟩)
 ·rw [← hn] at x
  exact mC x (funext λk=>by rw [List.take_length]) rfl
 ·refine mv.heap b o (λz=>?_) (Heap.get?_push_of_some _ (Heap.get?_push_of_some _ q))
  rcases List.mem_cons.mp z with z | z
  ·exact absurd z (Nat.ne_of_lt hb')
  ·have z2:b=(s.heap.push (ja led)).objs.size:=by simpa using z
   rw [Heap.size_push] at z2
   exact absurd z2 (Nat.ne_of_lt (Nat.lt_succ_of_lt hb'))
set_option maxRecDepth 100000 in
theorem oy {l:Addr} {items:Array Value} {ks:List κ} {Q:Value->Shared->Prop} (hh:A.handled=none) (hl:s.heap.IsList l items) (hk:∀ (i:Nat) (v:Value),items[i]?=some v->∃ k,ks[i]?=some k/\knd.is k v=true/\v.scannable=true) (hn:ks.length=items.size) (hb:items.size+1 < scanBound)
  (h:∀ h' tk,Filled knd s ks h'->Q (.ref s.heap.objs.size) { s with heap:=h',toks:=tk }):wpAny (model prog w) A (call (.type "set") [.ref l]) Q E s:=by
 obtain ⟨c,tl,mro⟩:=F.called_set.mro
 have a1:=F.called_set.made
 have a2:=F.called_set.sub
 have a3:=F.called_set.notType
 have a4:=F.called_set.canCreate
 have a5:=F.typeCall_set_1 (.ref l)
 refine wpAny_call (codeAny_of_tree (show wpAny (model prog w) _ (callAny (.type "set") _) _ _ _ from wpAny_pure ⟨Code.quiet_builtin _ (by decide +kernel),codeAny_builtin F.entry_type_call ?_⟩))
 rw [Around.under_plain (A:=A) (weight_type_call_type "set" [.ref l] []) rfl]
 repeat (any_goals (first | assumption | wp_step))
 refine codeAny_mono (code_set_new_1 (.ref l) (E:=E) (Q₁:=λob s1=>∃ led,ob=.ref s.heap.objs.size/\s1 = { s with heap:=s.heap.push (ja led) }) λled=>⟨led,rfl,rfl⟩) λr s1 hr=>?_
 cases r with
 | error e=>exact hr
 | ok fl =>
  cases fl with
  | ret ob =>
   obtain ⟨led,rfl,rfl⟩:=hr
   have g0:(s.heap.push (ja led)).get? s.heap.objs.size=some (ja led):=Heap.get?_push_size s.heap rfl
   have ty:Shared.TypeIs { s with heap:=s.heap.push (ja led) } (.ref s.heap.objs.size) "set" := ⟨ja led,g0,rfl⟩
   have b1:=F.called_set.init.lookup
   have b2:=F.called_set.init.bind (.ref s.heap.objs.size)
   repeat (any_goals (first | assumption | wp_step))
   refine codeAny_mono (vn (E:=E) (knd:=knd) (by simp [hh]) hl hk hn hb) λr2 s2 hr2=>?_
   cases r2 with
   | error e=>exact hr2
   | ok f2 =>
    cases f2 with
    | ret r =>
     obtain ⟨rfl,h',tk,rfl,x⟩:=hr2
     repeat (any_goals (first | assumption | wp_step))
     exact h h' tk x
    | _=>exact hr2.elim
  | _=>exact hr.elim
end
def ly (P:Program) (w:World) (a:Addr) (zs:List Str):HO:=.ext λh=>h.SetOf (strKind P w) a (λz=>decide (z ∈ zs)) (cntK zs zs.length)
section
variable {X:Cx}
theorem oz:∀ {zs:List Str} {us:List Value},Vals (zs.map V.str) us->∀ (i:Nat) (v:Value),us[i]?=some v->∃ z t,zs[i]?=some z/\v=.str z t
 | [],_,.nil,i,v,h=>by simp at h
 | z :: zs,_,.cons ⟨t,e⟩ r,0,v,h=>by simp at h;exact ⟨z,t,rfl,by rw [← h,e]⟩
 | z :: zs,_,.cons _ r,i+1,v,h=>by
  obtain ⟨z',t,e1,e2⟩:=oz r i v (by simpa using h)
  exact ⟨z',t,by simpa using e1,e2⟩
theorem fg (hc:X.calm=true):dH X (.type "set") (λxs H Q=>∃ (p:Addr) (zs:List Str),xs=[.ref p]/\SqL X.K H p (zs.map V.str)/\zs.length<=1000/\∀ l,H l=none->Q (.ref l) (upd H l (ly X.prog X.w l zs))):=by
 intro pins s σ H xs us Q I r h
 obtain ⟨p,zs,rfl,hS,hz,q⟩:=h
 obtain ⟨u,rfl,ru⟩:=r.one
 obtain rfl:u=Value.ref p:=ru
 obtain ⟨its,rv,pl,_⟩:=I.list hS
 have hl:=rv.length
 rw [List.length_map] at hl
 refine oy (knd:=strKind X.prog X.w) (ks:=zs) (I.ok.hd hc) pl.isList (λi v e=>?_) (by simpa using hl) (by unfold scanBound;simp;lia) λh' tk x=>?_
 ·obtain ⟨z,t,e1,rfl⟩:=oz rv i v (by simpa using e)
  exact ⟨z,e1,by show Value.isStrOf z (.str z t)=true;simp [Value.isStrOf],rfl⟩
 ·obtain ⟨x1,x2⟩:=x
  refine ⟨.ref s.heap.objs.size,_,I.laid (a:=s.heap.objs.size) (o:=ly X.prog X.w s.heap.objs.size zs) (h':=h') (t':=tk) (λb o q=>x2 b o (Heap.lt_size q) q) (Nat.le_refl _) ?_,rfl,q _ I.fresh⟩
  refine ⟨x1,?_,λh1 h2 y k=>fY y k⟩
  obtain ⟨o,_,_,_,g,_⟩:=x1
  exact ⟨o,g⟩
end
end L2
namespace L2
open PySem
end L2
namespace L2
open PySem PySem.Spec PyProof.Rows
def xt:Value->Int
 | .int k _=>k
 | _=>0
structure GX (es:Array (Int × Value)) (ks:List Int):Prop where
 ent:∀ e ∈ es.toList,e.1=hashInt (xt e.2)/\∃ u,e.2=.int (xt e.2) u
 nd:(es.toList.map λe=>xt e.2).Nodup
 mem:∀ k,k ∈ ks↔k ∈ es.toList.map λe=>xt e.2
section
variable {prog:Program} {w:World} {A:Around} {E:Value->Shared->Prop} {s:Shared}
end
end L2
namespace L2
open PySem PySem.Spec PyProof.Rows
set_option maxRecDepth 100000
section
variable {prog:Program} {w:World} {A:Around} {E:Value->Shared->Prop} {s:Shared}
end
end L2
namespace L2
open PySem PySem.Spec PyProof.Rows
set_option maxRecDepth 100000
section
variable {prog:Program} {w:World} {A:Around} {E:Value->Shared->Prop} {s:Shared}
end
end L2
namespace L2
open PySem PySem.Spec PyProof.Rows
set_option maxRecDepth 100000
section
variable {prog:Program} {w:World} {A:Around} {E:Value->Shared->Prop} {s:Shared}
end
end L2
namespace L2
open PySem PySem.Spec PyProof.Rows
def vo (h:Heap) (e T:Addr) (cls a0 fl:Value):Prop :=
 ∃ oe vs oT ts,h.get? e=some oe/\(oe.cls=cls/\vs[0]?=some a0)/\oe.data=.fields vs/\vs[1]?=some (.ref T)/\T ≠ e/\h.get? T=some oT/\oT.data=.fields ts/\ts[3]?=some fl
inductive vp (h:Heap) (L e:Addr) (cls a0:Value):List Addr->Prop where
 | fresh {oe:Obj} {vs:Array Value} (he:h.get? e=some oe) (hc:oe.cls=cls) (hd:oe.data=.fields vs) (h1:vs[1]?=some Value.none) (h0:vs[0]?=some a0):vp h L e cls a0 []
 | fly {T:Addr} (x:vo h e T cls a0 .none):vp h L e cls a0 [T]
 | held {T:Addr} (x:vo h e T cls a0 (rawInt L)):vp h L e cls a0 [T]
section
variable {M:Model} {A:Around} {E:Value->Shared->Prop} {s:Shared} {base:Heap} {env:Env} {outer:List Env} {L e T:Addr} {a0 cls fl:Value} {Q:Unit->Shared->Prop} {Ts:List Addr}
theorem Stp.refl (F Y:List Addr) (h:Heap):Stp F Y h h:=⟨λ_ _ _ _ q=>q,λ_ o _ q=>⟨o.slots,q⟩⟩
theorem note (hf:A.frames=some (env :: outer)) (ff:s.heap.FunFrames base (env :: outer)) (hL:env.frame=some L) (x:vp s.heap L e cls a0 Ts)
  (h:∀ h' T',Stp (frs (env :: outer)) (e :: Ts) s.heap h'->vo h' e T' cls a0 (rawInt L)->(s.heap.get? T'=none\/T' ∈ Ts)->Q () { s with heap:=h' }):wpAny M A (noteFrame (.ref e) env) Q E s:=by
 cases x with
 | @fresh oe vs he hc hd h1 h0 =>
  unfold noteFrame
  simp only [hL]
  refine wpAny_bind (wpAny_field he hd h1 ?_)
  rw [if_neg (by decide)]
  refine wpAny_entryW (base:=PySem.W.hideAll s.heap ([e] ++ frs (env :: outer))) hf (mB _ ff) hL he (λb o q=>PySem.W.of_hideAll _ q) (PySem.W.hideAll_none _ (by simp)) hd (Array.getElem?_eq_some_iff.mp h1).1 h0 λh' lw=>?_
  obtain ⟨st,_,⟨oe',vs',T,oT,ts,t1,t2,t3,t4,t5,t6,t7,t8,t9⟩,up⟩:=lw
  have qP:∀ b o,b ∈ frs (env :: outer)->s.heap.get? b=some o->∃ sl,h'.get? b=some { o with slots:=sl }:=λb o hb q=>by
   obtain ⟨_,o2,q2,nf⟩:=ff.mem hb
   rw [q] at q2;cases q2
   exact up b o q nf
  refine h h' T ⟨λb o hb hx q=>st b o (PySem.W.hideAll_get _ q (by simp only [List.mem_append];exact λz=>z.elim hx hb)),qP⟩ ⟨oe',vs',oT,ts,t1,⟨t2.1.trans hc,t2.2⟩,t3,t4,t6,t7,t8,t9⟩ ?_
  rcases qO ff t5 qP t7 t8 with z | z
  ·exact .inl z
  ·exact absurd (by simpa using z) t6
 | @fly T x =>
  obtain ⟨oe,vs,oT,ts,x1,x2,x3,x4,x5,x6,x7,x8⟩:=x
  refine wpAny_noteFrame_onW (base:=PySem.W.hideAll s.heap ([e,T] ++ frs (env :: outer))) hf (mB _ ff) hL ⟨oe,vs,T,oT,ts,x1,x2,x3,x4,PySem.W.hideAll_none _ (by simp),x5,x6,x7,x8⟩ (λb o q=>PySem.W.of_hideAll _ q) (PySem.W.hideAll_none _ (by simp)) λh' lw=>?_
  obtain ⟨st,_,⟨oe',vs',T',oT',ts',t1,t2,t3,t4,t5,t6,t7,t8,t9⟩,up⟩:=lw
  have qP:∀ b o,b ∈ frs (env :: outer)->s.heap.get? b=some o->∃ sl,h'.get? b=some { o with slots:=sl }:=λb o hb q=>by
   obtain ⟨_,o2,q2,nf⟩:=ff.mem hb
   rw [q] at q2;cases q2
   exact up b o q nf
  refine h h' T' ⟨λb o hb hx q=>st b o (PySem.W.hideAll_get _ q (by simp only [List.mem_append];exact λz=>z.elim hx hb)),qP⟩ ⟨oe',vs',oT',ts',t1,t2,t3,t4,t6,t7,t8,t9⟩ ?_
  rcases qO ff t5 qP t7 t8 with z | z
  ·exact .inl z
  ·rcases List.mem_cons.mp z with z | z
   ·exact absurd z t6
   ·exact .inr z
 | @held T x =>
  obtain ⟨oe,vs,oT,ts,x1,x2,x3,x4,x5,x6,x7,x8⟩:=id x
  exact wpAny_noteFrame_againW (base:=PySem.W.hideAll s.heap [T]) hL ⟨oe,vs,T,oT,ts,x1,x2,x3,x4,PySem.W.hideAll_none _ (by simp),x5,x6,x7,x8⟩ (h s.heap T (Stp.refl _ _ _) x (.inr (by simp)))
theorem yp {fr:Option Addr} {l:List Env} (ff:s.heap.FunFrames base l) (x:vo s.heap e T cls a0 fl) (h:∀ h',Stp (frs l) [e,T] s.heap h'->vo h' e T cls a0 (fr.elim Value.none λf=>rawInt f)->Q () { s with heap:=h' }):wpAny M A (setFlight (.ref e) fr) Q E s:=by
 obtain ⟨oe,vs,oT,ts,x1,x2,x3,x4,x5,x6,x7,x8⟩:=x
 have sz:3 < ts.size:=(Array.getElem?_eq_some_iff.mp x8).1
 have oth:∀ b,b ≠ T->(s.heap.update T (Obj.mapFields (·.setIfInBounds 3 (fr.elim Value.none λf=>rawInt f)))).get? b=s.heap.get? b:=λb hb=>Heap.get?_update_other _ _ (Ne.symm hb)
 unfold setFlight
 refine wpAny_bind (wpAny_field x1 x3 x4 ?_)
 rw [if_pos (show (Value.ref T != Value.none)=true by simp)]
 refine wpAny_setField x6 x7 sz (h _ ⟨λb o hb hx q=>(oth b λz=>hx (by simp [z])).trans q,λb o hb q=>?_⟩ ⟨oe,vs,_,_,(oth e (Ne.symm x5)).trans x1,x2,x3,x4,x5,Heap.get?_update_self _ x6 (Obj.isFreed_of_fields (Obj.data_mapFields x7 _)),Obj.data_mapFields x7 _,by simp [sz]⟩)
 obtain ⟨_,o2,q2,nf⟩:=ff.mem hb
 rw [q] at q2;cases q2
 exact ⟨o.slots,(oth b λz=>nf ts (by rw [z,x6] at q;cases q;exact x7)).trans q⟩
end
section
variable {X:Cx} {pins:List (Addr × Obj)} {σ:St} {H:Hp} {s:Shared} {h' : Heap} {Y:List Addr}
theorem Inv.excStepY (I:Inv X pins σ H s) (st:Stp (frs X.stack) Y s.heap h') (nY:∀ b ∈ Y,jW X pins H b):Inv X pins σ H { s with heap:=h' }:=by
 have vq:∀ b,b ≠ X.env.locals->b ∉ X.fs->b ∉ frs X.stack:=λb h1 h2 z=>(List.mem_cons.mp (I.stkSub b z)).elim h1 h2
 have zG:∀ b o,X.s₀.heap.get? b=some o->b ∉ Y:=λb o q z=>by rw [(nY b z).ent] at q;cases q
 have neL:∀ b o,X.s₀.heap.get? b=some o->b ≠ X.env.locals:=λb o q=>Nat.ne_of_lt (Nat.lt_of_lt_of_le (Heap.lt_size q) I.ok.above)
 have any:∀ b o,b ∉ Y->s.heap.get? b=some o->∃ sl,h'.get? b=some { o with slots:=sl }:=λb o hy q=>by
  by_cases hF:b ∈ frs X.stack
  ·exact st.slot b o hF q
  ·exact ⟨o.slots,st.keep b o hF hy q⟩
 have cellK:∀ x c,X.env.cells.lookup x=some c->∀ v,s.heap.IsCell c v->h'.IsCell c v:=λx c ec v ⟨o,ho,hd⟩=>by
  obtain ⟨sl,q⟩:=any c o (λz=>(nY c z).cel x c ec rfl) ho
  exact ⟨_,q,hd⟩
 refine ⟨I.ok,I.os,I.bare,⟨λb o q n hb hxx=>?_,λb o q n hb hxx=>?_,I.base.free,λb o q hxx=>?_,I.base.tups,I.base.frzs,I.base.tbls⟩,?_,λx c ec=>?_,I.free,I.freeC,λp hp=>?_,I.hok.stp st I.stkFree (λb hb=>(nY b hb).unt),I.len⟩
 ·exact st.keep b o (vq b (neL b o q) hb) (zG b o q) (I.base.keep b o q n hb hxx)
 ·obtain ⟨sl,q1⟩:=I.base.slot b o q n hb hxx
  obtain ⟨sl2,q2⟩:=any b _ (zG b o q) q1
  exact ⟨sl2,q2⟩
 ·obtain ⟨o1,q1⟩:=I.base.there b o q hxx
  obtain ⟨sl2,q2⟩:=any b _ (zG b o q) q1
  exact ⟨_,q2⟩
 ·obtain ⟨m,⟨oL,es,ep,hoL,r⟩,hl⟩:=I.loc
  obtain ⟨sl,q⟩:=any X.env.locals oL (λz=>(nY _ z).loc rfl) hoL
  refine ⟨m,⟨_,es,ep,q,r⟩,λi x v e1 e2 e3=>?_⟩
  obtain ⟨u,ru,l⟩:=hl i x v e1 e2 e3
  refine ⟨u,ru,?_⟩
  rcases l with l | ⟨k,c,ec,z⟩
  ·exact .inl l
  ·exact .inr ⟨k,c,ec,cellK x c ec _ z⟩
 ·obtain ⟨v,z⟩:=I.cell x c ec
  exact ⟨v,cellK x c ec v z⟩
 ·obtain ⟨q,n,nL,nf,d⟩:=I.pin p hp
  exact ⟨st.keep p.1 p.2 (vq p.1 nL nf) (λz=>(nY _ z).pin p hp rfl) q,n,nL,nf,d⟩
end
def zH (X:Cx) (L:Addr) (E:XK):Value->Shared->Prop:=λev s'=>∃ (e C:Addr) (a0:Value) (Ts:List Addr) (pins:List (Addr × Obj)) (σ:St) (H' : Hp),ev=.ref e/\Inv X pins σ H' s'/\vp s'.heap L e (.ref C) a0 Ts/\(∀ b ∈ e :: Ts,jW X pins H' b)/\E (.ref C) none H'
theorem kG {X:Cx} {L:Addr} {E:XK} (hst:X.stack=X.env :: X.outer) (hfr:X.env.frame=some L) (hx:X.ex=[]):PassesOwn (model X.prog X.w) X.A X.env (zH X L E):=by
 rintro ev s1 ⟨e,C,a0,Ts,pins,σ,H,rfl,I,x,ny,q⟩
 have fr1:X.A.frames=some (X.env :: X.outer):=by rw [← hst];exact I.ok.frames
 have ff1:s1.heap.FunFrames X.base (X.env :: X.outer):=by rw [← hst];exact I.stack
 refine note fr1 ff1 hfr x λh2 T st x2 hT=>?_
 rw [← hst] at st
 have I2:=I.excStepY st ny
 have nT:jW X pins H T:=by
  rcases hT with z | z
  ·exact I.newAt hx z
  ·exact ny T (List.mem_cons_of_mem e z)
 have n2:∀ b ∈ [e,T],jW X pins H b:=λb hb=>by
  rcases List.mem_cons.mp hb with z | z
  ·rw [z];exact ny e List.mem_cons_self
  ·rw [show b=T by simpa using z];exact nT
 show wpAny (model X.prog X.w) X.A (do
  if (← field (.ref e) 1) == .none then unsupported "frame.own-activation:exception-without-traceback"
  setFlight (.ref e) X.env.frame) _ _ { s1 with heap:=h2 }
 obtain ⟨oe,vs,oT,ts,y1,y2,y3,y4,y5,y6,y7,y8⟩:=id x2
 refine wpAny_bind (wpAny_field (s:={ s1 with heap:=h2 }) y1 y3 y4 ?_)
 rw [if_neg (show ¬ (Value.ref T == Value.none)=true by simp)]
 show wpAny (model X.prog X.w) X.A (setFlight (.ref e) X.env.frame) _ _ _
 rw [hfr]
 refine yp (s:={ s1 with heap:=h2 }) (l:=X.stack) I2.stack x2 λh3 st3 x3=>?_
 exact ⟨e,C,a0,[T],pins,σ,H,rfl,I2.excStepY st3 n2,.held x3,n2,q⟩
section
variable {P:Program} {w:World} {K:PySem.W.Frag} {mg:Str->Option Value} {base:Heap} {N:List Str} {qual:Str} {scope:Scope} {f:Addr} {cd:Value} {A:Around} {outer:List Env} {s0:Shared} {H0:Hp} {E:XK}
abbrev cxE (P:Program) (w:World) (K:PySem.W.Frag) (mg:Str->Option Value) (base:Heap) (N:List Str) (qual:Str) (scope:Scope) (f:Addr) (cd:Value) (A:Around) (outer:List Env) (s0:Shared) (H0:Hp) (E:XK):Cx :=
 (jR (CX1 P w) P w K mg base N qual scope f cd A outer s0 H0 E).wish (zH (jR (CX1 P w) P w K mg base N qual scope f cd A outer s0 H0 E) s0.heap.objs.size E)
theorem uv {ev:Value} {s:Shared} (h:zH (jR (CX1 P w) P w K mg base N qual scope f cd A outer s0 H0 E) s0.heap.objs.size E ev s):(jR (CX1 P w) P w K mg base N qual scope f cd A outer s0 H0 E).xe ev s:=by
 obtain ⟨e,C,a0,Ts,pins,σ,H,rfl,I,x,ny,q⟩:=h
 have fr1:(jR (CX1 P w) P w K mg base N qual scope f cd A outer s0 H0 E).A.frames=some (envOfC qual scope s0.heap.objs.size f cd :: outer):=I.ok.frames
 have hL:(envOfC qual scope s0.heap.objs.size f cd).frame=some s0.heap.objs.size:=rfl
 show wpAny (model P w) _ (leaving (envOfC qual scope s0.heap.objs.size f cd) (.ref e)) _ _ s
 unfold leaving
 refine wpAny_bind (note fr1 I.stack hL x λh2 T st x2 hT=>?_)
 have I2:=I.excStepY st ny
 have nT:jW (jR (CX1 P w) P w K mg base N qual scope f cd A outer s0 H0 E) pins H T:=by
  rcases hT with z | z
  ·exact I.newAt rfl z
  ·exact ny T (List.mem_cons_of_mem e z)
 have ne:=ny e List.mem_cons_self
 have n2:∀ b ∈ [e,T],jW (jR (CX1 P w) P w K mg base N qual scope f cd A outer s0 H0 E) pins H b:=λb hb=>by
  rcases List.mem_cons.mp hb with z | z
  ·rw [z];exact ne
  ·rw [show b=T by simpa using z];exact nT
 refine yp (s:={ s with heap:=h2 }) (l:=envOfC qual scope s0.heap.objs.size f cd :: outer) I2.stack x2 λh3 st3 x3=>?_
 refine ⟨e,T,C,a0,H,rfl,I2.os,I2.bare,I2.base.stp st3 (λb o q hb=>?_) (λb hb=>?_) (λb hb=>(n2 b hb).ent),I2.hok.stp st3 I2.stkFree (λb hb=>(n2 b hb).unt),x3,ne.ent,nT.ent,ne.unt,nT.unt,q⟩
 ·rcases List.mem_cons.mp (I2.stkSub b hb) with z | z
  ·exact absurd (Nat.lt_of_lt_of_le (Heap.lt_size q) I2.ok.above) (by rw [z];exact Nat.lt_irrefl _)
  ·exact z
 ·show b ∈ frs (envOfC qual scope s0.heap.objs.size f cd :: outer)
  unfold frs
  rw [List.filterMap_cons]
  exact List.mem_cons_of_mem _ hb
theorem PSs.leaves {st:List Stmt} {t:TS} (h:PSs (cxE P w K mg base N qual scope f cd A outer s0 H0 E) st t):PSs (jR (CX1 P w) P w K mg base N qual scope f cd A outer s0 H0 E) st t:=λpins s σ H D I hw =>
 wpAny_mono (h pins s σ H D (I.wish _) hw) (λ_ _ q=>q.unwish) λ_ _ z=>uv z
theorem Fun.okE {x:Str} {st:Stmt} {fd:FuncData} {ps:List Str} {k:Nat} {sp:Sp} (F:Fun K x qual st f fd) (S:ay N ps (ao st)) (len:∀ vs H Q E,sp vs H Q E->vs.length=ps.length)
  (qI:∀ (cdv:Value) (A:Around) (outer:List Env) (s:Shared) (H:Hp) (vs:List V) (Q:VK) (E:XK),cI k (A.deeper (envOfC qual (ao st) s.heap.objs.size f cdv))->sp vs H Q E ->
   ∃ t,PSs (cxE P w K mg base N qual (ao st) f cdv A outer s H E) (iu st) t/\t { nx:=λ_ H'=>Q .non H',rt:=Q } (start N vs) H):aQ P w K mg base (CX1 P w) (k+1) f fd ps sp:=by
 obtain ⟨oc,od,kV,doc,pm,an,cdv,ct,osl,rfl,lk,hcd⟩:=F.ex
 refine ym lk hcd S len λA outer s H vs Q E hr hsp=>?_
 obtain ⟨t,h,q⟩:=qI cdv A outer s H vs Q E hr hsp
 exact ⟨t,h.leaves,q⟩
theorem uw {x:Str} {C:Addr} {np di pos:Pos} {e₀:Expr} {es:List Expr} {t:TA} (X:i7 K C) (hd:A.handled=none) (hg:Gl (cxE P w K mg base N qual scope f cd A outer s0 H0 E) x) (hm:mg x=some (.ref C))
  (ha:PA (cxE P w K mg base N qual scope f cd A outer s0 H0 E) (e₀ :: es) t) (hdb:(x == ("__debug__" : Str))=false:=by decide)
  (he:starEach (e₀ :: es) (envOfC qual scope s0.heap.objs.size f cd)=(false,eval e₀ (envOfC qual scope s0.heap.objs.size f cd)) :: starEach es (envOfC qual scope s0.heap.objs.size f cd):=by rfl)
  (hpl:(backTo di (starEach es (envOfC qual scope s0.heap.objs.size f cd))).any (·.1)=false:=by rfl) :
  PS (cxE P w K mg base N qual scope f cd A outer s0 H0 E) (.Raise (some (.Call (.Name x np) (e₀ :: es) [] di)) none pos) (zD C E t):=by
 intro pins s σ H D I h
 obtain ⟨bmB,bmN,newId,B,Bn,nid,vj,inN,hx,F1,F2,F3⟩:=X.ex
 obtain ⟨bm,N',nm,q,bs,hdct,sn,sub,ab,col,dd,k0,k1,k2,k3,k5,mN,o1,o2,o3,o4⟩:=i7.obj I.ok.mod.kin hx
 refine wpAny_Raise_call_subU (C:=C) (nm:=nm) (q:=q) (N:=N') (bs:=bs) (bm:=bm) (hdct:=hdct) (sn:=sn) (sub:=sub) (ab:=ab) (col:=col) (dd:=dd) (k0:=k0) (k1:=k1) (k2:=k2) (k3:=k3) (k5:=k5) F1 F2 F3 (OwnTail.hasType o4 F3.hasBase) hd (by
  show (backTo di (starEach (e₀ :: es) (envOfC qual scope s0.heap.objs.size f cd))).any (·.1)=false
  rw [he]
  show (false || (backTo di (starEach es (envOfC qual scope s0.heap.objs.size f cd))).any (·.1))=false
  rw [hpl];rfl) (mN:=mN) o3 (fW I hg hm ⟨rfl,?_⟩ hdb)
 show wpAny _ _ (evalArgs (.ref C) true (backTo di (starEach (e₀ :: es) (envOfC qual scope s0.heap.objs.size f cd))) []) _ _ s
 rw [he]
 refine Calls.evalArgs_plain ?_
 have z:wpAny (model P w) (cxE P w K mg base N qual scope f cd A outer s0 H0 E).A (spliced (backTo di (starEach (e₀ :: es) (envOfC qual scope s0.heap.objs.size f cd)))) _ _ s:=ha di pins s σ H _ I h
 rw [he] at z
 refine thn z λus s2 ⟨vs,H2,I2,r,hl,q2⟩=>⟨rfl,by rw [← r.length];exact hl,?_⟩
 refine ⟨I2.bk C _ o1,?_,o4.keeps I2.bk,λh' e m=>?_⟩
 ·obtain ⟨o,es',ep,g1,g2⟩:=o2
  exact ⟨o,es',ep,I2.bk _ _ g1,g2⟩
 ·have J:=I2.unwish
  obtain ⟨t',he',_,_⟩:=m.there
  refine ⟨e,C,.ref t',[],pins,σ,H2,rfl,J.kept (t':=s2.toks) m.keeps,.fresh he' rfl rfl rfl rfl,λb hb=>?_,q2⟩
  rw [show b=e by simpa using hb]
  exact J.newAt rfl m.new
theorem oA:Passes (CX1 P w) (cxE P w K mg base N qual scope f cd A outer s0 H0 E) E:=λpins σ H s ev s' I h=>by
 obtain ⟨e,T,C,a0,H',rfl,J,x,ne,nT,q⟩:=(I.unwish).afterX (EX:=λC H'=>E (.ref C) none H') rfl (λ_ _ z=>z) h
 refine ⟨e,C,a0,[T],pins,σ,H',rfl,J,.fly x,λb hb=>?_,q⟩
 rcases List.mem_cons.mp hb with z | z
 ·rw [z];exact ne
 ·rw [show b=T by simpa using z];exact nT
end
end L2
namespace L2
open PySem PySem.Spec PyProof.Rows
section
variable {X:Cx}
inductive vt (K:PySem.W.Frag) (x:V) (vs:List V) (H:Hp) (Q:VK):Prop
 | mk (p:Addr) (xs:List V) (y z:V) (j:Nat) (_:x=.ref p) (_:vs=[y]) (_:SqL K H p xs) (_:cn y=true) (_:xs.all cn=true) (_:xs[j]?=some z) (_:eqV z y=true) (_:(∀ (m:Nat) (u:V),m < j->xs[m]?=some u->eqV u y=false)) (_:Q (.int j) H):vt K x vs H Q
theorem qQ:MtM X "list.index" (vt X.K):=by
 intro pins s σ H x vs v us Q I rx rv h
 obtain ⟨p,xs,y,z,j,rfl,rfl,hS,fy,fs,ez,hz,hno,q⟩:=h
 obtain rfl:v=Value.ref p:=rx
 obtain ⟨u,rfl,ru⟩:=rv.one
 obtain ⟨its,r,pl,hsz⟩:=I.list hS
 have hl:=r.length
 have hj:j < xs.length:=(G7.mp ez).1
 have hle:xs.length < 2 ^ 62:=Nat.lt_of_le_of_lt hsz (by decide)
 obtain ⟨⟨c1,c2,c3,c4⟩,ho,hc,n,hd⟩:=pl.isList
 dsimp only at hc hd
 subst hc hd
 have at_:∀ (m:Nat) (hm:m < its.toArray.size) (w:V),xs[m]?=some w->cn w=true->eqU y its.toArray[m]=eqV w y:=λm hm w e f=>by
  obtain ⟨t,e1,e2⟩:=r.get e
  have:its.toArray[m]=t:=by
   have h2:its[m]?=some its.toArray[m]:=by
    have:m < its.length:=by simpa using hm
    simp
   rw [h2] at e1;exact Option.some.inj e1
  rw [this];exact rR e2 f
 have fl:∀ (m:Nat) (w:V),xs[m]?=some w->cn w=true:=λm w e=>List.all_eq_true.mp fs w (G8 e)
 refine call_meets PySem.F.slot_list_index ⟨_,ho,rfl⟩ PySem.F.entry_list_index (PySem.F.args_list_index_2 _ _) (SeqAt.list_indexAt p its.toArray n c2 c4 u (eqU y) j (by simpa [← hl] using hj) (by lia) ?_ λm hm hlt=>?_) ⟨ho,λt ht=>fG ru fy r fs t (by simpa using ht),⟨.int j,H,I.tok _,⟨_,rfl⟩,q⟩⟩
 ·rw [at_ j _ z ez (fl j z ez)];exact hz
 ·have e:xs[m]?=some xs[m]:=G6 (by lia)
  rw [at_ m hm _ e (fl m _ e)];exact hno m _ hlt e
theorem fh:dH X (.builtin "len") (λxs H Q=>∃ (l:Addr) (zs:List Str),xs=[.ref l]/\H l=some (ly X.prog X.w l zs)/\zs.length<=1000/\Q (.int ((cntK zs zs.length:Nat):Int)) H):=by
 intro pins s σ H xs us Q I r h
 obtain ⟨l,zs,rfl,e,hz,q⟩:=h
 obtain ⟨u,rfl,ru⟩:=r.one
 obtain rfl:u=Value.ref l:=ru
 obtain ⟨⟨o,es,ep,t,g1,g2,g3,_,_,_,g4,g5⟩,_,_⟩:=I.hok l _ e
 have le:=jY zs zs.length
 refine call_len_set g1 g2 g3 g4 (by rw [g5];lia) ⟨.int _,H,I.tok _,⟨_,rfl⟩,?_⟩
 rw [g5];exact q
end
def Dg (sp:Sp) (E:XK) (t:TA):TE:=λσ H Q=>t σ H λvs H1=>sp vs H1 Q E
section
variable {X:Cx} {k:Nat} {f C:Addr} {fd:FuncData} {ps:List Str} {sp:Sp} {x m:Str} {p np pos apos:Pos} {e o:Expr} {es:List Expr} {ta:TE} {t:TA} {E:XK}
theorem fi (M:CalleeX X.prog X.w X.K X.mg X.base k x ps sp) (hx:Passes (CX1 X.prog X.w) X E) (hr:cI k X.A) (hg:Gl X x) (ha:PA X (e :: es) t) (hdb:(x == ("__debug__" : Str))=false:=by decide)
  (he:starEach (e :: es) X.env=(false,eval e X.env) :: starEach es X.env:=by rfl) (hpl:(backTo pos (starEach es X.env)).any (·.1)=false:=by rfl):PE X (.Call (.Name x p) (e :: es) [] pos) (Dg sp E t):=by
 obtain ⟨f,fd,F,b,kk,hm⟩:=M
 intro pins s σ H Q I h
 refine wpAny_Call_Name_kw (fW I hg hm ?_ hdb)
 refine PySem.W.callWith_K (h₀:=X.base) I.ok.mod.kin kk (thn (ha pos pins s σ H _ I h) λus s1 ⟨vs,H1,I1,r,q⟩=>⟨I1.kIn,xr F hr b hx I1 r q⟩) he hpl
end
end L2
namespace L2
open PySem PySem.Spec PyProof.Rows
theorem jb:∀ {ns:List Int} {us:List Value},Vals (ns.map V.int) us->∃ xs:List (Int × Tok),us.toArray=intItems xs.toArray/\ns=xs.map (·.1)
 | [],_,.nil=>⟨[],by simp [intItems],rfl⟩
 | n :: ns,_,.cons ⟨t,e⟩ r=>by
  obtain ⟨xs,e1,e2⟩:=jb r
  refine ⟨(n,t) :: xs,?_,by rw [e2];rfl⟩
  subst e
  have e1':=congrArg Array.toList e1
  simp [intItems] at e1' ⊢
  exact e1'
section
variable {X:Cx}
theorem oB {xs:Array (Int × Tok)} {i:Nat} (h:i < xs.size):numAt xs i ∈ xs.toList.map (·.1):=by
 rw [numAt_eq];exact getD_mem (by rw [List.length_map,Array.length_toList];lia)
theorem fj (hc:X.calm=true):dH X (.builtin "min") (λus H Q=>∃ (a:Addr) (ns:List Int),us=[.ref a]/\SqL X.K H a (ns.map V.int)/\0 < ns.length/\∀ m,m ∈ ns->(∀ b ∈ ns,m<=b)->Q (.int m) H):=by
 intro pins s σ H us vs Q I r h
 obtain ⟨a,ns,rfl,hq,hne,q⟩:=h
 obtain ⟨u,rfl,rx⟩:=r.one
 cases (show u=Value.ref a from rx)
 obtain ⟨its,rv,pl,hz⟩:=I.list hq
 obtain ⟨xs,e1,e2⟩:=jb rv
 have hl:=pl.isList
 rw [e1] at hl
 have hsz:0 < xs.toArray.size:=by
  rw [e2,List.length_map] at hne;simpa using hne
 refine min_intList (I.ok.hd hc) hl hsz λv h' tk hv hk=>?_
 obtain ⟨t,rfl⟩:=intItems_at hv
 obtain ⟨h1,h2⟩:=argBest_lt (numAt xs.toArray) (xs.toArray.size - 1)
 refine ⟨.int _,H,I.kept (t':=tk) λb o e=>hk b o e,⟨t,rfl⟩,q _ ?_ λb hb=>?_⟩
 ·rw [e2];exact oB (xs:=xs.toArray) (by lia)
 ·rw [e2] at hb
  obtain ⟨j,hj,rfl⟩:=mem_getD hb
  rw [List.length_map] at hj
  have z:=h2 j (by simp;lia)
  rw [numAt_eq] at z ⊢
  rw [numAt_eq] at z
  simpa using z
theorem fm (hc:X.calm=true):dH X (.builtin "max") (λus H Q=>∃ (a:Addr) (ns:List Int),us=[.ref a]/\SqL X.K H a (ns.map V.int)/\0 < ns.length/\∀ m,m ∈ ns->(∀ b ∈ ns,b<=m)->Q (.int m) H):=by
 intro pins s σ H us vs Q I r h
 obtain ⟨a,ns,rfl,hq,hne,q⟩:=h
 obtain ⟨u,rfl,rx⟩:=r.one
 cases (show u=Value.ref a from rx)
 obtain ⟨its,rv,pl,hz⟩:=I.list hq
 obtain ⟨xs,e1,e2⟩:=jb rv
 have hl:=pl.isList
 rw [e1] at hl
 have hsz:0 < xs.toArray.size:=by
  rw [e2,List.length_map] at hne;simpa using hne
 refine max_intList (I.ok.hd hc) hl hsz λv h' tk hv hk=>?_
 obtain ⟨t,rfl⟩:=intItems_at hv
 obtain ⟨h1,h2⟩:=argBest_gt (numAt xs.toArray) (xs.toArray.size - 1)
 refine ⟨.int _,H,I.kept (t':=tk) λb o e=>hk b o e,⟨t,rfl⟩,q _ ?_ λb hb=>?_⟩
 ·rw [e2];exact oB (xs:=xs.toArray) (by lia)
 ·rw [e2] at hb
  obtain ⟨j,hj,rfl⟩:=mem_getD hb
  rw [List.length_map] at hj
  have z:=h2 j (by simp;lia)
  rw [numAt_eq] at z ⊢
  rw [numAt_eq] at z
  simpa using z
end
def xu (P:Program) (w:World) (a:Addr) (ns:List Int):HO:=.ext λh=>h.SetOf (intKind P w) a (λz=>decide (z ∈ ns)) (cntK ns ns.length)
section
variable {X:Cx}
theorem mD:∀ {zs:List Int} {us:List Value},Vals (zs.map V.int) us->∀ (i:Nat) (v:Value),us[i]?=some v->∃ z t,zs[i]?=some z/\v=.int z t
 | [],_,.nil,i,v,h=>by simp at h
 | z :: zs,_,.cons ⟨t,e⟩ r,0,v,h=>by simp at h;exact ⟨z,t,rfl,by rw [← h,e]⟩
 | z :: zs,_,.cons _ r,i+1,v,h=>by
  obtain ⟨z',t,e1,e2⟩:=mD r i v (by simpa using h)
  exact ⟨z',t,by simpa using e1,e2⟩
theorem nK (hc:X.calm=true):dH X (.type "set") (λxs H Q=>∃ (p:Addr) (zs:List Int),xs=[.ref p]/\SqL X.K H p (zs.map V.int)/\zs.length<=1000/\∀ l,H l=none->Q (.ref l) (upd H l (xu X.prog X.w l zs))):=by
 intro pins s σ H xs us Q I r h
 obtain ⟨p,zs,rfl,hS,hz,q⟩:=h
 obtain ⟨u,rfl,ru⟩:=r.one
 obtain rfl:u=Value.ref p:=ru
 obtain ⟨its,rv,pl,_⟩:=I.list hS
 have hl:=rv.length
 rw [List.length_map] at hl
 refine oy (knd:=intKind X.prog X.w) (ks:=zs) (I.ok.hd hc) pl.isList (λi v e=>?_) (by simpa using hl) (by unfold scanBound;simp;lia) λh' tk x=>?_
 ·obtain ⟨z,t,e1,rfl⟩:=mD rv i v (by simpa using e)
  exact ⟨z,e1,by show Value.isInt z (.int z t)=true;simp [Value.isInt],rfl⟩
 ·obtain ⟨x1,x2⟩:=x
  refine ⟨.ref s.heap.objs.size,_,I.laid (a:=s.heap.objs.size) (o:=xu X.prog X.w s.heap.objs.size zs) (h':=h') (t':=tk) (λb o q=>x2 b o (Heap.lt_size q) q) (Nat.le_refl _) ?_,rfl,q _ I.fresh⟩
  refine ⟨x1,?_,λh1 h2 y k=>fY y k⟩
  obtain ⟨o,_,_,_,g,_⟩:=x1
  exact ⟨o,g⟩
theorem nM:dH X (.builtin "len") (λxs H Q=>∃ (l:Addr) (zs:List Int),xs=[.ref l]/\H l=some (xu X.prog X.w l zs)/\zs.length<=1000/\Q (.int ((cntK zs zs.length:Nat):Int)) H):=by
 intro pins s σ H xs us Q I r h
 obtain ⟨l,zs,rfl,e,hz,q⟩:=h
 obtain ⟨u,rfl,ru⟩:=r.one
 obtain rfl:u=Value.ref l:=ru
 obtain ⟨⟨o,es,ep,t,g1,g2,g3,_,_,_,g4,g5⟩,_,_⟩:=I.hok l _ e
 have le:=jY zs zs.length
 refine call_len_set g1 g2 g3 g4 (by rw [g5];lia) ⟨.int _,H,I.tok _,⟨_,rfl⟩,?_⟩
 rw [g5];exact q
end
theorem qR {κ:Type} [DecidableEq κ] {k:κ} {ks:List κ} : ∀ i,i<=ks.length->1<=cntK (k :: ks) (i+1)/\(cntK (k :: ks) (i+1)=1↔∀ x ∈ ks.take i,x=k)
 | 0,_=>by simp [cntK]
 | i+1,h=>by
  obtain ⟨h1,h2⟩:=qR (k:=k) (ks:=ks) i (by lia)
  have e:(k :: ks)[i+1]?=some ks[i]:=by simp
  have e' : ks[i]?=some ks[i]:=G6 (by lia)
  have et:ks.take (i+1)=ks.take i ++ [ks[i]]:=by rw [List.take_add_one,e'];rfl
  have e2:(k :: ks).take (i+1)=k :: ks.take i:=rfl
  rw [show cntK (k :: ks) (i+1+1)=match (k :: ks)[i+1]? with
   | some x=>if x ∈ (k :: ks).take (i+1) then cntK (k :: ks) (i+1) else cntK (k :: ks) (i+1)+1
   | none=>cntK (k :: ks) (i+1) from rfl,e,et,e2]
  dsimp only
  by_cases m:ks[i] ∈ k :: ks.take i
  ·rw [if_pos m]
   refine ⟨h1,h2.trans ⟨λz x hx=>?_,λz x hx=>z x (List.mem_append_left _ hx)⟩⟩
   rcases List.mem_append.mp hx with hx | hx
   ·exact z x hx
   ·have:x=ks[i]:=by simpa using hx
    rw [this]
    rcases List.mem_cons.mp m with m | m
    ·exact m
    ·exact z _ m
  ·rw [if_neg m]
   refine ⟨by lia,⟨λz=>absurd z (by lia),λz=>?_⟩⟩
   exact absurd (z ks[i] (List.mem_append_right _ (by simp))) λq=>m (by rw [q];exact List.mem_cons_self)
theorem oC {κ:Type} [DecidableEq κ] {k:κ} {ks:List κ} : cntK (k :: ks) (k :: ks).length=1↔∀ x ∈ ks,x=k:=by
 have:=(qR (k:=k) (ks:=ks) ks.length (Nat.le_refl _)).2
 rw [List.take_length] at this
 exact this
end L2
namespace L2
open PySem PySem.Spec PyProof.Rows
section
variable {X:Cx}
end
end L2
namespace L2
open PySem PySem.Spec PyProof.Rows
def TyG (K:PySem.W.Frag) (H:Hp) (x:V) (t:Value):Prop:=kE K H x t\/∃ a ys,x=.ref a/\SqT K H a ys/\t=.type "tuple"
inductive ClV:V->Value->Prop where
 | ty (T:String):ClV (.ty T) (.type T)
 | ref (C:Addr):ClV (.ref C) (.ref C)
section
variable {X:Cx}
theorem cU:dH X (.builtin "isinstance") (λxs H Q=>∃ x c cv t b,xs=[x,c]/\ClV c cv/\TyG X.K H x t/\PySem.W.kitOne X.K t cv=some b/\Q (.bl b) H):=by
 intro pins s σ H xs us Q I r h
 obtain ⟨x,c,cv,t,b,rfl,rc,ty,e,q⟩:=h
 cases r with
 | cons rx r2 =>
  cases r2 with
  | @cons _ cu _ _ ry r3 =>
   cases r3
   have ec:cu=cv:=by cases rc <;> exact ry
   subst ec
   rcases ty with ty | ⟨a,ys,rfl,hS,rfl⟩
   ·exact uk I rx ty e λtk=>⟨.bl b,H,I.tok tk,rfl,q⟩
   ·cases (show _=Value.ref a from rx)
    obtain ⟨its,r,⟨o,h1,h2,_⟩,_⟩:=I.tuple hS
    exact PySem.W.kia_one PySem.W.kitx_tuple I.kIn ⟨o,h1,h2⟩ e (λz=>nomatch z) λtk=>⟨.bl b,H,I.tok tk,rfl,q⟩
end
structure lz (K:PySem.W.Frag) (C:Addr):Prop where
 cl:Cls K C
 ha:PySem.W.findIn K (.ref C) "__class__" = some (some (.builtin "object.__class__"))
 hn:PySem.W.specialIn K (.builtin "object.__class__") "__get__" = some (some (.builtin "getset_descriptor.__get__"))
 tk:PySem.W.takesIn K (.builtin "object.__class__")=some true
 hm:PySem.W.mroIn K C (.type "object")=some true
theorem lz.ty {K:PySem.W.Frag} {C:Addr} (h:lz K C) {H:Hp} {a dx:Addr} {fs:List (Str × V)} (e:H a=some (.ins C dx fs)):TyG K H (.ref a) (.ref C):=.inl (.ins e h.cl h.ha h.hn h.tk h.hm)
def xv (CX:CXT) (P:Program) (w:World) (K:PySem.W.Frag) (mg:Str->Option Value) (base:Heap) (k:Nat) (m:Str) (ps:List Str) (cs:List (Addr × Sp)):Prop :=
 ∀ p ∈ cs,MCallee CX P w K mg base k p.1 m ps p.2/\Cls K p.1
section
variable {CX:CXT} {P:Program} {w:World} {K:PySem.W.Frag} {mg:Str->Option Value} {base:Heap} {k:Nat} {C:Addr} {m:Str} {ps:List Str} {sp:Sp} {cs:List (Addr × Sp)}
theorem zI:xv CX P w K mg base k m ps []:=λ_ h=>nomatch h
theorem nN (M:MCallee CX P w K mg base k C m ps sp) (c:Cls K C) (r:xv CX P w K mg base k m ps cs):xv CX P w K mg base k m ps ((C,sp) :: cs):=λp h=>by
 rcases List.mem_cons.mp h with rfl | h
 ·exact ⟨M,c⟩
 ·exact r p h
end
inductive yq (cs:List (Addr × Sp)) (m:Str) (t:TA) (σ:St) (Q:VK) (x:V) (H1:Hp):Prop
 | mk (a p dx fs:_) (_:x=.ref a) (_:p ∈ cs) (_:H1 a=some (.ins p.1 dx fs)) (_:fs.lookup m=none) (_:t σ H1 λvs H2=>p.2 (x :: vs) H2 Q E0):yq cs m t σ Q x H1
def Dh (cs:List (Addr × Sp)) (m:Str) (ta:TE) (t:TA):TE:=λσ H Q=>ta σ H λx H1=>yq cs m t σ Q x H1
section
variable {X:Cx} {CX:CXT} {k:Nat} {f C:Addr} {fd:FuncData} {ps:List Str} {sp:Sp} {x m:Str} {p np pos apos:Pos} {e o:Expr} {es:List Expr} {ta:TE} {t:TA} {cs:List (Addr × Sp)}
theorem rX {pl:Sem Bool} (M:xv CX X.prog X.w X.K X.mg X.base k m ps cs) (hx:Passes CX X E0) (hr:cI k X.A) (he:PE X o ta) (ha:PA X (e :: es) t)
  (hst:starEach (e :: es) X.env=(false,eval e X.env) :: starEach es X.env:=by rfl) (hpl:(backTo pos (starEach es X.env)).any (·.1)=false:=by rfl)
  (ht:eval (.Call (.Attribute o m apos) (e :: es) [] pos) X.env=(do
   let ov ← eval o X.env
   standAt apos.atName
   let (f,first) ← holding [ov] (getMethod ov m pl)
   callWith pos f first (backTo pos (starEach (e :: es) X.env)) (backToKw pos (keywordEach [] X.env))):=by rfl) :
  PE X (.Call (.Attribute o m apos) (e :: es) [] pos) (Dh cs m ta t):=by
 intro pins s σ H Q I h
 refine PySem.W.methodCall_KW (pl:=pl) (thn (he pins s σ H _ I h) λu s1 ⟨x,H1,I1,rx,a,p,dx,fs,ex,hp,ea,l,q⟩=>?_) ht
 obtain ⟨⟨f,fd,hm,F,hb⟩,c⟩:=M p hp
 subst ex
 obtain rfl:u=Value.ref a:=rx
 refine mh I1 ea c hm l ?_
 refine PySem.W.callWith_K (first:=[.ref a]) (h₀:=X.base) I.ok.mod.kin hm.kp (thn (ha pos pins s1 σ H1 _ I1 q) λus s2 ⟨vs,H2,I2,r,q2⟩=>⟨I2.kIn,?_⟩) hst hpl
 exact xr (us:=.ref a :: us) (vs:=.ref a :: vs) F hr hb hx I2 (.cons rfl r) q2
theorem kH (M:MkCallee CX X.prog X.w X.K X.mg X.base k x C ps sp) (hx:Passes CX X E0) (hr:cI (k+1) X.A) (hg:Gl X x) (hdb:(x == ("__debug__" : Str))=false:=by decide) :
  PE X (.Call (.Name x p) [] [] pos) (tMk C sp zt):=by
 obtain ⟨f,fd,M,F,hb,hm⟩:=M
 have h:=uZ (E:=E0) (dvs:=[]) (ds:=[]) (p:=p) (pos:=pos) M F hr hg hm hb .nil hx hdb
 intro pins s σ H Q I q
 exact h pins s σ H Q I q
end
def ModT (K:PySem.W.Frag) (a:Addr) (xs:List V):Prop:=∃ (o:Obj) (its:Array Value) (n:Nat),K.lookup a=some o/\o.cls=.type "tuple" /\ o.data=.seq its n/\its.size<=sizeLine/\Vals xs its.toList
theorem ModT.sq {K:PySem.W.Frag} {a:Addr} {xs:List V} (h:ModT K a xs) (H:Hp):SqT K H a xs:=.inr h
theorem ModT.mk {K:PySem.W.Frag} {a:Addr} {xs:List V} {od:Option Addr} {its:Array Value} {n:Nat} {sl:Array (Option Value)} (h:K.lookup a=some ⟨.type "tuple",od,.seq its n,sl⟩) (hs:its.size<=sizeLine) (hv:Vals xs its.toList):ModT K a xs :=
 ⟨_,its,n,h,rfl,rfl,hs,hv⟩
end L2
namespace L2
open PySem PySem.Spec PyProof.Rows
theorem aq.seqT {K:PySem.W.Frag} {H H' : Hp} {a:Addr} {xs:List V} (e:aq H H') (h:SqT K H a xs):SqT K H' a xs:=by
 rcases h with (h | ⟨o,h⟩) | h
 ·exact .inl (.inl (e _ _ h))
 ·exact .inl (.inr ⟨o,e _ _ h⟩)
 ·exact .inr h
theorem oE {K:PySem.W.Frag} {H:Hp} {Q:VK} {a b:Addr} {xs:List V} (ha:SqL K H a xs) (hb:SqL K H b xs) (fl:∀ x ∈ xs,cn x=true\/∃ r,x=.ref r) (q:Q (.bl true) H):vc K false (.ref a) (.ref b) H Q:=by
 refine ⟨a,b,xs,xs,rfl,rfl,ha,hb,.inr ⟨rfl,λ_=>true,λj x y e1 e2=>?_,?_⟩⟩
 ·rw [e1] at e2;cases e2
  rcases fl x (G8 e1) with z | ⟨r,rfl⟩
  ·have:=EqI.flat (K:=K) (H:=H) z z
   rw [jU z] at this
   exact this
  ·exact .same r
 ·have:(List.range xs.length).all (λ_=>true)=true:=by simp
  rw [this]
  exact q
theorem de {c A B:Prop} [Decidable c] (hc:c) (h:A):if decide c=true then A else B:=by rw [if_pos (decide_eq_true hc)];exact h
theorem bM {c A B:Prop} [Decidable c] (hc:¬ c) (h:B):if decide c=true then A else B:=by rw [if_neg (by rw [decide_eq_false hc];decide)];exact h
end L2
namespace L2
open PySem PySem.Spec PyProof.Rows
section
variable {X:Cx} {pins:List (Addr × Obj)} {σ:St} {H:Hp} {s:Shared} {h' : Heap}
theorem Inv.turnedPair {ch:List Addr} {T:Addr} {x y:V} {u v:Value} (I:Inv X pins σ H s) (hf:∀ b ∈ ch,kA X pins H b) (k:∀ b o,b ∉ ch->s.heap.get? b=some o->h'.get? b=some o)
  (nT:s.heap.get? T=none) (hT:H T=none) (gT:IsPair h' T u v) (rx:RelV x u) (ry:RelV y v):Inv X pins σ (upd H T (.tup [x,y])) { s with heap:=h' }:=by
 have out:∀ b u,H b=some u->b ∉ ch:=λb u e z=>by
  have f:=(hf b z).1
  rw [f] at e
  cases e
 have neT:∀ {b o},s.heap.get? b=some o->b ≠ T:=λe z=>by rw [z,nT] at e;cases e
 have neH:∀ {b u},H b=some u->b ≠ T:=λe z=>by rw [z,hT] at e;cases e
 have J:=Inv.step (H':=upd H T (.tup [x,y])) (h':=h') (g':=s.gens) (d':=s.drawn) (t':=s.toks) (ch:=ch) I
  (λb hb=>by obtain ⟨_,f1,_,f3,f4,f5⟩:=hf b hb;exact ⟨f3,f1,f4,f5⟩)
  (λb o _ _ hc e _=>k b o hc e)
  (λb o _ _ hc e _=>⟨o.slots,k b o hc e⟩)
  (λb o _ e n=>by rw [av (neT e)];exact n)
  (λb o hc e=>⟨o,k b o hc e⟩)
  (λb xs e=>by rw [av (neH e)];exact e)
  (λb o w e=>by rw [av (neH e)];exact e)
  (λb ps e=>⟨#[],by rw [av (neH e),e];simp⟩)
  (λm hm=>by
   obtain ⟨o,es,ep,ho,r⟩:=hm
   refine ⟨o,es,ep,k _ o (λz=>?_) ho,r⟩
   obtain ⟨_,f1,_⟩:=hf _ z
   exact f1 rfl)
  (λb w e=>by
   by_cases hb:b=T
   ·subst hb
    rw [af] at e
    cases e
    exact ⟨by show 2<=sizeLine;decide,[u,v],.cons rx (.cons ry .nil),_,gT,rfl,_,rfl⟩
   ·rw [av hb] at e
    refine (I.hok b w e).stay (λc z hc q=>k c z ?_ q) (λc q=>?_) λc xs q=>?_
    ·rcases hc with z | z
     ·rw [z];exact out b w e
     ·exact out c _ z
    ·rw [av (neH q)];exact q
    ·rw [av (neH q)];exact q)
  I.bare
 exact J
theorem Inv.turnedL {ch:List Addr} (I:Inv X pins σ H s) (hf:∀ b ∈ ch,kA X pins H b) (k:∀ b o,b ∉ ch->s.heap.get? b=some o->h'.get? b=some o):Inv X pins σ H { s with heap:=h' }:=by
 have out:∀ b u,H b=some u->b ∉ ch:=λb u e z=>by
  have f:=(hf b z).1
  rw [f] at e
  cases e
 have J:=Inv.step (H':=H) (h':=h') (g':=s.gens) (d':=s.drawn) (t':=s.toks) (ch:=ch) I
  (λb hb=>by obtain ⟨_,f1,_,f3,f4,f5⟩:=hf b hb;exact ⟨f3,f1,f4,f5⟩)
  (λb o _ _ hc e _=>k b o hc e)
  (λb o _ _ hc e _=>⟨o.slots,k b o hc e⟩)
  (λb o _ _ n=>n)
  (λb o hc e=>⟨o,k b o hc e⟩)
  (λb xs e=>e) (λb o w e=>e) (λb ps e=>⟨#[],by rw [e];simp⟩)
  (λm hm=>by
   obtain ⟨o,es,ep,ho,r⟩:=hm
   refine ⟨o,es,ep,k _ o (λz=>?_) ho,r⟩
   obtain ⟨_,f1,_⟩:=hf _ z
   exact f1 rfl)
  (λb w e=>by
   refine (I.hok b w e).stay (λc z hc q=>k c z ?_ q) (λc q=>q) λc xs q=>q
   rcases hc with z | z
   ·rw [z];exact out b w e
   ·exact out c _ z)
  I.bare
 exact J
end
def Itz (K:PySem.W.Frag) (a b:Addr):It :=
 ⟨λi H=>∃ xs ys x y,SqL K H a xs/\SqL K H b ys/\xs[i]?=some x/\ys[i]?=some y,
 λi H v H'=>∃ T,H T=none/\v=.ref T/\∀ xs ys x y,SqL K H a xs->SqL K H b ys->xs[i]?=some x->ys[i]?=some y->H'=upd H T (.tup [x,y]),
 λi H=>∃ xs ys,SqL K H a xs/\SqL K H b ys/\(xs.length<=i\/ys.length<=i)⟩
def yr (z TI TO i1 i2 a b:Addr) (i:Nat) (h:Heap):Prop:=IsZip h z TI TO .none/\IsPair h TI (.ref i1) (.ref i2)/\(∃ p q,IsPair h TO p q)/\h.IsListIter i1 a i/\h.IsListIter i2 b i
theorem vw {P:Program} {w:World} {K:PySem.W.Frag} {elts:List Expr} {x1} {tp:Pos} {z TI TO i1 i2 a b:Addr} (D:ZipApart z TI TO i1 i2 a b) :
  Turn P w K (.Tuple elts x1 tp) (Itz K a b) [z,TI,TO,i1,i2] z (yr z TI TO i1 i2 a b) where
 mem:=by simp
 obj:=λi h st c hc=>by
  obtain ⟨g1,g2,⟨p,q,g3⟩,⟨o4,g4,_,d4⟩,⟨o5,g5,_,d5⟩⟩:=st
  simp only [List.mem_cons,List.not_mem_nil,or_false] at hc
  rcases hc with rfl | rfl | rfl | rfl | rfl
  ·exact ⟨_,g1,λv q=>nomatch q⟩
  ·exact ⟨_,g2,λv q=>nomatch q⟩
  ·exact ⟨_,g3,λv q=>nomatch q⟩
  ·exact ⟨_,g4,λv q=>by rw [d4] at q;cases q⟩
  ·exact ⟨_,g5,λv q=>by rw [d5] at q;cases q⟩
 keep:=λi h h' st k=>by
  obtain ⟨g1,g2,⟨p,q,g3⟩,g4,g5⟩:=st
  exact ⟨k z (by simp) _ g1,k TI (by simp) _ g2,⟨p,q,k TO (by simp) _ g3⟩,g4.at λo e=>k i1 (by simp) o e,g5.at λo e=>k i2 (by simp) o e⟩
 item:=by
  intro X hP hw hK hc i pins s σ H E I hf st hg
  subst hP hw hK
  obtain ⟨xs,ys,x,y,qa,qb,ex,ey⟩:=hg
  obtain ⟨g1,g2,⟨p,q,g3⟩,g4,g5⟩:=st
  obtain ⟨us,ru,pu,_⟩:=I.list qa
  obtain ⟨vs,rv,pv,_⟩:=I.list qb
  obtain ⟨u,eu,r1⟩:=ru.get ex
  obtain ⟨v,ev,r2⟩:=rv.get ey
  refine wpAny_pyNext_zip_item D g1 g2 g3 g4 g5 pu.isList pv.isList (x:=u) (y:=v) (by simpa using eu) (by simpa using ev) λh1 a1 a2 a3 a4 a5 a6 a7=>?_
  refine ⟨_,rfl,wpAny_letOwnedTupleGo_zip (s:={ s with heap:=h1 }) a1 λh2 b1 b2=>?_⟩
  have nT:s.heap.get? s.heap.objs.size=none:=by
   cases q:s.heap.get? s.heap.objs.size with
   | none=>rfl
   | some o=>exact absurd (Heap.lt_size q) (Nat.lt_irrefl _)
  have hT:H s.heap.objs.size=none:=I.hok.fresh (Nat.le_refl _)
  have nz:s.heap.objs.size ≠ z:=Nat.ne_of_gt (Heap.lt_size g1)
  have kk:∀ c o,c ∉ [z,TO,i1,i2]->s.heap.get? c=some o->h2.get? c=some o:=λc o hc e=>by
   simp only [List.mem_cons,List.not_mem_nil,or_false,not_or] at hc
   exact b2.extBut _ _ hc.1 (a7 c o hc.1 hc.2.1 hc.2.2.1 hc.2.2.2 e)
  have J:=I.turnedPair (h':=h2) (ch:=[z,TO,i1,i2]) (T:=s.heap.objs.size) (x:=x) (y:=y) (u:=u) (v:=v) (λc hc=>hf c (by simp at hc ⊢;rcases hc with e | e | e | e <;> simp [e])) kk nT hT (b2.extBut _ _ nz a5) r1 r2
  refine ⟨.ref s.heap.objs.size,upd H s.heap.objs.size (.tup [x,y]),J,rfl,⟨_,hT,rfl,λxs' ys' x' y' q1 q2 e1 e2=>?_⟩,⟨b1,b2.extBut _ _ D.TIz (a7 TI _ D.TIz D.TITO D.TIi1 D.TIi2 g2),⟨_,_,b2.extBut _ _ D.TOz a2⟩,a3.extBut b2.extBut D.i1z,a4.extBut b2.extBut D.i2z⟩,λc hc=>?_⟩
  ·rw [I.list_inj q1 qa] at e1
   rw [I.list_inj q2 qb] at e2
   rw [ex] at e1;rw [ey] at e2
   cases e1;cases e2
   rfl
  ·have h0:=(hf c hc).1
   have:c ≠ s.heap.objs.size:=by
    obtain ⟨o4,g4',_⟩:=g4
    obtain ⟨o5,g5',_⟩:=g5
    simp only [List.mem_cons,List.not_mem_nil,or_false] at hc
    rcases hc with rfl | rfl | rfl | rfl | rfl
    ·exact nz.symm
    ·exact Nat.ne_of_lt (Heap.lt_size g2)
    ·exact Nat.ne_of_lt (Heap.lt_size g3)
    ·exact Nat.ne_of_lt (Heap.lt_size g4')
    ·exact Nat.ne_of_lt (Heap.lt_size g5')
   rw [av this];exact h0
 done:=by
  intro X hP hw hK hc i pins s σ H E I hf st hg
  subst hP hw hK
  obtain ⟨xs,ys,qa,qb,hl⟩:=hg
  obtain ⟨g1,g2,⟨p,q,g3⟩,g4,g5⟩:=st
  obtain ⟨us,ru,pu,_⟩:=I.list qa
  obtain ⟨vs,rv,pv,_⟩:=I.list qb
  have l1:=ru.length
  have l2:=rv.length
  refine wpAny_pyNext_zip_end (I.ok.hd hc) D g1 g2 g3 g4 g5 pu.isList pv.isList ?_ λh2 k=>⟨rfl,I.turnedL (ch:=[z,TO,i1,i2]) (λc hc=>hf c (by simp at hc ⊢;rcases hc with e | e | e | e <;> simp [e])) λc o hc e=>?_⟩
  ·rcases hl with hl | hl
   ·exact .inl (by simp;lia)
   ·exact .inr (by simp;lia)
  ·simp only [List.mem_cons,List.not_mem_nil,or_false,not_or] at hc
   exact k c o hc.1 hc.2.1 hc.2.2.1 hc.2.2.2 e
 self:=λ_ _ _ _ _ st h=>wpAny_pyIter_zip st.1 h
inductive yt (K:PySem.W.Frag) (R:It->Hp->Prop) (vs:List V) (H1:Hp):Prop
 | mk (a b:_) (_:vs=[.ref a,.ref b]) (_:(∃ xs,SqL K H1 a xs)) (_:(∃ ys,SqL K H1 b ys)) (_:R (Itz K a b) H1):yt K R vs H1
def Di (K:PySem.W.Frag) (ta:TA):TI:=λσ H R=>ta σ H λvs H1=>yt K R vs H1
section
variable {X:Cx}
theorem rY {e1 e2:Expr} {ta:TA} {p pos:Pos} {elts:List Expr} {x1} {tp:Pos} (hg:Gl X "zip") (hm:X.mg "zip" = none) (ha:PA X [e1,e2] ta)
  (hs:starEach [e1,e2] X.env=[(false,eval e1 X.env),(false,eval e2 X.env)]:=by rfl) (hs2:starEach [e2] X.env=[(false,eval e2 X.env)]:=by rfl) :
  PI X (.Tuple elts x1 tp) (.Call (.Name "zip" p) [e1,e2] [] pos) (Di X.K ta):=by
 intro pins s σ H R I h
 refine Call_ (i3 I hg hm PyProof.Rows.boot_zip (PyProof.Rows.callWith_type1 (thn (ha pos pins s σ H _ I h) λus s1 ⟨vs,H1,I1,r1,q1⟩=>?_) (by rw [hs,hs2]) (by rw [hs2];rfl)))
 obtain ⟨a,b,rfl,⟨xs,qa⟩,⟨ys,qb⟩,q⟩:=q1
 obtain ⟨u,v,rfl,ru,rv⟩:=r1.two
 cases (show u=Value.ref a from ru)
 cases (show v=Value.ref b from rv)
 obtain ⟨us,_,pu,_⟩:=I1.list qa
 obtain ⟨vs,_,pv,_⟩:=I1.list qb
 obtain ⟨oa,ea,_⟩:=id pu.isList
 obtain ⟨ob,eb,_⟩:=id pv.isList
 have la:a < s1.heap.objs.size:=Heap.lt_size ea
 have lb:b < s1.heap.objs.size:=Heap.lt_size eb
 refine call_zip_2 pu.isList pv.isList λh' z1 z2 z3 z4 z5 z6 z7=>?_
 refine wpAny_pyIter_zip (s:={ s1 with heap:=h' }) z1 ?_
 refine ⟨s1.heap.objs.size+4,[s1.heap.objs.size+4,s1.heap.objs.size+2,s1.heap.objs.size+3,s1.heap.objs.size,s1.heap.objs.size+1],yr (s1.heap.objs.size+4) (s1.heap.objs.size+2) (s1.heap.objs.size+3) s1.heap.objs.size (s1.heap.objs.size+1) a b,Itz X.K a b,H1,rfl,I1.kept (t':=s1.toks) z7,vw ?_,⟨z1,z2,⟨_,_,z3⟩,z4,z5⟩,λc hc=>?_,q⟩
 ·refine ⟨?_,?_,?_,?_,?_,?_,?_,?_,?_,?_,?_,?_,?_,?_,?_,?_,?_,?_⟩ <;> first | exact Nat.ne_of_lt (by lia) | exact Nat.ne_of_gt (by lia) | exact Nat.ne_of_lt la | exact Nat.ne_of_lt lb | exact Nat.ne_of_lt (Nat.lt_of_lt_of_le la (Nat.le_add_right _ _)) | exact Nat.ne_of_lt (Nat.lt_of_lt_of_le lb (Nat.le_add_right _ _))
 ·have hc' : s1.heap.objs.size<=c:=by
   simp only [List.mem_cons,List.not_mem_nil,or_false] at hc
   rcases hc with rfl | rfl | rfl | rfl | rfl <;> lia
  exact I1.fpOk hc' (I1.hok.fresh hc')
end
theorem ph {K:PySem.W.Frag} {a b:Addr} {xs ys:List V} {g:TG} {tb:TS} {D:Ends} {σ:St} {H:Hp} (Pv:Nat->St->Hp->Prop) (h0:Pv 0 σ H) (hl:∀ i σ H,Pv i σ H->SqL K H a xs/\SqL K H b ys)
  (hs:∀ i x y σ H T,xs[i]?=some x->ys[i]?=some y->Pv i σ H->H T=none->g (.ref T) σ (upd H T (.tup [x,y])) λσ2 H2=>tb { D with nx:=Pv (i+1),ct:=Pv (i+1),bk:=D.nx } σ2 H2)
  (hd:∀ σ H,Pv (min xs.length ys.length) σ H->D.nx σ H) :
  ∃ W:Nat->Nat->St->Hp->Prop,(∃ m,W 0 m σ H)/\∀ i m σ H,W i m σ H ->
   ((Itz K a b).stop i H/\D.nx σ H)\/((Itz K a b).go i H/\∃ N:St->Hp->Prop,(∀ σ' H',N σ' H'->∃ m',m' < m/\W (i+1) m' σ' H')/\∀ x H',(Itz K a b).yld i H x H'->g x σ H' λσ2 H2=>tb { D with nx:=N,ct:=N,bk:=D.nx } σ2 H2):=by
 refine ⟨λi m σ H=>m=min xs.length ys.length - i/\i<=min xs.length ys.length/\Pv i σ H,⟨min xs.length ys.length,by simp,Nat.zero_le _,h0⟩,?_⟩
 rintro i m σ H ⟨rfl,hi,p⟩
 obtain ⟨q1,q2⟩:=hl i σ H p
 by_cases lt:i < min xs.length ys.length
 ·have e1:xs[i]?=some xs[i]:=G6 (by lia)
  have e2:ys[i]?=some ys[i]:=G6 (by lia)
  refine .inr ⟨⟨xs,ys,_,_,q1,q2,e1,e2⟩,Pv (i+1),λσ' H' p'=>⟨_,?_,rfl,lt,p'⟩,λv H' yl=>?_⟩
  ·lia
  ·obtain ⟨T,hT,rfl,e⟩:=yl
   rw [e xs ys _ _ q1 q2 e1 e2]
   exact hs i _ _ σ H T e1 e2 p hT
 ·have e:i=min xs.length ys.length:=by lia
  subst e
  exact .inl ⟨⟨xs,ys,q1,q2,by lia⟩,hd σ H p⟩
end L2
namespace L2
open PySem PySem.Spec PyProof.Rows
section
variable {X:Cx}
end
end L2
namespace L2
open PySem PySem.Spec PyProof.Rows
theorem iY {X:Cx} {K:PySem.W.Frag} (h:X.K=K):dH X (.type "list") (λxs H Q=>∃ p ys,xs=[.ref p]/\(SqL K H p ys\/SqT K H p ys)/\∀ l,H l=none->Q (.ref l) (upd H l (.lst ys))):=h ▸ cR
end L2
namespace L2
open PySem
set_option maxRecDepth 100000
section
variable {prog:Program} {w:World} {A:Around} {E:Value->Shared->Prop} {s:Shared}
end
section
variable {prog:Program} {w:World} {A:Around} {R:Result->Shared->Prop} {E:Value->Shared->Prop}
end
end L2
namespace L2
open PySem
set_option maxRecDepth 100000
section
variable {prog:Program} {w:World} {A:Around} {E:Value->Shared->Prop} {s:Shared}
end
end L2
namespace L2
open PySem PySem.Spec PyProof.Rows
set_option maxRecDepth 100000
section
variable {prog:Program} {w:World} {A:Around} {E:Value->Shared->Prop} {s:Shared}
end
section
variable {X:Cx} {pins:List (Addr × Obj)} {σ:St} {H H' : Hp} {s:Shared}
end
section
variable {X:Cx}
end
end L2
namespace L2
open PySem PySem.Spec PyProof.Rows
def Ite (K:PySem.W.Frag) (a:Addr):It :=
 ⟨λi H=>∃ xs x,SqL K H a xs/\xs[i]?=some x,
 λi H v H'=>∃ T,H T=none/\v=.ref T/\∀ xs x,SqL K H a xs->xs[i]?=some x->H'=upd H T (.tup [.int i,x]),
 λi H=>∃ xs,SqL K H a xs/\xs.length<=i⟩
def vx (e it a:Addr) (i:Nat) (h:Heap):Prop:=(∃ old,IsEnum h e it i old)/\h.IsListIter it a i
theorem ux {P:Program} {w:World} {K:PySem.W.Frag} {elts:List Expr} {x1} {tp:Pos} {e it a:Addr} (hne:e ≠ it) :
  Turn P w K (.Tuple elts x1 tp) (Ite K a) [e,it] e (vx e it a) where
 mem:=by simp
 obj:=λi h st c hc=>by
  obtain ⟨⟨old,g1⟩,⟨o2,g2,_,d2⟩⟩:=st
  simp only [List.mem_cons,List.not_mem_nil,or_false] at hc
  rcases hc with rfl | rfl
  ·exact ⟨_,g1,λv q=>nomatch q⟩
  ·exact ⟨_,g2,λv q=>by rw [d2] at q;cases q⟩
 keep:=λi h h' st k=>by
  obtain ⟨⟨old,g1⟩,g2⟩:=st
  exact ⟨⟨old,k e (by simp) _ g1⟩,g2.at λo q=>k it (by simp) o q⟩
 item:=by
  intro X hP hw hK hc i pins s σ H E I hf st hg
  subst hP hw hK
  obtain ⟨xs,x,qa,ex⟩:=hg
  obtain ⟨⟨old,g1⟩,g2⟩:=st
  obtain ⟨us,ru,pu,_⟩:=I.list qa
  obtain ⟨u,eu,r1⟩:=ru.get ex
  refine wpAny_pyNext_enum_item g1 g2 pu.isList (x:=u) (by simpa using eu) hne λh1 a1 a2 a3 a4 a5=>?_
  refine ⟨_,rfl,wpAny_letOwnedTupleGo_enum (s:={ s with heap:=h1,toks:=s.toks+1 }) a1 λh2 b1 b2=>?_⟩
  have nT:s.heap.get? s.heap.objs.size=none:=by
   cases q:s.heap.get? s.heap.objs.size with
   | none=>rfl
   | some o=>exact absurd (Heap.lt_size q) (Nat.lt_irrefl _)
  have hT:H s.heap.objs.size=none:=I.hok.fresh (Nat.le_refl _)
  have nz:s.heap.objs.size ≠ e:=Nat.ne_of_gt (Heap.lt_size g1)
  have kk:∀ c o,c ∉ [e,it]->s.heap.get? c=some o->h2.get? c=some o:=λc o hc q=>by
   simp only [List.mem_cons,List.not_mem_nil,or_false,not_or] at hc
   exact b2.extBut _ _ hc.1 (a5 c o hc.1 hc.2 q)
  have J:=I.turnedPair (h':=h2) (ch:=[e,it]) (T:=s.heap.objs.size) (x:=.int i) (y:=x) (u:=.int i s.toks) (v:=u) (λc hc=>hf c (by simp at hc ⊢;rcases hc with q | q <;> simp [q])) kk nT hT (b2.extBut _ _ nz a3) ⟨_,rfl⟩ r1
  refine ⟨.ref s.heap.objs.size,upd H s.heap.objs.size (.tup [.int i,x]),J.tok _,rfl,⟨_,hT,rfl,λxs' x' q1 e1=>?_⟩,⟨⟨_,b1⟩,a2.extBut b2.extBut hne.symm⟩,λc hc=>?_⟩
  ·rw [I.list_inj q1 qa,ex] at e1
   cases e1
   rfl
  ·have h0:=(hf c hc).1
   have:c ≠ s.heap.objs.size:=by
    obtain ⟨o2,g2',_⟩:=g2
    simp only [List.mem_cons,List.not_mem_nil,or_false] at hc
    rcases hc with rfl | rfl
    ·exact nz.symm
    ·exact Nat.ne_of_lt (Heap.lt_size g2')
   rw [av this];exact h0
 done:=by
  intro X hP hw hK hc i pins s σ H E I hf st hg
  subst hP hw hK
  obtain ⟨xs,qa,hl⟩:=hg
  obtain ⟨⟨old,g1⟩,g2⟩:=st
  obtain ⟨us,ru,pu,_⟩:=I.list qa
  have l1:=ru.length
  refine wpAny_pyNext_enum_end (I.ok.hd hc) g1 g2 pu.isList (by simp;lia) λh2 k=>⟨rfl,I.turnedL (ch:=[e,it]) (λc hc=>hf c (by simp at hc ⊢;rcases hc with q | q <;> simp [q])) λc o hc q=>?_⟩
  simp only [List.mem_cons,List.not_mem_nil,or_false,not_or] at hc
  exact k c o hc.2 q
 self:=λ_ _ _ _ _ st h=>let ⟨⟨_,g⟩,_⟩:=st;wpAny_pyIter_enum g h
inductive vy (K:PySem.W.Frag) (R:It->Hp->Prop) (vs:List V) (H1:Hp):Prop
 | mk (a:_) (_:vs=[.ref a]) (_:(∃ xs,SqL K H1 a xs)) (_:R (Ite K a) H1):vy K R vs H1
def BY (K:PySem.W.Frag) (ta:TA):TI:=λσ H R=>ta σ H λvs H1=>vy K R vs H1
section
variable {X:Cx}
theorem xw {e1:Expr} {ta:TA} {p pos:Pos} {elts:List Expr} {x1} {tp:Pos} (hg:Gl X "enumerate") (hm:X.mg "enumerate" = none) (ha:PA X [e1] ta)
  (hs:starEach [e1] X.env=[(false,eval e1 X.env)]:=by rfl) :
  PI X (.Tuple elts x1 tp) (.Call (.Name "enumerate" p) [e1] [] pos) (BY X.K ta):=by
 intro pins s σ H R I h
 refine Call_ (i3 I hg hm PyProof.Rows.boot_enumerate (PyProof.Rows.callWith_type1 (thn (ha pos pins s σ H _ I h) λus s1 ⟨vs,H1,I1,r1,q1⟩=>?_) (by rw [hs];rfl) rfl))
 obtain ⟨a,rfl,⟨xs,qa⟩,q⟩:=q1
 obtain ⟨u,rfl,ru⟩:=r1.one
 cases (show u=Value.ref a from ru)
 obtain ⟨us,_,pu,_⟩:=I1.list qa
 refine call_enumerate_list pu.isList λh' z1 z2 z3 z4=>?_
 refine wpAny_pyIter_enum (s:={ s1 with heap:=h' }) z1 ?_
 refine ⟨s1.heap.objs.size+1,[s1.heap.objs.size+1,s1.heap.objs.size],vx (s1.heap.objs.size+1) s1.heap.objs.size a,Ite X.K a,H1,rfl,I1.kept (t':=s1.toks) z4,ux (Nat.ne_of_gt (Nat.lt_succ_self _)),⟨⟨_,z1⟩,z2⟩,λc hc=>?_,q⟩
 have hc' : s1.heap.objs.size<=c:=by
  simp only [List.mem_cons,List.not_mem_nil,or_false] at hc
  rcases hc with rfl | rfl
  ·exact Nat.le_succ _
  ·exact Nat.le_refl _
 exact I1.fpOk hc' (I1.hok.fresh hc')
end
section
variable {gt:TG} {k:Nat} {fr:List Nat} {tt:TT} {te:TE}
theorem rZ {K:PySem.W.Frag} {a:Addr} {xs:List V} {σ:St} {H1:Hp} {Q:VK} (Pv:Addr->Nat->List V->Hp->Prop) (h0:∀ D,H1 D=none->Pv D 0 [] (upd H1 D (.lst [])))
  (hk:∀ D i ys H,H1 D=none->i<=xs.length->Pv D i ys H->SqL K H a xs)
  (hs:∀ D i x ys H T,H1 D=none->xs[i]?=some x->Pv D i ys H->H T=none->∀ ts:St,ts.length=k->gt (.ref T) (dC σ fr ts) (upd H T (.tup [.int i,x])) λσ2 H2=>(∃ ts2:St,ts2.length=k/\σ2=dC σ fr ts2)/\tt σ2 H2 λb H3=>if b=true then te σ2 H3 (bQ Pv D i xs.length) else d6 Pv D i xs.length H3)
  (hd:∀ D ys H,H1 D=none->Pv D xs.length ys H->Q (.ref D) H):jV (Ite K a) gt k fr tt te σ Q H1:=by
 intro D hD
 refine ⟨λi m H=>m=xs.length - i/\i<=xs.length/\∃ ys,Pv D i ys H,⟨_,rfl,Nat.zero_le _,[],h0 D hD⟩,?_⟩
 rintro i m H ⟨rfl,hi,ys,p⟩
 have q:=hk D i ys H hD hi p
 by_cases hlt:i < xs.length
 ·have ex:xs[i]?=some xs[i]:=G6 hlt
  refine .inr ⟨⟨xs,xs[i],q,ex⟩,λx H' y=>?_⟩
  obtain ⟨T,hT,rfl,e⟩:=y
  rw [e xs _ q ex]
  exact hs D i _ ys _ T hD ex p hT
 ·have e:i=xs.length:=by lia
  subst e
  exact .inl ⟨⟨xs,q,Nat.le_refl _⟩,hd D ys H hD p⟩
end
theorem ll {X:Cx} {N:List Str} {k:Nat} {fr:List Nat} {scope:Scope} {cl:List (Str × Addr)} (clos:closureFor scope X.env=pure cl) (kind:scope.kind=.function) (nocell:∀ y ∈ scope.names,y.2 ≠ .cell)
  (names:∀ y ∈ scope.names,y.2=.local->scope.names.lookup y.1=some .local) (len:N.length=k+fr.length)
  (sub:((List.range fr.length).all λi=>match N[k+i]?,fr[i]? with | some y,some j=>(X.N[j]? == some y) && ((X.env.kindOf y == some .cell) && ((relabel scope X.env).names.lookup y == some .cell)) | _,_=>false)=true)
  (cells:∀ p ∈ cl,X.env.cells.lookup p.1=some p.2) (has:((relabel scope X.env).names.all λp=>(p.2 != .cell && p.2 != .free) || (cl.lookup p.1).isSome)=true):mr X N k fr scope cl:=by
 refine ⟨clos,kind,nocell,names,len,λi y e=>?_,λy c e=>cells _ (PySem.mem_of_lookup e),λy h=>?_⟩
 ·have hi:i < fr.length:=by have:=(G7.mp e).1;lia
  have z:=List.all_eq_true.mp sub i (List.mem_range.mpr hi)
  rw [e,G6 hi] at z
  simp only [Bool.and_eq_true,beq_iff_eq] at z
  exact ⟨_,G6 hi,z.1,.inl z.2.1,.inl z.2.2⟩
 ·have look:∀ k,(relabel scope X.env).names.lookup y=some k->(k=.cell\/k=.free)->∃ c,cl.lookup y=some c:=λk e hk=>by
   have z:=List.all_eq_true.mp has _ (PySem.mem_of_lookup e)
   rcases hk with rfl | rfl
   ·exact Option.isSome_iff_exists.mp (by simpa using z)
   ·exact Option.isSome_iff_exists.mp (by simpa using z)
  rcases h with h | h
  ·exact look _ h (.inl rfl)
  ·exact look _ h (.inr rfl)
section
variable {X:Cx}
theorem oF {K:PySem.W.Frag} (hK:X.K=K) {a:Expr} {ta:TE} (ha:PE X a ta) (he:∀ whole,isTrue a X.env whole=(do let v ← whole;standAt a.pos;holding [v] (truthy v)):=by intro _;rfl) :
  PT X a (λσ H Q=>ta σ H λx H'=>∃ k,zo K x H' k/\Q k H'):=hK ▸ dB ha he
end
section
variable {X:Cx} {elt iter tg:Expr} {ifs:List Expr} {pos:Pos} {scope:Scope} {cl:List (Str × Addr)} {N:List Str} {k:Nat} {fr:List Nat} {gt:TG} {tt:TT} {te:TE}
theorem qS {wi:TI} {i:Nat} {y:Str} {py vh:Pos} (hN:X.N.Nodup) (hy:X.N[i]?=some y) (hl:Loc X.env.scope y) (hi:PI X tg iter wi) (O:mr X N k fr scope cl) (hc:X.calm=true) (hg:∀ fp C s H,PG (bG X N scope cl fp C s H) tg gt)
  (ht:∀ fp C s H,PIf (bG X N scope cl fp C s H) ifs tt) (he:∀ fp C s H,PE (bG X N scope cl fp C s H) elt te) (hs:∀ v,foldedSetIterable iter X.env v=pure v:=by intro _;rfl)
  (hsw:swapsWith (.ListComp elt [⟨tg,iter,ifs,0⟩] scope pos) (some (.Name y py)) vh.line X.env=pure true:=by rfl) (hf:X.fn y=true\/X.env.scope.names.lookup y=some .local:=by first | exact .inl rfl | exact .inr rfl | assumption) :
  PS X (.Assign [.Name y py] (.ListComp elt [⟨tg,iter,ifs,0⟩] scope pos) vh) (xf (vi wi gt k fr tt te) (nZ i)):=by
 intro pins s σ H D0 I h
 rw [exec_Assign_Name_used _ _ _ _ hsw]
 refine wpAny_bind (wpAny_standAt (wpAny_bind ?_))
 show wpAny _ X.A (do let _ ← comprehension (.ListComp elt [⟨tg,iter,ifs,0⟩] scope pos) scope X.env _ (newList []) false (eval iter X.env) (some (assign (.Name y py) X.env))) _ _ s
 refine wpAny_bind (wpAny_mono (wpAny_comprehension_free (use:=some (assign (.Name y py) X.env)) (Q:=λ_ s'=>SP X pins D0 .next s') rfl hs O.clos O.kind O.names (thn (hi pins s σ H _ I h) λv s1 h1=>thn h1 λitv s2 h2=>?_)) (λ_ s' hq=>wpAny_pure (wpAny_pure hq)) λ_ _ z=>z)
 obtain ⟨it,fp,tn,J,H2,e,I2,T,st2,f2,hW⟩:=h2
 subst e
 refine mx (Q:=λv H1=>nZ i v σ H1 D0.nx) (RR:=λacc C=>compPost (model X.prog X.w) X.A X.xe (some (assign (.Name y py) X.env)) (λ_ s'=>SP X pins D0 .next s') acc C) O hc I2 T st2 f2 ht he hg hW λD C s' H' hC hn ⟨m,hm⟩ I' q=>?_
 show wpAny _ X.A (assign (.Name y py) X.env (.ref D)) _ _ s'
 refine wpAny_assign_Name (kz I' hN hy hl (v:=.ref D) rfl (λs3 I3 ⟨a,hsa,ha⟩=>?_) hf)
 have hCa:C ≠ a:=by
  rcases ha with z | z
  ·rw [z];exact Nat.ne_of_gt (Nat.lt_of_lt_of_le I2.lt hC)
  ·obtain ⟨v,o,ho,_⟩:=I2.cell y a z
   exact Nat.ne_of_gt (Nat.lt_of_lt_of_le (Heap.lt_size ho) hC)
 exact ⟨m,hm.sameBut hsa hCa,λh' hs'=>⟨_,H',I2.left I3 hC hn hs',q⟩⟩
end
end L2
namespace L2
open PySem
set_option maxRecDepth 100000
section
variable {prog:Program} {w:World} {A:Around} {E:Value->Shared->Prop} {s:Shared}
end
section
variable {X:Cx}
end
end L2
namespace L2
open PySem
end L2
namespace L2
open PySem
section
variable {prog:Program} {w:World} {A:Around} {E:Value->Shared->Prop} {s:Shared}
theorem pj:typeLookup (.type "list") "keys" = pure none:=by rw [typeLookup_type,builtinLookup_eq_fast];kernel_rfl
theorem uy {a:Addr} {items:Array Value} {Q:Option Value->Shared->Prop} (hl:s.heap.IsList a items) (hdn:∀ o,s.heap.get? a=some o->o.dict=none) (hA:A.handled=none)
  (h:∀ h' tk,(∀ b o,s.heap.get? b=some o->h'.get? b=some o)->Q none { s with heap:=h',toks:=tk }) :
  wpAny (model prog w) A (getAttr? (.ref a) "keys") Q E s:=by
 obtain ⟨o,hx,hc,k,BZ⟩:=hl
 have hd:=hdn o hx
 obtain ⟨c,dct,dat,sl⟩:=o
 simp only at hc BZ hd
 subst hc BZ hd
 obtain ⟨hp,g,d,tk,os⟩:=s
 have hT:∀ tk',(⟨hp,g,d,tk',os⟩:Shared).TypeIs (.ref a) "list" := λ_=>⟨_,hx,rfl⟩
 have f1:=sub_AttributeError
 have f3:=F.slot_list_getattribute.lookup
 have f4:=F.slot_list_getattribute.bind (.ref a)
 have f5:=am_list_getattr_none
 unfold getAttr? getAttrBy? getAttrBy
 repeat (any_goals (first | assumption | exact hT _ | ((with_reducible show wpAny _ _ (call (Value.builtin "list.__getattribute__") _ _) _ _ _);refine call_meets F.slot_list_getattribute (hT _) am_entry_list_getattribute (F.args_list_getattribute_2 _ _) (meets_getattribute_miss_list a _ k sl "keys" _ pj (by decide) (by decide)) ⟨hx,hA,λh' tk' e hx'=>?_⟩) | wp_step))
 obtain ⟨t',u',he⟩:=hx'.there
 show wpAny _ _ (getattributeRaised _ _ _ _ _ _ _) _ _ _
 unfold getattributeRaised
 repeat (any_goals (first | assumption | wp_step))
 exact h _ _ hx'.of.keeps
theorem cL:plainId "dict.update.loop" = true:=by decide +kernel
theorem eU:entryFor table "dict.update.loop" = some Builtin.«dict.update.loop»:=entryFor_of_fast (by kernel_rfl)
theorem kI {κ:Type} [DecidableEq κ] {knd:KeyKind prog w κ} {d I ax:Addr} {items:Array Value} {ps:List (κ × Value)} {res:Value} (hh:A.handled=none) (hI:I ≠ ax) (hdI:d ≠ I) (hdx:d ≠ ax) (hps:ps.length=items.size) :
  ∀ (k i:Nat) (s:Shared) (kvs:List (κ × Value)) (t0:Tok) (R:Result->Shared->Prop),items.size - i=k->i<=items.size->s.heap.IsListIter I ax i->s.heap.IsList ax items->s.heap.DictOf knd d kvs ->
   (∀ (j:Nat) (p:κ × Value),ps[j]?=some p->∃ (t:Addr) (o:Obj) (n:Nat) (key:Value),items[j]?=some (.ref t)/\s.heap.get? t=some o/\o.cls=.type "tuple" /\ o.data=.seq #[key,p.2] n/\knd.is p.1 key=true/\t ≠ I/\t ≠ d) ->
   kvs.length+k<=sizeLine ->
   (∀ h' tk,h'.DictOf knd d (merged kvs (ps.drop i))->(∀ b o,b ≠ I->b ≠ d->s.heap.get? b=some o->h'.get? b=some o)->R (.ok (.ret res)) { s with heap:=h',toks:=tk }) ->
   codeAny (model prog w) A (.builtin "dict.update.loop" ⟨[.ref d,.ref I,.int (i:Int) t0,res],[]⟩) R s:=by
 intro k
 induction k with
 | zero =>
  intro i s kvs t0 R hk hi hit hl hd hT hsz hR
  have hin:i=items.size:=by lia
  refine codeAny_builtin eU ?_
  rw [Around.under_plainId cL _]
  unfold Builtin.«dict.update.loop»
  show wpAny _ A.in1 (pyNext (.ref I) >>= _) _ _ s
  refine wpAny_bind (wpAny_pyNext_list_end (by simp [hh]) hit hl (by simp [hin]) λh' he'=>?_)
  show wpAny _ A.in1 (Builtin.Dict.addKeywords d [] >>= _) _ _ _
  refine wpAny_bind (wpAny_pure (wpAny_pure ?_))
  have e:ps.drop i=[]:=List.drop_of_length_le (by lia)
  refine hR h' _ ?_ λb o hb _ e=>he' b o hb e
  rw [e]
  exact hd.extBut he' hdI
 | succ k ih =>
  intro i s kvs t0 R hk hi hit hl hd hT hsz hR
  have hlt:i < items.size:=by lia
  have ep:=G6 (l:=ps) (i:=i) (by lia)
  obtain ⟨t,o,n,key,e1,e2,e3,e4,e5,e6,e7⟩:=hT i _ ep
  refine codeAny_builtin eU ?_
  rw [Around.under_plainId cL _]
  unfold Builtin.«dict.update.loop»
  show wpAny _ A.in1 (pyNext (.ref I) >>= _) _ _ s
  refine wpAny_bind (wpAny_pyNext_list_item hit hl e1 λh' Dj hs'=>?_)
  have et' : h'.get? t=some o:=(hs'.2 t e6).trans e2
  refine wpAny_bind (wpAny_holding ?_)
  refine wpAny_bind (wpAny_tryCatch ?_)
  unfold Builtin.Dict.pairItems
  refine wpAny_bind (wpAny_typeOf (T := "tuple") ⟨o,et',e3⟩ ?_)
  rw [if_pos (by decide)]
  refine wpAny_bind (wpAny_seqItems et' e4 (wpAny_pure ?_))
  show wpAny _ _ (holding [key,(ps[i]).2] (dictSet d key (ps[i]).2)) _ _ _
  refine wpAny_holding ?_
  have hd' : h'.DictOf knd d kvs:=hd.extBut hs'.extBut hdI
  refine wpAny_dictSet_pairs e5 hd' (λh2 hd2 hs2=>?_) (by lia)
  have kp:∀ b ob,b ≠ I->b ≠ d->s.heap.get? b=some ob->h2.get? b=some ob:=λb ob n1 n2 e=>(hs2.2 b n2).trans ((hs'.2 b n1).trans e)
  have hsl:(stored kvs (ps[i]).1 (ps[i]).2).length<=kvs.length+1:=by
   unfold stored
   split
   ·rw [List.length_map];lia
   ·rw [List.length_append];simp
  have edr:ps.drop i=ps[i] :: ps.drop (i+1):=List.drop_eq_getElem_cons (by lia)
  refine wpAny_pure ⟨plainId_quiet cL _,?_⟩
  have go:=ih (i+1) { s with heap:=h2,toks:=s.toks+1 } (stored kvs (ps[i]).1 (ps[i]).2) 0 R (by lia) (by lia) (Dj.at λob e=>(hs2.2 I hdI.symm).trans e) (hl.at λob e=>kp ax ob hI.symm hdx.symm e) hd2 (λj p ej=>?_) (by lia) (λh3 tk hd3 kp3=>?_)
  ·exact go
  ·obtain ⟨t',o',n',Dl,f1,f2,f3,f4,f5,f6,f7⟩:=hT j p ej
   exact ⟨t',o',n',Dl,f1,kp t' o' f6 f7 f2,f3,f4,f5,f6,f7⟩
  ·refine hR h3 tk ?_ λb ob n1 n2 e=>kp3 b ob n1 n2 (kp b ob n1 n2 e)
   rw [edr]
   exact hd3
theorem lA {κ:Type} [DecidableEq κ] {knd:KeyKind prog w κ} {ax:Addr} {items:Array Value} {ps:List (κ × Value)} {Q:Value->Shared->Prop} (hh:A.handled=none) (hl:s.heap.IsList ax items) (hdn:∀ o,s.heap.get? ax=some o->o.dict=none) (hps:ps.length=items.size) (hsz:items.size<=sizeLine) (hnd:(ps.map (·.1)).Nodup)
  (hT:∀ (j:Nat) (p:κ × Value),ps[j]?=some p->∃ (t:Addr) (o:Obj) (n:Nat) (key:Value),items[j]?=some (.ref t)/\s.heap.get? t=some o/\o.cls=.type "tuple" /\ o.data=.seq #[key,p.2] n/\knd.is p.1 key=true)
  (hQ:∀ h' tk,h'.DictOf knd s.heap.objs.size ps->(∀ b o,s.heap.get? b=some o->h'.get? b=some o)->Q (.ref s.heap.objs.size) { s with heap:=h',toks:=tk }) :
  wpAny (model prog w) A (call (.type "dict") [.ref ax]) Q E s:=by
 refine callType_codes (Q₁:=λobj s₁=>obj=.ref s.heap.objs.size/\s₁ = { s with heap:=s.heap.push { cls:=.type "dict",data:=.dict #[] } }) F.kt_called_dict (F.kt_typeCall_dict_1 _) F.entry_dict_init (kt_code_dict_new _ ⟨rfl,rfl⟩) ?_
 rintro obj s₁ ⟨rfl,rfl⟩
 have qT:(s.heap.push { cls:=.type "dict",data:=.dict #[] }).DictOf knd s.heap.objs.size []:=Heap.DictOf.new s.heap
 have k0:∀ b o,s.heap.get? b=some o->(s.heap.push { cls:=.type "dict",data:=.dict #[] }).get? b=some o:=λb o e=>Heap.get?_push_of_some _ e
 have hl0:=hl.at λo e=>k0 ax o e
 refine ⟨qT.typeIs,F.args_dict_init_2 _ _,?_⟩
 unfold Builtin.«dict.__init__»
 refine wpAny_bind ?_
 unfold Builtin.Dict.selfAndRest
 refine wpAny_bind (wpAny_notOrdered_dict qT.typeIs ?_)
 show wpAny _ _ (pure (s.heap.objs.size,[Value.ref ax])) _ _ _
 refine wpAny_pure ?_
 show wpAny _ _ (Builtin.Dict.updateFrom "dict.__init__" s.heap.objs.size (.ref ax) [] .none) _ _ _
 unfold Builtin.Dict.updateFrom
 refine wpAny_bind (wpAny_typeOf hl0.typeIs ?_)
 rw [if_pos (by decide)]
 have lax:ax < s.heap.objs.size:=by obtain ⟨o,e,_⟩:=id hl;exact Heap.lt_size e
 have Dm:∀ o,(s.heap.push { cls:=.type "dict",data:=.dict #[] }).get? ax=some o->o.dict=none:=λo e=>by
  obtain ⟨o',e',_⟩:=id hl
  have e2:=k0 ax o' e'
  rw [e2] at e
  have e3:=Option.some.inj e
  rw [← e3]
  exact hdn o' e'
 refine wpAny_bind (uy (s:={ s with heap:=s.heap.push { cls:=.type "dict",data:=.dict #[] } }) hl0 Dm (by simp [hh]) λh1 tk1 k1=>?_)
 rw [if_pos (by rfl)]
 refine wpAny_bind (wpAny_rule ?_)
 have k01:∀ b o,s.heap.get? b=some o->h1.get? b=some o:=λb o e=>k1 b o (k0 b o e)
 have hl1:h1.IsList ax items:=hl.at λo e=>k01 ax o e
 refine wpAny_bind (wpAny_pyIter_list (s:={ s with heap:=h1,toks:=tk1 }) hl1 ?_)
 have k2:∀ b o,h1.get? b=some o->(h1.push { cls:=.type "list_iterator",data:=.fields #[.ref ax,.int 0 0] }).get? b=some o:=λb o e=>Heap.get?_push_of_some _ e
 have eI:(h1.push { cls:=.type "list_iterator",data:=.fields #[.ref ax,.int 0 0] }).get? h1.objs.size=some { cls:=.type "list_iterator",data:=.fields #[.ref ax,.int 0 0] }:=Heap.get?_push_size _ rfl
 have hd1:h1.DictOf knd s.heap.objs.size []:=by
  obtain ⟨o,es,ep,ho,r⟩:=qT
  exact ⟨o,es,ep,k1 _ _ ho,r⟩
 have hd2:(h1.push { cls:=.type "list_iterator",data:=.fields #[.ref ax,.int 0 0] }).DictOf knd s.heap.objs.size []:=hd1.push _
 have ld:s.heap.objs.size < h1.objs.size:=by obtain ⟨o,es,ep,ho,_⟩:=hd1;exact Heap.lt_size ho
 have lx1:ax < h1.objs.size:=Nat.lt_trans lax ld
 refine wpAny_pure ⟨plainId_quiet cL _,?_⟩
 refine kI (prog:=prog) (w:=w) (knd:=knd) (d:=s.heap.objs.size) (I:=h1.objs.size) (ax:=ax) (items:=items) (ps:=ps) (res:=.none) (by simp [hh]) (Nat.ne_of_gt lx1) (Nat.ne_of_lt ld) (Nat.ne_of_gt lax) hps items.size 0 { s with heap:=h1.push { cls:=.type "list_iterator",data:=.fields #[.ref ax,.int 0 0] },toks:=tk1 } [] 0 _ (by lia) (Nat.zero_le _) ⟨_,eI,rfl,rfl⟩ (hl1.at λo e=>k2 ax o e) hd2 (λj p ej=>?_) (by simpa using hsz) (λh' tk hd' kp=>?_)
 ·obtain ⟨t,o,n,key,f1,f2,f3,f4,f5⟩:=hT j p ej
  have lt:=Heap.lt_size f2
  exact ⟨t,o,n,key,f1,k2 _ _ (k01 _ _ f2),f3,f4,f5,Nat.ne_of_lt (Nat.lt_trans lt ld),Nat.ne_of_lt lt⟩
 ·rw [List.drop_zero,merged_nil_of_nodup ps hnd] at hd'
  refine ⟨rfl,hQ h' tk hd' λb o e=>kp b o (Nat.ne_of_lt (Nat.lt_trans (Heap.lt_size e) ld)) (Nat.ne_of_lt (Heap.lt_size e)) (k2 _ _ (k01 _ _ e))⟩
end
end L2
namespace L2
open PySem
theorem oG {α β:Type} {R:α->β->Prop} : ∀ {xs:List α} {ys:List β},xs.length=ys.length->(∀ (j:Nat) (x:α) (y:β),xs[j]?=some x->ys[j]?=some y->R x y)->Paired R xs ys
 | [],[],_,_=>.nil
 | x :: xs,y :: ys,hl,h=>.cons (h 0 x y rfl rfl) (oG (by simpa using hl) λj x' y' e f=>h (j+1) x' y' (by simpa using e) (by simpa using f))
 | [],_ :: _,hl,_=>by simp at hl
 | _ :: _,[],hl,_=>by simp at hl
theorem lE {α:Type} {P:Nat->α->Prop} : ∀ n:Nat,(∀ j,j < n->∃ a,P j a)->∃ l:List α,l.length=n/\∀ (j:Nat) (a:α),l[j]?=some a->P j a
 | 0,_=>⟨[],rfl,λj a e=>by simp at e⟩
 | n+1,h=>by
  obtain ⟨l,hl,hp⟩:=lE n λj hj=>h j (by lia)
  obtain ⟨a,ha⟩:=h n (by lia)
  refine ⟨l ++ [a],by simp [hl],λj b e=>?_⟩
  by_cases hj:j < l.length
  ·rw [List.getElem?_append_left hj] at e;exact hp j b e
  ·have:j=n:=by have:=(G7.mp e).1;simp at this;lia
   subst this
   rw [List.getElem?_append_right (by lia),hl,Nat.sub_self] at e
   cases e
   exact ha
def kvT (kvs:List (Str × V)):List (Key × V):=kvs.map λp=>(Sum.inr p.1,p.2)
theorem tJ {kvs:List (Str × V)} {j:Nat} {x:Key × V} (e:(kvT kvs)[j]?=some x):∃ p,kvs[j]?=some p/\x=(Sum.inr p.1,p.2):=by
 unfold kvT at e
 rw [List.getElem?_map] at e
 cases q:kvs[j]? with
 | none=>rw [q] at e;cases e
 | some p=>rw [q] at e;cases e;exact ⟨p,rfl,rfl⟩
theorem tK:∀ {kvs:List (Str × V)} {vs:List (Key × Value)} {k:Str} {v:V},KV (kvT kvs) vs->kvs.lookup k=some v->∃ u,valueAt vs (Sum.inr k:Key)=some u/\RelV v u
 | [],_,_,_,_,e=>by cases e
 | (k0,v0) :: kvs,vs,k,v,r,e=>by
  unfold KV at r
  cases r with
  | @cons p q ps qs h t =>
   obtain ⟨h1,h2⟩:=h
   have h1:(Sum.inr k0:Key)=q.1:=h1
   by_cases hk:k=k0
   ·subst hk
    rw [List.lookup_cons,beq_self_eq_true] at e
    cases e
    refine ⟨q.2,?_,h2⟩
    unfold valueAt
    rw [List.find?_cons_of_pos (by simp [h1])]
    rfl
   ·have e:kvs.lookup k=some v:=by
     rw [List.lookup_cons,beq_eq_false_iff_ne.mpr hk] at e
     exact e
    obtain ⟨u,e1,e2⟩:=tK (vs:=qs) t e
    refine ⟨u,?_,e2⟩
    have hne:¬ (q.1=(Sum.inr k:Key)):=λz=>hk (by rw [← h1] at z;injection z with z;exact z.symm)
    unfold valueAt at e1 ⊢
    rw [List.find?_cons_of_neg (by simpa using hne)]
    exact e1
section
variable {X:Cx}
theorem xx {pins:List (Addr × Obj)} {σ:St} {H:Hp} {s:Shared} (I:Inv X pins σ H s):(s.heap.objs.size == sysModules)=false:=by
 have h:mainGlobals < s.heap.objs.size:=(I.mod.glob.keeps I.bk).lt
 have h2:sysModules < s.heap.objs.size:=Nat.lt_trans (by decide) h
 exact beq_eq_false_iff_ne.mpr (Nat.ne_of_gt h2)
theorem jc (hcm:X.calm=true):dH X (.type "dict") (λxs H Q=>∃ (l:Addr) (us:List V) (kvs:List (Str × V)),xs=[.ref l]/\H l=some (.lst us)/\us.length=kvs.length/\(∀ (j:Nat) (p:Str × V),kvs[j]?=some p->∃ t:Addr,us[j]?=some (.ref t)/\H t=some (.tup [.str p.1,p.2]))/\(kvs.map (·.1)).Nodup/\∀ p,H p=none->Q (.ref p) (upd H p (.dK (kvT kvs)))):=by
 intro pins s σ H xs us0 Q I r h
 obtain ⟨l,us,kvs,rfl,el,hl,ht,hnd,q⟩:=h
 obtain ⟨u,rfl,rx⟩:=vals1 r
 cases rx
 obtain ⟨its,n,rv,eg,hz⟩:=I.lst el
 have hil:=rv.length
 obtain ⟨ps,hpl,hps⟩:=lE (P:=λj (a:Key × Value)=>∃ (p:Str × V) (t:Addr) (o:Obj) (m:Nat) (key:Value),kvs[j]?=some p/\a.1=Sum.inr p.1/\its[j]?=some (.ref t)/\RelV p.2 a.2/\s.heap.get? t=some o/\o.cls=.type "tuple" /\ o.data=.seq #[key,a.2] m/\RelV (.str p.1) key) kvs.length λj hj=>by
  have ek:=G6 hj
  obtain ⟨t,e1,e2⟩:=ht j _ ek
  obtain ⟨w',e3,e4⟩:=rv.get e1
  cases (show w'=Value.ref t from e4)
  obtain ⟨_,its',rv',o,ho,hc,m,hd⟩:=I.hok t _ e2
  obtain ⟨key,rest,rfl,rk,rr⟩:∃ key rest,its'=key :: rest/\RelV (.str kvs[j].1) key/\Vals [kvs[j].2] rest:=by
   cases rv' with
   | cons a b=>exact ⟨_,_,rfl,a,b⟩
  obtain ⟨vv,rfl,rv2⟩:=vals1 rr
  exact ⟨(Sum.inr kvs[j].1,vv),kvs[j],t,o,m,key,ek,rfl,e3,rv2,ho,hc,by simpa using hd,rk⟩
 have mE:ps.map (·.1)=kvs.map λp=>(Sum.inr p.1:Key):=by
  refine List.ext_getElem? λj=>?_
  rw [List.getElem?_map,List.getElem?_map]
  cases e:ps[j]? with
  | none =>
   have:kvs[j]?=none:=by rw [List.getElem?_eq_none_iff] at e ⊢;lia
   rw [this];rfl
  | some a =>
   obtain ⟨p,t,o,m,key,e1,e2,_⟩:=hps j a e
   rw [e1]
   show some a.1=some (Sum.inr p.1)
   rw [e2]
 refine lA (knd:=bN X.prog X.w) (items:=its.toArray) (ps:=ps) (I.ok.hd hcm) ⟨_,eg,rfl,n,rfl⟩ (λo e=>by rw [eg] at e;cases e;rfl) (by rw [List.size_toArray,hpl,← hl,hil]) (by rw [List.size_toArray,← hil];exact hz) ?_ (λj a ea=>?_) λh' tk hd kp=>?_
 ·rw [mE,show (kvs.map λp=>(Sum.inr p.1:Key))=(kvs.map (·.1)).map λz=>(Sum.inr z:Key) by rw [List.map_map];rfl]
  rw [List.nodup_iff_pairwise_ne] at hnd ⊢
  rw [List.pairwise_map]
  exact hnd.imp λ{a b} hab z=>hab (by injection z)
 ·obtain ⟨p,t,o,m,key,e1,e2,e3,e4,e5,e6,e7,e8⟩:=hps j a ea
  refine ⟨t,o,m,key,by simpa using e3,e5,e6,e7,?_⟩
  rw [e2]
  obtain ⟨tt,rfl⟩:=(show ∃ tt,key=Value.str p.1 tt from e8)
  exact gM X.prog X.w p.1 tt
 ·refine ⟨.ref s.heap.objs.size,_,I.laid (h':=h') (t':=tk) (o:=.dK (kvT kvs)) kp (Nat.le_refl _) ⟨by unfold kvT;rw [List.length_map,← hl];exact hz,xx I,ps,oG (by unfold kvT;rw [List.length_map,hpl]) λj x y ex ey=>?_,hd⟩,rfl,q _ (I.hok.fresh (Nat.le_refl _))⟩
  obtain ⟨p,ep,rfl⟩:=tJ ex
  obtain ⟨p',t,o,m,key,e1,e2,e3,e4,_⟩:=hps j y ey
  rw [ep] at e1
  cases e1
  exact ⟨e2.symm,e4⟩
inductive B1  (x:V) (y:V) (H:Hp) (Q:VK):Prop
 | mk (a:Addr) (kvs:List (Str × V)) (k:Str) (v:V) (_:x=.ref a) (_:y=.str k) (_:H a=some (.dK (kvT kvs))) (_:kvs.lookup k=some v) (_:Q v H):B1 x y H Q
theorem xy:IxR X B1:=by
 intro value slice pins s σ H x y v u Q I rx ry h hs
 obtain ⟨a,kvs,k,z,rfl,rfl,ea,el,q⟩:=h
 cases rx
 obtain ⟨t,rfl⟩:=ry
 obtain ⟨_,_,vs,rel,dd⟩:=(show bR X.prog X.w H s.heap a (.dK (kvT kvs)) from I.hok a _ ea)
 obtain ⟨w',ew,rw'⟩:=tK rel el
 exact PyProof.Rows.tail_any dd.mapOf.typeIs slot_dict_getitem.lookup (wpAny_getItem_of (gM X.prog X.w k t) dd.mapOf ew ⟨z,H,I.tok _,rw',q⟩) hs
end
end L2
namespace L2
open PySem PySem.Spec PyProof.Rows
section
variable {X:Cx}
theorem zJ {a:Expr} {ta:TE} {c:Str} {k:Nat} {p1 p2 pos:Pos} (ha:PE X a ta):PE X (.JoinedStr [.Constant (.str c) k p2,.FormattedValue a 114 none p1] pos) (λσ H Q=>c.length<=1000/\tFr c ta σ H Q):=by
 intro pins s σ H Q I h
 have hb:∀ n,n<=20000->n<=sizeLine:=λn hn=>Nat.le_trans hn (by decide)
 have e0:∀ y:Str,(Str.empty ++ y).length=y.length:=λy=>by rw [len_app];show 0+_=_;lia
 obtain ⟨hcl,h⟩:=h
 refine wpAny_JoinedStr (Joins_cons ?_)
 refine thn (aT (X:=X) (x:=c) (j:=k) (pos:=p2) pins s σ H (λv H'=>v=.str c/\H'=H) I ⟨rfl,rfl⟩) λv s2 ⟨y,H2,I2,r2,e1,e2⟩=>?_
 subst e1 e2
 obtain ⟨t2,rfl⟩:=r2
 refine ⟨_,_,rfl,hb _ (by rw [e0];lia),Joins_cons (wpAny_FormattedValue_repr (thn (ha pins s2 σ H2 _ I2 h) λv s1 ⟨x,H1,I1,r1,z,ez,hz,hc,hl,q⟩=>?_))⟩
 subst ez
 obtain ⟨t,rfl⟩:=r1
 have hr:=StrLaws.reprText_len z hc
 refine pyReprObj_str (formatField_str (λt' tk=>?_) (hb _ (by lia))) (hb _ (by lia))
 refine ⟨_,_,rfl,hb _ (by rw [len_app,e0];lia),Joins_nil ⟨hb _ (by rw [len_app,e0];lia),?_⟩⟩
 exact ⟨.str _,H1,I1.tok _,⟨_,rfl⟩,q _⟩
end
end L2
namespace L2
open PySem
theorem mF {X:Cx} {K:PySem.W.Frag} (h:X.K=K):OpR X (compareOp .In) (rIn K false):=h ▸ oj
end L2
namespace L2
open PySem PySem.Spec PyProof.Rows
theorem vz {X:Cx} {K:PySem.W.Frag} {tg l:Expr} {tl:TE} (h:X.K=K) (hl:PE X l tl):PI X tg l (yi K tl):=h ▸ aP hl
structure Dn (X:Cx) (N:List Str) (k:Nat) (fr:List Nat) (scope:Scope) (cl:List (Str × Addr)):Prop where
 clos:closureFor scope X.env=pure cl
 kind:scope.kind=.function
 names:∀ y ∈ scope.names,y.2=.local->scope.names.lookup y.1=some .local
 len:N.length=k+fr.length
 sub:∀ (i:Nat) (y:Str),N[k+i]?=some y->∃ j,fr[i]?=some j/\X.N[j]?=some y/\(X.env.kindOf y=some .cell\/X.env.kindOf y=some .free)/\((relabel scope X.env).names.lookup y=some .cell\/(relabel scope X.env).names.lookup y=some .free)/\∃ c,cl.lookup y=some c/\∀ C:Addr,(cellsFrom (C+1) scope.names cl).lookup y=some c
 cells:∀ y c,cl.lookup y=some c->X.env.cells.lookup y=some c
 has:∀ (C:Addr) (y:Str),((relabel scope X.env).names.lookup y=some .cell\/(relabel scope X.env).names.lookup y=some .free)->∃ c,(cellsFrom (C+1) scope.names cl).lookup y=some c
section
variable {X:Cx} {elt iter tg:Expr} {ifs:List Expr} {pos:Pos} {scope:Scope} {cl:List (Str × Addr)} {N:List Str} {k:Nat} {fr:List Nat} {gt:TG} {tt:TT} {te:TE}
end
end L2
namespace L2
open PySem PySem.Spec PyProof.Rows
section
variable {X:Cx} {st b₀:Stmt} {su:List Stmt} {tb:TSX} {ts:Addr->Addr->TS} {Tn:Str} {B:Addr} {np zE pos:Pos}
end
end L2
namespace L2
open PySem PySem.Spec PyProof.Rows
end L2
namespace L2
open PySem PySem.Spec PyProof.Rows
section
variable (P:Program) (w:World)
end
section
variable {P:Program} {w:World} {H H' : Hp} {h h' : Heap} {a:Addr} {o:HO}
end
section
variable {P:Program} {w:World} {H:Hp} {h h' : Heap} {x e:Addr} {o' : HO}
end
section
variable {fs fs' ex ex' : List Addr} {H H1 H2:Hp} {h h1 h2 h' : Heap} {a x e:Addr} {o:HO}
end
end L2
namespace L2
open PySem PySem.Spec PyProof.Rows
section
variable {X:Cx} {pins:List (Addr × Obj)} {σ:List (Option V)} {H H' : Hp} {s:Shared} {h' : Heap}
end
end L2
namespace L2
open PySem PySem.Spec PyProof.Rows
section
variable {X:Cx}
variable {a b:Expr} {ta tb:TE} {pos:Pos}
variable {tA tB' : TT} {rest:List Expr}
end
end L2
namespace L2
open PySem PySem.Spec PyProof.Rows
section
variable {X:Cx} {pins:List (Addr × Obj)} {σ:St} {H:Hp} {s:Shared} {a:Addr} {xs ys:List V}
end
section
variable {X:Cx} {pins:List (Addr × Obj)} {σ:St} {H:Hp} {s:Shared} {E:Value->Shared->Prop}
end
section
variable {X:Cx} {st:Stmt} {rest:List Stmt} {t u:TS} {e:Expr} {te:TE} {pos:Pos}
end
section
variable {X:Cx} {pos:Pos}
end
section
variable {X:Cx} {pos:Pos}
end
end L2
namespace L2
open PySem PySem.Spec PyProof.Rows
section
variable {X:Cx} {tg:Expr}
end
end L2
namespace L2
open PySem PySem.Spec PyProof.Rows
section
variable {X:Cx} {a b c:Expr} {ta tb tc:TE} {pos:Pos}
end
section
variable {X:Cx} {a b c:Expr} {ta tb tc:TE} {pos:Pos}
end
end L2
namespace L2
open PySem PySem.Spec PyProof.Rows
section
variable {prog:Program} {w:World} {A:Around} {E:Value->Shared->Prop} {s:Shared} {K:PySem.W.Frag} {x dx C f:Addr} {mA:Str->Option Value} {name:Str} {v:Value}
end
section
variable {P:Program} {w:World} {H H' : Hp} {h h' : Heap} {a C dx:Addr} {fs fs' : List (Str × V)}
end
section
variable {X:Cx} {pins:List (Addr × Obj)} {σ:St} {H:Hp} {s:Shared} {a C dx:Addr} {fs:List (Str × V)} {f:Str} {v:V} {A:Around} {E:Value->Shared->Prop}
end
section
variable {X:Cx} {o e value:Expr} {f:Str} {pos pos' BI:Pos} {ta tv:TE}
end
section
variable {X:Cx} {pins:List (Addr × Obj)} {σ:St} {H:Hp} {s:Shared} {A:Around} {E:Value->Shared->Prop} {Q:Value->Shared->Prop} {c:Value} {b:Bool}
end
end L2
namespace L2
open PySem PySem.Spec PyProof.Rows
section
variable {X:Cx} {e:Expr} {es:List Expr} {te:TE} {t:TA} {pos:Pos}
end
section
variable {X:Cx} {pins:List (Addr × Obj)} {σ:St} {H:Hp} {s s' : Shared}
end
section
variable {X:Cx} {CX:CXT} {k:Nat} {f C:Addr} {fd:FuncData} {ps:List Str} {sp:Sp} {dvs:List V} {ds:List Value} {E:XK} {x m:Str} {p pos apos:Pos} {e o:Expr} {es:List Expr} {ta:TE} {t:TA}
end
section
variable {X:Cx} {CX:CXT} {k:Nat} {f C:Addr} {fd:FuncData} {ps ks:List Str} {sp:Sp} {E:XK} {x m:Str} {p pos apos CZ:Pos} {e o:Expr} {es:List Expr} {kws:List Keyword} {te ta:TE} {t tk:TA} {nm:Option Str}
variable {g:List Value->List Value->List Value} {gV:List V->List V->List V}
end
end L2
namespace L2
open PySem PySem.Spec PyProof.Rows
section
variable {X:Cx} {x:Str} {p pos:Pos} {e:Expr} {es:List Expr} {t:TA} {id T:String} {r:List V->Hp->VK->Prop}
end
end L2
namespace L2
open PySem PySem.Spec PyProof.Rows
section
variable {κ:Type} [DecidableEq κ]
def dD (kvs:List (κ × V)) (k:κ):Option V:=(kvs.find? λkv=>decide (kv.1=k)).map (·.2)
def putK (kvs:List (κ × V)) (k:κ) (v:V):List (κ × V) :=
 if (kvs.any λkv=>decide (kv.1=k))=true then kvs.map (λkv=>if kv.1=k then (kv.1,v) else kv) else kvs ++ [(k,v)]
theorem cD {p:κ × V} {r:List (κ × V)} {k:κ} (e:p.1=k):dD (p :: r) k=some p.2:=by simp [dD,List.find?_cons,e]
theorem cE {p:κ × V} {r:List (κ × V)} {k:κ} (e:¬ p.1=k):dD (p :: r) k=dD r k:=by simp [dD,List.find?_cons,e]
theorem gQ (k:κ):∀ kvs:List (κ × V),(kvs.any λkv=>decide (kv.1=k))=(dD kvs k).isSome
 | []=>rfl
 | p :: r=>by
  rw [List.any_cons]
  by_cases e:p.1=k
  ·simp only [cD e,decide_eq_true e,Bool.true_or,Option.isSome_some]
  ·rw [cE e,decide_eq_false e,Bool.false_or];exact gQ k r
theorem qU (k j:κ) (y:V):∀ kvs:List (κ × V),dD (kvs.map λkv=>if kv.1=k then (kv.1,y) else kv) j=(dD kvs j).map λx=>if j=k then y else x
 | []=>rfl
 | p :: r=>by
  have ih:=qU k j y r
  rw [List.map_cons]
  by_cases h:p.1=k
  ·rw [if_pos h]
   by_cases e:p.1=j
   ·rw [cD (p:=(p.1,y)) e,cD e,Option.map_some,if_pos (e.symm.trans h)]
   ·rw [cE (p:=(p.1,y)) e,cE e,ih]
  ·rw [if_neg h]
   by_cases e:p.1=j
   ·rw [cD (p:=p) e,cD e,Option.map_some,if_neg (λz=>h (e.trans z))]
   ·rw [cE (p:=p) e,cE e,ih]
theorem oH (k j:κ) (y:V):∀ kvs:List (κ × V),dD kvs k=none->dD (kvs ++ [(k,y)]) j=if j=k then some y else dD kvs j
 | [],_=>by
  by_cases e:k=j
  ·rw [if_pos e.symm];exact cD (p:=(k,y)) e
  ·rw [if_neg (λz=>e z.symm)];exact cE (p:=(k,y)) e
 | p :: r,hn=>by
  rw [List.cons_append]
  have hk:¬ p.1=k:=λz=>by rw [cD z] at hn;cases hn
  rw [cE hk] at hn
  have ih:=oH k j y r hn
  by_cases e:p.1=j
  ·rw [cD e,cD e,if_neg (λz=>hk (e.trans z))]
  ·rw [cE e,cE e,ih]
theorem qV (kvs:List (κ × V)) (k j:κ) (y:V):dD (putK kvs k y) j=if j=k then some y else dD kvs j:=by
 unfold putK
 by_cases a:(kvs.any λkv=>decide (kv.1=k))=true
 ·rw [if_pos a,qU]
  rw [gQ] at a
  by_cases e:j=k
  ·obtain ⟨x,hx⟩:=Option.isSome_iff_exists.mp a
   rw [if_pos e,e,hx,Option.map_some,if_pos rfl]
  ·rw [if_neg e]
   cases dD kvs j with
   | none=>rfl
   | some x=>rw [Option.map_some,if_neg e]
 ·rw [if_neg a]
  refine oH k j y kvs ?_
  rw [gQ] at a
  cases q:dD kvs k with
  | none=>rfl
  | some x=>rw [q] at a;exact (a rfl).elim
theorem dS (kvs:List (κ × V)) (k:κ) (v:V):(putK kvs k v).length<=kvs.length+1:=by
 unfold putK
 split
 ·rw [List.length_map];lia
 ·rw [List.length_append,List.length_cons,List.length_nil];lia
theorem vA {kvs:List (κ × V)} {k:κ} (v:V) (h:dD kvs k=none):putK kvs k v=kvs ++ [(k,v)]:=by
 unfold putK
 rw [gQ,h]
 exact if_neg (by decide)
theorem i0.isSome_eq {o:Option V} {u:Option Value} (r:i0 o u):o.isSome=u.isSome:=by
 cases o with
 | none=>cases u with
  | none=>rfl
  | some _=>exact (show False from r).elim
 | some _=>cases u with
  | none=>exact (show False from r).elim
  | some _=>rfl
theorem KV.val {kvs:List (κ × V)} {vs:List (κ × Value)} (r:KV kvs vs) (k:κ):i0 (dD kvs k) (valueAt vs k):=by
 unfold KV at r
 induction r with
 | nil=>exact True.intro
 | @cons p q ps qs h t ih =>
  obtain ⟨h1,h2⟩:=h
  by_cases e:p.1=k
  ·have e' : q.1=k:=h1.symm.trans e
   have b:valueAt (q :: qs) k=some q.2:=by simp [valueAt,List.find?_cons,e']
   rw [cD e,b];exact h2
  ·have e' : ¬ q.1=k:=λz=>e (h1.trans z)
   have b:valueAt (q :: qs) k=valueAt qs k:=by simp [valueAt,List.find?_cons,e']
   rw [cE e,b];exact ih
theorem KV.any {kvs:List (κ × V)} {vs:List (κ × Value)} (r:KV kvs vs) (k:κ):(kvs.any λkv=>decide (kv.1=k))=vs.any λkv=>decide (kv.1=k):=by
 unfold KV at r
 induction r with
 | nil=>rfl
 | cons h t ih=>rw [List.any_cons,List.any_cons,ih,h.1]
theorem KV.repl {kvs:List (κ × V)} {vs:List (κ × Value)} (r:KV kvs vs) (k:κ) {y:V} {u:Value} (ry:RelV y u) :
  KV (kvs.map λkv=>if kv.1=k then (kv.1,y) else kv) (vs.map λkv=>if kv.1=k then (kv.1,u) else kv):=by
 unfold KV at r ⊢
 induction r with
 | nil=>exact .nil
 | @cons p q ps qs h t ih =>
  rw [List.map_cons,List.map_cons]
  refine .cons ?_ ih
  obtain ⟨h1,h2⟩:=h
  by_cases e:p.1=k
  ·rw [if_pos e,if_pos (h1.symm.trans e)];exact ⟨h1,ry⟩
  ·rw [if_neg e,if_neg (λz=>e (h1.trans z))];exact ⟨h1,h2⟩
theorem KV.put {kvs:List (κ × V)} {vs:List (κ × Value)} (r:KV kvs vs) (k:κ) {y:V} {u:Value} (ry:RelV y u):KV (putK kvs k y) (stored vs k u):=by
 unfold putK stored
 rw [r.any k]
 by_cases e:(vs.any λkv=>decide (kv.1=k))=true
 ·rw [if_pos e,if_pos e];exact r.repl k ry
 ·rw [if_neg e,if_neg e];exact Paired.snoc r ⟨rfl,ry⟩
theorem KV.length {kvs:List (κ × V)} {vs:List (κ × Value)} (r:KV kvs vs):kvs.length=vs.length:=Paired.length r
end
theorem tL {P:Program} {w:World} {k:Key} {u:Value} (r:RelV (kV k) u):(bN P w).is k u=true:=by
 cases k with
 | inl i=>obtain ⟨t,e⟩:=(show ∃ t,u=Value.int i t from r);subst e;exact qB P w i t
 | inr x=>obtain ⟨t,e⟩:=(show ∃ t,u=Value.str x t from r);subst e;exact gM P w x t
theorem oI {P:Program} {w:World} : ∀ {ks:List Key} {us:List Value},Vals (ks.map kV) us->ItemsAre (bN P w) ks us
 | [],_,r=>by rw [List.map_nil] at r;cases r;exact .nil
 | k :: ks,_,r=>by
  rw [List.map_cons] at r
  cases r with
  | cons h t=>exact .cons (tL h) (oI t)
abbrev KT (H:Hp):List (List Key × V)->List (List Key × Addr × Value)->Prop:=Paired λp q=>p.1=q.1/\H q.2.1=some (.tup (p.1.map kV))/\RelV p.2 q.2.2
theorem KT.val {H:Hp} {kvs:List (List Key × V)} {xs:List (List Key × Addr × Value)} (r:KT H kvs xs) (k:List Key):i0 (dD kvs k) ((atKey xs k).map (·.2)):=by
 induction r with
 | nil=>exact True.intro
 | @cons p q ps qs h t ih =>
  obtain ⟨h1,_,h2⟩:=h
  by_cases e:p.1=k
  ·have e' : q.1=k:=h1.symm.trans e
   have b:atKey (q :: qs) k=some q.2:=by simp [atKey,List.find?_cons,e']
   rw [cD e,b];exact h2
  ·have e' : ¬ q.1=k:=λz=>e (h1.trans z)
   have b:atKey (q :: qs) k=atKey qs k:=by simp [atKey,List.find?_cons,e']
   rw [cE e,b];exact ih
theorem KT.repl {H:Hp} {kvs:List (List Key × V)} {xs:List (List Key × Addr × Value)} (r:KT H kvs xs) (k:List Key) {y:V} {u:Value} (ry:RelV y u) :
  KT H (kvs.map λkv=>if kv.1=k then (kv.1,y) else kv) (xs.map (putAt k u)):=by
 induction r with
 | nil=>exact .nil
 | @cons p q ps qs h t ih =>
  rw [List.map_cons,List.map_cons]
  refine .cons ?_ ih
  obtain ⟨h1,h2,h3⟩:=h
  unfold putAt
  by_cases e:p.1=k
  ·rw [if_pos e,if_pos (h1.symm.trans e)];exact ⟨h1,h2,ry⟩
  ·rw [if_neg e,if_neg (λz=>e (h1.trans z))];exact ⟨h1,h2,h3⟩
theorem KT.put {H:Hp} {kvs:List (List Key × V)} {xs:List (List Key × Addr × Value)} (r:KT H kvs xs) (k:List Key) {b:Addr} {y:V} {u:Value} (hb:H b=some (.tup (k.map kV))) (ry:RelV y u) :
  KT H (putK kvs k y) (storedH xs k b u):=by
 have e:(kvs.any λkv=>decide (kv.1=k))=(atKey xs k).isSome:=by
  rw [gQ,(r.val k).isSome_eq,Option.isSome_map]
 unfold putK storedH
 rw [e]
 by_cases q:(atKey xs k).isSome=true
 ·rw [if_pos q,if_pos q];exact r.repl k ry
 ·rw [if_neg q,if_neg q];exact Paired.snoc r ⟨rfl,hb,ry⟩
theorem KT.keeps {H H' : Hp} {kvs:List (List Key × V)} {xs:List (List Key × Addr × Value)} (r:KT H kvs xs) (ht:∀ b ys,H b=some (.tup ys)->H' b=some (.tup ys)):KT H' kvs xs :=
 Paired.mapP r λ_ _ z=>⟨z.1,ht _ _ z.2.1,z.2.2⟩
section
variable {P:Program} {w:World} {H:Hp} {h:Heap} {a:Addr}
theorem yu {u:HO} (ok:HOk P w H h) (e:Rd H a u):bR P w H h a u:=e.ok ok
theorem tM {kvs:List (Key × V)} (ok:HOk P w H h) (e:Rd H a (.dK kvs)):kvs.length<=sizeLine/\(a == sysModules)=false/\∃ vs,KV kvs vs/\h.DictOf (bN P w) a vs :=
 show bR P w H h a (.dK kvs) from yu ok e
theorem yw {kvs:List (Key × V)} (ok:HOk P w H h) (e:H a=some (.dK kvs)):kvs.length<=sizeLine/\(a == sysModules)=false/\∃ vs,KV kvs vs/\h.DictOf (bN P w) a vs:=tM ok (.inl e)
theorem r6 {ks:List Key} (ok:HOk P w H h) (e:H a=some (.tup (ks.map kV))):(tupleKind (bN P w)).is h ks a:=by
 obtain ⟨_,its,r,o,h1,h2,n,h3⟩:=(show bR P w H h a (.tup (ks.map kV)) from ok a _ e)
 exact ⟨o,its.toArray,n,h1,h2,h3,by simpa using oI r⟩
theorem vB {kvs:List (List Key × V)} (ok:HOk P w H h) (e:Rd H a (.dT kvs)):kvs.length<=sizeLine/\(a == sysModules)=false /\
  ∃ xs,KT H kvs xs/\h.DictOfH (tupleKind (bN P w)) a xs:=by
 obtain ⟨z,y,xs,r,o,es,ep,h1,h2,h3,h4,h5⟩:=(show bR P w H h a (.dT kvs) from yu ok e)
 refine ⟨z,y,xs,r,o,es,ep,h1,h2,h3,h4,λx hx=>?_,h5⟩
 have all:∀ {l:List (List Key × V)} {m:List (List Key × Addr × Value)},KT H l m->∀ x ∈ m,(tupleKind (bN P w)).is h x.1 x.2.1:=by
  intro l m q
  induction q with
  | nil=>intro x hx;exact nomatch hx
  | @cons p q ps qs hq t ih =>
   intro x hx
   rcases List.mem_cons.mp hx with e | hx
   ·subst e
    exact r6 ok (by rw [← hq.1];exact hq.2.1)
   ·exact ih x hx
 exact all r x hx
theorem B2 {kvs:List (List Key × V)} (ok:HOk P w H h) (e:H a=some (.dT kvs)):kvs.length<=sizeLine/\(a == sysModules)=false /\
  ∃ xs,KT H kvs xs/\h.DictOfH (tupleKind (bN P w)) a xs:=vB ok (.inl e)
end
def xA (H:Hp) (a:Addr) (y:V) (r:Option V):Prop :=
 (∃ kvs k,Rd H a (.dK kvs)/\y=kV k/\r=dD kvs k)\/∃ kvs k b,Rd H a (.dT kvs)/\y=.ref b/\H b=some (.tup (k.map kV))/\r=dD kvs k
def xB (H:Hp) (a:Addr) (y v:V) (H' : Hp):Prop :=
 (∃ kvs k,H a=some (.dK kvs)/\y=kV k/\kvs.length < sizeLine/\H'=upd H a (.dK (putK kvs k v))) \/
 ∃ kvs k b,H a=some (.dT kvs)/\y=.ref b/\H b=some (.tup (k.map kV))/\kvs.length < sizeLine/\H'=upd H a (.dT (putK kvs k v))
theorem xA.k {H:Hp} {a:Addr} {kvs:List (Key × V)} {k:Key} (e:H a=some (.dK kvs)):xA H a (kV k) (dD kvs k):=.inl ⟨kvs,k,.inl e,rfl,rfl⟩
theorem xB.k {H:Hp} {a:Addr} {kvs:List (Key × V)} {k:Key} {v:V} (e:H a=some (.dK kvs)) (hl:kvs.length < sizeLine):xB H a (kV k) v (upd H a (.dK (putK kvs k v))):=.inl ⟨kvs,k,e,rfl,hl,rfl⟩
section
variable {X:Cx} {pins:List (Addr × Obj)} {σ:St} {H:Hp} {s:Shared} {a:Addr} {y v:V} {u r:Value} {o:Option V} {A:Around} {E:Value->Shared->Prop}
theorem Inv.big (I:Inv X pins σ H s):sysModules < s.heap.objs.size:=by
 have h:mainGlobals < s.heap.objs.size:=(I.mod.glob.keeps I.bk).lt
 exact Nat.lt_trans (by decide) h
theorem xC {Q:Value->Shared->Prop} (hu:A.units+1 < cLine) (I:Inv X pins σ H s) (g:xA H a y o) (ry:RelV y u) (h:∀ s',Inv X pins σ H s'->Q (.bool (!o.isSome)) s') :
  wpAny (model X.prog X.w) A (compareOp .NotIn u (.ref a)) Q E s:=by
 rcases g with ⟨kvs,k,e,ey,l⟩ | ⟨kvs,k,b,e,ey,eb,l⟩
 ·subst ey
  obtain ⟨z,hd,vs,rel,dd⟩:=tM I.hok e
  refine wpAny_notIn_of (tL ry) hd dd.mapOf ?_
  rw [← (rel.val k).isSome_eq,← l]
  exact h _ (I.tok _)
 ·subst ey
  cases (show u=Value.ref b from ry)
  obtain ⟨z,hd,xs,rel,dd⟩:=vB I.hok e
  refine wpAny_notIn_heap (tupleKind_room_in1 hu) (r6 I.hok eb) hd dd ?_
  have q:=(rel.val k).isSome_eq
  rw [Option.isSome_map] at q
  rw [← q,← l]
  exact h _ (I.tok _)
theorem tO {h' : Heap} {t' : Nat} {ob:HO} (I:Inv X pins σ H s) (mu:Mut (H a)) (hs:Heap.SameBut a s.heap h') (he:∃ q,h'.get? a=some q) (new:bR X.prog X.w (upd H a ob) h' a ob) :
  Inv X pins σ (upd H a ob) { s with heap:=h',toks:=t' } :=
 I.write (x:=a) (e:=a) mu (.inl rfl) (λb q hb z=>(hs.2 b hb).trans z) he new
theorem vC {P:Program} {w:World} {H' : Hp} {h' : Heap} {kvs:List (Key × V)} {vs:List (Key × Value)} (z:kvs.length<=sizeLine) (hd:(a == sysModules)=false) (rel:KV kvs vs) (dd:h'.DictOf (bN P w) a vs) :
  bR P w H' h' a (.dK kvs):=⟨z,hd,vs,rel,dd⟩
theorem uz {H' : Hp} {Q:Unit->Shared->Prop} (hu:A.units+1 < cLine) (I:Inv X pins σ H s) (g:xB H a y v H') (ry:RelV y u) (rv:RelV v r) (h:∀ s',Inv X pins σ H' s'->Q () s') :
  wpAny (model X.prog X.w) A (setItem (.ref a) u r) Q E s:=by
 rcases g with ⟨kvs,k,e,ey,l,eH⟩ | ⟨kvs,k,b,e,ey,eb,l,eH⟩
 ·subst ey eH
  obtain ⟨z,hd,vs,rel,dd⟩:=yw I.hok e
  have hz:vs.length<=sizeLine:=by rw [← rel.length];exact z
  have hl:(putK kvs k v).length<=sizeLine:=by have:=dS kvs k v;lia
  refine wpAny_setItem_pairs (hsz:=hz) (tL ry) dd λh' dd' hs=>h _ ?_
  have he:∃ q,h'.get? a=some q:=let ⟨q,_,_,hq,_⟩:=dd';⟨q,hq⟩
  exact tO I (by rw [e];exact True.intro) hs he (vC hl hd (rel.put k rv) dd')
 ·subst ey eH
  cases (show u=Value.ref b from ry)
  obtain ⟨z,hd,xs,rel,dd⟩:=B2 I.hok e
  have hz:xs.length<=sizeLine:=by rw [← Paired.length rel];exact z
  have hl:(putK kvs k v).length<=sizeLine:=by have:=dS kvs k v;lia
  refine wpAny_setItem_heap (hsz:=hz) (tupleKind_room_in1 hu) (r6 I.hok eb) dd λh' dd' hs=>h _ ?_
  obtain ⟨q,es,ep,hq,h2,h3,h4,_,h5⟩:=dd'
  refine tO I (by rw [e];exact True.intro) hs ⟨q,hq⟩ ⟨hl,hd,_,(rel.put k eb rv).keeps λc ys ec=>?_,q,es,ep,hq,h2,h3,h4,h5⟩
  rw [av (ck ec e (λz=>nomatch z))]
  exact ec
end
section
variable {X:Cx} {pins:List (Addr × Obj)} {σ:St} {H:Hp} {s:Shared} {a:Addr} {kvs:List (Key × V)} {k:Key} {u:Value} {A:Around} {E:Value->Shared->Prop}
end
section
variable {X:Cx} {o i e value:Expr} {pos pos' BI:Pos} {td ty tv:TE}
end
theorem vD {P:Program} {w:World} {H:Hp} (h:Heap) (hb:sysModules < h.objs.size):bR P w H (h.push { cls:=.type "dict",data:=.dict #[] }) h.objs.size (.dK []) :=
 ⟨Nat.zero_le _,beq_eq_false_iff_ne.mpr (Ne.symm (Nat.ne_of_lt hb)),[],.nil,Heap.DictOf.new h⟩
def zK:TE:=λ_ H Q=>∀ p,H p=none->Q (.ref p) (upd H p (.dK []))
section
variable {X:Cx} {pos:Pos}
theorem vE:PE X (.Dict [] [] pos) zK:=λpins s σ H Q I h =>
 wpAny_Dict_empty ⟨.ref s.heap.objs.size,_,I.laid (a:=s.heap.objs.size) (o:=.dK []) (t':=s.toks) (λ_ _ q=>Heap.get?_push_of_some _ q) (Nat.le_refl _) (vD s.heap I.big),rfl,h _ (I.hok.fresh (Nat.le_refl _))⟩
end
structure M1 (X:Cx) (o:Expr) (m:Str) (apos:Pos) (e:Expr) (di:Pos):Prop where
 base:attributeBase o m X.env (eval o X.env)=eval o X.env
 few:((backTo di (starEach [e] X.env)).all (λx=>!x.1) && (backToKw di (keywordEach [] X.env)).all (λx=>x.1.isSome)
  && decide (([e]:List Expr).length+([]:List Keyword).length+(if ([]:List Keyword).isEmpty then 0 else 1) < 30))=true
 line:(apos.endLine == di.line)=true
 trees:backTo di (starEach [e] X.env)=[(false,eval e X.env)]
structure M2 (X:Cx) (o:Expr) (m:Str) (apos:Pos) (e f:Expr) (di:Pos):Prop where
 base:attributeBase o m X.env (eval o X.env)=eval o X.env
 few:((backTo di (starEach [e,f] X.env)).all (λx=>!x.1) && (backToKw di (keywordEach [] X.env)).all (λx=>x.1.isSome)
  && decide (([e,f]:List Expr).length+([]:List Keyword).length+(if ([]:List Keyword).isEmpty then 0 else 1) < 30))=true
 line:(apos.endLine == di.line)=true
 trees:backTo di (starEach [e,f] X.env)=[(false,eval e X.env),(false,eval f X.env)]
def IsD (H:Hp) (a:Addr):Prop:=(∃ kvs,Rd H a (.dK kvs))\/∃ kvs,Rd H a (.dT kvs)
theorem zL {X:Cx} {pins:List (Addr × Obj)} {σ:St} {H:Hp} {s:Shared} {a:Addr} (I:Inv X pins σ H s) (d:IsD H a) :
  s.TypeIs (.ref a) "dict" /\ (∀ b,Value.ref a=.ref b->∃ ob,s.heap.get? b=some ob/\ob.dict=none)/\(a == sysModules)=false:=by
 rcases d with ⟨kvs,e⟩ | ⟨kvs,e⟩
 ·obtain ⟨_,hd,vs,_,dd⟩:=tM I.hok e
  refine ⟨dd.typeIs,λb q=>?_,hd⟩
  cases q
  obtain ⟨ob,_,_,h1,h2,_⟩:=dd
  exact ⟨ob,h1,h2.2.1⟩
 ·obtain ⟨_,hd,xs,_,dd⟩:=vB I.hok e
  refine ⟨dd.typeIs,λb q=>?_,hd⟩
  cases q
  obtain ⟨ob,_,_,h1,h2,_⟩:=dd
  exact ⟨ob,h1,h2.2.1⟩
section
variable {X:Cx} {pins:List (Addr × Obj)} {σ:St} {H:Hp} {s:Shared} {a:Addr} {y d:V} {u r:Value} {o:Option V} {A:Around} {E:Value->Shared->Prop}
end
section
variable {X:Cx} {o e f:Expr} {apos di:Pos} {td ty tx:TE}
end
section
variable {X:Cx} {pins:List (Addr × Obj)} {σ:St} {H:Hp} {s:Shared} {a:Addr} {kvs:List (Key × V)} {A:Around} {E:Value->Shared->Prop}
theorem vF {Q:Value->Shared->Prop} (I:Inv X pins σ H s) (e:Rd H a (.dK kvs)) (h:∀ p s',H p=none->Inv X pins σ (upd H p (.dK kvs)) s'->Q (.ref p) s'):wpAny (model X.prog X.w) A (call (.type "dict") [.ref a]) Q E s:=by
 obtain ⟨z,hd,vs,rel,dd⟩:=tM I.hok e
 refine kt_call_dict hd dd (by rw [← rel.length];exact z) λh' dd' hs=>?_
 refine h _ _ (I.hok.fresh (Nat.le_refl _)) (I.laid (a:=s.heap.objs.size) (o:=.dK kvs) (t':=s.toks) (λb q hq=>?_) (Nat.le_refl _) (vC z (beq_eq_false_iff_ne.mpr (Ne.symm (Nat.ne_of_lt I.big))) rel dd'))
 exact (hs.2 b (Nat.ne_of_lt (Heap.lt_size hq))).trans (Heap.get?_push_of_some _ hq)
end
section
variable {X:Cx} {pins:List (Addr × Obj)} {σ:St} {H:Hp} {s:Shared} {a:Addr} {y:V} {u:Value} {A:Around} {E:Value->Shared->Prop}
end
end L2
namespace Att
open PySem PySem.W PySem.Calls PyProof.Rows
section
variable {prog:Program} {w:World} {A:Around} {E:Value->Shared->Prop} {s:Shared} {K:Frag}
end
end Att
namespace L2
open PySem PySem.Spec PyProof.Rows
end L2
namespace L2
open PySem PySem.Spec PyProof.Rows
end L2
namespace L2
open PySem PySem.Spec PyProof.Rows
section
variable {P:Program} {w:World} {K:PySem.W.Frag} {mg:Str->Option Value} {base:Heap}
end
section
variable {X:Cx}
end
section
variable {κ:Type} [DecidableEq κ]
end
end L2
namespace L2
open PySem PySem.Spec PyProof.Rows
section
variable {X:Cx} {pins:List (Addr × Obj)} {σ:St} {H:Hp} {s:Shared}
theorem Inv.freeze {d:Addr} {o:Obj} {kvs:List (Key × V)} (I:Inv X pins σ H s) (e:H d=some (.dK kvs)) (g:s.heap.get? d=some o):Inv X pins σ (upd H d (.frz o (.dK kvs))) s:=by
 have ne:∀ {b u},H b=some u->u ≠ .dK kvs->b ≠ d:=λq n z=>by rw [z,e] at q;exact n (Option.some.inj q).symm
 have nn:∀ {b},H b=none->b ≠ d:=λq z=>by rw [z,e] at q;cases q
 refine ⟨I.ok,I.os,I.bare,⟨I.base.keep,I.base.slot,λb q h1 h2 h3=>?_,I.base.there,λb xs q=>?_,λb q u r=>?_,λb ps q=>?_⟩,I.loc,I.cell,?_,λx c q=>?_,λp hp=>?_,λb u q=>?_,I.len⟩
 ·have:=I.base.free b q h1 h2 h3
  rw [av (nn this)];exact this
 ·have:=I.base.tups b xs q
  rw [av (ne this (by intro z;cases z))];exact this
 ·have:=I.base.frzs b q u r
  rw [av (ne this (by intro z;cases z))];exact this
 ·obtain ⟨more,this⟩:=I.base.tbls b ps q
  exact ⟨more,by rw [av (ne this (by intro z;cases z))];exact this⟩
 ·rw [av (nn I.free)];exact I.free
 ·rw [av (nn (I.freeC x c q))];exact I.freeC x c q
 ·obtain ⟨h1,h2,h3⟩:=I.pin p hp
  exact ⟨h1,by rw [av (nn h2)];exact h2,h3⟩
 ·have ho:∀ (a b:Addr),H b=some (.own a)->upd H d (.frz o (.dK kvs)) b=some (.own a):=λa b q=>by rw [av (ne q (by intro z;cases z))];exact q
  have ht:∀ b xs,H b=some (.tup xs)->upd H d (.frz o (.dK kvs)) b=some (.tup xs):=λb xs q=>by rw [av (ne q (by intro z;cases z))];exact q
  by_cases hb:b=d
  ·subst hb
   rw [af] at q
   cases q
   exact ⟨g,(I.hok b _ e).stay (λ_ _ _ q=>q) (ho b) ht⟩
  ·rw [av hb] at q
   exact (I.hok b u q).stay (λ_ _ _ q=>q) (ho b) ht
end
theorem iH:entryFor table "dict_itemiterator.__iter__" = some Builtin.«dict_keyiterator.__iter__» :=
 entryFor_alias (id' := "dict_keyiterator.__iter__") (by kernel_rfl) (by first | rfl | decide +kernel | (unfold String.splitOn;simp +decide [String.splitOnAux])) (by decide +kernel) (by kernel_rfl)
theorem oJ {α β:Type} {R:α->β->Prop} : ∀ {xs:List α} {as:List β} {i:Nat} {x:α},Paired R xs as->xs[i]?=some x->∃ a,as[i]?=some a/\R x a
 | _,_,0,x,.cons h tl,e=>⟨_,rfl,by simp at e;rw [← e];exact h⟩
 | _,_,i+1,x,.cons h tl,e=>by
  obtain ⟨a,q⟩:=oJ (i:=i) (x:=x) tl (by simpa using e)
  exact ⟨a,by simpa using q.1,q.2⟩
def Iti (d:Addr) (o:Obj) (kvs:List (Key × V)):It :=
 ⟨λi H=>H d=some (.frz o (.dK kvs))/\i < kvs.length,
 λi H v H'=>∃ T kv,H T=none/\v=.ref T/\kvs[i]?=some kv/\H'=upd H T (.tup [kV kv.1,kv.2]),
 λi H=>H d=some (.frz o (.dK kvs))/\kvs.length<=i⟩
def yx (it d:Addr) (n ep:Nat) (i:Nat) (h:Heap):Prop:=∃ ok ov,IsItemIter h it d i n ep ok ov
theorem zM {P:Program} {w:World} {k:Key} {u:Value} (h:(bN P w).is k u=true):RelV (kV k) u:=by
 rcases bP (k:=k) (v:=u) h with ⟨i,t,rfl,rfl⟩ | ⟨x,t,rfl,rfl⟩
 ·exact ⟨t,rfl⟩
 ·exact ⟨t,rfl⟩
theorem vG {P:Program} {w:World} {H:Hp} {h:Heap} {d:Addr} {o:Obj} {kvs:List (Key × V)} {es:Array DictEntry} {ep:Nat} (ok:HOk P w H h) (e:H d=some (.frz o (.dK kvs))) (ho:o.data=.dict es ep):∃ vs,KV kvs vs/\h.DictAt (bN P w) d vs ep:=by
 obtain ⟨g,z,hs,vs,rel,o',es',ep',h1,h2,h3,h4,h5,h6⟩:=(show bR P w H h d (.frz o (.dK kvs)) from ok d _ e)
 rw [g] at h1
 cases h1
 rw [ho] at h3
 cases h3
 exact ⟨vs,rel,o,es,g,h2,ho,h4,h5,h6⟩
theorem r9 {P:Program} {w:World} {K:PySem.W.Frag} {elts:List Expr} {x1} {tp:Pos} {it d:Addr} {o:Obj} {kvs:List (Key × V)} {es:Array DictEntry} {ep:Nat} (ho:o.data=.dict es ep) :
  Turn P w K (.Tuple elts x1 tp) (Iti d o kvs) [it] it (yx it d kvs.length ep) where
 mem:=by simp
 obj:=λi h st c hc=>by
  obtain ⟨ok,ov,g1⟩:=st
  rw [List.mem_singleton.mp hc]
  exact ⟨_,g1,λv q=>nomatch q⟩
 keep:=λi h h' st k=>by
  obtain ⟨ok,ov,g1⟩:=st
  exact ⟨ok,ov,k it (by simp) _ g1⟩
 item:=by
  intro X hP hw hK hc i pins s σ H E I hf st hg
  subst hP hw hK
  obtain ⟨hd,hi⟩:=hg
  obtain ⟨ok,ov,g1⟩:=st
  obtain ⟨vs,rel,dA⟩:=vG I.hok hd ho
  have hl:kvs.length=vs.length:=Paired.length rel
  have ek:=G6 hi
  obtain ⟨q,eq_,hk1,hk2⟩:=oJ rel ek
  generalize kvs[i]=kv at ek hk1 hk2
  rw [hl] at g1
  refine wpAny_pyNext_items_item g1 dA eq_ λkey h1 zr a1 a2 a3 a4=>?_
  refine ⟨_,rfl,wpAny_letOwnedTupleGo_items (s:={ s with heap:=h1 }) a1 λh2 b1 b2=>?_⟩
  have nT:s.heap.get? s.heap.objs.size=none:=by
   cases q:s.heap.get? s.heap.objs.size with
   | none=>rfl
   | some o=>exact absurd (Heap.lt_size q) (Nat.lt_irrefl _)
  have hT:H s.heap.objs.size=none:=I.hok.fresh (Nat.le_refl _)
  have nz:s.heap.objs.size ≠ it:=Nat.ne_of_gt (Heap.lt_size g1)
  have kk:∀ c o,c ∉ [it]->s.heap.get? c=some o->h2.get? c=some o:=λc o hc q=>by
   have hc:c ≠ it:=λz=>hc (by rw [z];simp)
   exact b2.extBut _ _ hc (a4 c o hc q)
  have J:=I.turnedPair (h':=h2) (ch:=[it]) (T:=s.heap.objs.size) (x:=kV kv.1) (y:=kv.2) (u:=key) (v:=q.2) hf kk nT hT (b2.extBut _ _ nz a2) (by rw [hk1];exact zM zr) hk2
  refine ⟨.ref s.heap.objs.size,upd H s.heap.objs.size (.tup [kV kv.1,kv.2]),J,rfl,⟨_,kv,hT,rfl,ek,rfl⟩,⟨_,_,by rw [hl];exact b1⟩,λc hc=>?_⟩
  rw [List.mem_singleton.mp hc,av nz.symm]
  exact (hf it (by simp)).1
 done:=by
  intro X hP hw hK hc i pins s σ H E I hf st hg
  subst hP hw hK
  obtain ⟨hd,hi⟩:=hg
  obtain ⟨ok,ov,g1⟩:=st
  obtain ⟨vs,rel,dA⟩:=vG I.hok hd ho
  have hl:kvs.length=vs.length:=Paired.length rel
  rw [hl] at g1
  refine wpAny_pyNext_items_end (I.ok.hd hc) g1 dA (List.getElem?_eq_none (by lia)) λh2 k=>⟨rfl,I.turnedL (ch:=[it]) hf λc o hc q=>?_⟩
  exact k c o (λz=>hc (by rw [z];simp)) q
 self:=λA i s Q E st h=>by
  obtain ⟨ok,ov,g1⟩:=st
  have hT:s.TypeIs (.ref it) "dict_itemiterator" := ⟨_,g1,rfl⟩
  refine wpAny_pyIter_slot hT F.slot_dict_itemiterator_iter (wpAny_call_entry F.slot_dict_itemiterator_iter hT iH ?_ (F.args_dict_itemiterator_iter_1 _))
  show wpAny _ _ (ret (.ref it)) _ _ s
  exact wpAny_pure ⟨_,rfl, "dict_itemiterator",_,hT,F.slot_dict_itemiterator_next.lookup,h⟩
inductive tP  (R:It->Hp->Prop) (x:V) (H1:Hp):Prop
 | mk (d kvs:_) (_:x=.ref d) (_:H1 d=some (.dK kvs)) (_:∀ o,R (Iti d o kvs) (upd H1 d (.frz o (.dK kvs)))):tP R x H1
def zN (td:TE):TI:=λσ H R=>td σ H λx H1=>tP R x H1
theorem vH {X:Cx} {e:Expr} {td:TE} {apos di:Pos} {elts:List Expr} {x1} {tp:Pos} (hd:PE X e td)
  (qJ:attributeBase e "items" X.env (eval e X.env)=eval e X.env:=by rfl) (qK:(apos.endLine == di.line)=true:=by rfl) :
  PI X (.Tuple elts x1 tp) (.Call (.Attribute e "items" apos) [] [] di) (zN td):=by
 intro pins s σ H R I h
 refine wpAny_Call_method0_late qJ qK (thn (hd pins s σ H _ I h) λv s1 ⟨x,H1,I1,r1,d,kvs,ex,ed,q⟩=>?_)
 subst ex
 obtain rfl:v=Value.ref d:=r1
 obtain ⟨z,hs,vs,rel,dO⟩:=(show bR X.prog X.w H1 s1.heap d (.dK kvs) from I1.hok d _ ed)
 obtain ⟨o,es,ep,g1,g2,g3,g4,g5,g6⟩:=id dO
 refine ⟨"dict", "dict.items",F.plainAttrs_dict,F.slot_dict_items,F.type_dict_items,dO.typeIs,(zL I1 (.inl ⟨kvs,.inl ed⟩)).2.1,?_⟩
 refine Calls.callWith_builtin rfl (PySem.evalArgs_none ?_)
 refine call_meetsIn F.slot_dict_items dO.typeIs F.entry_dict_items (F.args_dict_items_1 _) (meets_dict_items (bN X.prog X.w) d hs) ⟨⟨vs,dO⟩,?_⟩
 have hl:kvs.length=vs.length:=Paired.length rel
 have I2:Inv X pins σ (upd H1 d (.frz o (.dK kvs))) s1:=I1.freeze ed g1
 have dlt:d < s1.heap.objs.size:=Heap.lt_size g1
 have gp:(s1.heap.push { cls:=.type "dict_items",data:=.fields #[.ref d] }).get? d=some o:=Heap.get?_push_of_some _ g1
 refine wpAny_pyIter_items (s:={ s1 with heap:=s1.heap.push { cls:=.type "dict_items",data:=.fields #[.ref d] } }) (knd:=bN X.prog X.w) (kvs:=vs) (ep:=ep) (d:=d) ⟨_,Heap.get?_push_size _ rfl,rfl,rfl⟩ ⟨o,es,gp,g2,g3,g4,g5,g6⟩ ?_
 have sz:(s1.heap.push { cls:=.type "dict_items",data:=.fields #[.ref d] }).objs.size=s1.heap.objs.size+1:=by simp [Heap.push]
 have big:s1.heap.objs.size<=(s1.heap.push { cls:=.type "dict_items",data:=.fields #[.ref d] }).objs.size:=by rw [sz];lia
 refine ⟨_,[_],yx _ d kvs.length ep,Iti d o kvs,upd H1 d (.frz o (.dK kvs)),rfl,I2.kept (t':=s1.toks) (λb u q=>Heap.get?_push_of_some _ (Heap.get?_push_of_some _ q)),r9 g3,⟨.none,.none,by rw [hl];exact Heap.get?_push_size _ rfl⟩,λc hc=>?_,q o⟩
 rw [List.mem_singleton.mp hc]
 exact I2.fpOk big (I2.hok.fresh big)
end L2
namespace L2
open PySem PySem.Spec PyProof.Rows
section
variable {gt:TG} {k:Nat} {fr:List Nat} {tt:TT} {te:TE}
theorem qW {d:Addr} {o:Obj} {kvs:List (Key × V)} {σ:St} {H1:Hp} {Q:VK} (Pv:Addr->Nat->List V->Hp->Prop) (h0:∀ D,H1 D=none->Pv D 0 [] (upd H1 D (.lst [])))
  (hk:∀ D i ys H,H1 D=none->i<=kvs.length->Pv D i ys H->H d=some (.frz o (.dK kvs)))
  (hs:∀ D i kv ys H T,H1 D=none->kvs[i]?=some kv->Pv D i ys H->H T=none->∀ ts:St,ts.length=k->gt (.ref T) (dC σ fr ts) (upd H T (.tup [kV kv.1,kv.2])) λσ2 H2=>(∃ ts2:St,ts2.length=k/\σ2=dC σ fr ts2)/\tt σ2 H2 λb H3=>if b=true then te σ2 H3 (bQ Pv D i kvs.length) else d6 Pv D i kvs.length H3)
  (hd:∀ D ys H,H1 D=none->Pv D kvs.length ys H->Q (.ref D) H):jV (Iti d o kvs) gt k fr tt te σ Q H1:=by
 intro D hD
 refine ⟨λi m H=>m=kvs.length - i/\i<=kvs.length/\∃ ys,Pv D i ys H,⟨_,rfl,Nat.zero_le _,[],h0 D hD⟩,?_⟩
 rintro i m H ⟨rfl,hi,ys,p⟩
 have q:=hk D i ys H hD hi p
 by_cases hlt:i < kvs.length
 ·have ex:kvs[i]?=some kvs[i]:=G6 hlt
  refine .inr ⟨⟨q,hlt⟩,λx H' y=>?_⟩
  obtain ⟨T,kv,hT,rfl,e,rfl⟩:=y
  exact hs D i _ ys _ T hD e p hT
 ·have e:i=kvs.length:=by lia
  subst e
  exact .inl ⟨⟨q,Nat.le_refl _⟩,hd D ys H hD p⟩
end
section
variable {X:Cx}
theorem si:dH X (.type "dict") (λxs H Q=>∃ a kvs,xs=[V.ref a]/\H a=some (.dK kvs)/\∀ p,H p=none->Q (.ref p) (upd H p (.dK kvs))):=by
 intro pins s σ H xs us Q I r h
 obtain ⟨a,kvs,rfl,ha,q⟩:=h
 obtain ⟨u,rfl,ru⟩:=vals1 r
 cases ru
 exact vF I (.inl ha) λp s' hp I'=>⟨.ref p,_,I',rfl,q p hp⟩
inductive B3  (x:V) (y:V) (H:Hp) (Q:VK):Prop
 | mk (a:Addr) (kvs:List (Key × V)) (k:Str) (v:V) (_:x=.ref a) (_:y=.str k) (_:H a=some (.dK kvs)) (_:dD kvs (Sum.inr k)=some v) (_:Q v H):B3 x y H Q
theorem fJ:IxR X B3:=by
 intro value slice pins s σ H x y v u Q I rx ry h hs
 obtain ⟨a,kvs,k,z,rfl,rfl,ea,el,q⟩:=h
 cases rx
 obtain ⟨_,_,vs,rel,dd⟩:=yw I.hok ea
 obtain ⟨w',ew,rw'⟩:=i0.some_of (v:=z) (o:=valueAt vs (Sum.inr k)) (by rw [← el];exact rel.val (Sum.inr k:Key))
 exact PyProof.Rows.tail_any dd.mapOf.typeIs slot_dict_getitem.lookup (wpAny_getItem_of (tL (k:=Sum.inr k) ry) dd.mapOf ew ⟨z,H,I.tok _,rw',q⟩) hs
inductive B4 (neg:Bool) (x:V) (y:V) (H:Hp) (Q:VK):Prop
 | mk (a:Addr) (kvs:List (Key × V)) (k:Str) (_:x=.str k) (_:y=.ref a) (_:H a=some (.dK kvs)) (_:Q (.bl (if neg then !(dD kvs (Sum.inr k)).isSome else (dD kvs (Sum.inr k)).isSome)) H):B4 neg x y H Q
theorem uB {k:Nat} (hr:cI k X.A):OpR X (compareOp .NotIn) (B4 true):=by
 intro pins s σ H x y v u Q I rx ry h
 obtain ⟨a,kvs,k,rfl,rfl,ea,q⟩:=h
 cases ry
 exact xC (by have:=hr.units;lia) I (xA.k (k:=Sum.inr k) ea) rx λs' I'=>⟨.bl _,H,I',rfl,q⟩
theorem pk {pos:Pos} : PE X (.Dict [] [] pos) (λ_ H Q=>∀ p,H p=none->Q (.ref p) (upd H p (.dK []))):=vE
def B5 (td ty tv:TE):TS:=λD σ H=>tv σ H λv H1=>td σ H1 λx H2=>ty σ H2 λy H3=>∃ (a:Addr) (kvs:List (Key × V)) (k:Str),x=.ref a/\y=.str k/\H3 a=some (.dK kvs)/\kvs.length < sizeLine/\D.nx σ (upd H3 a (.dK (putK kvs (Sum.inr k) v)))
theorem lF {o i value:Expr} {td ty tv:TE} {pos pos' : Pos} {k:Nat} (hr:cI k X.A) (ho:PE X o td) (hi:PE X i ty) (hv:PE X value tv) (hs:swapsWith value (some (.Subscript o i pos')) pos.line X.env=pure false) :
  PS X (.Assign [.Subscript o i pos'] value pos) (B5 td ty tv):=by
 intro pins s σ H D I h
 refine wpAny_Assign_Subscript (thn (hv pins s σ H _ I h) λr s1 ⟨v,H1,I1,rv,q1⟩=>thn (ho pins s1 σ H1 _ I1 q1) λu s2 ⟨x,H2,I2,rx,q2⟩=>thn (hi pins s2 σ H2 _ I2 q2) λiv s3 ⟨y,H3,I3,ry,a,kvs,k,ex,ey,ea,hl,q3⟩=>?_) hs
 subst ex ey
 obtain rfl:u=Value.ref a:=rx
 exact uz (by have:=hr.units;lia) I3 (xB.k (k:=Sum.inr k) ea hl) ry rv λs4 I4=>⟨σ,_,I4,q3⟩
end
theorem mG {kvs:List (Str × V)} {k:Str} : dD (kvT kvs) (Sum.inr k)=kvs.lookup k:=by
 induction kvs with
 | nil=>rfl
 | cons p r ih =>
  obtain ⟨k0,v0⟩:=p
  by_cases hk:k0=k
  ·subst hk
   rw [List.lookup_cons,beq_self_eq_true]
   exact cD rfl
  ·rw [List.lookup_cons,beq_eq_false_iff_ne.mpr λz=>hk z.symm,← ih]
   exact cE λz=>hk (by injection z)
end L2
set_option Elab.async false
set_option maxRecDepth 100000
set_option maxHeartbeats 4000000
set_option linter.all false
namespace My
open PySem L2
def top (i:Nat):Stmt:=PySem.Challenge.pw_rowjudge_k82_the_trail.main.body.getD i (.Pass ⟨0,0,0,0⟩)
abbrev Y39:Stmt:=top 17
abbrev Y45:Stmt:=top 18
abbrev Y44:Stmt:=top 19
abbrev Y38:Stmt:=top 23
abbrev Y71:Stmt:=top 28
abbrev Y74:Stmt:=top 30
abbrev Y73:Stmt:=top 32
abbrev Y76:Stmt:=top 33
abbrev Y66:Stmt:=top 34
abbrev Y80:Stmt:=top 35
abbrev Y40:Stmt:=top 36
abbrev Y68:Stmt:=top 37
abbrev Y70:Stmt:=top 38
abbrev Y81:Stmt:=top 39
abbrev Y67:Stmt:=top 40
abbrev Y43:Stmt:=top 42
abbrev Y83:Stmt:=top 53
abbrev Y75:Stmt:=top 58
abbrev Y72:Stmt:=top 60
abbrev Y78:Stmt:=top 62
abbrev Y77:Stmt:=top 63
abbrev Y69:Stmt:=top 64
abbrev Y42:Stmt:=top 65
abbrev Y65:Stmt:=top 66
abbrev Y46:Stmt:=top 67
abbrev Y41:Stmt:=top 69
abbrev Y82:Stmt:=top 70
abbrev Y79:Stmt:=top 71
abbrev Y47:Stmt:=top 72
abbrev Y49:Stmt:=top 74
abbrev Y63:Stmt:=top 75
abbrev Y51:Stmt:=top 76
abbrev Y58:Stmt:=top 77
abbrev Y60:Stmt:=top 78
abbrev Y59:Stmt:=top 79
abbrev Y56:Stmt:=top 80
abbrev Y50:Stmt:=top 81
abbrev Y55:Stmt:=top 82
abbrev Y62:Stmt:=top 83
abbrev Y53:Stmt:=top 84
abbrev Y54:Stmt:=top 85
abbrev Y52:Stmt:=top 86
abbrev Y57:Stmt:=top 89
abbrev Y64:Stmt:=top 90
abbrev Y61:Stmt:=top 91
abbrev Y0:Stmt:=inClass (top 27) 0
abbrev Y22:Stmt:=inClass (top 57) 0
abbrev Y7:Stmt:=inClass (top 47) 0
abbrev Y23:Stmt:=inClass (top 46) 0
abbrev Y18:Stmt:=inClass (top 48) 0
abbrev Y27:Stmt:=inClass (top 46) 0
abbrev Y11:Stmt:=inClass (top 49) 0
abbrev Y25:Stmt:=inClass (top 46) 0
abbrev Y13:Stmt:=inClass (top 50) 0
abbrev Y26:Stmt:=inClass (top 46) 0
abbrev Y9:Stmt:=inClass (top 51) 0
abbrev Y24:Stmt:=inClass (top 46) 0
abbrev Y20:Stmt:=inClass (top 52) 0
abbrev Y28:Stmt:=inClass (top 46) 0
abbrev Y5:Stmt:=inClass (top 20) 5
abbrev Y6:Stmt:=inClass (top 20) 5
abbrev Y15:Stmt:=inClass (top 21) 0
abbrev Y1:Stmt:=inClass (top 20) 0
abbrev Y35:Stmt:=inClass (top 22) 0
abbrev Y2:Stmt:=inClass (top 20) 0
abbrev Y3:Stmt:=inClass (top 20) 6
abbrev Y17:Stmt:=inClass (top 21) 2
abbrev Y16:Stmt:=inClass (top 21) 1
abbrev Y4:Stmt:=inClass (top 20) 6
abbrev Y37:Stmt:=inClass (top 22) 2
abbrev Y36:Stmt:=inClass (top 22) 1
abbrev Y29:Stmt:=inClass (top 46) 1
abbrev Y8:Stmt:=inClass (top 47) 1
abbrev Y33:Stmt:=inClass (top 46) 1
abbrev Y19:Stmt:=inClass (top 48) 1
abbrev Y31:Stmt:=inClass (top 46) 1
abbrev Y12:Stmt:=inClass (top 49) 1
abbrev Y32:Stmt:=inClass (top 46) 1
abbrev Y14:Stmt:=inClass (top 50) 1
abbrev Y30:Stmt:=inClass (top 46) 1
abbrev Y10:Stmt:=inClass (top 51) 1
abbrev Y34:Stmt:=inClass (top 46) 1
abbrev Y21:Stmt:=inClass (top 52) 1
abbrev Y48:Stmt:=top 92
theorem Z39:ay ["text", "signs", "sign"] ["text", "signs"] (ao Y39):=⟨rfl,rfl,rfl,by decide +kernel,rfl,by decide +kernel,by decide +kernel⟩
theorem Z45:ay ["text"] ["text"] (ao Y45):=⟨rfl,rfl,rfl,by decide +kernel,rfl,by decide +kernel,by decide +kernel⟩
theorem Z44:ay ["value"] ["value"] (ao Y44):=⟨rfl,rfl,rfl,by decide +kernel,rfl,by decide +kernel,by decide +kernel⟩
theorem Z38:ay ["one", "other"] ["one", "other"] (ao Y38):=⟨rfl,rfl,rfl,by decide +kernel,rfl,by decide +kernel,by decide +kernel⟩
theorem Z71:ay ["facts", "tables"] ["facts", "tables"] (ao Y71):=⟨rfl,rfl,rfl,by decide +kernel,rfl,by decide +kernel,by decide +kernel⟩
theorem Z74:ay ["facts", "tables", "name", "domain", "names", "table"] ["facts", "tables"] (ao Y74):=⟨rfl,rfl,rfl,by decide +kernel,rfl,by decide +kernel,by decide +kernel⟩
theorem Z73:ay ["facts", "tables", "due", "table", "name", "domain"] ["facts", "tables"] (ao Y73):=⟨rfl,rfl,rfl,by decide +kernel,rfl,by decide +kernel,by decide +kernel⟩
theorem Z76:ay ["tables", "left", "names", "waiting"] ["tables"] (ao Y76):=⟨rfl,rfl,rfl,by decide +kernel,rfl,by decide +kernel,by decide +kernel⟩
theorem Z66:ay ["table", "names"] ["table", "names"] (ao Y66):=⟨rfl,rfl,rfl,by decide +kernel,rfl,by decide +kernel,by decide +kernel⟩
theorem Z80:ay ["book", "name", "table"] ["book", "name"] (ao Y80):=⟨rfl,rfl,rfl,by decide +kernel,rfl,by decide +kernel,by decide +kernel⟩
theorem Z40:ay ["book", "name"] ["book", "name"] (ao Y40):=⟨rfl,rfl,rfl,by decide +kernel,rfl,by decide +kernel,by decide +kernel⟩
theorem Z68:ay ["book", "name", "order"] ["book", "name"] (ao Y68):=⟨rfl,rfl,rfl,by decide +kernel,rfl,by decide +kernel,by decide +kernel⟩
theorem Z70:ay ["book", "name", "order", "asked"] ["book", "name", "order"] (ao Y70):=⟨rfl,rfl,rfl,by decide +kernel,rfl,by decide +kernel,by decide +kernel⟩
theorem Z81:ay ["book", "name"] ["book", "name"] (ao Y81):=⟨rfl,rfl,rfl,by decide +kernel,rfl,by decide +kernel,by decide +kernel⟩
theorem Z67:ay ["book", "name", "columns", "table"] ["book", "name"] (ao Y67):=⟨rfl,rfl,rfl,by decide +kernel,rfl,by decide +kernel,by decide +kernel⟩
theorem Z43:ay ["spans", "number", "low", "high"] ["spans", "number"] (ao Y43):=⟨rfl,rfl,rfl,by decide +kernel,rfl,by decide +kernel,by decide +kernel⟩
theorem Z83:ay ["name", "way"] ["name"] (ao Y83):=⟨rfl,rfl,rfl,by decide +kernel,rfl,by decide +kernel,by decide +kernel⟩
theorem Z75:ay ["names", "name"] ["names"] (ao Y75):=⟨rfl,rfl,rfl,by decide +kernel,rfl,by decide +kernel,by decide +kernel⟩
theorem Z72:ay ["names", "rows"] ["names", "rows"] (ao Y72):=⟨rfl,rfl,rfl,by decide +kernel,rfl,by decide +kernel,by decide +kernel⟩
theorem Z78:ay ["way", "outcome"] ["way", "outcome"] (ao Y78):=⟨rfl,rfl,rfl,by decide +kernel,rfl,by decide +kernel,by decide +kernel⟩
theorem Z77:ay ["domains", "outcome", "cells", "code", "domain", "spans", "low", "high"] ["domains", "outcome", "cells", "code"] (ao Y77):=⟨rfl,rfl,rfl,by decide +kernel,rfl,by decide +kernel,by decide +kernel⟩
theorem Z69:ay ["cells", "code"] ["cells", "code"] (ao Y69):=⟨rfl,rfl,rfl,by decide +kernel,rfl,by decide +kernel,by decide +kernel⟩
theorem Z42:ay ["table", "k", "codes", "cells", "spans", "code"] ["table", "k", "codes"] (ao Y42):=⟨rfl,rfl,rfl,by decide +kernel,rfl,by decide +kernel,by decide +kernel⟩
theorem Z65:ay ["table", "codes"] ["table", "codes"] (ao Y65):=⟨rfl,rfl,rfl,by decide +kernel,rfl,by decide +kernel,by decide +kernel⟩
theorem Z46:ay ["table", "rows", "codes"] ["table", "rows"] (ao Y46):=⟨rfl,rfl,rfl,by decide +kernel,rfl,by decide +kernel,by decide +kernel⟩
theorem Z41:ay ["book", "name", "facts", "domains", "codes", "fact"] ["book", "name", "facts"] (ao Y41):=⟨rfl,rfl,rfl,by decide +kernel,rfl,by decide +kernel,by decide +kernel⟩
theorem Z82:ay ["book", "name", "facts", "codes"] ["book", "name", "facts"] (ao Y82):=⟨rfl,rfl,rfl,by decide +kernel,rfl,by decide +kernel,by decide +kernel⟩
theorem Z79:ay ["tables", "codes", "told", "taken", "table", "step"] ["tables", "codes"] (ao Y79):=⟨rfl,rfl,rfl,by decide +kernel,rfl,by decide +kernel,by decide +kernel⟩
theorem Z47:ay ["table", "columns", "silent", "codes", "rows"] ["table", "columns"] (ao Y47):=⟨rfl,rfl,rfl,by decide +kernel,rfl,by decide +kernel,by decide +kernel⟩
theorem Z49:ay ["script", "k"] ["script", "k"] (ao Y49):=⟨rfl,rfl,rfl,by decide +kernel,rfl,by decide +kernel,by decide +kernel⟩
theorem Z63:ay ["cell", "count", "letters", "head", "tail"] ["cell", "count"] (ao Y63):=⟨rfl,rfl,rfl,by decide +kernel,rfl,by decide +kernel,by decide +kernel⟩
theorem Z51:ay ["cell", "low", "width", "words"] ["cell"] (ao Y51):=⟨rfl,rfl,rfl,by decide +kernel,rfl,by decide +kernel,by decide +kernel⟩
theorem Z58:ay ["domain", "cell", "most", "width"] ["domain", "cell", "most"] (ao Y58):=⟨rfl,rfl,rfl,by decide +kernel,rfl,by decide +kernel,by decide +kernel⟩
theorem Z60:ay ["kind", "one", "two", "domain", "parts"] ["kind", "one", "two", "domain"] (ao Y60):=⟨rfl,rfl,rfl,by decide +kernel,rfl,by decide +kernel,by decide +kernel⟩
theorem Z59:ay ["columns", "domains", "pools", "own", "number", "parts", "k", "size", "one", "two"] ["columns", "domains", "pools", "own", "number"] (ao Y59):=⟨rfl,rfl,rfl,by decide +kernel,rfl,by decide +kernel,by decide +kernel⟩
theorem Z56:ay ["script", "most", "numbers", "k", "cell", "kept"] ["script", "most"] (ao Y56):=⟨rfl,rfl,rfl,by decide +kernel,rfl,by decide +kernel,by decide +kernel⟩
theorem Z50:ay ["script", "facts", "total", "domains", "sizes", "pools", "tables", "own", "cell", "columns", "way", "numbers", "k", "table"] ["script"] (ao Y50):=⟨rfl,rfl,rfl,by decide +kernel,rfl,by decide +kernel,by decide +kernel⟩
theorem Z55:ay ["domain"] ["domain"] (ao Y55):=⟨rfl,rfl,rfl,by decide +kernel,rfl,by decide +kernel,by decide +kernel⟩
theorem Z62:ay ["plan", "k", "names", "domains", "tables", "own", "columns", "rows", "heads", "taken"] ["plan", "k"] (ao Y62):=⟨rfl,rfl,rfl,by decide +kernel,rfl,by decide +kernel,by decide +kernel⟩
theorem Z53:ay ["plan", "names", "domains", "tables"] ["plan"] (ao Y53):=⟨rfl,rfl,rfl,by decide +kernel,rfl,by decide +kernel,by decide +kernel⟩
theorem Z54:ay ["spans", "code", "pair"] ["spans", "code"] (ao Y54):=⟨rfl,rfl,rfl,by decide +kernel,rfl,by decide +kernel,by decide +kernel⟩
theorem Z52:ay ["way", "outs", "domain"] ["way", "outs", "domain"] (ao Y52):=⟨rfl,rfl,rfl,by decide +kernel,rfl,by decide +kernel,by decide +kernel⟩
theorem Z57:ay ["plan", "cell", "names", "domains", "tables", "ends", "table", "row", "j", "spans", "codes", "k", "low", "high", "code"] ["plan", "cell"] (ao Y57):=⟨rfl,rfl,rfl,by decide +kernel,rfl,by decide +kernel,by decide +kernel⟩
theorem Z64:ay ["domain", "code"] ["domain", "code"] (ao Y64):=⟨rfl,rfl,rfl,by decide +kernel,rfl,by decide +kernel,by decide +kernel⟩
theorem Z61:ay ["plan", "k", "part", "verdicts", "codes", "names", "domains", "tables", "first", "columns", "way", "rows", "own", "j", "fitting", "i", "parts", "due"] ["plan", "k", "part", "verdicts", "codes"] (ao Y61):=⟨rfl,rfl,rfl,by decide +kernel,rfl,by decide +kernel,by decide +kernel⟩
theorem Z0:ay ["self", "facts", "tables"] ["self", "facts", "tables"] (ao Y0):=⟨rfl,rfl,rfl,by decide +kernel,rfl,by decide +kernel,by decide +kernel⟩
theorem Z22:ay ["self", "name", "names", "domains", "outcome", "way", "rows", "cells", "code"] ["self", "name", "names", "domains", "outcome", "way", "rows"] (ao Y22):=⟨rfl,rfl,rfl,by decide +kernel,rfl,by decide +kernel,by decide +kernel⟩
theorem Z7:ay ["self"] ["self"] (ao Y7):=⟨rfl,rfl,rfl,by decide +kernel,rfl,by decide +kernel,by decide +kernel⟩
theorem Z23:ay ["self", "called"] ["self", "called"] (ao Y23):=⟨rfl,rfl,rfl,by decide +kernel,rfl,by decide +kernel,by decide +kernel⟩
theorem Z18:ay ["self"] ["self"] (ao Y18):=⟨rfl,rfl,rfl,by decide +kernel,rfl,by decide +kernel,by decide +kernel⟩
theorem Z27:ay ["self", "called"] ["self", "called"] (ao Y27):=⟨rfl,rfl,rfl,by decide +kernel,rfl,by decide +kernel,by decide +kernel⟩
theorem Z11:ay ["self"] ["self"] (ao Y11):=⟨rfl,rfl,rfl,by decide +kernel,rfl,by decide +kernel,by decide +kernel⟩
theorem Z25:ay ["self", "called"] ["self", "called"] (ao Y25):=⟨rfl,rfl,rfl,by decide +kernel,rfl,by decide +kernel,by decide +kernel⟩
theorem Z13:ay ["self"] ["self"] (ao Y13):=⟨rfl,rfl,rfl,by decide +kernel,rfl,by decide +kernel,by decide +kernel⟩
theorem Z26:ay ["self", "called"] ["self", "called"] (ao Y26):=⟨rfl,rfl,rfl,by decide +kernel,rfl,by decide +kernel,by decide +kernel⟩
theorem Z9:ay ["self"] ["self"] (ao Y9):=⟨rfl,rfl,rfl,by decide +kernel,rfl,by decide +kernel,by decide +kernel⟩
theorem Z24:ay ["self", "called"] ["self", "called"] (ao Y24):=⟨rfl,rfl,rfl,by decide +kernel,rfl,by decide +kernel,by decide +kernel⟩
theorem Z20:ay ["self"] ["self"] (ao Y20):=⟨rfl,rfl,rfl,by decide +kernel,rfl,by decide +kernel,by decide +kernel⟩
theorem Z28:ay ["self", "called"] ["self", "called"] (ao Y28):=⟨rfl,rfl,rfl,by decide +kernel,rfl,by decide +kernel,by decide +kernel⟩
theorem Z5:ay ["self", "value"] ["self", "value"] (ao Y5):=⟨rfl,rfl,rfl,by decide +kernel,rfl,by decide +kernel,by decide +kernel⟩
theorem Z6:ay ["self", "value"] ["self", "value"] (ao Y6):=⟨rfl,rfl,rfl,by decide +kernel,rfl,by decide +kernel,by decide +kernel⟩
theorem Z15:ay ["self", "low", "high"] ["self", "low", "high"] (ao Y15):=⟨rfl,rfl,rfl,by decide +kernel,rfl,by decide +kernel,by decide +kernel⟩
theorem Z1:ay ["self", "low", "high"] ["self", "low", "high"] (ao Y1):=⟨rfl,rfl,rfl,by decide +kernel,rfl,by decide +kernel,by decide +kernel⟩
theorem Z35:ay ["self", "words", "word"] ["self", "words"] (ao Y35):=⟨rfl,rfl,rfl,by decide +kernel,rfl,by decide +kernel,by decide +kernel⟩
theorem Z2:ay ["self", "low", "high"] ["self", "low", "high"] (ao Y2):=⟨rfl,rfl,rfl,by decide +kernel,rfl,by decide +kernel,by decide +kernel⟩
theorem Z3:ay ["self", "value"] ["self", "value"] (ao Y3):=⟨rfl,rfl,rfl,by decide +kernel,rfl,by decide +kernel,by decide +kernel⟩
theorem Z17:ay ["self", "value"] ["self", "value"] (ao Y17):=⟨rfl,rfl,rfl,by decide +kernel,rfl,by decide +kernel,by decide +kernel⟩
theorem Z16:ay ["self", "value"] ["self", "value"] (ao Y16):=⟨rfl,rfl,rfl,by decide +kernel,rfl,by decide +kernel,by decide +kernel⟩
theorem Z4:ay ["self", "value"] ["self", "value"] (ao Y4):=⟨rfl,rfl,rfl,by decide +kernel,rfl,by decide +kernel,by decide +kernel⟩
theorem Z37:ay ["self", "value"] ["self", "value"] (ao Y37):=⟨rfl,rfl,rfl,by decide +kernel,rfl,by decide +kernel,by decide +kernel⟩
theorem Z36:ay ["self", "value"] ["self", "value"] (ao Y36):=⟨rfl,rfl,rfl,by decide +kernel,rfl,by decide +kernel,by decide +kernel⟩
theorem Z29:ay ["self", "codes", "outcome"] ["self", "codes", "outcome"] (ao Y29):=⟨rfl,rfl,rfl,by decide +kernel,rfl,by decide +kernel,by decide +kernel⟩
theorem Z8:ay ["self", "codes", "outcome"] ["self", "codes", "outcome"] (ao Y8):=⟨rfl,rfl,rfl,by decide +kernel,rfl,by decide +kernel,by decide +kernel⟩
theorem Z33:ay ["self", "codes", "outcome"] ["self", "codes", "outcome"] (ao Y33):=⟨rfl,rfl,rfl,by decide +kernel,rfl,by decide +kernel,by decide +kernel⟩
theorem Z19:ay ["self", "codes", "outcome"] ["self", "codes", "outcome"] (ao Y19):=⟨rfl,rfl,rfl,by decide +kernel,rfl,by decide +kernel,by decide +kernel⟩
theorem Z31:ay ["self", "codes", "outcome"] ["self", "codes", "outcome"] (ao Y31):=⟨rfl,rfl,rfl,by decide +kernel,rfl,by decide +kernel,by decide +kernel⟩
theorem Z12:ay ["self", "codes", "outcome"] ["self", "codes", "outcome"] (ao Y12):=⟨rfl,rfl,rfl,by decide +kernel,rfl,by decide +kernel,by decide +kernel⟩
theorem Z32:ay ["self", "codes", "outcome"] ["self", "codes", "outcome"] (ao Y32):=⟨rfl,rfl,rfl,by decide +kernel,rfl,by decide +kernel,by decide +kernel⟩
theorem Z14:ay ["self", "codes", "outcome"] ["self", "codes", "outcome"] (ao Y14):=⟨rfl,rfl,rfl,by decide +kernel,rfl,by decide +kernel,by decide +kernel⟩
theorem Z30:ay ["self", "codes", "outcome"] ["self", "codes", "outcome"] (ao Y30):=⟨rfl,rfl,rfl,by decide +kernel,rfl,by decide +kernel,by decide +kernel⟩
theorem Z10:ay ["self", "codes", "outcome"] ["self", "codes", "outcome"] (ao Y10):=⟨rfl,rfl,rfl,by decide +kernel,rfl,by decide +kernel,by decide +kernel⟩
theorem Z34:ay ["self", "codes", "outcome"] ["self", "codes", "outcome"] (ao Y34):=⟨rfl,rfl,rfl,by decide +kernel,rfl,by decide +kernel,by decide +kernel⟩
theorem Z21:ay ["self", "codes", "outcome"] ["self", "codes", "outcome"] (ao Y21):=⟨rfl,rfl,rfl,by decide +kernel,rfl,by decide +kernel,by decide +kernel⟩
theorem Z48:ay ["script", "plan", "names", "domains", "tables", "first", "made_tables", "book", "cell", "codes", "facts", "j", "k", "found", "verdicts", "part"] ["script"] (ao Y48):=⟨rfl,rfl,rfl,by decide +kernel,rfl,by decide +kernel,by decide +kernel⟩
structure Bl (K:PySem.W.Frag) (mg:Str->Option Value) (yA yE yN yO yP yQ yR yS yT yU yV yW yX ae yY yZ:Addr):Prop where
 TableError_:mg "TableError" = some (.ref yA)
 dE:PySem.W.nsIn K mainGlobals "TableError" = some (some (.ref yA))
 NoTable_:mg "NoTable" = some (.ref yE)
 fK:PySem.W.nsIn K mainGlobals "NoTable" = some (some (.ref yE))
 Way_:mg "Way" = some (.ref yN)
 gR:PySem.W.nsIn K mainGlobals "Way" = some (some (.ref yN))
 First_:mg "First" = some (.ref yO)
 iy:PySem.W.nsIn K mainGlobals "First" = some (some (.ref yO))
 Only_:mg "Only" = some (.ref yP)
 kJ:PySem.W.nsIn K mainGlobals "Only" = some (some (.ref yP))
 Like_:mg "Like" = some (.ref yQ)
 kK:PySem.W.nsIn K mainGlobals "Like" = some (some (.ref yQ))
 Low_:mg "Low" = some (.ref yR)
 oK:PySem.W.nsIn K mainGlobals "Low" = some (some (.ref yR))
 High_:mg "High" = some (.ref yS)
 kL:PySem.W.nsIn K mainGlobals "High" = some (some (.ref yS))
 Sum_:mg "Sum" = some (.ref yT)
 oM:PySem.W.nsIn K mainGlobals "Sum" = some (some (.ref yT))
 Domain_:mg "Domain" = some (.ref yU)
 eB:PySem.W.nsIn K mainGlobals "Domain" = some (some (.ref yU))
 Numbers_:mg "Numbers" = some (.ref yV)
 eA:PySem.W.nsIn K mainGlobals "Numbers" = some (some (.ref yV))
 Words_:mg "Words" = some (.ref yW)
 iz:PySem.W.nsIn K mainGlobals "Words" = some (some (.ref yW))
 Table_:mg "Table" = some (.ref yX)
 iA:PySem.W.nsIn K mainGlobals "Table" = some (some (.ref yX))
 Book_:mg "Book" = some (.ref ae)
 kM:PySem.W.nsIn K mainGlobals "Book" = some (some (.ref ae))
 x_NoTable:i7 K yE
 l_NoTable:xq K yE
 k_First:Cls K yO
 k_Only:Cls K yP
 k_Like:Cls K yQ
 k_Low:Cls K yR
 k_High:Cls K yS
 k_Sum:Cls K yT
 k_Numbers:Cls K yV
 k_Words:Cls K yW
 k_Table:Cls K yX
 k_Book:Cls K ae
 t_First:lz K yO
 t_Only:lz K yP
 t_Like:lz K yQ
 t_Low:lz K yR
 t_High:lz K yS
 t_Sum:lz K yT
 t_Numbers:lz K yV
 t_Words:lz K yW
 t_Table:lz K yX
 t_Book:lz K ae
 NONE_:mg "NONE" = some (.ref yY)
 q_NONE:ModT K yY [.str "none",.int (0)]
 CLASH_:mg "CLASH" = some (.ref yZ)
 q_CLASH:ModT K yZ [.str "clash",.int (0)]
 na_First_called:bq K yO "called"
 na_Only_called:bq K yP "called"
 na_Like_called:bq K yQ "called"
 na_Low_called:bq K yR "called"
 na_High_called:bq K yS "called"
 na_Sum_called:bq K yT "called"
 na_Numbers_low:bq K yV "low"
 na_Numbers_high:bq K yV "high"
 cV:bq K yV "words"
 na_Words_low:bq K yW "low"
 na_Words_high:bq K yW "high"
 na_Words_words:bq K yW "words"
 na_Table_name:bq K yX "name"
 na_Table_names:bq K yX "names"
 na_Table_domains:bq K yX "domains"
 na_Table_outcome:bq K yX "outcome"
 na_Table_way:bq K yX "way"
 na_Table_rows:bq K yX "rows"
 na_Book_facts:bq K ae "facts"
 na_Book_tables:bq K ae "tables"
 f_nn:PySem.W.kitOne K (.ref yV) (.ref yV)=some true
 f_wn:PySem.W.kitOne K (.ref yW) (.ref yV)=some false
 f_ww:PySem.W.kitOne K (.ref yW) (.ref yW)=some true
 xD:PySem.W.kitOne K (.ref yX) (.ref yX)=some true
 f_nw:PySem.W.kitOne K (.ref yV) (.ref yW)=some false
 iB:PySem.W.exmOne K (.ref yE) (.ref yA)=some true
 fZ:PySem.W.exmOne K (.ref yE) (.ref yE)=some true
 iC:PySem.W.kitOne K (.ref yE) (.ref yA)=some true
 iD:PySem.W.kitOne K (.ref yE) (.ref yE)=some true
 len_:mg "len" = none
 isinstance_:mg "isinstance" = none
 int_:mg "int" = none
 bool_:mg "bool" = none
 set_:mg "set" = none
 dict_:mg "dict" = none
 zip_:mg "zip" = none
 list_:mg "list" = none
 sum_:mg "sum" = none
 range_:mg "range" = none
 enumerate_:mg "enumerate" = none
 min_:mg "min" = none
 max_:mg "max" = none
 tuple_:mg "tuple" = none
 MOST_SIGNS_:∃ u,mg "MOST_SIGNS" = some u/\RelV (V.int 12) u
 SMALL_LETTERS_:∃ u,mg "SMALL_LETTERS" = some u/\RelV (V.str "abcdefghijklmnopqrstuvwxyz") u
 MOST_FACTS_:∃ u,mg "MOST_FACTS" = some u/\RelV (V.int 20) u
 MOST_TABLES_:∃ u,mg "MOST_TABLES" = some u/\RelV (V.int 30) u
 MOST_ROWS_:∃ u,mg "MOST_ROWS" = some u/\RelV (V.int 200) u
 MOST_COLUMNS_:∃ u,mg "MOST_COLUMNS" = some u/\RelV (V.int 4) u
 MOST_WORDS_:∃ u,mg "MOST_WORDS" = some u/\RelV (V.int 40) u
theorem p10 (n:Nat):(0:Int) < 10 ^ n:=Int.pow_pos (by decide)
theorem B6 {n:Int} {p:Int × Int} (c:decide (p.1<=n)=true) (d:decide (n<=p.2)=true):inR n p=true:=by unfold inR;rw [c,d];rfl
theorem yz {n:Int} {p:Int × Int} (c:¬ decide (p.1<=n)=true):inR n p=false:=by unfold inR;rw [Bool.eq_false_iff.mpr c];rfl
theorem yB {n:Int} {p:Int × Int} (d:¬ decide (n<=p.2)=true):inR n p=false:=by unfold inR;rw [Bool.eq_false_iff.mpr d,Bool.and_false]
theorem jd {H:Hp} {r:Addr} {o:HO} {b:Addr} {u:HO} (h:H r=some u) (n:H b=none):upd H b o r=some u:=by rw [av (bB h n)];exact h
theorem take_snoc {α:Type} {l:List α} {i:Nat} {x:α} (e:l[i]?=some x):l.take (i+1)=l.take i ++ [x]:=by rw [List.take_add_one,e];rfl
theorem get_map {ns:List Int} {i:Nat} {c:Int} (e:ns[i]?=some c):(ns.map V.int)[i]?=some (.int c):=by rw [List.getElem?_map,e];rfl
theorem of_map {ns:List Int} {i:Nat} {x:V} (e:(ns.map V.int)[i]?=some x):∃ c,x=.int c/\ns[i]?=some c:=by
 rw [List.getElem?_map] at e
 cases q:ns[i]? with
 | none=>rw [q] at e;cases e
 | some c=>rw [q] at e;cases e;exact ⟨c,rfl,rfl⟩
def lets:Str := "abcdefghijklmnopqrstuvwxyz"
def isw (z:Str):Bool:=decide ((1:Int)<=((z.length:Nat):Int)) && (decide (((z.length:Nat):Int)<=12) && (!decide (V.str z=V.str "not") && mz z lets))
theorem zO {l:List Nat} {i:Nat} {c:Nat} {p:Nat->Bool} (e:l[i]?=some c) (h:p c=false):l.all p=false:=by
 cases q:l.all p with
 | false=>rfl
 | true=>rw [List.all_eq_true.mp q c (G8 e)] at h;cases h
theorem all_succ {l:List Nat} {i:Nat} {c:Nat} {p:Nat->Bool} (e:l[i]?=some c) (h:p c=true) (ha:(l.take i).all p=true):(l.take (i+1)).all p=true:=by
 rw [take_snoc e,List.all_append,ha];simp [h]
theorem vI {z g:Str} (h:(z.cps.toList.take z.cps.size).all (sg g)=true):mz z g=true:=by
 have e:z.cps.toList.take z.cps.size=z.cps.toList:=by rw [← Array.length_toList];exact List.take_length
 rw [e] at h;exact h
theorem zP {g:Str} {c:Nat} (h:(!(!(Builtin.Str.occurrences g ⟨#[c]⟩ 0 g.length 1).isEmpty))=true):sg g c=false:=by unfold sg;simpa using h
theorem B7 {g:Str} {c:Nat} (h:¬ (!(!(Builtin.Str.occurrences g ⟨#[c]⟩ 0 g.length 1).isEmpty))=true):sg g c=true:=by unfold sg;simpa using h
theorem big {n:Nat} (h:n<=1000):n<=sizeLine:=Nat.le_of_lt (aD h)
def mkd (C:Addr) (H:Hp) (x dx:Addr) (lo hi:Int):Hp:=upd (upd H x (.ins C dx [("low",.int lo)])) x (.ins C dx [("low",.int lo),("high",.int hi)])
theorem put2 (v u:V):bz (Str.ofString "high") u [(Str.ofString "low",v)]=[(Str.ofString "low",v),(Str.ofString "high",u)]:=by
 unfold bz bz
 rw [if_neg (by decide)]
theorem put3 (v u t:V):bz (Str.ofString "words") t [(Str.ofString "low",v),(Str.ofString "high",u)]=[(Str.ofString "low",v),(Str.ofString "high",u),(Str.ofString "words",t)]:=by
 unfold bz bz bz
 rw [if_neg (by decide),if_neg (by decide)]
def hiW (zs:List Str):Int:=((zs.length:Nat):Int) - 1
structure Good (zs:List Str):Prop where
 some_:1<=zs.length
 few:zs.length<=40
 words:∀ z ∈ zs,isw z=true
 once:zs.Nodup
theorem dn (zs:List Str):(zs.map V.str).all cn=true:=by
 rw [List.all_map]
 exact List.all_eq_true.mpr λ_ _=>rfl
theorem cO {zs:List Str} {i:Nat} {x:V} (e:(zs.map V.str)[i]?=some x):∃ z,x=.str z/\zs[i]?=some z:=by
 rw [List.getElem?_map] at e
 cases q:zs[i]? with
 | none=>rw [q] at e;cases e
 | some z=>rw [q] at e;cases e;exact ⟨z,rfl,rfl⟩
theorem df {zs:List Str} {i:Nat} {z:Str} (e:zs[i]?=some z):(zs.map V.str)[i]?=some (.str z):=by rw [List.getElem?_map,e];rfl
def six:List Str:=[Str.ofString "first",Str.ofString "only",Str.ofString "like",Str.ofString "low",Str.ofString "high",Str.ofString "sum"]
theorem xE {i j:Nat} {z:Str} (h:six[i]?=some z) (k:six[j]?=some z):i=j:=l0 (show six.Nodup by decide +kernel) h k
def WyN (C:Addr) (H:Hp) (x:Addr) (z:Str):Prop:=∃ dx,H x=some (.ins C dx [("called",.str z)])
theorem WyN.same {C:Addr} {H H' : Hp} {x:Addr} {z:Str} (h:WyN C H x z) (s:aq H H'):WyN C H' x z:=by obtain ⟨dx,e⟩:=h;exact ⟨dx,s _ _ e⟩
def uC (C:Addr) (z:Str):Sp:=λvs H Q _=>∃ (x dx:Addr),vs=[.ref x]/\H x=some (.ins C dx [])/\Q .non (upd H x (.ins C dx [("called",.str z)]))
theorem br:2<=sizeLine:=by decide
def cl6 (a b c d e f:Addr):List Addr:=[a,b,c,d,e,f]
def zQ (C:Addr) (H:Hp) (a:Addr) (lo hi:Int):Prop:=∃ dx fs,H a=some (.ins C dx fs)/\fs.lookup (Str.ofString "low")=some (.int lo)/\fs.lookup (Str.ofString "high")=some (.int hi)/\fs.lookup (Str.ofString "has_code")=none
def Dom (cN cW:Addr) (H:Hp) (a:Addr) (b:Int × Int):Prop:=∃ C,(C=cN\/C=cW)/\zQ C H a b.1 b.2
theorem Dom.same {cN cW:Addr} {H H' : Hp} {a:Addr} {b:Int × Int} (h:Dom cN cW H a b) (s:aq H H'):Dom cN cW H' a b:=by obtain ⟨C,hC,dx,fs,e,r⟩:=h;exact ⟨C,hC,dx,fs,s _ _ e,r⟩
def az {α:Type} (xs:List V) (as:List α) (P:Addr->α->Prop):Prop:=xs.length=as.length/\∀ (j:Nat) (a:α),as[j]?=some a->∃ r,xs[j]?=some (.ref r)/\P r a
theorem az.mono {α:Type} {xs:List V} {as:List α} {P Q:Addr->α->Prop} (h:az xs as P) (k:∀ r a,P r a->Q r a):az xs as Q:=⟨h.1,λj a e=>let ⟨r,e1,p⟩:=h.2 j a e;⟨r,e1,k r a p⟩⟩
theorem az.nil {α:Type} {P:Addr->α->Prop} : az [] [] P:=⟨rfl,(λj a e=>by simp at e)⟩
theorem az.snoc {α:Type} {xs:List V} {as:List α} {P:Addr->α->Prop} {r:Addr} {a:α} (h:az xs as P) (p:P r a):az (xs ++ [.ref r]) (as ++ [a]) P:=by
 refine ⟨by simp [h.1],λj b e=>?_⟩
 by_cases hj:j < as.length
 ·rw [List.getElem?_append_left hj] at e
  obtain ⟨r',e1,q⟩:=h.2 j b e
  exact ⟨r',by rw [List.getElem?_append_left (by rw [h.1];exact hj)];exact e1,q⟩
 ·have hj2:j=as.length:=by
   have:=(G7.mp e).1
   simp at this;lia
  subst hj2
  simp at e
  subst e
  exact ⟨r,by rw [← h.1];simp,p⟩
theorem az.get {α:Type} {xs:List V} {as:List α} {P:Addr->α->Prop} (h:az xs as P) {j:Nat} {x:V} (e:xs[j]?=some x):∃ r a,x=.ref r/\as[j]?=some a/\P r a:=by
 have hj:=(G7.mp e).1
 have ea:=G6 (l:=as) (i:=j) (by rw [← h.1];exact hj)
 obtain ⟨r,e1,p⟩:=h.2 j _ ea
 rw [e] at e1;cases e1
 exact ⟨r,_,rfl,ea,p⟩
abbrev Prs:=List (Int × Int)
def SpA (N:Addr->Prop) (H:Hp) (l:Addr) (ps:Prs):Prop:=N l/\∃ ys,H l=some (.lst ys)/\PL H ys ps
def CL (N:Addr->Prop) (H:Hp) (xs:List V) (pss:List Prs):Prop:=az xs pss (SpA N H)
abbrev Rw:=List Prs × Int
def fL (N:Addr->Prop) (H:Hp) (r:Addr) (rw_:Rw):Prop:=∃ ce cs,H r=some (.tup [.ref ce,.int rw_.2])/\N ce/\H ce=some (.lst cs)/\CL N H cs rw_.1
def RL (N:Addr->Prop) (H:Hp) (xs:List V) (rws:List Rw):Prop:=az xs rws (fL N H)
theorem SpA.same {N:Addr->Prop} {H H' : Hp} {l:Addr} {ps:Prs} (h:SpA N H l ps) (s:aq H H'):SpA N H' l ps:=by obtain ⟨n,ys,e,p⟩:=h;exact ⟨n,ys,s _ _ e,p.mono s.tups⟩
theorem CL.same {N:Addr->Prop} {H H' : Hp} {xs:List V} {pss:List Prs} (h:CL N H xs pss) (s:aq H H'):CL N H' xs pss:=az.mono h λ_ _ p=>p.same s
theorem fL.same {N:Addr->Prop} {H H' : Hp} {r:Addr} {w:Rw} (h:fL N H r w) (s:aq H H'):fL N H' r w:=by obtain ⟨ce,cs,e,n,f,c⟩:=h;exact ⟨ce,cs,s _ _ e,n,s _ _ f,c.same s⟩
theorem RL.same {N:Addr->Prop} {H H' : Hp} {xs:List V} {rws:List Rw} (h:RL N H xs rws) (s:aq H H'):RL N H' xs rws:=az.mono h λ_ _ p=>p.same s
abbrev NT:Addr->Prop:=λ_=>True
theorem SpA.any {N:Addr->Prop} {H:Hp} {l:Addr} {ps:Prs} (h:SpA N H l ps):SpA NT H l ps:=⟨trivial,h.2⟩
theorem CL.any {N:Addr->Prop} {H:Hp} {xs:List V} {pss:List Prs} (h:CL N H xs pss):CL NT H xs pss:=az.mono h λ_ _ p=>p.any
theorem fL.any {N:Addr->Prop} {H:Hp} {r:Addr} {w:Rw} (h:fL N H r w):fL NT H r w:=by obtain ⟨ce,cs,e,_,f,c⟩:=h;exact ⟨ce,cs,e,trivial,f,c.any⟩
theorem RL.any {N:Addr->Prop} {H:Hp} {xs:List V} {rws:List Rw} (h:RL N H xs rws):RL NT H xs rws:=az.mono h λ_ _ p=>p.any
theorem SpA.wk {N N' : Addr->Prop} {H:Hp} {l:Addr} {ps:Prs} (h:SpA N H l ps) (k:∀ a,N a->N' a):SpA N' H l ps:=⟨k _ h.1,h.2⟩
theorem CL.wk {N N' : Addr->Prop} {H:Hp} {xs:List V} {pss:List Prs} (h:CL N H xs pss) (k:∀ a,N a->N' a):CL N' H xs pss:=az.mono h λ_ _ p=>p.wk k
theorem fL.wk {N N' : Addr->Prop} {H:Hp} {r:Addr} {w:Rw} (h:fL N H r w) (k:∀ a,N a->N' a):fL N' H r w:=by obtain ⟨ce,cs,e,n,f,c⟩:=h;exact ⟨ce,cs,e,k _ n,f,c.wk k⟩
theorem SpA.updN {N:Addr->Prop} {D:Addr} {H:Hp} {l:Addr} {ps:Prs} {zs:List V} {o:HO} (h:SpA N H l ps) (n:¬ N D) (e:H D=some (.lst zs)):SpA N (upd H D o) l ps:=by
 obtain ⟨m,ys,f,p⟩:=h
 exact ⟨m,ys,(av (λz=>n (by rw [← z];exact m))).trans f,p.mono (oo e)⟩
theorem CL.updN {N:Addr->Prop} {D:Addr} {H:Hp} {xs:List V} {pss:List Prs} {zs:List V} {o:HO} (h:CL N H xs pss) (n:¬ N D) (e:H D=some (.lst zs)):CL N (upd H D o) xs pss:=az.mono h λ_ _ p=>p.updN n e
theorem fL.updN {N:Addr->Prop} {D:Addr} {H:Hp} {r:Addr} {w:Rw} {zs:List V} {o:HO} (h:fL N H r w) (n:¬ N D) (e:H D=some (.lst zs)):fL N (upd H D o) r w:=by
 obtain ⟨ce,cs,f,m,g,c⟩:=h
 exact ⟨ce,cs,(av (ck f e (by intro z;cases z))).trans f,m,(av (λz=>n (by rw [← z];exact m))).trans g,c.updN n e⟩
theorem RL.updN {N:Addr->Prop} {D:Addr} {H:Hp} {xs:List V} {rws:List Rw} {zs:List V} {o:HO} (h:RL N H xs rws) (n:¬ N D) (e:H D=some (.lst zs)):RL N (upd H D o) xs rws:=az.mono h λ_ _ p=>p.updN n e
def Fr (H:Hp) (D:Addr):Addr->Prop:=λa=>H a=none/\a ≠ D
theorem Fr.out {H:Hp} {D:Addr} : ¬ Fr H D D:=λh=>h.2 rfl
structure GL (b:Int × Int) (zs:List Str):Prop where
 le:b.1<=b.2
 ws:zs ≠ []->Good zs/\b=(0,hiW zs)
structure tQ (bs:Prs) (o:Int × Int) (w:Rw):Prop where
 len:w.1.length=bs.length
 inn:∀ (j:Nat) (ps:Prs) (b:Int × Int),w.1[j]?=some ps->bs[j]?=some b->∀ p ∈ ps,b.1<=p.1/\p.2<=b.2
 lo:o.1<=w.2
 hi:w.2<=o.2
def nO (pss:List Prs) (cs:List Int):Bool:=(List.range cs.length).all λj=>inP (pss.getD j []) (cs.getD j 0)
theorem pf1 (v0 v1:V):bz (Str.ofString "names") v1 [(Str.ofString "name",v0)]=[(Str.ofString "name",v0),(Str.ofString "names",v1)]:=by
 unfold bz bz
 rw [if_neg (by decide)]
theorem pf2 (v0 v1 v2:V):bz (Str.ofString "domains") v2 [(Str.ofString "name",v0),(Str.ofString "names",v1)]=[(Str.ofString "name",v0),(Str.ofString "names",v1),(Str.ofString "domains",v2)]:=by
 unfold bz bz bz
 rw [if_neg (by decide),if_neg (by decide)]
theorem pf3 (v0 v1 v2 v3:V):bz (Str.ofString "outcome") v3 [(Str.ofString "name",v0),(Str.ofString "names",v1),(Str.ofString "domains",v2)]=[(Str.ofString "name",v0),(Str.ofString "names",v1),(Str.ofString "domains",v2),(Str.ofString "outcome",v3)]:=by
 unfold bz bz bz bz
 rw [if_neg (by decide),if_neg (by decide),if_neg (by decide)]
theorem pf4 (v0 v1 v2 v3 v4:V):bz (Str.ofString "way") v4 [(Str.ofString "name",v0),(Str.ofString "names",v1),(Str.ofString "domains",v2),(Str.ofString "outcome",v3)]=[(Str.ofString "name",v0),(Str.ofString "names",v1),(Str.ofString "domains",v2),(Str.ofString "outcome",v3),(Str.ofString "way",v4)]:=by
 unfold bz bz bz bz bz
 rw [if_neg (by decide),if_neg (by decide),if_neg (by decide),if_neg (by decide)]
theorem pf5 (v0 v1 v2 v3 v4 v5:V):bz (Str.ofString "rows") v5 [(Str.ofString "name",v0),(Str.ofString "names",v1),(Str.ofString "domains",v2),(Str.ofString "outcome",v3),(Str.ofString "way",v4)]=[(Str.ofString "name",v0),(Str.ofString "names",v1),(Str.ofString "domains",v2),(Str.ofString "outcome",v3),(Str.ofString "way",v4),(Str.ofString "rows",v5)]:=by
 unfold bz bz bz bz bz bz
 rw [if_neg (by decide),if_neg (by decide),if_neg (by decide),if_neg (by decide),if_neg (by decide)]
def hide (H:Hp) (x:Addr):Hp:=λb=>if b=x then none else H b
theorem cX {H:Hp} {x b:Addr} {o:HO} (e:H b=some o) (n:b ≠ x):hide H x b=some o:=by unfold hide;rw [if_neg n];exact e
theorem kN {H H' : Hp} {x:Addr} (k:∀ b o,b ≠ x->H b=some o->H' b=some o):aq (hide H x) H':=λb o e=>by
 unfold hide at e
 by_cases h:b=x
 ·rw [if_pos h] at e;cases e
 ·rw [if_neg h] at e;exact k b o h e
theorem PL.hide {H:Hp} {x C dx:Addr} {fs:List (Str × V)} (hx:H x=some (.ins C dx fs)) {ys:List V} {ps:Prs} (h:PL H ys ps):PL (hide H x) ys ps :=
 h.mono λb xs e=>cX e (ck e hx (by intro z;cases z))
theorem RL.hide {H:Hp} {x C dx:Addr} {fs:List (Str × V)} (hx:H x=some (.ins C dx fs)) {xs:List V} {rws:List Rw} (h:RL NT H xs rws):RL NT (My.hide H x) xs rws :=
 az.mono h λr w ⟨ce,cs,e,_,f,c⟩=>⟨ce,cs,cX e (ck e hx (by intro z;cases z)),trivial,cX f (ck f hx (by intro z;cases z)),az.mono c λl ps ⟨_,ys,g,p⟩=>⟨trivial,ys,cX g (ck g hx (by intro z;cases z)),PL.hide hx p⟩⟩
def wcs (c k:Int):List Nat:=List.replicate (c / 26 % 6).toNat (97+(c % 26).toNat) ++ ([97+(k / 7 % 7).toNat,97+(k % 7).toNat] ++ List.replicate (k % 5).toNat (97+(c / 156 % 26).toNat))
def wd (c k:Int):Str:=⟨(wcs c k).toArray⟩
theorem zR {c:Nat} (h:97<=c/\c<=122):sg lets c=true:=by
 have:∀ d:Nat,d < 26->sg lets (97+d)=true:=by decide +kernel
 have z:=this (c - 97) (by lia)
 rw [show 97+(c - 97)=c by lia] at z
 exact z
theorem pq {s:Str} {n:Nat} (h:s.cps.toList=(List.range n).map (97 + ·)) {k:Int} (h0:0<=k) (h1:k < n):atI s.cps.toList k=some (97+k.toNat):=by
 have hk:k.toNat < n:=by lia
 have z:s.cps.toList[k.toNat]?=some (97+k.toNat):=by rw [h,List.getElem?_map,List.getElem?_range hk];rfl
 have q:=aM z
 rw [show ((k.toNat:Nat):Int)=k by lia] at q
 exact q
theorem vJ:(Str.ofString "abcdefghijklmnopqrstuvwxyz").cps.toList=(List.range 26).map (97 + ·):=by decide +kernel
abbrev SI:=Str × Int
def tp (p:SI):List V:=[.str p.1,.int p.2]
def say (i:Int):SI:=(Str.ofString "say",i)
def tR:SI:=(Str.ofString "clash",0)
def zS:SI:=(Str.ofString "none",0)
def least (ns:List Int):Int:=ns.foldl (λm c=>if c < m then c else m) (ns.headD 0)
def great (ns:List Int):Int:=ns.foldl (λm c=>if c > m then c else m) (ns.headD 0)
theorem fold_min (ns:List Int):∀ m:Int,(ns.foldl (λm c=>if c < m then c else m) m=m\/ns.foldl (λm c=>if c < m then c else m) m ∈ ns)/\ns.foldl (λm c=>if c < m then c else m) m<=m/\∀ x ∈ ns,ns.foldl (λm c=>if c < m then c else m) m<=x:=by
 induction ns with
 | nil=>intro m;exact ⟨.inl rfl,Int.le_refl _,λx h=>by cases h⟩
 | cons n ns ih =>
  intro m
  obtain ⟨h1,h2,h3⟩:=ih (if n < m then n else m)
  rw [List.foldl_cons]
  refine ⟨?_,?_,λx hx=>?_⟩
  ·rcases h1 with h1 | h1
   ·rw [h1];split
    ·exact .inr List.mem_cons_self
    ·exact .inl rfl
   ·exact .inr (List.mem_cons_of_mem _ h1)
  ·split at h2 <;> split <;> lia
  ·rcases List.mem_cons.mp hx with rfl | hx
   ·split at h2 <;> split <;> lia
   ·exact h3 x hx
theorem fold_max (ns:List Int):∀ m:Int,(ns.foldl (λm c=>if c > m then c else m) m=m\/ns.foldl (λm c=>if c > m then c else m) m ∈ ns)/\m<=ns.foldl (λm c=>if c > m then c else m) m/\∀ x ∈ ns,x<=ns.foldl (λm c=>if c > m then c else m) m:=by
 induction ns with
 | nil=>intro m;exact ⟨.inl rfl,Int.le_refl _,λx h=>by cases h⟩
 | cons n ns ih =>
  intro m
  obtain ⟨h1,h2,h3⟩:=ih (if n > m then n else m)
  rw [List.foldl_cons]
  refine ⟨?_,?_,λx hx=>?_⟩
  ·rcases h1 with h1 | h1
   ·rw [h1];split
    ·exact .inr List.mem_cons_self
    ·exact .inl rfl
   ·exact .inr (List.mem_cons_of_mem _ h1)
  ·split at h2 <;> split <;> lia
  ·rcases List.mem_cons.mp hx with rfl | hx
   ·split at h2 <;> split <;> lia
   ·exact h3 x hx
theorem fM {n:Int} {ns:List Int} : least (n :: ns) ∈ n :: ns/\∀ x ∈ n :: ns,least (n :: ns)<=x:=by
 obtain ⟨h1,h2,h3⟩:=fold_min (n :: ns) n
 refine ⟨?_,h3⟩
 rcases h1 with h1 | h1
 ·show (n :: ns).foldl _ n ∈ _
  rw [h1];exact List.mem_cons_self
 ·exact h1
theorem gS {n:Int} {ns:List Int} : great (n :: ns) ∈ n :: ns/\∀ x ∈ n :: ns,x<=great (n :: ns):=by
 obtain ⟨h1,h2,h3⟩:=fold_max (n :: ns) n
 refine ⟨?_,h3⟩
 rcases h1 with h1 | h1
 ·show (n :: ns).foldl _ n ∈ _
  rw [h1];exact List.mem_cons_self
 ·exact h1
theorem mH {n m:Int} {ns:List Int} (h1:m ∈ n :: ns) (h2:∀ b ∈ n :: ns,m<=b):m=least (n :: ns):=by
 have a:=h2 _ fM.1
 have b:=fM.2 _ h1
 lia
theorem mI {n m:Int} {ns:List Int} (h1:m ∈ n :: ns) (h2:∀ b ∈ n :: ns,b<=m):m=great (n :: ns):=by
 have a:=h2 _ gS.1
 have b:=gS.2 _ h1
 lia
def Dp (ns:List Int):SI:=say (least ns)
def B8 (ns:List Int):SI:=say (great ns)
def jZ (ns:List Int):SI:=if least ns=great ns then say (least ns) else tR
theorem kO {n:Int} {ns:List Int} : (∀ x ∈ ns,x=n)↔least (n :: ns)=great (n :: ns):=by
 constructor
 ·intro h
  have e:∀ x ∈ n :: ns,x=n:=λx hx=>by
   rcases List.mem_cons.mp hx with r | hx
   ·exact r
   ·exact h x hx
  rw [e _ fM.1,e _ gS.1]
 ·intro h x hx
  have a1:=fM.2 x (List.mem_cons_of_mem n hx)
  have a2:=gS.2 x (List.mem_cons_of_mem n hx)
  have a3:=fM.2 n (List.mem_cons_self (l:=ns))
  have a4:=gS.2 n (List.mem_cons_self (l:=ns))
  lia
theorem oN {n:Int} {ns:List Int} (h:∀ x ∈ ns,x=n):least (n :: ns)=n:=by
 have e:∀ x ∈ n :: ns,x=n:=λx hx=>by
  rcases List.mem_cons.mp hx with r | hx
  ·exact r
  ·exact h x hx
 exact e _ fM.1
def ver (f:List Int->SI):List Int->SI
 | []=>zS
 | n :: ns=>f (n :: ns)
def Wy (C:Addr) (H:Hp) (x:Addr):Prop:=∃ dx z,H x=some (.ins C dx [("called",.str z)])
def zT (ns:List Int):SI:=say (ns.headD 0)
def j3 (ns:List Int):SI:=if ns.length=1 then say (ns.headD 0) else tR
def near (lo hi n:Int):Int:=if n < lo then lo else if n > hi then hi else n
def wf:Nat->Int->Int->List Int->SI
 | 0,_,_=>zT
 | 1,_,_=>j3
 | 2,_,_=>jZ
 | 3,_,_=>Dp
 | 4,_,_=>B8
 | _,lo,hi=>λns=>say (near lo hi ns.sum)
theorem at0 (n:Int) (ns:List Int):atI ((n :: ns).map V.int) 0=some (.int n):=aM (j:=0) rfl
def uD (K:PySem.W.Frag) (C cN cW:Addr) (i:Nat):Sp:=λvs H Q _=>∃ (x c o:Addr) (n:Int) (ns:List Int) (b:Int × Int),vs=[.ref x,.ref c,.ref o]/\Wy C H x/\Dom cN cW H o b/\b.1<=b.2/\SqL K H c ((n :: ns).map V.int)/\ns.length < 900/\∀ (r:Addr) (H' : Hp),aq H H'->SqT K H' r (tp (wf i b.1 b.2 (n :: ns)))->Q (.ref r) H'
def j4 (K:PySem.W.Frag) (C cN cW:Addr) (i:Nat):Sp:=λvs H Q _=>∃ (x c o:Addr) (ns:List Int) (b:Int × Int),vs=[.ref x,.ref c,.ref o]/\Wy C H x/\Dom cN cW H o b/\b.1<=b.2/\SqL K H c (ns.map V.int)/\ns.length < 900/\∀ (r:Addr) (H' : Hp),aq H H'->SqT K H' r (tp (ver (wf i b.1 b.2) ns))->Q (.ref r) H'
def msk (f:Nat->Bool):Nat->Nat
 | 0=>0
 | n+1=>(if f n then 2 ^ n else 0)+msk f n
theorem mJ (f:Nat->Bool) (n:Nat):msk f (n+1)=(if f n then 2 ^ n else 0)+msk f n:=rfl
theorem sj (f:Nat->Bool):∀ n,msk f n < 2 ^ n
 | 0=>Nat.one_pos
 | n+1=>by
  have:=sj f n
  unfold msk
  rw [Nat.pow_succ]
  split <;> lia
theorem tS (f:Nat->Bool) (k:Nat):∀ n,(msk f n).testBit k=(decide (k < n) && f k)
 | 0=>by simp [msk]
 | n+1=>by
  have ih:=tS f k n
  have lt:=sj f n
  unfold msk
  rcases Nat.lt_trichotomy k n with h | h | h
  ·split
   ·rw [Nat.testBit_two_pow_add_gt h,ih];simp [h,Nat.lt_succ_of_lt h]
   ·rw [Nat.zero_add,ih];simp [h,Nat.lt_succ_of_lt h]
  ·subst h
   split
   ·rename_i hf
    rw [Nat.testBit_two_pow_add_eq,Nat.testBit_lt_two_pow lt];simp [hf]
   ·rename_i hf
    rw [Nat.zero_add,Nat.testBit_lt_two_pow lt];simp [hf]
  ·have lt2:(if f n=true then 2 ^ n else 0)+msk f n < 2 ^ k:=Nat.lt_of_lt_of_le (sj f (n+1)) (Nat.pow_le_pow_right (by decide) h)
   rw [Nat.testBit_lt_two_pow lt2]
   simp;lia
def gU (m:Int) (k:Nat):Bool:=Builtin.bitAnd (m / 2 ^ k) 1 != 0
theorem uE (f:Nat->Bool) (n k:Nat):gU ((msk f n:Nat):Int) k=(decide (k < n) && f k):=by
 rw [← tS]
 unfold gU
 have e:((msk f n:Nat):Int) / 2 ^ k=((msk f n / 2 ^ k:Nat):Int):=by simp
 rw [e,PyProof.Rows.bitAnd_pp (Int.natCast_nonneg _) (by decide)]
 unfold Nat.testBit
 rw [Nat.shiftRight_eq_div_pow,Int.toNat_natCast,Nat.and_comm]
 show ((((1:Int).toNat &&& (msk f n / 2 ^ k):Nat):Int) != 0)=_
 rw [Bool.eq_iff_iff,bne_iff_ne,bne_iff_ne]
 constructor
 ·intro h z;exact h (by rw [show (1:Int).toNat=1 from rfl,z];rfl)
 ·intro h z;exact h (by rw [show (1:Int).toNat=1 from rfl] at z;lia)
def pkF (rws:List Rw) (f:Nat->Bool) (n:Nat):List Int:=((List.range n).filter f).map λk=>(rws.getD k ([],0)).2
theorem qX (rws:List Rw) (f:Nat->Bool) (n:Nat):pkF rws f (n+1)=pkF rws f n ++ (if f n then [(rws.getD n ([],0)).2] else []):=by
 unfold pkF
 rw [List.range_succ,List.filter_append,List.map_append]
 cases h:f n with
 | true=>rw [List.filter_cons_of_pos h];simp
 | false=>rw [List.filter_cons_of_neg (by rw [h];exact Bool.false_ne_true)];simp
theorem tT (rws:List Rw) (f:Nat->Bool) (n:Nat):(pkF rws f n).length<=n:=by
 unfold pkF
 rw [List.length_map]
 exact Nat.le_trans (List.length_filter_le ..) (by simp)
theorem xF (rws:List Rw) (f:Nat->Bool) (n:Nat):pkF rws (gU ((msk f n:Nat):Int)) n=pkF rws f n:=by
 unfold pkF
 congr 1
 apply List.filter_congr
 intro k hk
 rw [uE]
 simp [List.mem_range.mp hk]
def Tbl (cT cN cW:Addr) (H:Hp) (t:Addr) (rws:List Rw) (i:Nat) (o:Int × Int):Prop:=∃ (rl ou dx:Addr) (fs:List (Str × V)) (xs:List V) (wy:Str),H t=some (.ins cT dx fs)/\fs.lookup (Str.ofString "rows")=some (.ref rl)/\fs.lookup (Str.ofString "way")=some (.str wy)/\fs.lookup (Str.ofString "outcome")=some (.ref ou)/\H rl=some (.lst xs)/\RL NT H xs rws/\six[i]?=some wy/\Dom cN cW H ou o/\o.1<=o.2/\xs.length<=200
theorem Tbl.same {cT cN cW:Addr} {H H' : Hp} {t:Addr} {rws:List Rw} {i:Nat} {o:Int × Int} (h:Tbl cT cN cW H t rws i o) (s:aq H H'):Tbl cT cN cW H' t rws i o:=by
 obtain ⟨rl,ou,dx,fs,xs,wy,h1,h2,h3,h4,h5,h6,h7,h8,h9,h10⟩:=h
 exact ⟨rl,ou,dx,fs,xs,wy,s _ _ h1,h2,h3,h4,s _ _ h5,h6.same s,h7,h8.same s,h9,h10⟩
theorem zU {i:Nat} {z:Str} (h:six[i]?=some z):i < 6:=(G7.mp h).1
def eE (rws:List Rw) (cs:List Int) (k:Nat):Bool:=nO (rws.getD k ([],0)).1 cs
theorem getD_at {rws:List Rw} {k:Nat} {w:Rw} (e:rws[k]?=some w):rws.getD k ([],0)=w:=by rw [List.getD_eq_getElem?_getD,e];rfl
def fl (rws:List Rw) (cs:List Int):List Int:=(rws.filter λw=>nO w.1 cs).map (·.2)
theorem xG (rws:List Rw) (w:Rw) (cs:List Int):fl (rws ++ [w]) cs=fl rws cs ++ (if nO w.1 cs then [w.2] else []):=by
 unfold fl
 rw [List.filter_append,List.map_append]
 cases h:nO w.1 cs <;> simp [List.filter_cons,h]
theorem qY (rws:List Rw) (cs:List Int):∀ n,n<=rws.length->pkF rws (eE rws cs) n=fl (rws.take n) cs
 | 0,_=>by simp [pkF,fl]
 | n+1,h=>by
  have ew:rws[n]?=some rws[n]:=G6 h
  rw [qX,qY rws cs n (Nat.le_of_succ_le h),take_snoc ew,xG,getD_at ew]
  unfold eE
  rw [getD_at ew]
theorem vK (rws:List Rw) (cs:List Int):pkF rws (eE rws cs) rws.length=fl rws cs:=by
 rw [qY rws cs _ (Nat.le_refl _),List.take_length]
def w6:List Str:=[Str.ofString "low",Str.ofString "high",Str.ofString "like",Str.ofString "only",Str.ofString "first",Str.ofString "sum"]
structure Col where
 prs:Prs
 w:Bool
 sd:Int
structure Ch (ps:Prs):Prop where
 le:∀ (i:Nat) (p:Int × Int),ps[i]?=some p->p.1<=p.2
 nxt:∀ (i:Nat) (p q:Int × Int),ps[i]?=some p->ps[i+1]?=some q->q.1=p.2+1
structure GN (c:Col):Prop where
 some_:1<=c.prs.length
 few:c.prs.length<=6
 ch:Ch c.prs
 w0:c.w=true->∀ p,c.prs[0]?=some p->p.1=0
 wl:c.w=true->∀ (i:Nat) (p:Int × Int),c.prs[i]?=some p->p.2 < 40
def Col.lo (c:Col):Int:=(c.prs.headD (0,0)).1
def Col.hi (c:Col):Int:=(c.prs.getLastD (0,0)).2
def Col.b (c:Col):Int × Int:=(c.lo,c.hi)
structure Srt (ps:Prs):Prop where
 le:∀ (i:Nat) (p:Int × Int),ps[i]?=some p->p.1<=p.2
 lt:∀ (i j:Nat) (p q:Int × Int),i < j->ps[i]?=some p->ps[j]?=some q->p.2 < q.1
structure Dq (prs:Prs) (b n:Nat) (ps:Prs):Prop where
 srt:Srt ps
 iff:∀ x:Int,inP ps x=true↔∃ (k:Nat) (p:Int × Int),k < n/\prs[k]?=some p/\b.testBit k=true/\p.1<=x/\x<=p.2
def mrg (prs:Prs) (b:Nat):Nat->Prs
 | 0=>[]
 | n+1=>if b.testBit n then (if (decide (0 < n) && b.testBit (n - 1)) then (mrg prs b n).dropLast ++ [(((mrg prs b n).getLastD (0,0)).1,(prs.getD n (0,0)).2)] else mrg prs b n ++ [prs.getD n (0,0)]) else mrg prs b n
abbrev BW:=List Nat × Int
def vN (bs:List Nat):List V:=bs.map λb:Nat=>V.int (b:Int)
theorem cZ (bs:List Nat):(vN bs).length=bs.length:=by unfold vN;rw [List.length_map]
theorem vL {bs:List Nat} {j b:Nat} (e:bs[j]?=some b):(vN bs)[j]?=some (.int (b:Int)):=by unfold vN;rw [List.getElem?_map,e];rfl
theorem oO {bs:List Nat} {j:Nat} {x:V} (e:(vN bs)[j]?=some x):∃ b:Nat,x=.int (b:Int)/\bs[j]?=some b:=by
 unfold vN at e
 rw [List.getElem?_map] at e
 cases q:bs[j]? with
 | none=>rw [q] at e;cases e
 | some b=>rw [q] at e;cases e;exact ⟨b,rfl,rfl⟩
theorem sk (bs cs:List Nat):vN bs ++ vN cs=vN (bs ++ cs):=by unfold vN;rw [List.map_append]
structure GO (cs:List Col) (o:Col) (w:BW):Prop where
 len:w.1.length=cs.length
 lt:∀ (j b:Nat) (c:Col),w.1[j]?=some b->cs[j]?=some c->b < 2 ^ c.prs.length
 lo:o.lo<=w.2
 hi:w.2<=o.hi
structure GY (cs:List Col) (w:BW) (x:Rw):Prop where
 code:x.2=w.2
 len:x.1.length=cs.length
 sp:∀ (j:Nat) (ps:Prs) (c:Col) (b:Nat),x.1[j]?=some ps->cs[j]?=some c->w.1[j]?=some b->Dq c.prs b c.prs.length ps
 is:∀ (j:Nat) (ps:Prs) (c:Col) (b:Nat),x.1[j]?=some ps->cs[j]?=some c->w.1[j]?=some b->ps=mrg c.prs b c.prs.length
def grow (pts:List (List Nat)) (n:Nat):List (List Nat):=pts.flatMap λp=>(List.range n).map λk=>p ++ [k]
def prm {α:Type} (os:List Nat) (xs:List α):List α:=os.filterMap (xs[·]?)
structure Pm (os:List Nat) (n:Nat):Prop where
 len:os.length=n
 lt:∀ k ∈ os,k < n
 nd:os.Nodup
 all:∀ k,k < n->k ∈ os
theorem mK {α:Type} {o:Nat} {os:List Nat} {xs:List α} (h:o < xs.length):prm (o :: os) xs=xs[o] :: prm os xs:=by
 unfold prm
 rw [List.filterMap_cons,G6 h]
theorem cM {α:Type} : ∀ {os:List Nat} {xs:List α},(∀ k ∈ os,k < xs.length)->(prm os xs).length=os.length/\∀ (j k:Nat),os[j]?=some k->(prm os xs)[j]?=xs[k]?
 | [],xs,_=>⟨rfl,λj k e=>by simp at e⟩
 | o :: os,xs,h=>by
  obtain ⟨h1,h2⟩:=cM (os:=os) (xs:=xs) λk hk=>h k (List.mem_cons_of_mem _ hk)
  have ho:=h o List.mem_cons_self
  rw [mK ho]
  refine ⟨by rw [List.length_cons,List.length_cons,h1],λj k f=>?_⟩
  match j,f with
  | 0,f =>
   have:o=k:=by simpa using f
   subst this
   rw [G6 ho];rfl
  | j+1,f=>exact h2 j k (by simpa using f)
theorem vM {α:Type} {os:List Nat} {k:Nat} {xs:List α} {x:α} (e:xs[k]?=some x):prm (os ++ [k]) xs=prm os xs ++ [x]:=by
 unfold prm
 rw [List.filterMap_append]
 simp [e]
theorem xH {α β:Type} (f:α->β) (os:List Nat) (xs:List α):prm os (xs.map f)=(prm os xs).map f:=by
 unfold prm
 rw [List.map_filterMap]
 congr 1
 funext k
 rw [List.getElem?_map]
theorem tU {α:Type} {os:List Nat} {xs:List α} {x:α} (h:x ∈ prm os xs):x ∈ xs:=by
 unfold prm at h
 obtain ⟨k,_,e⟩:=List.mem_filterMap.mp h
 exact G8 e
theorem d7 {α:Type} {xs:List α} (h:xs.Nodup) {i j:Nat} {x:α} (e:xs[i]?=some x) (f:xs[j]?=some x):i=j:=by
 obtain ⟨hi,ei⟩:=G7.mp e
 obtain ⟨hj,ej⟩:=G7.mp f
 have p:=List.pairwise_iff_getElem.mp (List.nodup_iff_pairwise_ne.mp h)
 rcases Nat.lt_trichotomy i j with q | q | q
 ·exact absurd (ei.trans ej.symm) (p i j hi hj q)
 ·exact q
 ·exact absurd (ej.trans ei.symm) (p j i hj hi q)
theorem uF {α:Type} {os:List Nat} {xs:List α} (ho:os.Nodup) (hx:xs.Nodup) (hl:∀ k ∈ os,k < xs.length):(prm os xs).Nodup:=by
 induction os with
 | nil=>exact List.nodup_nil
 | cons o os ih =>
  rw [List.nodup_cons] at ho
  have hi:=ih ho.2 λk hk=>hl k (List.mem_cons_of_mem _ hk)
  have h0:=hl o List.mem_cons_self
  rw [mK h0,List.nodup_cons]
  refine ⟨λhm=>?_,hi⟩
  unfold prm at hm
  obtain ⟨k,hk,f⟩:=List.mem_filterMap.mp hm
  have:k=o:=d7 hx f (G6 h0)
  subst this
  exact ho.1 hk
def TF (cT:Addr) (H:Hp) (t:Addr) (nm wy:Str) (ou:Addr) (zs:List Str) (dv:List V) (rws:List Rw):Prop:=∃ (rl dx na dl:Addr) (fs:List (Str × V)) (xs:List V),H t=some (.ins cT dx fs)/\fs.lookup (Str.ofString "rows")=some (.ref rl)/\fs.lookup (Str.ofString "name")=some (.str nm)/\fs.lookup (Str.ofString "way")=some (.str wy)/\fs.lookup (Str.ofString "outcome")=some (.ref ou)/\fs.lookup (Str.ofString "names")=some (.ref na)/\fs.lookup (Str.ofString "domains")=some (.ref dl)/\H na=some (.lst (zs.map V.str))/\H dl=some (.lst dv)/\H rl=some (.lst xs)/\RL NT H xs rws/\xs.length<=200
theorem TF.same {cT:Addr} {H H' : Hp} {t:Addr} {nm wy:Str} {ou:Addr} {zs:List Str} {dv:List V} {rws:List Rw} (h:TF cT H t nm wy ou zs dv rws) (s:aq H H'):TF cT H' t nm wy ou zs dv rws:=by
 obtain ⟨rl,dx,na,dl,fs,xs,h1,h2,h3,h4,h5,h6,h7,h8,h9,h10,h11,r⟩:=h
 exact ⟨rl,dx,na,dl,fs,xs,s _ _ h1,h2,h3,h4,h5,h6,h7,s _ _ h8,s _ _ h9,s _ _ h10,h11.same s,r⟩
theorem TF.tbl {cT cN cW:Addr} {H:Hp} {t:Addr} {nm wy:Str} {ou:Addr} {zs:List Str} {dv:List V} {rws:List Rw} {i:Nat} {o:Int × Int} (h:TF cT H t nm wy ou zs dv rws) (hi:six[i]?=some wy) (ho:Dom cN cW H ou o) (hl:o.1<=o.2):Tbl cT cN cW H t rws i o:=by
 obtain ⟨rl,dx,_,_,fs,xs,h1,h2,_,h4,h5,_,_,_,_,h10,h11,h12⟩:=h
 exact ⟨rl,ou,dx,fs,xs,wy,h1,h2,h4,h5,h10,h11,hi,ho,hl,h12⟩
structure TOk (cN cW:Addr) (H:Hp) (nm wy:Str) (ou:Addr) (zs:List Str) (dv:List V) (rws:List Rw) (bs:Prs) (o:Int × Int):Prop where
 words:∀ z ∈ nm :: zs,isw z=true
 once:(nm :: zs).Nodup
 one:1<=zs.length
 four:zs.length<=4
 way:wy ∈ six
 sum:wy=Str.ofString "sum" -> ∃ dx fs,H ou=some (.ins cN dx fs)
 doms:az dv bs (Dom cN cW H)
 out:Dom cN cW H ou o
 len:bs.length=zs.length
 rows:∀ w ∈ rws,tQ bs o w
 few:rws.length<=200
theorem qZ {H:Hp} {D:Addr} {o:HO} : hide (upd H D o) D=hide H D:=by
 funext b
 unfold hide
 by_cases h:b=D
 ·rw [if_pos h,if_pos h]
 ·rw [if_neg h,if_neg h,av h]
theorem oP {H H' : Hp} {D:Addr} (s:aq H H'):aq (hide H D) (hide H' D):=λb o e=>by
 unfold hide at e ⊢
 by_cases h:b=D
 ·rw [if_pos h] at e;cases e
 ·rw [if_neg h] at e ⊢;exact s b o e
theorem lG (H:Hp) (D:Addr):aq (hide H D) H:=λb o e=>by
 unfold hide at e
 by_cases h:b=D
 ·rw [if_pos h] at e;cases e
 ·rw [if_neg h] at e;exact e
theorem oQ {H H' : Hp} {D:Addr} (s:aq H H') (n:H D=none):aq H (hide H' D):=λb o e=>cX (s b o e) (bB e n)
def sr (C:Addr) (H:Hp) (a:Addr) (zs:List Str):Prop:=∃ dx l,H a=some (.ins C dx [("low",.int 0),("high",.int (hiW zs)),("words",.ref l)])/\H l=some (.lst (zs.map V.str))
def pw (C:Addr) (H:Hp) (a:Addr) (lo hi:Int):Prop:=∃ dx,H a=some (.ins C dx [("low",.int lo),("high",.int hi)])
theorem sr.same {C:Addr} {H H' : Hp} {a:Addr} {zs:List Str} (h:sr C H a zs) (s:aq H H'):sr C H' a zs:=by obtain ⟨dx,l,e,f⟩:=h;exact ⟨dx,l,s _ _ e,s _ _ f⟩
theorem pw.same {C:Addr} {H H' : Hp} {a:Addr} {lo hi:Int} (h:pw C H a lo hi) (s:aq H H'):pw C H' a lo hi:=by obtain ⟨dx,e⟩:=h;exact ⟨dx,s _ _ e⟩
def bnd (i:Int):Prop:=i.natAbs < 10 ^ 60
theorem zV {l:List Nat} (h1:1<=l.length) (h2:l.length<=12) (h3:∀ x ∈ l,97<=x/\x<=122) (h4:l ≠ [110,111,116]):isw ⟨l.toArray⟩=true:=by
 have ha:mz ⟨l.toArray⟩ lets=true:=by
  unfold mz
  rw [List.all_eq_true]
  intro x hx
  exact zR (h3 x (by simpa using hx))
 have hn:¬ (V.str ⟨l.toArray⟩=V.str (Str.ofString "not")):=λh=>by
  injection h with h
  have e:Str.ofString "not" = ⟨[110,111,116].toArray⟩:=by decide +kernel
  rw [e] at h
  injection h with h
  exact h4 (by simpa using congrArg Array.toList h)
 have hl:(⟨l.toArray⟩:Str).length=l.length:=by simp [Str.length]
 unfold isw
 rw [ha,decide_eq_true (show (1:Int)<=(((⟨l.toArray⟩:Str).length:Nat):Int) by lia),decide_eq_true (show (((⟨l.toArray⟩:Str).length:Nat):Int)<=12 by lia)]
 show (true && (true && (!decide (V.str ⟨l.toArray⟩=V.str (Str.ofString "not")) && true)))=true
 rw [decide_eq_false hn];rfl
def pz (t:Int):List Nat:=[122,117,118].take t.toNat
theorem B9 {k:Int} (h0:0<=k) (h1:k < 40):bnd k:=by
 unfold bnd
 have e:(40:Nat)<=10 ^ 60:=by decide
 generalize (10 ^ 60:Nat)=W at e ⊢
 lia
abbrev Dk:=Option (List Str) × Int × Int
def iI (cN cW:Addr) (H:Hp) (d:Addr) (k:Dk):Prop:=match k.1 with
 | none=>pw cN H d k.2.1 k.2.2
 | some zs=>sr cW H d zs/\k.2.1=0/\k.2.2=hiW zs/\Good zs
theorem iI.same {cN cW:Addr} {H H' : Hp} {d:Addr} {k:Dk} (h:iI cN cW H d k) (s:aq H H'):iI cN cW H' d k:=by
 obtain ⟨w,lo,hi⟩:=k
 cases w with
 | none=>exact pw.same h s
 | some zs=>exact ⟨h.1.same s,h.2⟩
structure Dr (k:Dk) (p:Pr):Prop where
 lo:k.2.1<=p.1
 le:p.1<=p.2
 hi:p.2<=k.2.2
 b1:bnd p.1
 b2:bnd p.2
def GdK (k:Dk):Prop:=match k.1 with
 | none=>True
 | some zs=>Good zs
def gF (N:Addr->Prop) (cN cW:Addr) (H:Hp) (d:Addr) (k:Dk):Prop:=match k.1 with
 | none=>pw cN H d k.2.1 k.2.2
 | some zs=>(∃ dx l,N l/\H d=some (.ins cW dx [("low",.int 0),("high",.int (hiW zs)),("words",.ref l)])/\H l=some (.lst (zs.map V.str)))/\k.2.1=0/\k.2.2=hiW zs/\Good zs
theorem gF.dom {N:Addr->Prop} {cN cW:Addr} {H:Hp} {d:Addr} {k:Dk} (h:gF N cN cW H d k):iI cN cW H d k:=by
 obtain ⟨w,lo,hi⟩:=k
 cases w with
 | none=>exact h
 | some zs=>obtain ⟨⟨dx,l,_,e,f⟩,r⟩:=h;exact ⟨⟨dx,l,e,f⟩,r⟩
theorem gF.same {N:Addr->Prop} {cN cW:Addr} {H H' : Hp} {d:Addr} {k:Dk} (h:gF N cN cW H d k) (s:aq H H'):gF N cN cW H' d k:=by
 obtain ⟨w,lo,hi⟩:=k
 cases w with
 | none=>exact pw.same h s
 | some zs=>obtain ⟨⟨dx,l,n,e,f⟩,r⟩:=h;exact ⟨⟨dx,l,n,s _ _ e,s _ _ f⟩,r⟩
theorem gF.upd {N:Addr->Prop} {cN cW:Addr} {H:Hp} {d D:Addr} {k:Dk} {o:HO} {zs:List V} (h:gF N cN cW H d k) (n:¬ N D) (e:H D=some (.lst zs)):gF N cN cW (upd H D o) d k:=by
 obtain ⟨w,lo,hi⟩:=k
 cases w with
 | none =>
  obtain ⟨dx,f⟩:=h
  exact ⟨dx,(av (ck f e (by intro z;cases z))).trans f⟩
 | some ws =>
  obtain ⟨⟨dx,l,m,f,g⟩,r⟩:=h
  exact ⟨⟨dx,l,m,(av (ck f e (by intro z;cases z))).trans f,(av (λ(z:l=D)=>n (by rw [← z];exact m))).trans g⟩,r⟩
theorem tV {z:Str} (h:isw z=true):z.length<=12:=by
 unfold isw at h
 simp only [Bool.and_eq_true,decide_eq_true_eq] at h
 lia
theorem zW {zs:List Str} {m:Nat} (h:∀ z ∈ zs,z.length<=m):(zs.map (·.length)).sum<=zs.length * m:=by
 induction zs with
 | nil=>simp
 | cons z zs ih =>
  have h1:=h z (by simp)
  have h2:=ih λy hy=>h y (List.mem_cons_of_mem _ hy)
  rw [List.map_cons,List.sum_cons,List.length_cons,Nat.succ_mul]
  lia
theorem xI {zs:List Str} {m n:Nat} (h:∀ z ∈ zs,z.length<=m) (hl:zs.length<=n) (hm:n * m+n * 64<=16777216):(zs.map (·.length)).sum+zs.length * 64<=16777216:=by
 have h1:=zW h
 have h2:zs.length * m<=n * m:=Nat.mul_le_mul_right m hl
 have h3:zs.length * 64<=n * 64:=Nat.mul_le_mul_right 64 hl
 lia
theorem zX (a b:Str):(a ++ b).length=a.length+b.length:=by
 show (Str.append a b).length=_
 unfold Str.append Str.length
 simp
def hcs (c:Int):List Nat:=(List.range (c % 6).toNat).map λj:Nat=>97+(c / (3 * (0+(j:Int))+1) % 13).toNat
def tcs (c:Int):List Nat:=(List.range (c / 7 % 6).toNat).map λj:Nat=>97+(c / (5 * (0+(j:Int))+2) % 13).toNat
def lwc (c k:Int):List Nat:=hcs c ++ ([97+((c / 11+3 * k) % 26).toNat] ++ tcs c)
def lw (c k:Int):Str:=⟨(lwc c k).toArray⟩
def lws (c:Int) (n:Nat):List Str:=(List.range n).map λj:Nat=>lw c (0+(j:Int))
theorem vO (c:Int) (n:Nat):lws c (n+1)=lws c n ++ [lw c (0+(n:Int))]:=by unfold lws;rw [List.range_succ,List.map_append];rfl
theorem j5 (c:Int) (n:Nat):(lws c n).length=n:=by unfold lws;simp
theorem lH {c k:Int} {x:Nat} (h:x ∈ lwc c k):(97<=x/\x<=109)\/x=97+((c / 11+3 * k) % 26).toNat:=by
 unfold lwc at h
 rcases List.mem_append.mp h with h | h
 ·unfold hcs at h
  obtain ⟨j,_,rfl⟩:=List.mem_map.mp h
  have:=Int.emod_lt_of_pos (c / (3 * (0+(j:Int))+1)) (show (0:Int) < 13 by decide)
  lia
 ·rcases List.mem_append.mp h with h | h
  ·exact .inr (by simpa using h)
  ·unfold tcs at h
   obtain ⟨j,_,rfl⟩:=List.mem_map.mp h
   have:=Int.emod_lt_of_pos (c / (5 * (0+(j:Int))+2)) (show (0:Int) < 13 by decide)
   lia
theorem pA (c:Int):(hcs c).length<=5:=by
 unfold hcs
 rw [List.length_map,List.length_range]
 have:=Int.emod_lt_of_pos c (show (0:Int) < 6 by decide)
 lia
theorem pB (c:Int):(tcs c).length<=5:=by
 unfold tcs
 rw [List.length_map,List.length_range]
 have:=Int.emod_lt_of_pos (c / 7) (show (0:Int) < 6 by decide)
 lia
theorem vP (c k:Int):isw (lw c k)=true:=by
 have h1:=pA c
 have h2:=pB c
 have m1:=Int.emod_lt_of_pos (c / 11+3 * k) (show (0:Int) < 26 by decide)
 refine zV (by unfold lwc;simp;lia) (by unfold lwc;simp;lia) (λx hx=>?_) (λh=>?_)
 ·rcases lH hx with hx | hx <;> lia
 ·have a:(110:Nat) ∈ lwc c k:=by rw [h];simp
  have b:(111:Nat) ∈ lwc c k:=by rw [h];simp
  rcases lH a with a | a
  ·lia
  ·rcases lH b with b | b <;> lia
theorem zY {c k k' : Int} (h0:0<=k) (h1:k < 8) (h2:0<=k') (h3:k' < 8) (e:lw c k=lw c k'):k=k':=by
 unfold lw at e
 injection e with e
 have e:lwc c k=lwc c k':=by simpa using congrArg Array.toList e
 unfold lwc at e
 have e:=List.append_cancel_left e
 injection e with e1 e2
 have:=Int.emod_nonneg (c / 11+3 * k) (show (26:Int) ≠ 0 by decide)
 have:=Int.emod_nonneg (c / 11+3 * k') (show (26:Int) ≠ 0 by decide)
 generalize c / 11=d at *
 lia
theorem oR {c:Int} {n:Nat} (h:n<=8):(lws c n).Nodup:=by
 unfold lws
 rw [List.nodup_iff_pairwise_ne,List.pairwise_map]
 refine List.Pairwise.imp_of_mem (R:=λa b=>a ≠ b) (λ{a b} ha hb hab e=>?_) List.nodup_range
 have ha:=List.mem_range.mp ha
 have hb:=List.mem_range.mp hb
 have:=zY (by lia) (by lia) (by lia) (by lia) e
 lia
theorem tW {c:Int} {n:Nat} {z:Str} (hz:z ∈ lws c n):isw z=true:=by
 unfold lws at hz
 obtain ⟨j,_,rfl⟩:=List.mem_map.mp hz
 exact vP _ _
theorem vQ {c:Int} {n:Nat} (h1:1<=n) (h2:n<=8):Good (lws c n):=⟨by rw [j5];exact h1,by rw [j5];lia,λz hz=>tW hz,oR h2⟩
theorem mL:∀ xs:List Nat,Txt.join (Str.ofString "") (xs.map λx=>(⟨#[x]⟩:Str))=⟨xs.toArray⟩:=λxs=>by
 rw [show Txt.join (Str.ofString "") (xs.map λx=>(⟨#[x]⟩:Str))=(Str.ofString "").join (xs.map λx=>(⟨#[x]⟩:Str)) from StrLaws.glued_eq_join _ _]
 have e0:Str.ofString "" = Str.empty:=by decide +kernel
 rw [e0]
 induction xs with
 | nil=>rfl
 | cons x xs ih =>
  cases xs with
  | nil=>rfl
  | cons y ys =>
   show (⟨#[x]⟩:Str) ++ Str.empty ++ Str.join Str.empty ((y :: ys).map λx=>(⟨#[x]⟩:Str))=_
   rw [ih]
   show Str.append (Str.append _ _) _=_
   unfold Str.append Str.empty
   simp
theorem q0 (xs:List Nat) (h:xs.length<=5):((xs.map λx=>(⟨#[x]⟩:Str)).map (·.length)).sum+(xs.map λx=>(⟨#[x]⟩:Str)).length * 64<=16777216 :=
 xI (m:=1) (n:=5) (λz hz=>by obtain ⟨x,_,rfl⟩:=List.mem_map.mp hz;exact Nat.le_refl 1) (by rw [List.length_map];exact h) (by decide)
structure PD where
 lo:Int
 hi:Int
 ws:List Str
 pool:List Int
def EdP (p:PD) (x:Int × Int):Prop:=(x.1=p.lo\/x.1 ∈ p.pool\/x.1 - 1 ∈ p.pool)/\(x.2=p.hi\/x.2 ∈ p.pool\/x.2+1 ∈ p.pool)
def PDA (N:Addr->Prop) (H:Hp) (r:Addr) (p:PD):Prop:=∃ l:Addr,N r/\N l/\H r=some (.tup [.int p.lo,.int p.hi,.ref l])/\H l=some (.lst (p.ws.map V.str))
theorem PDA.same {N:Addr->Prop} {H H' : Hp} {r:Addr} {p:PD} (h:PDA N H r p) (s:aq H H'):PDA N H' r p:=by obtain ⟨l,n,m,e,f⟩:=h;exact ⟨l,n,m,s _ _ e,s _ _ f⟩
theorem PDA.wk {N N' : Addr->Prop} {H:Hp} {r:Addr} {p:PD} (h:PDA N H r p) (w:∀ x,N x->N' x):PDA N' H r p:=by obtain ⟨l,n,m,e,f⟩:=h;exact ⟨l,w _ n,w _ m,e,f⟩
def PD.k (p:PD):Dk:=(if p.ws=[] then none else some p.ws,p.lo,p.hi)
structure pC (p:PD):Prop where
 le:p.lo<=p.hi
 wd:p.ws ≠ []->Good p.ws/\p.lo=0/\p.hi=hiW p.ws
 bd:∀ x:Int,p.lo<=x->x<=p.hi->bnd x
theorem p30:(10:Int) ^ (30:Int).toNat=((10 ^ 30:Nat):Int):=by decide
theorem p29:(10:Int) ^ (29:Int).toNat=((10 ^ 29:Nat):Int):=by decide
theorem Ca {x:Int} (h0 : -((10 ^ 31:Nat):Int)<=x) (h1:x<=((10 ^ 31:Nat):Int)):bnd x:=by
 unfold bnd
 have k:(10 ^ 31:Nat) < 10 ^ 60:=by decide
 generalize (10 ^ 31:Nat)=A at h0 h1 k
 generalize (10 ^ 60:Nat)=W at k ⊢
 lia
theorem eG {i j:Int} (h:0 < j) (h2:j < 1000):BE i j:=⟨h,by lia⟩
theorem pl1 {H:Hp} {t l:Addr} {a b:Int} (ht:H t=none) (hl:upd H t (.tup [.int a,.int b]) l=none):aq H (upd (upd H t (.tup [.int a,.int b])) l (.lst [.ref t]))/\upd (upd H t (.tup [.int a,.int b])) l (.lst [.ref t]) l=some (.lst [.ref t])/\PL (upd (upd H t (.tup [.int a,.int b])) l (.lst [.ref t])) [.ref t] [(a,b)] :=
 ⟨(ai ht _).trans (ai hl _),af,.cons ⟨t,rfl,ai hl _ _ _ af⟩ .nil⟩
theorem pl2 {H:Hp} {t u l:Addr} {a b c d:Int} (ht:H t=none) (hu:upd H t (.tup [.int a,.int b]) u=none) (hl:upd (upd H t (.tup [.int a,.int b])) u (.tup [.int c,.int d]) l=none):aq H (upd (upd (upd H t (.tup [.int a,.int b])) u (.tup [.int c,.int d])) l (.lst [.ref t,.ref u]))/\upd (upd (upd H t (.tup [.int a,.int b])) u (.tup [.int c,.int d])) l (.lst [.ref t,.ref u]) l=some (.lst [.ref t,.ref u])/\PL (upd (upd (upd H t (.tup [.int a,.int b])) u (.tup [.int c,.int d])) l (.lst [.ref t,.ref u])) [.ref t,.ref u] [(a,b),(c,d)] :=
 ⟨((ai ht _).trans (ai hu _)).trans (ai hl _),af,.cons ⟨t,rfl,ai hl _ _ _ (ai hu _ _ _ af)⟩ (.cons ⟨u,rfl,ai hl _ _ _ af⟩ .nil)⟩
structure pD (ds:List PD) (cols:List Nat) (ow:Nat) (w:Rw):Prop where
 len:w.1.length=cols.length
 inn:∀ (j k:Nat) (ps:Prs) (p:PD),w.1[j]?=some ps->cols[j]?=some k->ds[k]?=some p->∀ x ∈ ps,p.lo<=x.1/\x.1<=x.2/\x.2<=p.hi
 few:∀ ps ∈ w.1,ps.length<=2
 code:∀ p,ds[ow]?=some p->p.lo<=w.2/\w.2<=p.hi
 pool:∀ (j k:Nat) (ps:Prs) (p:PD),w.1[j]?=some ps->cols[j]?=some k->ds[k]?=some p->∀ x ∈ ps,EdP p x
theorem PDA.updN {N:Addr->Prop} {H:Hp} {r D:Addr} {p:PD} {zs:List V} {o:HO} (h:PDA N H r p) (n:¬ N D) (e:H D=some (.lst zs)):PDA N (upd H D o) r p:=by
 obtain ⟨l,n1,n2,f,g⟩:=h
 exact ⟨l,n1,n2,(av (ck f e (by intro z;cases z))).trans f,(av (λ(z:l=D)=>n (by rw [← z];exact n2))).trans g⟩
def hideL (H:Hp) (F:List Addr):Hp:=λb=>if b ∈ F then none else H b
theorem dg {H:Hp} {F:List Addr} {b:Addr} {o:HO} (e:H b=some o) (n:b ∉ F):hideL H F b=some o:=by unfold hideL;rw [if_neg n];exact e
theorem dU (H:Hp) (F:List Addr):aq (hideL H F) H:=λb o e=>by
 unfold hideL at e
 by_cases h:b ∈ F
 ·rw [if_pos h] at e;cases e
 ·rw [if_neg h] at e;exact e
theorem gb {H H' : Hp} {F:List Addr} (s:aq H H'):aq (hideL H F) (hideL H' F):=λb o e=>by
 by_cases h:b ∈ F
 ·unfold hideL at e;rw [if_pos h] at e;cases e
 ·exact dg (s b o (dU H F b o e)) h
theorem oS {H:Hp} {F:List Addr} {D:Addr} {o:HO} (h:D ∈ F):hideL (upd H D o) F=hideL H F:=by
 funext b
 unfold hideL
 by_cases hb:b ∈ F
 ·rw [if_pos hb,if_pos hb]
 ·rw [if_neg hb,if_neg hb]
  exact av λz=>hb (by rw [z];exact h)
theorem sx {H H' : Hp} {F:List Addr} (s:aq H H') (n:∀ D ∈ F,H D=none):aq H (hideL H' F):=λb o e=>dg (s b o e) λhb=>by rw [n b hb] at e;cases e
theorem mM {H:Hp} {F:List Addr} (hF:∀ D ∈ F,∃ zs,H D=some (.lst zs)):iX H (hideL H F):=λb t e=>dg e λhb=>by
 obtain ⟨zs,ez⟩:=hF b hb
 rw [ez] at e
 cases e
theorem fL.hideL {H H2:Hp} {F:List Addr} {r:Addr} {w:Rw} (h:fL (λa=>H a=none) H2 r w) (hF:∀ D ∈ F,∃ zs,H D=some (.lst zs)) (s:aq H H2):fL NT (My.hideL H2 F) r w:=by
 obtain ⟨ce,cs,e,n,f,c⟩:=h
 have hF2:∀ D ∈ F,∃ zs,H2 D=some (.lst zs):=λD hD=>let ⟨zs,ez⟩:=hF D hD;⟨zs,s _ _ ez⟩
 have out:∀ x,H x=none->x ∉ F:=λx hx hm=>by obtain ⟨zs,ez⟩:=hF x hm;rw [ez] at hx;cases hx
 refine ⟨ce,cs,mM hF2 _ _ e,trivial,dg f (out _ n),az.mono c λl ps h=>?_⟩
 obtain ⟨n1,ys,g,pl⟩:=h
 exact ⟨trivial,ys,dg g (out _ n1),pl.mono (mM hF2)⟩
def TT (H:Hp) (r:Addr) (t:(List Nat × Str) × Addr):Prop:=∃ cl:Addr,H r=some (.tup [.ref cl,.str t.1.2,.ref t.2])/\H cl=some (.lst (vN t.1.1))
theorem TT.same {H H' : Hp} {r:Addr} {t:(List Nat × Str) × Addr} (h:TT H r t) (s:aq H H'):TT H' r t:=by obtain ⟨cl,e,f⟩:=h;exact ⟨cl,s _ _ e,s _ _ f⟩
structure zZ (fN:Nat) (ds:List PD) (j:Nat) (t:List Nat × Str):Prop where
 some_:1<=t.1.length
 few:t.1.length<=3
 lt:∀ k ∈ t.1,k < fN+j
 nd:t.1.Nodup
 way:t.2 ∈ six
 sum:t.2=Str.ofString "sum" -> ∀ p,ds[fN+j]?=some p->p.ws=[]
def clm (c:Int) (ow:Nat) (m:Nat):List Nat:=(List.range m).map λj:Nat=>((c / 3+(0+(j:Int))) % (ow:Int)).toNat
theorem Aa {c:Int} {ow m:Nat} (h:1<=ow):∀ k ∈ clm c ow m,k < ow:=λk hk=>by
 unfold clm at hk
 obtain ⟨j,_,rfl⟩:=List.mem_map.mp hk
 have h1:=Int.emod_lt_of_pos (c / 3+(0+(j:Int))) (show (0:Int) < (ow:Int) by lia)
 have h0:=Int.emod_nonneg (c / 3+(0+(j:Int))) (show (ow:Int) ≠ 0 by lia)
 lia
theorem uG {x i j n:Int} (h0:0<=i) (h1:i < n) (h2:0<=j) (h3:j < n) (e:(x+i) % n=(x+j) % n):i=j:=by
 have key:∀ a b:Int,0<=a->a < n->0<=b->b < n->b<=a->(x+a) % n=(x+b) % n->a=b:=λa b a0 a1 b0 b1 hab e=>by
  have h:=Int.emod_eq_emod_iff_emod_sub_eq_zero.mp e
  rw [show x+a - (x+b)=a - b by lia,Int.emod_eq_of_lt (by lia) (by lia)] at h
  lia
 by_cases h:j<=i
 ·exact key i j h0 h1 h2 h3 h e
 ·exact (key j i h2 h3 h0 h1 (by lia) e.symm).symm
theorem Ab {c:Int} {ow m:Nat} (h:1<=ow) (hm:m<=ow):(clm c ow m).Nodup:=by
 unfold clm
 rw [List.nodup_iff_pairwise_ne,List.pairwise_map]
 refine List.Pairwise.imp_of_mem (R:=λa b=>a ≠ b) (λ{a b} ha hb hab e=>?_) List.nodup_range
 have ha:=List.mem_range.mp ha
 have hb:=List.mem_range.mp hb
 have a0:=Int.emod_nonneg (c / 3+(0+(a:Int))) (show (ow:Int) ≠ 0 by lia)
 have b0:=Int.emod_nonneg (c / 3+(0+(b:Int))) (show (ow:Int) ≠ 0 by lia)
 have:=uG (x:=c / 3) (i:=0+(a:Int)) (j:=0+(b:Int)) (n:=(ow:Int)) (by lia) (by lia) (by lia) (by lia) (by lia)
 lia
theorem pE (c:Int) (ow m:Nat):(clm c ow m).length=m:=by unfold clm;simp
theorem vR (c:Int) (ow m:Nat):vN (clm c ow (m+1))=vN (clm c ow m) ++ [.int ((((c / 3+(0+(m:Int))) % (ow:Int)).toNat:Nat):Int)]:=by
 unfold clm vN
 rw [List.range_succ,List.map_append,List.map_append]
 rfl
structure PT where
 cols:List Nat
 way:Str
 rows:List Rw
def PTA (H:Hp) (r:Addr) (t:PT):Prop:=∃ (cl rl:Addr) (zs:List V),H r=some (.tup [.ref cl,.str t.way,.ref rl])/\H cl=some (.lst (vN t.cols))/\H rl=some (.lst zs)/\RL NT H zs t.rows
theorem PTA.same {H H' : Hp} {r:Addr} {t:PT} (h:PTA H r t) (s:aq H H'):PTA H' r t:=by obtain ⟨cl,rl,zs,e,f,g,k⟩:=h;exact ⟨cl,rl,zs,s _ _ e,s _ _ f,s _ _ g,k.same s⟩
structure Cb (fN:Nat) (ds:List PD) (j:Nat) (t:PT):Prop where
 ok:zZ fN ds j (t.cols,t.way)
 rows:∀ w ∈ t.rows,pD ds t.cols (fN+j) w
 few:t.rows.length<=200
def PlA (H:Hp) (r:Addr) (zs:List Str) (ds:List PD) (ts:List PT):Prop:=∃ (nl dl tl_:Addr) (dv tv:List V),H r=some (.tup [.ref nl,.ref dl,.ref tl_])/\H nl=some (.lst (zs.map V.str))/\H dl=some (.lst dv)/\az dv ds (PDA NT H)/\H tl_=some (.lst tv)/\az tv ts (PTA H)
theorem PlA.same {H H' : Hp} {r:Addr} {zs:List Str} {ds:List PD} {ts:List PT} (h:PlA H r zs ds ts) (s:aq H H'):PlA H' r zs ds ts:=by
 obtain ⟨nl,dl,tl_,dv,tv,e1,e2,e3,h1,e4,h2⟩:=h
 exact ⟨nl,dl,tl_,dv,tv,s _ _ e1,s _ _ e2,s _ _ e3,az.mono h1 (λ_ _ p=>p.same s),s _ _ e4,az.mono h2 λ_ _ p=>p.same s⟩
structure gc (zs:List Str) (ds:List PD) (ts:List PT) (fN:Nat):Prop where
 words:∀ z ∈ zs,isw z=true
 nd:zs.Nodup
 len:zs.length=ds.length
 n7:ds.length<=7
 tab:fN+ts.length=ds.length
 some_:1<=ts.length
 doms:∀ p ∈ ds,pC p
 tabs:∀ (j:Nat) (t:PT),ts[j]?=some t->Cb fN ds j t
theorem oU {H H9:Hp} {F F' : List Addr} (h:∀ b o,b ∉ F->H b=some o->H9 b=some o/\b ∉ F'):aq (hideL H F) (hideL H9 F'):=λb o e=>by
 by_cases hb:b ∈ F
 ·unfold hideL at e;rw [if_pos hb] at e;cases e
 ·obtain ⟨e9,n9⟩:=h b o hb (dU H F b o e)
  exact dg e9 n9
def rls (ts:List ((List Nat × Str) × Addr)):List Addr:=ts.map (·.2)
theorem vS (ts:List ((List Nat × Str) × Addr)) (t:(List Nat × Str) × Addr):rls (ts ++ [t])=rls ts ++ [t.2]:=by unfold rls;rw [List.map_append];rfl
theorem xJ {c:Int} {ow:Nat} (h1:1<=ow):∃ m:Nat,(if (ow:Int) < 1+c % 3 then (ow:Int) else 1+c % 3)=(m:Int)/\1<=m/\m<=3/\m<=ow:=by
 have c0:=Int.emod_nonneg c (show (3:Int) ≠ 0 by decide)
 have c1:=Int.emod_lt_of_pos c (show (0:Int) < 3 by decide)
 refine ⟨(if (ow:Int) < 1+c % 3 then (ow:Int) else 1+c % 3).toNat,?_,?_,?_,?_⟩ <;> split <;> lia
theorem lI {ts:List ((List Nat × Str) × Addr)} {j:Nat} {t:(List Nat × Str) × Addr} (e:ts[j]?=some t):(rls ts)[j]?=some t.2:=by unfold rls;rw [List.getElem?_map,e];rfl
theorem lJ {ts:List ((List Nat × Str) × Addr)} {j:Nat} {t:(List Nat × Str) × Addr} (e:ts[j]?=some t):t.2 ∈ rls ts:=G8 (lI e)
def mkT (t:(List Nat × Str) × Addr) (rs:List Rw):PT:=⟨t.1.1,t.1.2,rs⟩
def RwI (H:Hp) (F:List Addr) (fN:Nat) (ds:List PD) (ts:List ((List Nat × Str) × Addr)) (rss:List (List Rw)) (n:Nat):Prop:=rss.length=ts.length/\∀ (j:Nat) (t:(List Nat × Str) × Addr) (rs:List Rw),ts[j]?=some t->rss[j]?=some rs->(∃ zs,H t.2=some (.lst zs)/\RL NT (hideL H F) zs rs)/\(∀ w ∈ rs,pD ds t.1.1 (fN+j) w)/\rs.length<=n
theorem RwI.grow {H H2:Hp} {fN n jj:Nat} {ds:List PD} {ts:List ((List Nat × Str) × Addr)} {rss:List (List Rw)} {t:(List Nat × Str) × Addr} {rs:List Rw} {zs:List V} {r:Addr} {w:Rw} (h:RwI H (rls ts) fN ds ts rss n) (hnd:(rls ts).Nodup) (s:aq H H2) (et:ts[jj]?=some t) (er:rss[jj]?=some rs) (ez:H t.2=some (.lst zs)) (hz:RL NT (hideL H (rls ts)) zs rs) (hw:fL NT (hideL H2 (rls ts)) r w) (hf:pD ds t.1.1 (fN+jj) w):RwI (upd H2 t.2 (.lst (zs ++ [.ref r]))) (rls ts) fN ds ts (rss.set jj (rs ++ [w])) (n+1):=by
 refine ⟨by rw [List.length_set];exact h.1,λj t' rs' e1 e2=>?_⟩
 have hh:hideL (upd H2 t.2 (.lst (zs ++ [.ref r]))) (rls ts)=hideL H2 (rls ts):=oS (lJ et)
 rw [hh]
 by_cases hj:jj=j
 ·subst hj
  rw [et] at e1
  cases e1
  rw [List.getElem?_set_self (G7.mp er).1] at e2
  cases e2
  obtain ⟨_,h2,h3⟩:=h.2 jj t rs et er
  refine ⟨⟨_,af,az.snoc (hz.same (gb s)) hw⟩,λw' hw'=>?_,by rw [List.length_append,List.length_singleton];lia⟩
  rcases List.mem_append.mp hw' with hw' | hw'
  ·exact h2 w' hw'
  ·rw [show w'=w by simpa using hw'];exact hf
 ·rw [List.getElem?_set_ne hj] at e2
  obtain ⟨⟨zs',f1,f2⟩,h2,h3⟩:=h.2 j t' rs' e1 e2
  refine ⟨⟨zs',(av λz=>?_).trans (s _ _ f1),f2.same (gb s)⟩,h2,by lia⟩
  have a1:=lI e1
  have a2:=lI et
  rw [z] at a1
  exact hj (d7 hnd a2 a1)
structure Ds (k:Dk) (ps:Prs):Prop where
 few:ps.length<=2
 inn:∀ p ∈ ps,Dr k p
 gd:GdK k
 w0:∀ zs,k.1=some zs->k.2=(0,hiW zs)
theorem PD.k_none {p:PD} (h:p.ws=[]):p.k=(none,p.lo,p.hi):=by unfold PD.k;rw [if_pos h]
theorem PD.k_some {p:PD} (h:p.ws ≠ []):p.k=(some p.ws,p.lo,p.hi):=by unfold PD.k;rw [if_neg h]
theorem iI.dom {cN cW:Addr} {H:Hp} {d:Addr} {k:Dk} (h:iI cN cW H d k):Dom cN cW H d k.2:=by
 obtain ⟨w,lo,hi⟩:=k
 cases w with
 | none=>obtain ⟨dx,e⟩:=h;exact ⟨cN,.inl rfl,dx,_,e,rfl,rfl,rfl⟩
 | some zs =>
  obtain ⟨⟨dx,l,e,_⟩,h0,h1,_⟩:=h
  have h0:lo=0:=h0
  have h1:hi=hiW zs:=h1
  subst h0 h1
  exact ⟨cW,.inr rfl,dx,_,e,rfl,rfl,rfl⟩
theorem gc.own {zs:List Str} {ds:List PD} {ts:List PT} {fN:Nat} (h:gc zs ds ts fN) {k:Nat} {t:PT} (e:ts[k]?=some t):fN+k < ds.length:=by
 have:=(G7.mp e).1
 have:=h.tab
 lia
theorem gc.lt {zs:List Str} {ds:List PD} {ts:List PT} {fN:Nat} (h:gc zs ds ts fN) {k:Nat} {t:PT} (e:ts[k]?=some t):∀ j ∈ t.cols,j < ds.length:=λj hj=>by
 have h1:=(h.tabs k t e).ok.lt j hj
 have h2:=h.own e
 lia
theorem gc.rows {zs:List Str} {ds:List PD} {ts:List PT} {fN:Nat} (h:gc zs ds ts fN) {k:Nat} {t:PT} (e:ts[k]?=some t) {po:PD} (eo:ds[fN+k]?=some po):∀ w ∈ t.rows,tQ (prm t.cols (ds.map λp=>(p.lo,p.hi))) (po.lo,po.hi) w:=λw hw=>by
 have f:=(h.tabs k t e).rows w hw
 have lt:=h.lt e
 have lt2:∀ j ∈ t.cols,j < (ds.map λp=>(p.lo,p.hi)).length:=λj hj=>by rw [List.length_map];exact lt j hj
 have g:=cM (os:=t.cols) (xs:=ds.map λp=>(p.lo,p.hi)) lt2
 have c:=f.code po eo
 refine ⟨by rw [f.len,g.1],λj ps b e1 e2 p hp=>?_,c.1,c.2⟩
 have hj:j < t.cols.length:=by rw [← f.len];exact (G7.mp e1).1
 have ec:=G6 hj
 rw [g.2 j _ ec,List.getElem?_map] at e2
 have ed:=G6 (lt _ (G8 ec))
 rw [ed] at e2
 cases e2
 have:=f.inn j _ ps _ e1 ec ed p hp
 exact ⟨this.1,this.2.2⟩
theorem oV {H:Hp} {D:Addr} {zs:List V} (e:H D=some (.lst zs)):iX H (hide H D):=λb t f=>cX f (ck f e (by intro z;cases z))
theorem uH {α:Type} {os:List Nat} {o:Nat} {xs:List α} {x:α} (e:xs[o]?=some x):prm (os ++ [o]) xs=prm os xs ++ [x]:=by
 unfold prm
 rw [List.filterMap_append]
 simp [e]
theorem gF.wk {N N' : Addr->Prop} {cN cW:Addr} {H:Hp} {d:Addr} {k:Dk} (h:gF N cN cW H d k) (w:∀ x,N x->N' x):gF N' cN cW H d k:=by
 obtain ⟨w_,lo,hi⟩:=k
 cases w_ with
 | none=>exact h
 | some zs=>obtain ⟨⟨dx,l,n,e,f⟩,r⟩:=h;exact ⟨⟨dx,l,w _ n,e,f⟩,r⟩
def FcT (P:Nat->Addr->Prop) (H:Hp) (zs:List Str) (r:Addr) (k:Nat):Prop:=∃ (nm:Str) (d:Addr),zs[k]?=some nm/\P k d/\H r=some (.tup [.str nm,.ref d])
theorem FcT.tups {P:Nat->Addr->Prop} {H H' : Hp} {zs:List Str} {r:Addr} {k:Nat} (h:FcT P H zs r k) (s:iX H H'):FcT P H' zs r k:=by
 obtain ⟨nm,d,h1,h2,h3⟩:=h
 exact ⟨nm,d,h1,h2,s _ _ h3⟩
theorem FcT.mono {P P' : Nat->Addr->Prop} {H:Hp} {zs:List Str} {r:Addr} {k:Nat} (h:FcT P H zs r k) (w:∀ k d,P k d->P' k d):FcT P' H zs r k:=by
 obtain ⟨nm,d,h1,h2,h3⟩:=h
 exact ⟨nm,d,h1,w _ _ h2,h3⟩
def DmP (cN cW:Addr) (H:Hp) (ds:List PD) (k:Nat) (d:Addr):Prop:=∃ po:PD,ds[k]?=some po/\iI cN cW H d po.k
theorem oW {H:Hp} {D:Addr} {zs:List V} {o:HO} (e:H D=some (.lst zs)):iX H (upd H D o):=λb t f=>(av (ck f e (by intro z;cases z))).trans f
theorem oX {H:Hp} {D C dx:Addr} {fs:List (Str × V)} {o:HO} (e:H D=some (.ins C dx fs)):iX H (upd H D o):=λb t f=>(av (ck f e (by intro z;cases z))).trans f
def akc (fN:Nat) (cols:List Nat):List Nat:=(cols.filter λc=>decide (fN<=c)).map λc=>c - fN
def akT (ts:List PT) (fN k:Nat):List Nat:=match ts[k]? with
 | some t=>akc fN t.cols
 | none=>[]
theorem mO {zs:List Str} {ds:List PD} {ts:List PT} {fN:Nat} (ok:gc zs ds ts fN):∀ k,∀ j ∈ akT ts fN k,j < k:=λk j hj=>by
 unfold akT at hj
 cases e:ts[k]? with
 | none=>rw [e] at hj;cases hj
 | some t =>
  rw [e] at hj
  obtain ⟨c,hc,rfl⟩:=List.mem_map.mp (show j ∈ akc fN t.cols from hj)
  obtain ⟨h1,h2⟩:=List.mem_filter.mp hc
  have h2:fN<=c:=of_decide_eq_true h2
  have h3:=(ok.tabs k t e).ok.lt c h1
  lia
def j6 (ak:Nat->List Nat):Nat->Nat->List Nat->List Nat
 | 0,_,told=>told
 | n+1,k,told=>if told.contains k then told else (ak k).foldl (λt j=>j6 ak n j t) told ++ [k]
theorem je {α β:Type} {f g:β->α->β} : ∀ {l:List α} {b:β},(∀ b a,a ∈ l->f b a=g b a)->l.foldl f b=l.foldl g b
 | [],_,_=>rfl
 | x :: l,b,h=>by
  rw [List.foldl_cons,List.foldl_cons,h b x List.mem_cons_self]
  exact je λb a ha=>h b a (List.mem_cons_of_mem _ ha)
theorem oY {ak:Nat->List Nat} (h:∀ k,∀ j ∈ ak k,j < k):∀ (n m k:Nat) (told:List Nat),k < n->k < m->j6 ak n k told=j6 ak m k told
 | 0,_,_,_,h1,_=>absurd h1 (Nat.not_lt_zero _)
 | _+1,0,_,_,_,h2=>absurd h2 (Nat.not_lt_zero _)
 | n+1,m+1,k,told,h1,h2=>by
  show (if told.contains k then told else (ak k).foldl (λt j=>j6 ak n j t) told ++ [k])=(if told.contains k then told else (ak k).foldl (λt j=>j6 ak m j t) told ++ [k])
  rw [je (f:=λt j=>j6 ak n j t) (g:=λt j=>j6 ak m j t) λt j hj=>oY h n m j t (by have:=h k j hj;lia) (by have:=h k j hj;lia)]
def odr (ak:Nat->List Nat) (k:Nat) (told:List Nat):List Nat:=j6 ak (k+1) k told
theorem sy {ak:Nat->List Nat} (h:∀ k,∀ j ∈ ak k,j < k) (k:Nat) (told:List Nat):odr ak k told=if told.contains k then told else (ak k).foldl (λt j=>odr ak j t) told ++ [k]:=by
 show (if told.contains k then told else (ak k).foldl (λt j=>j6 ak k j t) told ++ [k])=_
 rw [je (f:=λt j=>j6 ak k j t) (g:=λt j=>odr ak j t) λt j hj=>oY h k (j+1) j t (h k j hj) (by lia)]
theorem Ac {ak:Nat->List Nat} (h:∀ k,∀ j ∈ ak k,j < k) {k:Nat} {told:List Nat} (hk:told.contains k=true):odr ak k told=told:=by rw [sy h,if_pos hk]
theorem mP {f:List Nat->Nat->List Nat} (hf:∀ t j x,x ∈ f t j->x ∈ t\/x<=j):∀ {l:List Nat} {t:List Nat} {x:Nat},x ∈ l.foldl f t->x ∈ t\/∃ j ∈ l,x<=j
 | [],_,_,hx=>.inl hx
 | j :: l,t,x,hx=>by
  rw [List.foldl_cons] at hx
  rcases mP hf hx with hx | ⟨i,hi,hx⟩
  ·rcases hf t j x hx with hx | hx
   ·exact .inl hx
   ·exact .inr ⟨j,List.mem_cons_self,hx⟩
  ·exact .inr ⟨i,List.mem_cons_of_mem _ hi,hx⟩
theorem mQ {ak:Nat->List Nat} (h:∀ k,∀ j ∈ ak k,j < k):∀ (n k:Nat) (told:List Nat) (x:Nat),x ∈ j6 ak n k told->x ∈ told\/x<=k
 | 0,_,_,_,hx=>.inl hx
 | n+1,k,told,x,hx=>by
  have hx:x ∈ (if told.contains k then told else (ak k).foldl (λt j=>j6 ak n j t) told ++ [k]):=hx
  split at hx
  ·exact .inl hx
  ·rcases List.mem_append.mp hx with hx | hx
   ·rcases mP (λt j x hx=>mQ h n j t x hx) hx with hx | ⟨j,hj,hx⟩
    ·exact .inl hx
    ·have:=h k j hj
     exact .inr (by lia)
   ·exact .inr (by rw [List.mem_singleton.mp hx];exact Nat.le_refl _)
theorem tX {f:List Nat->Nat->List Nat} (hf:∀ t j,t.Nodup->(f t j).Nodup):∀ {l:List Nat} {t:List Nat},t.Nodup->(l.foldl f t).Nodup
 | [],_,h=>h
 | j :: l,t,h=>by rw [List.foldl_cons];exact tX hf (hf t j h)
theorem tY {ak:Nat->List Nat} (h:∀ k,∀ j ∈ ak k,j < k):∀ (n k:Nat) (told:List Nat),told.Nodup->(j6 ak n k told).Nodup
 | 0,_,_,ht=>ht
 | n+1,k,told,ht=>by
  show (if told.contains k then told else (ak k).foldl (λt j=>j6 ak n j t) told ++ [k]).Nodup
  split
  ·exact ht
  ·next hc =>
   refine List.nodup_append.mpr ⟨tX (λt j ht=>tY h n j t ht) ht,by simp,λa ha b hb e=>?_⟩
   rw [List.mem_singleton.mp hb] at e
   subst e
   rcases mP (λt j x hx=>mQ h n j t x hx) ha with ha | ⟨j,hj,ha⟩
   ·exact hc (by simpa using ha)
   ·have:=h a j hj
    lia
structure Tld (m:Nat) (told:List Nat):Prop where
 nd:told.Nodup
 lt:∀ x ∈ told,x < m
theorem Tld.odr {ak:Nat->List Nat} (h:∀ k,∀ j ∈ ak k,j < k) {m k:Nat} {told:List Nat} (ht:Tld m told) (hk:k < m):Tld m (My.odr ak k told) :=
 ⟨tY h _ _ _ ht.nd,λx hx=>(mQ h _ _ _ x hx).elim (ht.lt x) λg=>by lia⟩
theorem Tld.fold {ak:Nat->List Nat} (h:∀ k,∀ j ∈ ak k,j < k) {m:Nat} : ∀ {l:List Nat} {told:List Nat},(∀ j ∈ l,j < m)->Tld m told->Tld m (l.foldl (λt j=>My.odr ak j t) told)
 | [],_,_,ht=>ht
 | j :: l,_,hl,ht=>by rw [List.foldl_cons];exact Tld.fold h (λi hi=>hl i (List.mem_cons_of_mem _ hi)) (ht.odr h (hl j List.mem_cons_self))
theorem Tld.len {m:Nat} {told:List Nat} (h:Tld m told):told.length<=m:=by
 have h1:told.Nodup:=h.nd
 have h2:told ⊆ List.range m:=λx hx=>List.mem_range.mpr (h.lt x hx)
 have:=List.Nodup.length_le_of_subset h1 h2
 rwa [List.length_range] at this
theorem Tld.nil {m:Nat} : Tld m []:=⟨List.nodup_nil,λx hx=>by cases hx⟩
theorem gW (z:Str) (ns:List Str):inV (.str z) (ns.map V.str)=ns.contains z:=by
 unfold inV
 induction ns with
 | nil=>rfl
 | cons n ns ih =>
  rw [List.map_cons,List.any_cons,List.contains_cons,ih]
  congr 1
  show (n == z)=(z == n)
  rw [Bool.eq_iff_iff,beq_iff_eq,beq_iff_eq]
  exact ⟨Eq.symm,Eq.symm⟩
def TbA (cT cN cW:Addr) (H:Hp) (zs:List Str) (ds:List PD) (ts:List PT) (fN:Nat) (a:Addr) (k:Nat):Prop:=∃ (t:PT) (nm:Str) (po:PD) (ou:Addr) (dv:List V),ts[k]?=some t/\zs[fN+k]?=some nm/\ds[fN+k]?=some po/\TF cT H a nm t.way ou (prm t.cols zs) dv t.rows/\az dv (prm t.cols (ds.map PD.k)) (iI cN cW H)/\iI cN cW H ou po.k
theorem TbA.same {cT cN cW:Addr} {H H' : Hp} {zs:List Str} {ds:List PD} {ts:List PT} {fN:Nat} {a:Addr} {k:Nat} (h:TbA cT cN cW H zs ds ts fN a k) (s:aq H H'):TbA cT cN cW H' zs ds ts fN a k:=by
 obtain ⟨t,nm,po,ou,dv,h1,h2,h3,h4,h5,h6⟩:=h
 exact ⟨t,nm,po,ou,dv,h1,h2,h3,h4.same s,az.mono h5 (λ_ _ p=>p.same s),h6.same s⟩
def FcA (cN cW:Addr) (H:Hp) (zs:List Str) (ds:List PD) (r:Addr) (k:Nat):Prop:=∃ (nm:Str) (po:PD) (d:Addr),zs[k]?=some nm/\ds[k]?=some po/\H r=some (.tup [.str nm,.ref d])/\iI cN cW H d po.k
theorem FcA.same {cN cW:Addr} {H H' : Hp} {zs:List Str} {ds:List PD} {r:Addr} {k:Nat} (h:FcA cN cW H zs ds r k) (s:aq H H'):FcA cN cW H' zs ds r k:=by
 obtain ⟨nm,po,d,h1,h2,h3,h4⟩:=h
 exact ⟨nm,po,d,h1,h2,s _ _ h3,h4.same s⟩
def tnm (zs:List Str) (fN k:Nat):Str:=zs.getD (fN+k) Str.empty
theorem dk {zs:List Str} {fN k:Nat} {nm:Str} (e:zs[fN+k]?=some nm):tnm zs fN k=nm:=by unfold tnm;rw [List.getD_eq_getElem?_getD,e];rfl
structure BkI (cT cN cW:Addr) (H:Hp) (zs:List Str) (ds:List PD) (ts:List PT) (fN:Nat) (fv mv:List V) (L:List Nat):Prop where
 ok:gc zs ds ts fN
 facts:az fv (List.range fN) (FcA cN cW H zs ds)
 tabs:az mv L (TbA cT cN cW H zs ds ts fN)
 lt:∀ k ∈ L,k < ts.length
 nd:L.Nodup
 len:L.length=ts.length
 all:∀ k,k < ts.length->k ∈ L
theorem BkI.same {cT cN cW:Addr} {H H' : Hp} {zs:List Str} {ds:List PD} {ts:List PT} {fN:Nat} {fv mv:List V} {L:List Nat} (h:BkI cT cN cW H zs ds ts fN fv mv L) (s:aq H H'):BkI cT cN cW H' zs ds ts fN fv mv L :=
 ⟨h.ok,az.mono h.facts (λ_ _ p=>p.same s),az.mono h.tabs (λ_ _ p=>p.same s),h.lt,h.nd,h.len,h.all⟩
def bnm (zs:List Str) (fN:Nat) (L:List Nat):List Str:=zs.take fN ++ L.map (tnm zs fN)
section
variable {cT cN cW:Addr} {H:Hp} {zs:List Str} {ds:List PD} {ts:List PT} {fN:Nat} {fv mv:List V} {L:List Nat}
theorem BkI.few (h:BkI cT cN cW H zs ds ts fN fv mv L):L.length<=7/\fN<=7/\fN<=zs.length:=by
 have h1:=h.ok.n7
 have h2:=h.ok.tab
 have h3:=h.ok.len
 have h4:=h.len
 lia
theorem BkI.tn (h:BkI cT cN cW H zs ds ts fN fv mv L) {k:Nat} (hk:k ∈ L):zs[fN+k]?=some (tnm zs fN k):=by
 have h1:=h.lt k hk
 have h2:=h.ok.tab
 have h3:=h.ok.len
 have e:=G6 (l:=zs) (i:=fN+k) (by lia)
 rw [e,dk e]
theorem BkI.bnd_ (h:BkI cT cN cW H zs ds ts fN fv mv L):(bnm zs fN L).Nodup:=by
 have hz:=h.ok.nd
 unfold bnm
 refine List.nodup_append.mpr ⟨hz.sublist (List.take_sublist _ _),?_,λa ha b hb e=>?_⟩
 ·rw [List.nodup_iff_pairwise_ne,List.pairwise_map]
  refine List.Pairwise.imp_of_mem (R:=λa b=>a ≠ b) (λ{a b} ha hb hab e=>?_) h.nd
  have e1:=h.tn ha
  have e2:=h.tn hb
  rw [e] at e1
  have:=d7 hz e1 e2
  lia
 ·subst e
  obtain ⟨k,hk,e⟩:=List.mem_map.mp hb
  obtain ⟨j,hj⟩:=List.getElem?_of_mem ha
  rw [List.getElem?_take] at hj
  split at hj
  ·have e2:=h.tn hk
   rw [e] at e2
   have:=d7 hz hj e2
   lia
  ·cases hj
theorem BkI.has (h:BkI cT cN cW H zs ds ts fN fv mv L) {z:Str} (hz:z ∈ zs):z ∈ bnm zs fN L:=by
 obtain ⟨j,ej⟩:=List.getElem?_of_mem hz
 unfold bnm
 by_cases hj:j < fN
 ·exact List.mem_append_left _ (G8 (by rw [List.getElem?_take,if_pos hj];exact ej))
 ·refine List.mem_append_right _ (List.mem_map.mpr ⟨j - fN,h.all _ ?_,?_⟩)
  ·have:=(G7.mp ej).1
   have h2:=h.ok.tab
   have h3:=h.ok.len
   lia
  ·exact dk (by rw [show fN+(j - fN)=j by lia];exact ej)
end
def FcN (N:Addr->Prop) (cN cW:Addr) (H:Hp) (zs:List Str) (ds:List PD) (r:Addr) (k:Nat):Prop:=∃ (nm:Str) (po:PD) (d:Addr),zs[k]?=some nm/\ds[k]?=some po/\H r=some (.tup [.str nm,.ref d])/\gF N cN cW H d po.k
theorem FcN.same {N:Addr->Prop} {cN cW:Addr} {H H' : Hp} {zs:List Str} {ds:List PD} {r:Addr} {k:Nat} (h:FcN N cN cW H zs ds r k) (s:aq H H'):FcN N cN cW H' zs ds r k:=by
 obtain ⟨nm,po,d,h1,h2,h3,h4⟩:=h
 exact ⟨nm,po,d,h1,h2,s _ _ h3,h4.same s⟩
theorem FcN.upd {N:Addr->Prop} {cN cW:Addr} {H:Hp} {zs:List Str} {ds:List PD} {r D:Addr} {k:Nat} {o:HO} {ys:List V} (h:FcN N cN cW H zs ds r k) (n:¬ N D) (e:H D=some (.lst ys)):FcN N cN cW (L2.upd H D o) zs ds r k:=by
 obtain ⟨nm,po,d,h1,h2,h3,h4⟩:=h
 exact ⟨nm,po,d,h1,h2,(av (ck h3 e (by intro z;cases z))).trans h3,h4.upd n e⟩
theorem FcN.fc {N:Addr->Prop} {cN cW:Addr} {H:Hp} {zs:List Str} {ds:List PD} {r:Addr} {k:Nat} (h:FcN N cN cW H zs ds r k):FcA cN cW H zs ds r k:=by
 obtain ⟨nm,po,d,h1,h2,h3,h4⟩:=h
 exact ⟨nm,po,d,h1,h2,h3,h4.dom⟩
theorem pF {n j k:Nat} (e:(List.range n)[j]?=some k):k=j/\j < n:=by
 have hj:=(G7.mp e).1
 rw [List.length_range] at hj
 rw [List.getElem?_range hj] at e
 cases e
 exact ⟨rfl,hj⟩
section
variable {cT cN cW:Addr} {H:Hp} {zs:List Str} {ds:List PD} {ts:List PT} {fN:Nat} {fv mv:List V} {L:List Nat}
def Dt (cN cW:Addr) (H:Hp) (zs:List Str) (ds:List PD) (kvs:List (Str × V)):Prop:=∀ (j:Nat) (z:Str) (p:PD),zs[j]?=some z->ds[j]?=some p->∃ d,kvs.lookup z=some (.ref d)/\iI cN cW H d p.k
theorem pG {kvs:List (Str × V)} (hn:(kvs.map (·.1)).Nodup):∀ {j:Nat} {k:Str} {v:V},kvs[j]?=some (k,v)->kvs.lookup k=some v:=by
 induction kvs with
 | nil=>intro j k v e;simp at e
 | cons p kvs ih =>
  intro j k v e
  obtain ⟨k0,v0⟩:=p
  rw [List.map_cons] at hn
  have hn':=List.nodup_cons.mp hn
  cases j with
  | zero =>
   cases e
   rw [List.lookup_cons,beq_self_eq_true]
  | succ j =>
   have e:kvs[j]?=some (k,v):=by simpa using e
   have hk:k ≠ k0:=λz=>hn'.1 (List.mem_map.mpr ⟨(k,v),G8 e,z⟩)
   rw [List.lookup_cons,beq_eq_false_iff_ne.mpr hk]
   exact ih hn'.2 e
end
def wts (ts:List PT) (fN:Nat) (L:List Nat) (k:Nat):Bool:=match ts[k]? with
 | some t=>t.cols.any λc=>decide (fN<=c) && L.contains (c - fN)
 | none=>false
theorem vT:∀ {L:List Nat},L ≠ []->∃ k ∈ L,∀ j ∈ L,k<=j
 | [],h=>absurd rfl h
 | [x],_=>⟨x,by simp,λj hj=>by rw [show j=x by simpa using hj];exact Nat.le_refl _⟩
 | x :: y :: r,_=>by
  obtain ⟨k,hk,hm⟩:=vT (L:=y :: r) (by simp)
  by_cases h:x<=k
  ·refine ⟨x,by simp,λj hj=>?_⟩
   rcases List.mem_cons.mp hj with rfl | hj
   ·exact Nat.le_refl _
   ·exact Nat.le_trans h (hm j hj)
  ·refine ⟨k,List.mem_cons_of_mem _ hk,λj hj=>?_⟩
   rcases List.mem_cons.mp hj with rfl | hj
   ·lia
   ·exact hm j hj
theorem vU {zs:List Str} {ds:List PD} {ts:List PT} {fN:Nat} (ok:gc zs ds ts fN) {L:List Nat} (hL:L ≠ []):(L.filter (wts ts fN L)).length < L.length:=by
 obtain ⟨k,hk,hm⟩:=vT hL
 have hw:wts ts fN L k=false:=by
  unfold wts
  cases e:ts[k]? with
  | none=>rfl
  | some t =>
   show (t.cols.any λc=>decide (fN<=c) && L.contains (c - fN))=false
   rw [List.any_eq_false]
   intro c hc hb
   rw [Bool.and_eq_true,decide_eq_true_iff] at hb
   have h1:=(ok.tabs k t e).ok.lt c hc
   have h2:=hm (c - fN) (by simpa using hb.2)
   lia
 have h1:=List.length_filter_le (wts ts fN L) L
 by_cases h:(L.filter (wts ts fN L)).length=L.length
 ·have:=List.length_filter_eq_length_iff.mp h k hk
  rw [hw] at this
  cases this
 ·lia
theorem uI {zs:List Str} {ds:List PD} {ts:List PT} {fN:Nat} (ok:gc zs ds ts fN) {L:List Nat} (hL:∀ k ∈ L,k < ts.length) {k:Nat} {t:PT} (e:ts[k]?=some t):(!((prm t.cols zs).filter λz=>(L.map (tnm zs fN)).contains z).isEmpty)=wts ts fN L k:=by
 have hlt:=ok.lt e
 have hl1:=ok.len
 have hl2:=ok.tab
 have ltz:∀ j ∈ t.cols,j < zs.length:=λj hj=>by rw [hl1];exact hlt j hj
 have gz:=cM (os:=t.cols) (xs:=zs) ltz
 have tn:∀ k ∈ L,zs[fN+k]?=some (tnm zs fN k):=λk hk=>by
  have:=hL k hk
  have e:=G6 (l:=zs) (i:=fN+k) (by lia)
  rw [e,dk e]
 rw [Bool.eq_iff_iff]
 unfold wts
 rw [e]
 show _↔(t.cols.any λc=>decide (fN<=c) && L.contains (c - fN))=true
 rw [List.any_eq_true]
 constructor
 ·intro h
  have hne:((prm t.cols zs).filter λz=>(L.map (tnm zs fN)).contains z) ≠ []:=λz=>by rw [z] at h;cases h
  obtain ⟨z,hz⟩:=List.exists_mem_of_ne_nil _ hne
  obtain ⟨hz1,hz2⟩:=List.mem_filter.mp hz
  have hz2:z ∈ L.map (tnm zs fN):=by simpa using hz2
  obtain ⟨k',hk',rfl⟩:=List.mem_map.mp hz2
  obtain ⟨j,ej⟩:=List.getElem?_of_mem hz1
  have hj:j < t.cols.length:=by rw [← gz.1];exact (G7.mp ej).1
  have ec:=G6 hj
  rw [gz.2 j _ ec] at ej
  have:=d7 ok.nd ej (tn k' hk')
  refine ⟨_,G8 ec,?_⟩
  rw [this,Bool.and_eq_true,decide_eq_true_iff]
  refine ⟨by lia,?_⟩
  rw [show fN+k' - fN=k' by lia]
  simpa using hk'
 ·rintro ⟨c,hc,hb⟩
  rw [Bool.and_eq_true,decide_eq_true_iff] at hb
  have hm:c - fN ∈ L:=by simpa using hb.2
  have hz:=tn _ hm
  rw [show fN+(c - fN)=c by lia] at hz
  obtain ⟨j,ej⟩:=List.getElem?_of_mem hc
  have e1:=gz.2 j c ej
  rw [hz] at e1
  have hin:tnm zs fN (c - fN) ∈ (prm t.cols zs).filter λz=>(L.map (tnm zs fN)).contains z:=List.mem_filter.mpr ⟨G8 e1,by simpa using ⟨_,hm,rfl⟩⟩
  cases h:(prm t.cols zs).filter λz=>(L.map (tnm zs fN)).contains z with
  | nil=>rw [h] at hin;cases hin
  | cons _ _=>rfl
def SmB (z:Str):Prop:=z.length<=1000/\∀ n ∈ z.cps.toList,n < 16 ^ 8
def BkA (cN cW cB:Addr) (H:Hp) (b:Addr) (zs:List Str) (ds:List PD) (fN:Nat) (mv:List V):Prop:=∃ (dx:Addr) (fs:List (Str × V)) (ta fb:Addr) (gv:List V),H b=some (.ins cB dx fs)/\fs.lookup (Str.ofString "tables")=some (.ref ta)/\H ta=some (.lst mv)/\fs.lookup (Str.ofString "facts")=some (.ref fb)/\H fb=some (.lst gv)/\az gv (List.range fN) (FcT (DmP cN cW H ds) H zs)
theorem BkA.same {cN cW cB:Addr} {H H' : Hp} {b:Addr} {zs:List Str} {ds:List PD} {fN:Nat} {mv:List V} (h:BkA cN cW cB H b zs ds fN mv) (s:aq H H'):BkA cN cW cB H' b zs ds fN mv:=by
 obtain ⟨dx,fs,ta,fb,gv,h1,h2,h3,h4,h5,h6⟩:=h
 exact ⟨dx,fs,ta,fb,gv,s _ _ h1,h2,s _ _ h3,h4,s _ _ h5,az.mono h6 λ_ _ p=>(p.tups s.tups).mono λ_ _ ⟨po,h1,h2⟩=>⟨po,h1,h2.same s⟩⟩
structure BkT (cT cN cW cB:Addr) (H:Hp) (b:Addr) (zs:List Str) (ds:List PD) (ts:List PT) (fN:Nat) (mv:List V) (L:List Nat):Prop where
 bk:BkA cN cW cB H b zs ds fN mv
 ok:gc zs ds ts fN
 tabs:az mv L (TbA cT cN cW H zs ds ts fN)
 lt:∀ k ∈ L,k < ts.length
 few:L.length<=7
theorem BkT.same {cT cN cW cB:Addr} {H H' : Hp} {b:Addr} {zs:List Str} {ds:List PD} {ts:List PT} {fN:Nat} {mv:List V} {L:List Nat} (h:BkT cT cN cW cB H b zs ds ts fN mv L) (s:aq H H'):BkT cT cN cW cB H' b zs ds ts fN mv L :=
 ⟨h.bk.same s,h.ok,az.mono h.tabs (λ_ _ p=>p.same s),h.lt,h.few⟩
theorem iE {H H' : Hp} {x a:Addr} {o:HO} (k:∀ b o,b ≠ x->H b=some o->H' b=some o) (hx:H' x=some o) (h:H' a=none):H a=none:=by
 cases e:H a with
 | none=>rfl
 | some u =>
  have n:a ≠ x:=λz=>by rw [z,hx] at h;cases h
  rw [k a u n e] at h
  cases h
theorem RL.hideN {N:Addr->Prop} {H:Hp} {x C dx:Addr} {fs:List (Str × V)} (hx:H x=some (.ins C dx fs)) {xs:List V} {rws:List Rw} (h:RL N H xs rws):RL N (My.hide H x) xs rws :=
 az.mono h λr w ⟨ce,cs,e,n,f,c⟩=>⟨ce,cs,cX e (ck e hx (by intro z;cases z)),n,cX f (ck f hx (by intro z;cases z)),az.mono c λl ps ⟨m,ys,g,p⟩=>⟨m,ys,cX g (ck g hx (by intro z;cases z)),PL.hide hx p⟩⟩
def TbN (N:Addr->Prop) (cT cN cW:Addr) (H:Hp) (zs:List Str) (ds:List PD) (ts:List PT) (fN:Nat) (a:Addr) (k:Nat):Prop:=∃ (t:PT) (nm:Str) (po:PD) (ou:Addr) (dv:List V) (rl dx na dl:Addr) (fs:List (Str × V)) (xs:List V),ts[k]?=some t/\zs[fN+k]?=some nm/\ds[fN+k]?=some po/\H a=some (.ins cT dx fs)/\fs.lookup (Str.ofString "rows")=some (.ref rl)/\fs.lookup (Str.ofString "name")=some (.str nm)/\fs.lookup (Str.ofString "way")=some (.str t.way)/\fs.lookup (Str.ofString "outcome")=some (.ref ou)/\fs.lookup (Str.ofString "names")=some (.ref na)/\fs.lookup (Str.ofString "domains")=some (.ref dl)/\N na/\N dl/\N rl/\H na=some (.lst ((prm t.cols zs).map V.str))/\H dl=some (.lst dv)/\H rl=some (.lst xs)/\RL N H xs t.rows/\xs.length<=200/\az dv (prm t.cols (ds.map PD.k)) (gF N cN cW H)/\gF N cN cW H ou po.k
section
variable {N N' : Addr->Prop} {cT cN cW:Addr} {H H' : Hp} {zs:List Str} {ds:List PD} {ts:List PT} {fN:Nat} {a:Addr} {k:Nat}
theorem TbN.tb (h:TbN N cT cN cW H zs ds ts fN a k):TbA cT cN cW H zs ds ts fN a k:=by
 obtain ⟨t,nm,po,ou,dv,rl,dx,na,dl,fs,xs,h1,h2,h3,h4,h5,h6,h7,h8,h9,h10,_,_,_,h11,h12,h13,h14,h15,h16,h17⟩:=h
 exact ⟨t,nm,po,ou,dv,h1,h2,h3,⟨rl,dx,na,dl,fs,xs,h4,h5,h6,h7,h8,h9,h10,h11,h12,h13,h14.any,h15⟩,az.mono h16 (λ_ _ p=>p.dom),h17.dom⟩
theorem TbN.same (h:TbN N cT cN cW H zs ds ts fN a k) (s:aq H H'):TbN N cT cN cW H' zs ds ts fN a k:=by
 obtain ⟨t,nm,po,ou,dv,rl,dx,na,dl,fs,xs,h1,h2,h3,h4,h5,h6,h7,h8,h9,h10,n1,n2,n3,h11,h12,h13,h14,h15,h16,h17⟩:=h
 exact ⟨t,nm,po,ou,dv,rl,dx,na,dl,fs,xs,h1,h2,h3,s _ _ h4,h5,h6,h7,h8,h9,h10,n1,n2,n3,s _ _ h11,s _ _ h12,s _ _ h13,h14.same s,h15,az.mono h16 (λ_ _ p=>p.same s),h17.same s⟩
theorem TbN.wk (h:TbN N cT cN cW H zs ds ts fN a k) (w:∀ x,N x->N' x):TbN N' cT cN cW H zs ds ts fN a k:=by
 obtain ⟨t,nm,po,ou,dv,rl,dx,na,dl,fs,xs,h1,h2,h3,h4,h5,h6,h7,h8,h9,h10,n1,n2,n3,h11,h12,h13,h14,h15,h16,h17⟩:=h
 exact ⟨t,nm,po,ou,dv,rl,dx,na,dl,fs,xs,h1,h2,h3,h4,h5,h6,h7,h8,h9,h10,w _ n1,w _ n2,w _ n3,h11,h12,h13,az.mono h14 (λ_ _ p=>p.wk w),h15,az.mono h16 (λ_ _ p=>p.wk w),h17.wk w⟩
theorem TbN.upd {D:Addr} {zz:List V} {o:HO} (h:TbN N cT cN cW H zs ds ts fN a k) (n:¬ N D) (e:H D=some (.lst zz)):TbN N cT cN cW (L2.upd H D o) zs ds ts fN a k:=by
 obtain ⟨t,nm,po,ou,dv,rl,dx,na,dl,fs,xs,h1,h2,h3,h4,h5,h6,h7,h8,h9,h10,n1,n2,n3,h11,h12,h13,h14,h15,h16,h17⟩:=h
 have ne:∀ {b:Addr},N b->b ≠ D:=λhb z=>n (z ▸ hb)
 exact ⟨t,nm,po,ou,dv,rl,dx,na,dl,fs,xs,h1,h2,h3,(av (ck h4 e (by intro z;cases z))).trans h4,h5,h6,h7,h8,h9,h10,n1,n2,n3,(av (ne n1)).trans h11,(av (ne n2)).trans h12,(av (ne n3)).trans h13,h14.updN n e,h15,az.mono h16 (λ_ _ p=>p.upd n e),h17.upd n e⟩
end
theorem az.rev {α:Type} {xs:List V} {as:List α} {P:Addr->α->Prop} (h:az xs as P):az xs.reverse as.reverse P:=by
 refine ⟨by rw [List.length_reverse,List.length_reverse];exact h.1,λj a e=>?_⟩
 have hj:j < as.length:=by have:=(G7.mp e).1;rwa [List.length_reverse] at this
 rw [List.getElem?_reverse hj] at e
 obtain ⟨r,e1,p⟩:=h.2 _ a e
 refine ⟨r,?_,p⟩
 rw [List.getElem?_reverse (by rw [h.1];exact hj),h.1]
 exact e1
theorem vV {K:PySem.W.Frag} {H:Hp} {Q:VK} {a b:Addr} {xs:List V} (ha:SqL K H a xs) (hb:SqL K H b xs) (fl:∀ x ∈ xs,cn x=true) (q:Q (.bl false) H):vc K true (.ref a) (.ref b) H Q:=by
 refine ⟨a,b,xs,xs,rfl,rfl,ha,hb,.inr ⟨rfl,λ_=>true,λj x y e1 e2=>?_,?_⟩⟩
 ·rw [e1] at e2;cases e2
  have z:=fl x (G8 e1)
  have:=EqI.flat (K:=K) (H:=H) z z
  rw [jU z] at this
  exact this
 ·have:(List.range xs.length).all (λ_=>true)=true:=by simp
  rw [this]
  exact q
theorem pH (zs:List Str):∀ x ∈ zs.map V.str,cn x=true:=λx hx=>by
 obtain ⟨z,_,rfl⟩:=List.mem_map.mp hx
 rfl
theorem Ad {c:Int} {n:Nat} : ∀ z ∈ lws c n,SmB z:=λz hz=>by
 obtain ⟨i,_,rfl⟩:=List.mem_map.mp hz
 refine ⟨Nat.le_trans (tV (vP c _)) (by decide),λx hx=>?_⟩
 have hx:x ∈ lwc c (0+(i:Int)):=by simpa [lw] using hx
 have m0:=Int.emod_nonneg (c / 11+3 * (0+(i:Int))) (show (26:Int) ≠ 0 by decide)
 have m1:=Int.emod_lt_of_pos (c / 11+3 * (0+(i:Int))) (show (0:Int) < 26 by decide)
 show x < 4294967296
 rcases lH hx with h | h <;> lia
theorem BkT.mem {cT cN cW cB:Addr} {H:Hp} {b:Addr} {zs:List Str} {ds:List PD} {ts:List PT} {fN:Nat} {mv:List V} {L:List Nat} (h:BkT cT cN cW cB H b zs ds ts fN mv L) (all:∀ k,k < ts.length->k ∈ L) {j:Nat} {z:Str} (e:zs[j]?=some z):(L.map (tnm zs fN)).contains z=decide (fN<=j):=by
 have hl1:=h.ok.len
 have hl2:=h.ok.tab
 have hj:=(G7.mp e).1
 rw [Bool.eq_iff_iff,decide_eq_true_iff]
 constructor
 ·intro hc
  have hc:z ∈ L.map (tnm zs fN):=by simpa using hc
  obtain ⟨k,hk,rfl⟩:=List.mem_map.mp hc
  have hk2:=h.lt k hk
  have e2:=G6 (l:=zs) (i:=fN+k) (by lia)
  rw [dk e2] at e
  have:=d7 h.ok.nd e e2
  lia
 ·intro hf
  have hm:=all (j - fN) (by lia)
  have:tnm zs fN (j - fN)=z:=dk (by rw [show fN+(j - fN)=j by lia];exact e)
  have:z ∈ L.map (tnm zs fN):=List.mem_map.mpr ⟨_,hm,this⟩
  simpa using this
section
variable {cT cN cW cB:Addr} {H:Hp} {b:Addr} {zs:List Str} {ds:List PD} {ts:List PT} {fN:Nat} {mv:List V} {L:List Nat}
theorem BkT.nmz (h:BkT cT cN cW cB H b zs ds ts fN mv L) {k:Nat} (hk:k < ts.length):zs[fN+k]?=some (tnm zs fN k):=by
 have h2:=h.ok.tab
 have h3:=h.ok.len
 have e:=G6 (l:=zs) (i:=fN+k) (by lia)
 rw [e,dk e]
theorem BkT.one (h:BkT cT cN cW cB H b zs ds ts fN mv L) {j k:Nat} (hj:j < ts.length) (hk:k < ts.length) (e:tnm zs fN j=tnm zs fN k):j=k:=by
 have e1:=h.nmz hj
 have e2:=h.nmz hk
 rw [e] at e1
 have:=d7 h.ok.nd e1 e2
 lia
theorem BkT.ins (h:BkT cT cN cW cB H b zs ds ts fN mv L) {told:List Nat} (ht:Tld ts.length told) {j:Nat} (hj:j < ts.length):(told.map (tnm zs fN)).contains (tnm zs fN j)=told.contains j:=by
 rw [Bool.eq_iff_iff,List.contains_iff_mem,List.contains_iff_mem]
 constructor
 ·intro hm
  obtain ⟨i,hi,e⟩:=List.mem_map.mp hm
  rw [← h.one (ht.lt i hi) hj e]
  exact hi
 ·intro hm
  exact List.mem_map.mpr ⟨j,hm,rfl⟩
theorem BkT.aks (h:BkT cT cN cW cB H b zs ds ts fN mv L) (all:∀ k,k < ts.length->k ∈ L) {k:Nat} {t:PT} (et:ts[k]?=some t):((prm t.cols zs).filter λz=>(L.map (tnm zs fN)).contains z)=(akc fN t.cols).map (tnm zs fN):=by
 have hlt:=h.ok.lt et
 rw [← h.ok.len] at hlt
 revert hlt
 generalize t.cols=cs
 intro hlt
 induction cs with
 | nil=>rfl
 | cons c cs ih =>
  have hc:=hlt c List.mem_cons_self
  have e:=G6 hc
  rw [mK hc,List.filter_cons]
  have hm:=h.mem all e
  have ih:=ih λj hj=>hlt j (List.mem_cons_of_mem _ hj)
  unfold akc at ih ⊢
  rw [List.filter_cons,hm]
  by_cases hf:fN<=c
  ·rw [if_pos (decide_eq_true hf),if_pos (decide_eq_true hf),List.map_cons,List.map_cons,ih]
   congr 1
   exact (dk (by rw [show fN+(c - fN)=c by lia];exact e)).symm
  ·rw [if_neg (by simpa using hf),if_neg (by simpa using hf),ih]
end
def nmT (ts:List PT) (zs:List Str) (j:Nat):List Str:=match ts[j]? with
 | some t=>prm t.cols zs
 | none=>[]
def fO (ts:List PT) (zs:List Str) (fN k:Nat) (z:Str):Bool:=(odr (akT ts fN) k []).any λj=>(nmT ts zs j).contains z
theorem pI {α β:Type} {f:α->List β} {l:List α} {a:α} : (l ++ [a]).flatMap f=l.flatMap f ++ f a:=by
 rw [List.flatMap_append]
 simp
theorem uJ {ts:List PT} {zs:List Str} {fN k:Nat} {z:Str} : ((odr (akT ts fN) k []).flatMap (nmT ts zs)).contains z=fO ts zs fN k z:=by
 unfold fO
 rw [Bool.eq_iff_iff,List.contains_iff_mem,List.mem_flatMap,List.any_eq_true]
 constructor
 ·rintro ⟨j,hj,hz⟩;exact ⟨j,hj,by simpa using hz⟩
 ·rintro ⟨j,hj,hz⟩;exact ⟨j,hj,by simpa using hz⟩
theorem mR {ts:List PT} {zs:List Str} (h:∀ j,(nmT ts zs j).length<=4):∀ l:List Nat,(l.flatMap (nmT ts zs)).length<=4 * l.length
 | []=>Nat.zero_le _
 | j :: l=>by
  rw [List.flatMap_cons,List.length_append,List.length_cons]
  have h1:=h j
  have h2:=mR h l
  lia
theorem BkT.nm4 {cT cN cW cB:Addr} {H:Hp} {b:Addr} {zs:List Str} {ds:List PD} {ts:List PT} {fN:Nat} {mv:List V} {L:List Nat} (h:BkT cT cN cW cB H b zs ds ts fN mv L):∀ j,(nmT ts zs j).length<=4:=λj=>by
 unfold nmT
 cases e:ts[j]? with
 | none=>exact Nat.zero_le _
 | some t =>
  have h1:t.cols.length<=3:=(h.ok.tabs j t e).ok.few
  have h2:=(cM (os:=t.cols) (xs:=zs) λc hc=>by rw [h.ok.len];exact h.ok.lt e c hc).1
  show (prm t.cols zs).length<=4
  lia
theorem vW {c:Int} {n:Nat} : ∀ z ∈ lws c n,∀ y ∈ lws c n,z.length=y.length:=λz hz y hy=>by
 obtain ⟨i,_,rfl⟩:=List.mem_map.mp hz
 obtain ⟨j,_,rfl⟩:=List.mem_map.mp hy
 show (lwc c _).toArray.size=(lwc c _).toArray.size
 unfold lwc
 simp
def SPJ (p:PD) (one two:Int) (H H' : Hp) (pl:Addr):Prop:=aq H H'/\∃ (ts:List V) (ps:Prs),H' pl=some (.lst ts)/\PL H' ts ps/\(∀ x ∈ ps,p.lo<=x.1/\x.2<=p.hi)/\ps.length<=2/\∀ x ∈ ps,(x.1=p.lo\/x.1=one\/x.1=two\/x.1=two+1)/\(x.2=p.hi\/x.2=one\/x.2=two\/x.2=one - 1)
theorem SPJ.one {p:PD} {one two:Int} {H H1 H2:Hp} {l t:Addr} {a b:Int} (s:aq H H1) (h:aq H1 H2/\H2 l=some (.lst [.ref t])/\PL H2 [.ref t] [(a,b)]) (h1:p.lo<=a) (h2:b<=p.hi) (h3:(a=p.lo\/a=one\/a=two\/a=two+1)/\(b=p.hi\/b=one\/b=two\/b=one - 1)):SPJ p one two H H2 l :=
 ⟨s.trans h.1,_,_,h.2.1,h.2.2,(λx hx=>by rw [show x=(a,b) by simpa using hx];exact ⟨h1,h2⟩),by simp,(λx hx=>by rw [show x=(a,b) by simpa using hx];exact h3)⟩
theorem SPJ.two {p:PD} {one two:Int} {H H1 H2:Hp} {l t u:Addr} {a b c d:Int} (s:aq H H1) (h:aq H1 H2/\H2 l=some (.lst [.ref t,.ref u])/\PL H2 [.ref t,.ref u] [(a,b),(c,d)]) (h1:p.lo<=a) (h2:b<=p.hi) (h3:p.lo<=c) (h4:d<=p.hi) (h5:(a=p.lo\/a=one\/a=two\/a=two+1)/\(b=p.hi\/b=one\/b=two\/b=one - 1)) (h6:(c=p.lo\/c=one\/c=two\/c=two+1)/\(d=p.hi\/d=one\/d=two\/d=one - 1)):SPJ p one two H H2 l :=
 ⟨s.trans h.1,_,_,h.2.1,h.2.2,(λx hx=>by
  rcases List.mem_cons.mp hx with rfl | hx
  ·exact ⟨h1,h2⟩
  ·rw [show x=(c,d) by simpa using hx];exact ⟨h3,h4⟩),by simp,(λx hx=>by
  rcases List.mem_cons.mp hx with rfl | hx
  ·exact h5
  ·rw [show x=(c,d) by simpa using hx];exact h6)⟩
def PoB (N:Addr->Prop) (H:Hp) (a:Addr) (p:PD):Prop:=N a/\H a=some (.lst (p.pool.map V.int))/\1<=p.pool.length/\p.pool.length<=3/\∀ x ∈ p.pool,p.lo<=x/\x<=p.hi
theorem PoB.same {N:Addr->Prop} {H H' : Hp} {a:Addr} {p:PD} (h:PoB N H a p) (s:aq H H'):PoB N H' a p:=by obtain ⟨n,e,r⟩:=h;exact ⟨n,s _ _ e,r⟩
theorem PoB.pick {N:Addr->Prop} {H:Hp} {a:Addr} {p:PD} (h:PoB N H a p) (m:Int):∃ x,atI (p.pool.map V.int) (m % ((p.pool.length:Nat):Int))=some (.int x)/\x ∈ p.pool/\p.lo<=x/\x<=p.hi:=by
 obtain ⟨_,e,h1,h3,hb⟩:=h
 have hp:(0:Int) < ((p.pool.length:Nat):Int):=by lia
 have m0:=Int.emod_nonneg m (Int.ne_of_gt hp)
 have m1:=Int.emod_lt_of_pos m hp
 obtain ⟨k,ek⟩:∃ k:Nat,m % ((p.pool.length:Nat):Int)=(k:Int):=⟨_,(Int.toNat_of_nonneg m0).symm⟩
 have ex:=G6 (l:=p.pool) (i:=k) (by lia)
 refine ⟨p.pool[k],?_,G8 ex,hb _ (G8 ex)⟩
 rw [ek]
 exact aM (by rw [List.getElem?_map,ex];rfl)
theorem sC {fN:Nat} {x y z:Int} (h1:1<=fN) (h3:fN<=3) (hx:1<=x/\x<=8) (hy:1<=y/\y<=x) (hz:1<=z/\z<=x):∃ v:Int,atI [V.int x,.int y,.int z] ((fN:Int) - 1)=some (.int v)/\1<=v/\v<=x:=by
 match fN,h1,h3 with
 | 1,_,_=>exact ⟨x,rfl,by lia,by lia⟩
 | 2,_,_=>exact ⟨y,rfl,by lia,by lia⟩
 | 3,_,_=>exact ⟨z,rfl,by lia,by lia⟩
def PlB (N:Addr->Prop) (H:Hp) (l:Addr) (P:List Int):Prop:=N l/\H l=some (.lst (P.map V.int))
theorem mS {ds:List PD} {pls:List (List Int)} {j:Nat} {p:PD} (e:(List.zipWith (λ(p:PD) P=>{ p with pool:=P }) ds pls)[j]?=some p):∃ p0 P,ds[j]?=some p0/\pls[j]?=some P/\p = { p0 with pool:=P }:=by
 rw [List.getElem?_zipWith] at e
 cases e1:ds[j]? with
 | none=>rw [e1] at e;cases e
 | some p0 =>
  cases e2:pls[j]? with
  | none=>rw [e1,e2] at e;cases e
  | some P =>
   rw [e1,e2] at e
   cases e
   exact ⟨p0,P,rfl,rfl,rfl⟩
theorem yC {c A B:Prop} [Decidable c] (hc:¬ c) (h:A):if (!decide c)=true then A else B:=by rw [decide_eq_false hc];exact dJ h
def wvP (p:PD) (c:Int):V:=if p.ws=[] then .int c else .str (p.ws.getD c.toNat Str.empty)
def cq (v:SI):Bool:=decide (v.1=Str.ofString "say")
def ixF:List Str->Str->Nat
 | [],_=>0
 | x :: l,z=>if x=z then 0 else ixF l z+1
theorem sD:∀ {l:List Str} {z:Str},z ∈ l->l[ixF l z]?=some z
 | x :: l,z,h=>by
  unfold ixF
  by_cases e:x=z
  ·rw [if_pos e];simp [e]
  ·rw [if_neg e]
   have h2:z ∈ l:=by
    rcases List.mem_cons.mp h with q | q
    ·exact absurd q.symm e
    ·exact q
   simpa using sD h2
def kP (p:PD) (t:PT) (cvs:List SI):SI:=match cvs.find? (λv=>!cq v) with
 | some v=>v
 | none=>ver (wf (ixF six t.way) p.lo p.hi) (fl t.rows (cvs.map (·.2)))
def vdF (ts:List PT) (ds:List PD) (fN:Nat) (cd:List Int):Nat->Nat->SI
 | 0,_=>zS
 | n+1,k=>match ts[k]?,ds[fN+k]? with
  | some t,some p=>kP p t (t.cols.map λc=>if c < fN then say (cd.getD c 0) else vdF ts ds fN cd n (c - fN))
  | _,_=>zS
def vd (ts:List PT) (ds:List PD) (fN:Nat) (cd:List Int) (k:Nat):SI:=vdF ts ds fN cd (k+1) k
def cvo (ts:List PT) (ds:List PD) (fN:Nat) (cd:List Int) (c:Nat):SI:=if c < fN then say (cd.getD c 0) else vd ts ds fN cd (c - fN)
theorem q8 {ts:List PT} {ds:List PD} {fN:Nat} {cd:List Int} (h:∀ (k:Nat) (t:PT),ts[k]?=some t->∀ c ∈ t.cols,c < fN+k):∀ (n m k:Nat),k < n->k < m->vdF ts ds fN cd n k=vdF ts ds fN cd m k
 | 0,_,_,h1,_=>absurd h1 (Nat.not_lt_zero _)
 | _+1,0,_,_,h2=>absurd h2 (Nat.not_lt_zero _)
 | n+1,m+1,k,h1,h2=>by
  unfold vdF
  cases et:ts[k]? with
  | none=>rfl
  | some t =>
   cases ds[fN+k]? with
   | none=>rfl
   | some p =>
    show kP p t _=kP p t _
    congr 1
    refine List.map_congr_left λc hc=>?_
    split
    ·rfl
    ·have:=h k t et c hc
     exact q8 h n m (c - fN) (by lia) (by lia)
theorem yD {ts:List PT} {ds:List PD} {fN:Nat} {cd:List Int} (h:∀ (k:Nat) (t:PT),ts[k]?=some t->∀ c ∈ t.cols,c < fN+k) {k:Nat} {t:PT} {p:PD} (et:ts[k]?=some t) (ep:ds[fN+k]?=some p):vd ts ds fN cd k=kP p t (t.cols.map (cvo ts ds fN cd)):=by
 unfold vd vdF
 rw [et,ep]
 show kP p t _=kP p t _
 congr 1
 refine List.map_congr_left λc hc=>?_
 unfold cvo
 split
 ·rfl
 ·have:=h k t et c hc
  exact q8 h k (c - fN+1) (c - fN) (by lia) (by lia)
theorem q9 {p:PD} {t:PT} {cvs:List SI} (h:∀ v ∈ cvs,cq v=true):kP p t cvs=ver (wf (ixF six t.way) p.lo p.hi) (fl t.rows (cvs.map (·.2))):=by
 unfold kP
 have:cvs.find? (λv=>!cq v)=none:=by
  rw [List.find?_eq_none]
  intro v hv
  simp [h v hv]
 rw [this]
theorem xK {p:PD} {t:PT} {cvs:List SI} {i:Nat} {v:SI} (e:cvs[i]?=some v) (hv:cq v=false) (h:∀ u ∈ cvs.take i,cq u=true):kP p t cvs=v:=by
 unfold kP
 have hs:cvs=cvs.take i ++ v :: cvs.drop (i+1):=by
  obtain ⟨hi,e'⟩:=G7.mp e
  rw [← e',← List.drop_eq_getElem_cons hi,List.take_append_drop]
 have:cvs.find? (λv=>!cq v)=some v:=by
  rw [hs,List.find?_append]
  have h1:(cvs.take i).find? (λv=>!cq v)=none:=by
   rw [List.find?_eq_none]
   intro u hu
   simp [h u hu]
  rw [h1,Option.none_or,List.find?_cons_of_pos (by simp [hv])]
 rw [this]
def Bef (ak:Nat->List Nat) (told:List Nat):Prop:=∀ (i j:Nat),told[i]?=some j->∀ x ∈ ak j,x ∈ told.take i
theorem tZ {ak:Nat->List Nat} (h:∀ k,∀ j ∈ ak k,j < k):∀ (k:Nat) (told:List Nat),Bef ak told->Bef ak (odr ak k told)/\(∀ x ∈ told,x ∈ odr ak k told)/\k ∈ odr ak k told:=by
 intro k
 induction k using Nat.strongRecOn with
 | ind k ih =>
  intro told hb
  have fold:∀ (l:List Nat) (t:List Nat),(∀ j ∈ l,j < k)->Bef ak t->Bef ak (l.foldl (λt j=>odr ak j t) t)/\(∀ x ∈ t,x ∈ l.foldl (λt j=>odr ak j t) t)/\∀ j ∈ l,j ∈ l.foldl (λt j=>odr ak j t) t:=by
   intro l
   induction l with
   | nil=>intro t _ hb;exact ⟨hb,λx hx=>hx,λj hj=>by cases hj⟩
   | cons j l ihl =>
    intro t hl hb
    obtain ⟨a1,a2,a3⟩:=ih j (hl j List.mem_cons_self) t hb
    obtain ⟨b1,b2,b3⟩:=ihl (odr ak j t) (λi hi=>hl i (List.mem_cons_of_mem _ hi)) a1
    rw [List.foldl_cons]
    refine ⟨b1,λx hx=>b2 x (a2 x hx),λi hi=>?_⟩
    rcases List.mem_cons.mp hi with rfl | hi
    ·exact b2 _ a3
    ·exact b3 i hi
  rw [sy h]
  split
  ·rename_i hc
   exact ⟨hb,λx hx=>hx,by simpa using hc⟩
  ·obtain ⟨a1,a2,a3⟩:=fold (ak k) told (h k) hb
   generalize (ak k).foldl (λt j=>odr ak j t) told=F at a1 a2 a3 ⊢
   refine ⟨λi j e x hx=>?_,λx hx=>List.mem_append_left _ (a2 x hx),List.mem_append_right _ (List.mem_singleton.mpr rfl)⟩
   by_cases hi:i < F.length
   ·rw [List.getElem?_append_left hi] at e
    rw [List.take_append_of_le_length (Nat.le_of_lt hi)]
    exact a1 i j e x hx
   ·have hl:i=F.length:=by
     have:=(G7.mp e).1
     rw [List.length_append,List.length_singleton] at this
     lia
    subst hl
    rw [List.getElem?_append_right (Nat.le_refl _),Nat.sub_self] at e
    cases e
    rw [List.take_left']
    ·exact a3 x hx
    ·rfl
theorem ua {ak:Nat->List Nat} : Bef ak []:=λi j e=>by simp at e
def StA (N:Addr->Prop) (K:PySem.W.Frag) (H:Hp) (r:Addr) (nm:Str) (t:PT) (p:PD) (cvs:List SI):Prop:=∃ (cv:V) (m:Int) (r3:Addr),H r=some (.tup [.str nm,cv,.int m,.ref r3])/\SqT K H r3 (tp (kP p t cvs)) /\
 ((cvs.all cq=false/\cv=.non/\m=0)\/(cvs.all cq=true/\∃ lc,cv=.ref lc/\N lc/\H lc=some (.lst ((cvs.map (·.2)).map V.int))/\m=((msk (eE t.rows (cvs.map (·.2))) t.rows.length:Nat):Int)))
theorem mT {K:PySem.W.Frag} {H:Hp} {x a:Addr} {o u:HO} {xs:List V} (h:SqT K H a xs) (e:H x=some u) (n1:∀ ys,u ≠ .tup ys) (n2:∀ o ys,u ≠ .frz o (.tup ys)):SqT K (upd H x o) a xs:=by
 rcases h with (h | ⟨o',h⟩) | h
 ·exact .inl (.inl ((av (λz=>by rw [z,e] at h;exact n1 xs (Option.some.inj h))).trans h))
 ·exact .inl (.inr ⟨o',(av (λz=>by rw [z,e] at h;exact n2 o' xs (Option.some.inj h))).trans h⟩)
 ·exact .inr h
section
variable {N N' : Addr->Prop} {K:PySem.W.Frag} {H H' : Hp} {r:Addr} {nm:Str} {t:PT} {p:PD} {cvs:List SI}
theorem StA.same (h:StA N K H r nm t p cvs) (s:aq H H'):StA N K H' r nm t p cvs:=by
 obtain ⟨cv,m,r3,h1,h2,h3⟩:=h
 exact ⟨cv,m,r3,s _ _ h1,s.seqT h2,h3.imp id λ⟨a,lc,b,n,c,d⟩=>⟨a,lc,b,n,s _ _ c,d⟩⟩
theorem StA.wk (h:StA N K H r nm t p cvs) (w:∀ x,N x->N' x):StA N' K H r nm t p cvs:=by
 obtain ⟨cv,m,r3,h1,h2,h3⟩:=h
 exact ⟨cv,m,r3,h1,h2,h3.imp id λ⟨a,lc,b,n,c,d⟩=>⟨a,lc,b,w _ n,c,d⟩⟩
theorem StA.updL {x:Addr} {ys:List V} {o:HO} (h:StA N K H r nm t p cvs) (e:H x=some (.lst ys)) (n:¬ N x):StA N K (upd H x o) r nm t p cvs:=by
 obtain ⟨cv,m,r3,h1,h2,h3⟩:=h
 exact ⟨cv,m,r3,(av (ck h1 e (by intro z;cases z))).trans h1,mT h2 e (λ_ z=>by cases z) (λ_ _ z=>by cases z),h3.imp id λ⟨a,lc,b,m,c,d⟩=>⟨a,lc,b,m,(av (λ(z:lc=x)=>n (by rw [← z];exact m))).trans c,d⟩⟩
theorem StA.updD {x:Addr} {kvs:List (Key × V)} {o:HO} (h:StA N K H r nm t p cvs) (e:H x=some (.dK kvs)):StA N K (upd H x o) r nm t p cvs:=by
 obtain ⟨cv,m,r3,h1,h2,h3⟩:=h
 exact ⟨cv,m,r3,(av (ck h1 e (by intro z;cases z))).trans h1,mT h2 e (λ_ z=>by cases z) (λ_ _ z=>by cases z),h3.imp id λ⟨a,lc,b,m,c,d⟩=>⟨a,lc,b,m,(av (ck c e (by intro z;cases z))).trans c,d⟩⟩
end
def StK (N:Addr->Prop) (K:PySem.W.Frag) (H:Hp) (zs:List Str) (ds:List PD) (ts:List PT) (fN:Nat) (cd:List Int) (r:Addr) (j:Nat):Prop:=∃ (t:PT) (p:PD) (nm:Str),ts[j]?=some t/\ds[fN+j]?=some p/\zs[fN+j]?=some nm/\StA N K H r nm t p (t.cols.map (cvo ts ds fN cd))
section
variable {N N' : Addr->Prop} {K:PySem.W.Frag} {H H' : Hp} {zs:List Str} {ds:List PD} {ts:List PT} {fN:Nat} {cd:List Int} {r:Addr} {j:Nat}
theorem StK.same (h:StK N K H zs ds ts fN cd r j) (s:aq H H'):StK N K H' zs ds ts fN cd r j:=by obtain ⟨t,p,nm,a,b,c,d⟩:=h;exact ⟨t,p,nm,a,b,c,d.same s⟩
theorem StK.wk (h:StK N K H zs ds ts fN cd r j) (w:∀ x,N x->N' x):StK N' K H zs ds ts fN cd r j:=by obtain ⟨t,p,nm,a,b,c,d⟩:=h;exact ⟨t,p,nm,a,b,c,d.wk w⟩
theorem StK.updL {x:Addr} {ys:List V} {o:HO} (h:StK N K H zs ds ts fN cd r j) (e:H x=some (.lst ys)) (n:¬ N x):StK N K (upd H x o) zs ds ts fN cd r j:=by obtain ⟨t,p,nm,a,b,c,d⟩:=h;exact ⟨t,p,nm,a,b,c,d.updL e n⟩
theorem StK.updD {x:Addr} {kvs:List (Key × V)} {o:HO} (h:StK N K H zs ds ts fN cd r j) (e:H x=some (.dK kvs)):StK N K (upd H x o) zs ds ts fN cd r j:=by obtain ⟨t,p,nm,a,b,c,d⟩:=h;exact ⟨t,p,nm,a,b,c,d.updD e⟩
end
def FCd (zs:List Str) (fN:Nat) (cd:List Int) (kvs:List (Str × V)):Prop:=∀ p ∈ kvs,∃ f,f < fN/\zs[f]?=some p.1/\p.2=.int (cd.getD f 0)
def FaD (zs:List Str) (ds:List PD) (fN:Nat) (cd:List Int) (fk:List (Key × V)):Prop:=∀ (f:Nat) (z:Str) (p:PD),f < fN->zs[f]?=some z->ds[f]?=some p->dD fk (Sum.inr z)=some (wvP p (cd.getD f 0))/\p.lo<=cd.getD f 0/\cd.getD f 0<=p.hi
theorem oZ {z:Str} : ∀ {kvs:List (Str × V)},(∀ p ∈ kvs,p.1 ≠ z)->kvs.lookup z=none
 | [],_=>rfl
 | (k,v) :: kvs,h=>by
  rw [List.lookup_cons,beq_eq_false_iff_ne.mpr λe=>h (k,v) List.mem_cons_self e.symm]
  exact oZ λp hp=>h p (List.mem_cons_of_mem _ hp)
theorem ub {kvs:List (Str × V)} {z:Str} {v:V} (h:z ∉ kvs.map (·.1)):putK (kvT kvs) (Sum.inr z) v=kvT (kvs ++ [(z,v)]):=by
 rw [vA v (by rw [mG];exact oZ λp hp e=>h (List.mem_map.mpr ⟨p,hp,e⟩))]
 unfold kvT
 rw [List.map_append]
 rfl
theorem FCd.snoc {zs:List Str} {fN:Nat} {cd:List Int} {kvs:List (Str × V)} (h:FCd zs fN cd kvs) {f:Nat} {z:Str} (hf:f < fN) (ez:zs[f]?=some z):FCd zs fN cd (kvs ++ [(z,.int (cd.getD f 0))]):=λp hp=>by
 rcases List.mem_append.mp hp with hp | hp
 ·exact h p hp
 ·rw [List.mem_singleton.mp hp]
  exact ⟨f,hf,ez,rfl⟩
structure TdA (H:Hp) (ys:List V) (ks kvs:List (Str × V)):Prop where
 len:ys.length=ks.length
 keys:ks.map (·.1)=kvs.map (·.1)
 at_:∀ (j:Nat) (p:Str × V),ks[j]?=some p->∃ (T S:Addr) (c:Int),ys[j]?=some (.ref T)/\H T=some (.tup [.str p.1,.ref S])/\p.2=.ref S/\H S=some (.tup (tp (say c)))/\kvs[j]?=some (p.1,.int c)
theorem TdA.tups {H H' : Hp} {ys:List V} {ks kvs:List (Str × V)} (h:TdA H ys ks kvs) (s:iX H H'):TdA H' ys ks kvs :=
 ⟨h.len,h.keys,λj p e=>let ⟨T,S,c,h1,h2,h3,h4,h5⟩:=h.at_ j p e;⟨T,S,c,h1,s _ _ h2,h3,s _ _ h4,h5⟩⟩
theorem TdA.snoc {H:Hp} {ys:List V} {ks kvs:List (Str × V)} (h:TdA H ys ks kvs) {T S:Addr} {z:Str} {c:Int} (eT:H T=some (.tup [.str z,.ref S])) (eS:H S=some (.tup (tp (say c)))):TdA H (ys ++ [.ref T]) (ks ++ [(z,.ref S)]) (kvs ++ [(z,.int c)]):=by
 have hlk:ks.length=kvs.length:=by have:=congrArg List.length h.keys;simpa using this
 have hyl:=h.len
 refine ⟨by rw [List.length_append,List.length_append,h.len];rfl,by rw [List.map_append,List.map_append,h.keys];rfl,λj p e=>?_⟩
 by_cases hj:j < ks.length
 ·rw [List.getElem?_append_left hj] at e
  obtain ⟨T',S',c',h1,h2,h3,h4,h5⟩:=h.at_ j p e
  exact ⟨T',S',c',by rw [List.getElem?_append_left (by rw [h.len];exact hj)];exact h1,h2,h3,h4,by rw [List.getElem?_append_left (by lia)];exact h5⟩
 ·have hj2:j=ks.length:=by
   have:=(G7.mp e).1
   rw [List.length_append,List.length_singleton] at this
   lia
  subst hj2
  rw [List.getElem?_append_right (Nat.le_refl _),Nat.sub_self] at e
  cases e
  exact ⟨T,S,c,by rw [List.getElem?_append_right (by lia),h.len,Nat.sub_self];rfl,eT,rfl,eS,by rw [List.getElem?_append_right (by lia),hlk,Nat.sub_self];rfl⟩
def TIv (K:PySem.W.Frag) (H:Hp) (zs:List Str) (ds:List PD) (ts:List PT) (fN:Nat) (cd:List Int) (kv:List (Key × V)) (P:Nat->Prop):Prop:=∀ (c:Nat) (z:Str),zs[c]?=some z->P c->∃ r:Addr,dD kv (Sum.inr z)=some (.ref r)/\SqT K H r (tp (cvo ts ds fN cd c))
section
variable {K:PySem.W.Frag} {H H' : Hp} {zs:List Str} {ds:List PD} {ts:List PT} {fN:Nat} {cd:List Int} {kv:List (Key × V)} {P:Nat->Prop}
theorem TIv.same (h:TIv K H zs ds ts fN cd kv P) (s:aq H H'):TIv K H' zs ds ts fN cd kv P:=λc z e p=>let ⟨r,h1,h2⟩:=h c z e p;⟨r,h1,s.seqT h2⟩
theorem TIv.updX {x:Addr} {u o:HO} (h:TIv K H zs ds ts fN cd kv P) (e:H x=some u) (n1:∀ ys,u ≠ .tup ys) (n2:∀ o ys,u ≠ .frz o (.tup ys)):TIv K (upd H x o) zs ds ts fN cd kv P:=λc z e' p=>let ⟨r,h1,h2⟩:=h c z e' p;⟨r,h1,mT h2 e n1 n2⟩
theorem TIv.put (h:TIv K H zs ds ts fN cd kv P) (hn:zs.Nodup) {c0:Nat} {z0:Str} {r:Addr} (e0:zs[c0]?=some z0) (hr:SqT K H r (tp (cvo ts ds fN cd c0))) {P' : Nat->Prop} (hP:∀ c,P' c->c=c0\/P c):TIv K H zs ds ts fN cd (putK kv (Sum.inr z0) (.ref r)) P':=λc z e p=>by
 rw [qV]
 by_cases hz:z=z0
 ·subst hz
  have:=d7 hn e e0
  subst this
  exact ⟨r,if_pos rfl,hr⟩
 ·rw [if_neg (λq=>hz (by injection q))]
  rcases hP c p with rfl | p
  ·rw [e0] at e
   exact absurd (Option.some.inj e).symm hz
  ·exact h c z e p
end
theorem TdA.tiv {K:PySem.W.Frag} {H:Hp} {zs:List Str} {ds:List PD} {ts:List PT} {fN:Nat} {cd:List Int} {ys:List V} {ks kvs:List (Str × V)} (h:TdA H ys ks kvs) (hn:zs.Nodup) (hk:(kvs.map (·.1)).Nodup) (hF:FCd zs fN cd kvs):TIv K H zs ds ts fN cd (kvT ks) (λc=>c < fN/\∀ z,zs[c]?=some z->z ∈ kvs.map (·.1)):=λc z e ⟨hc,hz⟩=>by
 have hz:=hz z e
 rw [← h.keys] at hz
 obtain ⟨⟨z',v⟩,hp,rfl⟩:=List.mem_map.mp hz
 obtain ⟨j,ej⟩:=List.getElem?_of_mem hp
 obtain ⟨T,S,c',h1,h2,h3,h4,h5⟩:=h.at_ j _ ej
 obtain ⟨f,hf,ef,ec⟩:=hF _ (G8 h5)
 have:=d7 hn ef e
 subst this
 have ec:V.int c'=V.int (cd.getD f 0):=ec
 injection ec with ec
 subst ec
 refine ⟨S,?_,SqT.of ?_⟩
 ·rw [mG]
  have hk' : (ks.map (·.1)).Nodup:=by rw [h.keys];exact hk
  have h3:v=.ref S:=h3
  rw [pG hk' ej,h3]
 ·unfold cvo
  rw [if_pos hc]
  exact h4
def EnA (H0 H:Hp) (ea:Addr) (n m:Nat):Prop:=H0 ea=none/\∃ ev:List V,H ea=some (.lst ev)/\ev.length=n/\∀ (j:Nat) (x:V),ev[j]?=some x->∃ (l:Addr) (xs:List Int),x=.ref l/\l ≠ ea/\H0 l=none/\H l=some (.lst (xs.map V.int))/\xs.length<=m
theorem EnA.same {H0 H H' : Hp} {ea:Addr} {n m:Nat} (h:EnA H0 H ea n m) (s:aq H H'):EnA H0 H' ea n m:=by
 obtain ⟨h0,ev,h1,h2,h3⟩:=h
 exact ⟨h0,ev,s _ _ h1,h2,λj x e=>let ⟨l,xs,a,b,c,d,f⟩:=h3 j x e;⟨l,xs,a,b,c,s _ _ d,f⟩⟩
theorem EnA.le {H0 H:Hp} {ea:Addr} {n m m' : Nat} (h:EnA H0 H ea n m) (w:m<=m'):EnA H0 H ea n m':=by
 obtain ⟨h0,ev,h1,h2,h3⟩:=h
 exact ⟨h0,ev,h1,h2,λj x e=>let ⟨l,xs,a,b,c,d,f⟩:=h3 j x e;⟨l,xs,a,b,c,d,Nat.le_trans f w⟩⟩
theorem EnA.ext {H0 H:Hp} {ea l:Addr} {n m k:Nat} {xs ys:List Int} (h:EnA H0 H ea n m) (nl:l ≠ ea) (el:H l=some (.lst (xs.map V.int))) (hx:xs.length<=m) (hy:ys.length<=k):EnA H0 (upd H l (.lst (xs.map V.int ++ ys.map V.int))) ea n (m+k):=by
 obtain ⟨h0,ev,h1,h2,h3⟩:=h
 refine ⟨h0,ev,(av nl.symm).trans h1,h2,λj x e=>?_⟩
 obtain ⟨l',xs',a,b,c,d,f⟩:=h3 j x e
 by_cases hl:l'=l
 ·subst hl
  exact ⟨l',xs ++ ys,a,b,c,by rw [af,List.map_append],by rw [List.length_append];lia⟩
 ·exact ⟨l',xs',a,b,c,(av hl).trans d,by lia⟩
theorem vX {K:PySem.W.Frag} {H:Hp} {Q:VK} {a b:Addr} {v:SI} (ha:SqT K H a (tp v)) (hb:SqT K H b (tp v)) (h:Q (.bl true) H):zF K false (.ref a) (.ref b) H Q:=by
 refine ⟨a,b,_,_,rfl,rfl,ha,hb,λ_=>true,λj x y e1 e2=>?_,h⟩
 rw [e1] at e2
 cases e2
 have hf:cn x=true:=by
  match j,e1 with
  | 0,e1=>cases e1;rfl
  | 1,e1=>cases e1;rfl
  | j+2,e1=>simp [tp] at e1
 have:=EqI.flat (K:=K) (H:=H) hf hf
 rw [jU hf] at this
 exact this
theorem xM (cs:List Int):∀ x ∈ cs.map V.int,cn x=true:=λx hx=>by
 obtain ⟨i,_,rfl⟩:=List.mem_map.mp hx
 rfl
theorem vY (p:Nat->Bool) (n:Nat):((List.range n).filter p).length=n↔(List.range n).all p=true:=by
 have h:=List.length_filter_eq_length_iff (l:=List.range n) (p:=p)
 rw [List.length_range] at h
 rw [h,List.all_eq_true]
theorem uc (f:Nat->Bool):∀ n:Nat,((msk f n:Nat):Int)=((((List.range n).filter f).map λb:Nat=>(1:Int) * 2 ^ ((b:Int)).toNat)).sum
 | 0=>rfl
 | n+1=>by
  rw [mJ,List.range_succ,List.filter_append,List.map_append,List.sum_append,← uc f n]
  cases h:f n with
  | true=>rw [List.filter_cons_of_pos h];simp;lia
  | false=>rw [List.filter_cons_of_neg (by rw [h];exact Bool.false_ne_true)];simp
theorem vZ {xs:List V} {lo hi:Option Int} {x:V} (h:x ∈ lr xs lo hi):x ∈ xs:=by
 unfold lr at h
 exact List.mem_of_mem_drop (List.mem_of_mem_take h)
theorem TIv.wk {K:PySem.W.Frag} {H:Hp} {zs:List Str} {ds:List PD} {ts:List PT} {fN:Nat} {cd:List Int} {kv:List (Key × V)} {P P' : Nat->Prop} (h:TIv K H zs ds ts fN cd kv P) (w:∀ c,P' c->P c):TIv K H zs ds ts fN cd kv P':=λc z e p=>h c z e (w c p)
inductive gf (K:PySem.W.Frag) (yA yE yN yO yP yQ yR yS yT yU yV yW yX ae yY yZ:Addr) (vs:List V) (H:Hp) (Q:VK) (e_:XK):Prop
 | mk (z g:Str) (_:vs=[.str z,.str g]) (_:Q (.bl (mz z g)) H):gf K yA yE yN yO yP yQ yR yS yT yU yV yW yX ae yY yZ vs H Q e_
inductive eV (K:PySem.W.Frag) (yA yE yN yO yP yQ yR yS yT yU yV yW yX ae yY yZ:Addr) (vs:List V) (H:Hp) (Q:VK) (e_:XK):Prop
 | mk (i:Int) (_:vs=[.int i]) (_:Q (.bl true) H):eV K yA yE yN yO yP yQ yR yS yT yU yV yW yX ae yY yZ vs H Q e_
inductive mU (K:PySem.W.Frag) (yA yE yN yO yP yQ yR yS yT yU yV yW yX ae yY yZ:Addr) (vs:List V) (H:Hp) (Q:VK) (e_:XK):Prop
 | mk (a b:Addr) (k:Dk) (_:vs=[.ref a,.ref b]) (_:iI yV yW H a k) (_:iI yV yW H b k) (_:Q (.bl true) H):mU K yA yE yN yO yP yQ yR yS yT yU yV yW yX ae yY yZ vs H Q e_
inductive cz (K:PySem.W.Frag) (yA yE yN yO yP yQ yR yS yT yU yV yW yX ae yY yZ:Addr) (vs:List V) (H:Hp) (Q:VK) (e_:XK):Prop
 | mk (fa ma:Addr) (fv mv:List V) (_:vs=[.ref fa,.ref ma]) (_:H fa=some (.lst fv)) (_:H ma=some (.lst mv)) (_:fv.length<=20) (_:mv.length<=30) (_:Q .non H):cz K yA yE yN yO yP yQ yR yS yT yU yV yW yX ae yY yZ vs H Q e_
inductive dF (K:PySem.W.Frag) (yA yE yN yO yP yQ yR yS yT yU yV yW yX ae yY yZ:Addr) (vs:List V) (H:Hp) (Q:VK) (e_:XK):Prop
 | mk (t na ou:Addr) (nm wy:Str) (zs ns:List Str) (dv:List V) (rws:List Rw) (_:vs=[.ref t,.ref na]) (_:TF yX H t nm wy ou zs dv rws) (_:H na=some (.lst (ns.map V.str))) (_:zs.length<=100) (_:∀ (l:Addr) (H' : Hp),aq H H'->H l=none->H' l=some (.lst ((zs.filter λz=>ns.contains z).map V.str))->Q (.ref l) H'):dF K yA yE yN yO yP yQ yR yS yT yU yV yW yX ae yY yZ vs H Q e_
inductive eW (K:PySem.W.Frag) (yA yE yN yO yP yQ yR yS yT yU yV yW yX ae yY yZ:Addr) (vs:List V) (H:Hp) (Q:VK) (E:XK):Prop
 | mk (b:Addr) (nm:Str) (zs:List Str) (ds:List PD) (ts:List PT) (fN:Nat) (mv:List V) (L:List Nat) (_:vs=[.ref b,.str nm]) (_:BkT yX yV yW ae H b zs ds ts fN mv L) (_:SmB nm) (_:(∀ (a:Addr) (k i:Nat),mv[i]?=some (.ref a)->L[i]?=some k->k ∈ L->tnm zs fN k=nm->TbA yX yV yW H zs ds ts fN a k->Q (.ref a) H)) (_:((∀ k ∈ L,tnm zs fN k ≠ nm)->E (.ref yE) none H)):eW K yA yE yN yO yP yQ yR yS yT yU yV yW yX ae yY yZ vs H Q E
inductive mV (K:PySem.W.Frag) (yA yE yN yO yP yQ yR yS yT yU yV yW yX ae yY yZ:Addr) (vs:List V) (H:Hp) (Q:VK) (e_:XK):Prop
 | mk (a:Addr) (xs:List V) (ps:List (Int × Int)) (n:Int) (_:vs=[.ref a,.int n]) (_:SqL K H a xs) (_:PL H xs ps) (_:Q (.bl (inP ps n)) H):mV K yA yE yN yO yP yQ yR yS yT yU yV yW yX ae yY yZ vs H Q e_
inductive cm (K:PySem.W.Frag) (yA yE yN yO yP yQ yR yS yT yU yV yW yX ae yY yZ:Addr) (vs:List V) (H:Hp) (Q:VK) (e_:XK):Prop
 | mk (p r:Addr) (xs ys:List V) (_:vs=[.ref p,.ref r]) (_:SqL K H p xs) (_:SqL K H r ys) (_:1<=xs.length) (_:xs.length<=4) (_:ys.length<=200) (_:Q .non H):cm K yA yE yN yO yP yQ yR yS yT yU yV yW yX ae yY yZ vs H Q e_
inductive jf (K:PySem.W.Frag) (yA yE yN yO yP yQ yR yS yT yU yV yW yX ae yY yZ:Addr) (vs:List V) (H:Hp) (Q:VK) (e_:XK):Prop
 | mk (cl:Addr) (xs:List V) (w:Rw) (_:vs=[.ref cl,.int w.2]) (_:H cl=some (.lst xs)) (_:CL NT H xs w.1) (_:w.1.length<=100) (_:∀ (r:Addr) (H' : Hp),aq H H'->H r=none->fL (λa=>H a=none) H' r w->Q (.ref r) H'):jf K yA yE yN yO yP yQ yR yS yT yU yV yW yX ae yY yZ vs H Q e_
inductive iF (K:PySem.W.Frag) (yA yE yN yO yP yQ yR yS yT yU yV yW yX ae yY yZ:Addr) (vs:List V) (H:Hp) (Q:VK) (e_:XK):Prop
 | mk (a:Addr) (ns:List Int) (k:Int) (_:vs=[.ref a,.int k]) (_:SqL K H a (ns.map V.int)) (_:0<=k) (_:∀ r:Int,Q (.int r) H):iF K yA yE yN yO yP yQ yR yS yT yU yV yW yX ae yY yZ vs H Q e_
inductive ee (K:PySem.W.Frag) (yA yE yN yO yP yQ yR yS yT yU yV yW yX ae yY yZ:Addr) (vs:List V) (H:Hp) (Q:VK) (e_:XK):Prop
 | mk (c:Int) (n:Nat) (_:vs=[.int c,.int (n:Int)]) (_:n<=40) (_:∀ (l:Addr) (H' : Hp),aq H H'->H l=none->H' l=some (.lst ((lws c n).map V.str))->Q (.ref l) H'):ee K yA yE yN yO yP yQ yR yS yT yU yV yW yX ae yY yZ vs H Q e_
inductive gX (K:PySem.W.Frag) (yA yE yN yO yP yQ yR yS yT yU yV yW yX ae yY yZ:Addr) (vs:List V) (H:Hp) (Q:VK) (e_:XK):Prop
 | mk (r:Addr) (p:PD) (c:Int) (n:Nat) (_:vs=[.ref r,.int c,.int (n:Int)]) (_:PDA NT H r p) (_:pC p) (_:n<=3) (_:∀ (l:Addr) (xs:List Int) (H' : Hp),aq H H'->H l=none->H' l=some (.lst (xs.map V.int))->xs.length=n->(∀ x ∈ xs,p.lo<=x/\x<=p.hi)->Q (.ref l) H'):gX K yA yE yN yO yP yQ yR yS yT yU yV yW yX ae yY yZ vs H Q e_
inductive gg (K:PySem.W.Frag) (yA yE yN yO yP yQ yR yS yT yU yV yW yX ae yY yZ:Addr) (vs:List V) (H:Hp) (Q:VK) (e_:XK):Prop
 | mk (kd one two:Int) (r:Addr) (p:PD) (_:vs=[.int kd,.int one,.int two,.ref r]) (_:PDA NT H r p) (_:p.lo<=one) (_:one<=two) (_:two<=p.hi) (_:∀ (l:Addr) (ps:Prs) (H' : Hp),aq H H'->SpA (λa=>H a=none) H' l ps->(∀ x ∈ ps,p.lo<=x.1/\x.1<=x.2/\x.2<=p.hi)->ps.length<=2->(∀ x ∈ ps,(x.1=p.lo\/x.1=one\/x.1=two\/x.1=two+1)/\(x.2=p.hi\/x.2=one\/x.2=two\/x.2=one - 1))->Q (.ref l) H'):gg K yA yE yN yO yP yQ yR yS yT yU yV yW yX ae yY yZ vs H Q e_
inductive eJ (K:PySem.W.Frag) (yA yE yN yO yP yQ yR yS yT yU yV yW yX ae yY yZ:Addr) (vs:List V) (H:Hp) (Q:VK) (e_:XK):Prop
 | mk (a:Addr) (ns:List Int) (m:Nat) (_:vs=[.ref a,.int (m:Int)]) (_:SqL K H a (ns.map V.int)) (_:ns.length<=63) (_:1<=m) (_:m<=100) (_:∀ (l:Addr) (ms:List Int) (H' : Hp),aq H H'->H l=none->H' l=some (.lst (ms.map V.int))->ms.length<=m->Q (.ref l) H'):eJ K yA yE yN yO yP yQ yR yS yT yU yV yW yX ae yY yZ vs H Q e_
inductive gY (K:PySem.W.Frag) (yA yE yN yO yP yQ yR yS yT yU yV yW yX ae yY yZ:Addr) (vs:List V) (H:Hp) (Q:VK) (e_:XK):Prop
 | mk (a:Addr) (xs:List V) (ps:List (Int × Int)) (n:Int) (_:vs=[.ref a,.int n]) (_:SqL K H a xs) (_:PL H xs ps) (_:Q (.bl (inP ps n)) H):gY K yA yE yN yO yP yQ yR yS yT yU yV yW yX ae yY yZ vs H Q e_
inductive jg (K:PySem.W.Frag) (yA yE yN yO yP yQ yR yS yT yU yV yW yX ae yY yZ:Addr) (vs:List V) (H:Hp) (Q:VK) (e_:XK):Prop
 | mk (c r:Addr) (wy:Str) (i:Nat) (ns:List Int) (p:PD) (_:vs=[.str wy,.ref c,.ref r]) (_:six[i]?=some wy) (_:SqL K H c (ns.map V.int)) (_:PDA NT H r p) (_:p.lo<=p.hi) (_:∀ (r:Addr) (H' : Hp),aq H H'->H' r=some (.tup (tp (ver (wf i p.lo p.hi) ns)))->Q (.ref r) H'):jg K yA yE yN yO yP yQ yR yS yT yU yV yW yX ae yY yZ vs H Q e_
inductive gh (K:PySem.W.Frag) (yA yE yN yO yP yQ yR yS yT yU yV yW yX ae yY yZ:Addr) (vs:List V) (H:Hp) (Q:VK) (e_:XK):Prop
 | mk (r:Addr) (cell:Int) (zs:List Str) (ds:List PD) (ts:List PT) (fN:Nat) (_:vs=[.ref r,.int cell]) (_:PlA H r zs ds ts) (_:gc zs ds ts fN) (_:(∀ t ∈ ts,t.rows.length<=32)) (_:ts.length<=4) (_:∀ (l:Addr) (cd:List Int) (H' : Hp),aq H H'->H l=none->H' l=some (.lst (cd.map V.int))->cd.length=fN->(∀ (f:Nat) (p:PD),f < fN->ds[f]?=some p->p.lo<=cd.getD f 0/\cd.getD f 0<=p.hi)->Q (.ref l) H'):gh K yA yE yN yO yP yQ yR yS yT yU yV yW yX ae yY yZ vs H Q e_
inductive gi (K:PySem.W.Frag) (yA yE yN yO yP yQ yR yS yT yU yV yW yX ae yY yZ:Addr) (vs:List V) (H:Hp) (Q:VK) (e_:XK):Prop
 | mk (r:Addr) (p:PD) (c:Int) (_:vs=[.ref r,.int c]) (_:PDA NT H r p) (_:pC p) (_:p.lo<=c) (_:c<=p.hi) (_:Q (wvP p c) H):gi K yA yE yN yO yP yQ yR yS yT yU yV yW yX ae yY yZ vs H Q e_
inductive bS (K:PySem.W.Frag) (yA yE yN yO yP yQ yR yS yT yU yV yW yX ae yY yZ:Addr) (vs:List V) (H:Hp) (Q:VK) (e_:XK):Prop
 | mk (x dx:Addr) (z:Str) (_:vs=[.ref x,.str z]) (_:H x=some (.ins yO dx [])) (_:Q .non (upd H x (.ins yO dx [("called",.str z)]))):bS K yA yE yN yO yP yQ yR yS yT yU yV yW yX ae yY yZ vs H Q e_
inductive bY (K:PySem.W.Frag) (yA yE yN yO yP yQ yR yS yT yU yV yW yX ae yY yZ:Addr) (vs:List V) (H:Hp) (Q:VK) (e_:XK):Prop
 | mk (x dx:Addr) (z:Str) (_:vs=[.ref x,.str z]) (_:H x=some (.ins yP dx [])) (_:Q .non (upd H x (.ins yP dx [("called",.str z)]))):bY K yA yE yN yO yP yQ yR yS yT yU yV yW yX ae yY yZ vs H Q e_
inductive bZ (K:PySem.W.Frag) (yA yE yN yO yP yQ yR yS yT yU yV yW yX ae yY yZ:Addr) (vs:List V) (H:Hp) (Q:VK) (e_:XK):Prop
 | mk (x dx:Addr) (z:Str) (_:vs=[.ref x,.str z]) (_:H x=some (.ins yQ dx [])) (_:Q .non (upd H x (.ins yQ dx [("called",.str z)]))):bZ K yA yE yN yO yP yQ yR yS yT yU yV yW yX ae yY yZ vs H Q e_
inductive cc (K:PySem.W.Frag) (yA yE yN yO yP yQ yR yS yT yU yV yW yX ae yY yZ:Addr) (vs:List V) (H:Hp) (Q:VK) (e_:XK):Prop
 | mk (x dx:Addr) (z:Str) (_:vs=[.ref x,.str z]) (_:H x=some (.ins yR dx [])) (_:Q .non (upd H x (.ins yR dx [("called",.str z)]))):cc K yA yE yN yO yP yQ yR yS yT yU yV yW yX ae yY yZ vs H Q e_
inductive b7 (K:PySem.W.Frag) (yA yE yN yO yP yQ yR yS yT yU yV yW yX ae yY yZ:Addr) (vs:List V) (H:Hp) (Q:VK) (e_:XK):Prop
 | mk (x dx:Addr) (z:Str) (_:vs=[.ref x,.str z]) (_:H x=some (.ins yS dx [])) (_:Q .non (upd H x (.ins yS dx [("called",.str z)]))):b7 K yA yE yN yO yP yQ yR yS yT yU yV yW yX ae yY yZ vs H Q e_
inductive cg (K:PySem.W.Frag) (yA yE yN yO yP yQ yR yS yT yU yV yW yX ae yY yZ:Addr) (vs:List V) (H:Hp) (Q:VK) (e_:XK):Prop
 | mk (x dx:Addr) (z:Str) (_:vs=[.ref x,.str z]) (_:H x=some (.ins yT dx [])) (_:Q .non (upd H x (.ins yT dx [("called",.str z)]))):cg K yA yE yN yO yP yQ yR yS yT yU yV yW yX ae yY yZ vs H Q e_
inductive bw (K:PySem.W.Frag) (yA yE yN yO yP yQ yR yS yT yU yV yW yX ae yY yZ:Addr) (vs:List V) (H:Hp) (Q:VK) (e_:XK):Prop
 | mk (x dx:Addr) (lo hi:Int) (_:vs=[.ref x,.int lo,.int hi]) (_:H x=some (.ins yV dx [])) (_:Q .non (mkd yV H x dx lo hi)):bw K yA yE yN yO yP yQ yR yS yT yU yV yW yX ae yY yZ vs H Q e_
inductive bF (K:PySem.W.Frag) (yA yE yN yO yP yQ yR yS yT yU yV yW yX ae yY yZ:Addr) (vs:List V) (H:Hp) (Q:VK) (e_:XK):Prop
 | mk (x dx:Addr) (lo hi:Int) (_:vs=[.ref x,.int lo,.int hi]) (_:H x=some (.ins yW dx [])) (_:Q .non (mkd yW H x dx lo hi)):bF K yA yE yN yO yP yQ yR yS yT yU yV yW yX ae yY yZ vs H Q e_
inductive bH (K:PySem.W.Frag) (yA yE yN yO yP yQ yR yS yT yU yV yW yX ae yY yZ:Addr) (vs:List V) (H:Hp) (Q:VK) (e_:XK):Prop
 | mk (a:Addr) (v:V) (_:vs=[.ref a,v]) (_:Q v H):bH K yA yE yN yO yP yQ yR yS yT yU yV yW yX ae yY yZ vs H Q e_
inductive bU (K:PySem.W.Frag) (yA yE yN yO yP yQ yR yS yT yU yV yW yX ae yY yZ:Addr) (vs:List V) (H:Hp) (Q:VK) (e_:XK):Prop
 | mk (a:Addr) (zs:List Str) (z:Str) (j:Nat) (_:vs=[.ref a,.str z]) (_:sr yW H a zs) (_:zs.Nodup) (_:zs[j]?=some z) (_:Q (.int (j:Int)) H):bU K yA yE yN yO yP yQ yR yS yT yU yV yW yX ae yY yZ vs H Q e_
inductive cP (K:PySem.W.Frag) (yA yE yN yO yP yQ yR yS yT yU yV yW yX ae yY yZ:Addr) (vs:List V) (H:Hp) (Q:VK) (e_:XK):Prop
 | mk (a:Addr) (zs:List Str) (z:Str) (_:vs=[.ref a,.str z]) (_:sr yW H a zs) (_:z ∈ zs) (_:Q (.bl true) H):cP K yA yE yN yO yP yQ yR yS yT yU yV yW yX ae yY yZ vs H Q e_
def J1 (K:W.Frag) (yO yV yW:Addr):Sp:=uD K yO yV yW 0
def J9 (K:W.Frag) (yP yV yW:Addr):Sp:=uD K yP yV yW 1
def J5 (K:W.Frag) (yQ yV yW:Addr):Sp:=uD K yQ yV yW 2
def J7 (K:W.Frag) (yR yV yW:Addr):Sp:=uD K yR yV yW 3
def J3 (K:W.Frag) (yS yV yW:Addr):Sp:=uD K yS yV yW 4
def J11 (K:W.Frag) (yT yV yW:Addr):Sp:=uD K yT yV yW 5
inductive eK (K:PySem.W.Frag) (yA yE yN yO yP yQ yR yS yT yU yV yW yX ae yY yZ:Addr) (vs:List V) (H:Hp) (Q:VK) (e_:XK):Prop
 | mk (z:Str) (_:vs=[.str z]) (_:z.length<=1000) (_:Q (.bl (isw z)) H):eK K yA yE yN yO yP yQ yR yS yT yU yV yW yX ae yY yZ vs H Q e_
inductive dG (K:PySem.W.Frag) (yA yE yN yO yP yQ yR yS yT yU yV yW yX ae yY yZ:Addr) (vs:List V) (H:Hp) (Q:VK) (e_:XK):Prop
 | mk (fa ma:Addr) (fv mv:List V) (zs:List Str) (ds:List PD) (ts:List PT) (fN:Nat) (L:List Nat) (_:vs=[.ref fa,.ref ma]) (_:H fa=some (.lst fv)) (_:H ma=some (.lst mv)) (_:BkI yX yV yW H zs ds ts fN fv mv L) (_:∀ H',aq H H'->Q .non H'):dG K yA yE yN yO yP yQ yR yS yT yU yV yW yX ae yY yZ vs H Q e_
inductive dW (K:PySem.W.Frag) (yA yE yN yO yP yQ yR yS yT yU yV yW yX ae yY yZ:Addr) (vs:List V) (H:Hp) (Q:VK) (e_:XK):Prop
 | mk (ma:Addr) (mv:List V) (zs:List Str) (ds:List PD) (ts:List PT) (fN:Nat) (L:List Nat) (_:vs=[.ref ma]) (_:H ma=some (.lst mv)) (_:gc zs ds ts fN) (_:az mv L (TbA yX yV yW H zs ds ts fN)) (_:(∀ k ∈ L,k < ts.length)) (_:L.length<=7) (_:∀ H',aq H H'->Q .non H'):dW K yA yE yN yO yP yQ yR yS yT yU yV yW yX ae yY yZ vs H Q e_
inductive pJ (K:PySem.W.Frag) (yA yE yN yO yP yQ yR yS yT yU yV yW yX ae yY yZ:Addr) (vs:List V) (H:Hp) (Q:VK) (E:XK):Prop
 | mk (b:Addr) (nm:Str) (zs:List Str) (ds:List PD) (ts:List PT) (fN:Nat) (mv:List V) (L:List Nat) (_:vs=[.ref b,.str nm]) (_:BkT yX yV yW ae H b zs ds ts fN mv L) (_:SmB nm) (_:(∀ (k:Nat) (t:PT) (l:Addr) (H' : Hp),k ∈ L->tnm zs fN k=nm->ts[k]?=some t->aq H H'->H l=none->H' l=some (.lst (((prm t.cols zs).filter λz=>(L.map (tnm zs fN)).contains z).map V.str))->Q (.ref l) H')) (_:((∀ k ∈ L,tnm zs fN k ≠ nm)->E (.ref yE) none H)):pJ K yA yE yN yO yP yQ yR yS yT yU yV yW yX ae yY yZ vs H Q E
inductive pK (K:PySem.W.Frag) (yA yE yN yO yP yQ yR yS yT yU yV yW yX ae yY yZ:Addr) (vs:List V) (H:Hp) (Q:VK) (e_:XK):Prop
 | mk (t rl c dx:Addr) (fs:List (Str × V)) (xs:List V) (rws:List Rw) (k:Nat) (w:Rw) (cs:List Int) (_:vs=[.ref t,.int k,.ref c]) (_:H t=some (.ins yX dx fs)) (_:fs.lookup (Str.ofString "rows")=some (.ref rl)) (_:H rl=some (.lst xs)) (_:RL NT H xs rws) (_:rws[k]?=some w) (_:SqL K H c (cs.map V.int)) (_:w.1.length=cs.length) (_:∀ H',aq H H'->Q (.bl (nO w.1 cs)) H'):pK K yA yE yN yO yP yQ yR yS yT yU yV yW yX ae yY yZ vs H Q e_
inductive fq (K:PySem.W.Frag) (yA yE yN yO yP yQ yR yS yT yU yV yW yX ae yY yZ:Addr) (vs:List V) (H:Hp) (Q:VK) (e_:XK):Prop
 | mk (c:Int) (_:vs=[.int c]) (_:∀ (r:Addr) (p:PD) (H' : Hp),aq H H'->PDA (λa=>H a=none) H' r p->pC p->Q (.ref r) H'):fq K yA yE yN yO yP yQ yR yS yT yU yV yW yX ae yY yZ vs H Q e_
inductive jh (K:PySem.W.Frag) (yA yE yN yO yP yQ yR yS yT yU yV yW yX ae yY yZ:Addr) (vs:List V) (H:Hp) (Q:VK) (e_:XK):Prop
 | mk (cl dl pl:Addr) (ow:Nat) (n:Int) (cols:List Nat) (dv pvs:List V) (ds:List PD) (_:vs=[.ref cl,.ref dl,.ref pl,.int (ow:Int),.int n]) (_:H cl=some (.lst (vN cols))) (_:H dl=some (.lst dv)) (_:az dv ds (PDA NT H)) (_:H pl=some (.lst pvs)) (_:az pvs ds (PoB NT H)) (_:(∀ k ∈ cols,k < ds.length)) (_:ow < ds.length) (_:cols.length<=10) (_:∀ (r:Addr) (w:Rw) (H' : Hp),aq H H'->fL (λa=>H a=none) H' r w->pD ds cols ow w->Q (.ref r) H'):jh K yA yE yN yO yP yQ yR yS yT yU yV yW yX ae yY yZ vs H Q e_
inductive gZ (K:PySem.W.Frag) (yA yE yN yO yP yQ yR yS yT yU yV yW yX ae yY yZ:Addr) (vs:List V) (H:Hp) (Q:VK) (e_:XK):Prop
 | mk (r pa ve ca:Addr) (j:Nat) (zs:List Str) (ds:List PD) (ts:List PT) (fN:Nat) (cd:List Int) (vk:List (Key × V)) (_:vs=[.ref r,.int ((fN+j:Nat):Int),.ref pa,.ref ve,.ref ca]) (_:PlA H r zs ds ts) (_:gc zs ds ts fN) (_:j < ts.length) (_:StK NT K H zs ds ts fN cd pa j) (_:H ve=some (.dK vk)) (_:TIv K H zs ds ts fN cd vk (λc=>fN<=c/\c - fN ∈ akT ts fN j)) (_:H ca=some (.lst (cd.map V.int))) (_:cd.length=fN) (_:∀ H',aq H H'->Q (.bl true) H'):gZ K yA yE yN yO yP yQ yR yS yT yU yV yW yX ae yY yZ vs H Q e_
def J0 (K:W.Frag) (yO:Addr):Sp:=uC yO (Str.ofString "first")
def J8 (K:W.Frag) (yP:Addr):Sp:=uC yP (Str.ofString "only")
def J4 (K:W.Frag) (yQ:Addr):Sp:=uC yQ (Str.ofString "like")
def J6 (K:W.Frag) (yR:Addr):Sp:=uC yR (Str.ofString "low")
def J2 (K:W.Frag) (yS:Addr):Sp:=uC yS (Str.ofString "high")
def J10 (K:W.Frag) (yT:Addr):Sp:=uC yT (Str.ofString "sum")
inductive bx (K:PySem.W.Frag) (yA yE yN yO yP yQ yR yS yT yU yV yW yX ae yY yZ:Addr) (vs:List V) (H:Hp) (Q:VK) (e_:XK):Prop
 | mk (a:Addr) (b:Int × Int) (i:Int) (_:vs=[.ref a,.int i]) (_:zQ yV H a b.1 b.2) (_:b.1<=i) (_:i<=b.2) (_:Q (.bl true) H):bx K yA yE yN yO yP yQ yR yS yT yU yV yW yX ae yY yZ vs H Q e_
inductive b9 (K:PySem.W.Frag) (yA yE yN yO yP yQ yR yS yT yU yV yW yX ae yY yZ:Addr) (vs:List V) (H:Hp) (Q:VK) (e_:XK):Prop
 | mk (a:Addr) (b:Int × Int) (i:Int) (_:vs=[.ref a,.int i]) (_:zQ yW H a b.1 b.2) (_:b.1<=i) (_:i<=b.2) (_:Q (.bl true) H):b9 K yA yE yN yO yP yQ yR yS yT yU yV yW yX ae yY yZ vs H Q e_
inductive bu (K:PySem.W.Frag) (yA yE yN yO yP yQ yR yS yT yU yV yW yX ae yY yZ:Addr) (vs:List V) (H:Hp) (Q:VK) (e_:XK):Prop
 | mk (x dx:Addr) (lo hi:Int) (_:vs=[.ref x,.int lo,.int hi]) (_:H x=some (.ins yV dx [])) (_:lo<=hi) (_:Q .non (mkd yV H x dx lo hi)):bu K yA yE yN yO yP yQ yR yS yT yU yV yW yX ae yY yZ vs H Q e_
inductive cQ (K:PySem.W.Frag) (yA yE yN yO yP yQ yR yS yT yU yV yW yX ae yY yZ:Addr) (vs:List V) (H:Hp) (Q:VK) (e_:XK):Prop
 | mk (a:Addr) (zs:List Str) (z:Str) (j:Nat) (_:vs=[.ref a,.str z]) (_:sr yW H a zs) (_:zs.Nodup) (_:zs[j]?=some z) (_:Q (.int (j:Int)) H):cQ K yA yE yN yO yP yQ yR yS yT yU yV yW yX ae yY yZ vs H Q e_
def J12 (K:W.Frag) (yO yV yW:Addr):Sp:=j4 K yO yV yW 0
def J16 (K:W.Frag) (yP yV yW:Addr):Sp:=j4 K yP yV yW 1
def J14 (K:W.Frag) (yQ yV yW:Addr):Sp:=j4 K yQ yV yW 2
def J15 (K:W.Frag) (yR yV yW:Addr):Sp:=j4 K yR yV yW 3
def J13 (K:W.Frag) (yS yV yW:Addr):Sp:=j4 K yS yV yW 4
def J17 (K:W.Frag) (yT yV yW:Addr):Sp:=j4 K yT yV yW 5
inductive cJ (K:PySem.W.Frag) (yA yE yN yO yP yQ yR yS yT yU yV yW yX ae yY yZ:Addr) (vs:List V) (H:Hp) (Q:VK) (e_:XK):Prop
 | mk (fa ma:Addr) (fv mv:List V) (zs:List Str) (ds:List PD) (ts:List PT) (fN:Nat) (L:List Nat) (_:vs=[.ref fa,.ref ma]) (_:H fa=some (.lst fv)) (_:H ma=some (.lst mv)) (_:BkI yX yV yW H zs ds ts fN fv mv L) (_:∀ H',aq H H'->Q .non H'):cJ K yA yE yN yO yP yQ yR yS yT yU yV yW yX ae yY yZ vs H Q e_
inductive cA (K:PySem.W.Frag) (yA yE yN yO yP yQ yR yS yT yU yV yW yX ae yY yZ:Addr) (vs:List V) (H:Hp) (Q:VK) (e_:XK):Prop
 | mk (p:Addr) (zs:List Str) (_:vs=[.ref p]) (_:SqL K H p (zs.map V.str)) (_:(∀ z ∈ zs,isw z=true)) (_:zs.Nodup) (_:zs.length<=100) (_:∀ H',aq H H'->Q .non H'):cA K yA yE yN yO yP yQ yR yS yT yU yV yW yX ae yY yZ vs H Q e_
inductive fu (K:PySem.W.Frag) (yA yE yN yO yP yQ yR yS yT yU yV yW yX ae yY yZ:Addr) (vs:List V) (H:Hp) (Q:VK) (e_:XK):Prop
 | mk (dl ou cl:Addr) (dv xs:List V) (bs:Prs) (o:Int × Int) (w:Rw) (_:vs=[.ref dl,.ref ou,.ref cl,.int w.2]) (_:SqL K H dl dv) (_:az dv bs (Dom yV yW H)) (_:Dom yV yW H ou o) (_:H cl=some (.lst xs)) (_:CL NT H xs w.1) (_:tQ bs o w) (_:∀ H',aq H H'->Q .non H'):fu K yA yE yN yO yP yQ yR yS yT yU yV yW yX ae yY yZ vs H Q e_
inductive pL (K:PySem.W.Frag) (yA yE yN yO yP yQ yR yS yT yU yV yW yX ae yY yZ:Addr) (vs:List V) (H:Hp) (Q:VK) (e_:XK):Prop
 | mk (t c:Addr) (rws:List Rw) (i:Nat) (o:Int × Int) (cs:List Int) (_:vs=[.ref t,.ref c]) (_:Tbl yX yV yW H t rws i o) (_:SqL K H c (cs.map V.int)) (_:(∀ w ∈ rws,w.1.length=cs.length)) (_:∀ H',aq H H'->Q (.int ((msk (eE rws cs) rws.length:Nat):Int)) H'):pL K yA yE yN yO yP yQ yR yS yT yU yV yW yX ae yY yZ vs H Q e_
inductive hU (K:PySem.W.Frag) (yA yE yN yO yP yQ yR yS yT yU yV yW yX ae yY yZ:Addr) (vs:List V) (H:Hp) (Q:VK) (e_:XK):Prop
 | mk (a:Addr) (ns:List Int) (_:vs=[.ref a]) (_:SqL K H a (ns.map V.int)) (_:ns.length<=63) (_:∀ (r:Addr) (zs:List Str) (ds:List PD) (ts:List PT) (fN:Nat) (H' : Hp),aq H H'->PlA H' r zs ds ts->gc zs ds ts fN->(∀ p ∈ ds,p.pool.length<=3)->(∀ t ∈ ts,t.rows.length<=32)->ts.length<=4->1<=fN->(∀ z ∈ zs,∀ y ∈ zs,z.length=y.length)->(∀ z ∈ zs,SmB z)->Q (.ref r) H'):hU K yA yE yN yO yP yQ yR yS yT yU yV yW yX ae yY yZ vs H Q e_
inductive bI (K:PySem.W.Frag) (yA yE yN yO yP yQ yR yS yT yU yV yW yX ae yY yZ:Addr) (vs:List V) (H:Hp) (Q:VK) (e_:XK):Prop
 | mk (x dx p:Addr) (zs:List Str) (_:vs=[.ref x,.ref p]) (_:H x=some (.ins yW dx [])) (_:H p=some (.lst (zs.map V.str))) (_:Good zs) (_:∀ (H' : Hp) (l:Addr),(∀ b o,b ≠ x->H b=some o->H' b=some o)->H' x=some (.ins yW dx [("low",.int 0),("high",.int (hiW zs)),("words",.ref l)])->H' l=some (.lst (zs.map V.str))->H l=none->Q .non H'):bI K yA yE yN yO yP yQ yR yS yT yU yV yW yX ae yY yZ vs H Q e_
inductive cb (K:PySem.W.Frag) (yA yE yN yO yP yQ yR yS yT yU yV yW yX ae yY yZ:Addr) (vs:List V) (H:Hp) (Q:VK) (e_:XK):Prop
 | mk (a:Addr) (lo hi i:Int) (_:vs=[.ref a,.int i]) (_:pw yV H a lo hi) (_:lo<=i) (_:i<=hi) (_:Q (.bl true) H):cb K yA yE yN yO yP yQ yR yS yT yU yV yW yX ae yY yZ vs H Q e_
inductive iG (K:PySem.W.Frag) (yA yE yN yO yP yQ yR yS yT yU yV yW yX ae yY yZ:Addr) (vs:List V) (H:Hp) (Q:VK) (e_:XK):Prop
 | mk (z:Str) (_:vs=[.str z]) (_:z ∈ six) (_:(∀ i:Nat,six[i]?=some z->∀ (x C:Addr) (H' : Hp),aq H H'->(cl6 yO yP yQ yR yS yT)[i]?=some C->WyN C H' x z->Q (.ref x) H')):iG K yA yE yN yO yP yQ yR yS yT yU yV yW yX ae yY yZ vs H Q e_
inductive bT (K:PySem.W.Frag) (yA yE yN yO yP yQ yR yS yT yU yV yW yX ae yY yZ:Addr) (vs:List V) (H:Hp) (Q:VK) (e_:XK):Prop
 | mk (x dx fa ma:Addr) (fv mv:List V) (zs:List Str) (ds:List PD) (ts:List PT) (fN:Nat) (L:List Nat) (P:Nat->Addr->Prop) (_:vs=[.ref x,.ref fa,.ref ma]) (_:H x=some (.ins ae dx [])) (_:H fa=some (.lst fv)) (_:H ma=some (.lst mv)) (_:BkI yX yV yW H zs ds ts fN fv mv L) (_:az fv (List.range fN) (FcT P H zs)) (_:∀ (H' : Hp) (fs:List (Str × V)) (ta fb:Addr) (gv:List V),(∀ b o,b ≠ x->H b=some o->H' b=some o)->H' x=some (.ins ae dx fs)->fs.lookup (Str.ofString "tables")=some (.ref ta)->H' ta=some (.lst mv)->fs.lookup (Str.ofString "facts")=some (.ref fb)->H' fb=some (.lst gv)->az gv (List.range fN) (FcT P H' zs)->Q .non H'):bT K yA yE yN yO yP yQ yR yS yT yU yV yW yX ae yY yZ vs H Q e_
inductive cC (K:PySem.W.Frag) (yA yE yN yO yP yQ yR yS yT yU yV yW yX ae yY yZ:Addr) (vs:List V) (H:Hp) (Q:VK) (e_:XK):Prop
 | mk (a:Addr) (lo hi i:Int) (_:vs=[.ref a,.int i]) (_:pw yV H a lo hi) (_:lo<=i) (_:i<=hi) (_:Q (.int i) H):cC K yA yE yN yO yP yQ yR yS yT yU yV yW yX ae yY yZ vs H Q e_
inductive fw (K:PySem.W.Frag) (yA yE yN yO yP yQ yR yS yT yU yV yW yX ae yY yZ:Addr) (vs:List V) (H:Hp) (Q:VK) (e_:XK):Prop
 | mk (z:Str) (ou:Addr) (_:vs=[.str z,.ref ou]) (_:z ∈ six) (_:(z=Str.ofString "sum" -> ∃ dx fs,H ou=some (.ins yV dx fs))) (_:∀ H',aq H H'->Q .non H'):fw K yA yE yN yO yP yQ yR yS yT yU yV yW yX ae yY yZ vs H Q e_
inductive kQ (K:PySem.W.Frag) (yA yE yN yO yP yQ yR yS yT yU yV yW yX ae yY yZ:Addr) (vs:List V) (H:Hp) (Q:VK) (e_:XK):Prop
 | mk (t:Addr) (rws:List Rw) (i:Nat) (o:Int × Int) (m:Int) (_:vs=[.ref t,.int m]) (_:Tbl yX yV yW H t rws i o) (_:∀ (r:Addr) (H' : Hp),aq H H'->SqT K H' r (tp (ver (wf i o.1 o.2) (pkF rws (gU m) rws.length)))->Q (.ref r) H'):kQ K yA yE yN yO yP yQ yR yS yT yU yV yW yX ae yY yZ vs H Q e_
inductive eX (K:PySem.W.Frag) (yA yE yN yO yP yQ yR yS yT yU yV yW yX ae yY yZ:Addr) (vs:List V) (H:Hp) (Q:VK) (e_:XK):Prop
 | mk (r:Addr) (p:PD) (_:vs=[.ref r]) (_:PDA NT H r p) (_:pC p) (_:∀ (a:Addr) (H' : Hp),aq H H'->gF (λx=>H x=none) yV yW H' a p.k->Q (.ref a) H'):eX K yA yE yN yO yP yQ yR yS yT yU yV yW yX ae yY yZ vs H Q e_
inductive eL (K:PySem.W.Frag) (yA yE yN yO yP yQ yR yS yT yU yV yW yX ae yY yZ:Addr) (vs:List V) (H:Hp) (Q:VK) (e_:XK):Prop
 | mk (a l:Addr) (k:Nat) (zs:List Str) (ds:List PD) (ts:List PT) (fN:Nat) (xs:List V) (cvs:List SI) (t:PT) (p:PD) (nm:Str) (_:vs=[.ref a,.ref l]) (_:TbA yX yV yW H zs ds ts fN a k) (_:ts[k]?=some t) (_:zs[fN+k]?=some nm) (_:ds[fN+k]?=some p) (_:Cb fN ds k t) (_:pC p) (_:SqL K H l xs) (_:az xs cvs (λr v=>SqT K H r (tp v))) (_:cvs.length=t.cols.length) (_:∀ (r:Addr) (H' : Hp),aq H H'->StA (λx=>H x=none) K H' r nm t p cvs->Q (.ref r) H'):eL K yA yE yN yO yP yQ yR yS yT yU yV yW yX ae yY yZ vs H Q e_
inductive gj (K:PySem.W.Frag) (yA yE yN yO yP yQ yR yS yT yU yV yW yX ae yY yZ:Addr) (vs:List V) (H:Hp) (Q:VK) (e_:XK):Prop
 | mk (r:Addr) (zs:List Str) (ds:List PD) (ts:List PT) (fN:Nat) (_:vs=[.ref r]) (_:PlA H r zs ds ts) (_:gc zs ds ts fN) (_:∀ (l:Addr) (fv:List V) (H' : Hp),aq H H'->H' l=some (.lst fv)->az fv (List.range fN) (FcA yV yW H' zs ds)->Q (.ref l) H'):gj K yA yE yN yO yP yQ yR yS yT yU yV yW yX ae yY yZ vs H Q e_
inductive bJ (K:PySem.W.Frag) (yA yE yN yO yP yQ yR yS yT yU yV yW yX ae yY yZ:Addr) (vs:List V) (H:Hp) (Q:VK) (e_:XK):Prop
 | mk (x dx na dl ou rl:Addr) (nm wy:Str) (zs:List Str) (dv rx:List V) (bs:Prs) (o:Int × Int) (rws:List Rw) (_:vs=[.ref x,.str nm,.ref na,.ref dl,.ref ou,.str wy,.ref rl]) (_:H x=some (.ins yX dx [])) (_:H na=some (.lst (zs.map V.str))) (_:(∀ z ∈ nm :: zs,isw z=true)) (_:(nm :: zs).Nodup) (_:1<=zs.length) (_:zs.length<=4) (_:wy ∈ six) (_:(wy=Str.ofString "sum" -> ∃ dx fs,H ou=some (.ins yV dx fs))) (_:H dl=some (.lst dv)) (_:az dv bs (Dom yV yW H)) (_:Dom yV yW H ou o) (_:H rl=some (.lst rx)) (_:RL NT H rx rws) (_:rx.length<=200) (_:bs.length<=4) (_:(∀ w ∈ rws,tQ bs o w)) (_:∀ (H' : Hp) (fs:List (Str × V)) (rl' : Addr) (xs' : List V),(∀ b o,b ≠ x->H b=some o->H' b=some o)->H' x=some (.ins yX dx fs)->fs.lookup (Str.ofString "rows")=some (.ref rl')->fs.lookup (Str.ofString "way")=some (.str wy)->fs.lookup (Str.ofString "outcome")=some (.ref ou)->fs.lookup (Str.ofString "name")=some (.str nm)->(∃ na' dl' : Addr,H na'=none/\H dl'=none/\fs.lookup (Str.ofString "names")=some (.ref na')/\fs.lookup (Str.ofString "domains")=some (.ref dl')/\H' na'=some (.lst (zs.map V.str))/\H' dl'=some (.lst dv))->H rl'=none->H' rl'=some (.lst xs')->RL (λa=>H a=none) H' xs' rws->Q .non H'):bJ K yA yE yN yO yP yQ yR yS yT yU yV yW yX ae yY yZ vs H Q e_
inductive mW (K:PySem.W.Frag) (yA yE yN yO yP yQ yR yS yT yU yV yW yX ae yY yZ:Addr) (vs:List V) (H:Hp) (Q:VK) (e_:XK):Prop
 | mk (tl d:Addr) (tv:List V) (zs:List Str) (ds:List PD) (ts:List PT) (fN:Nat) (cd:List Int) (od:List Nat) (kvs:List (Str × V)) (_:vs=[.ref tl,.ref d]) (_:H d=some (.dK (kvT kvs))) (_:hide H d tl=some (.lst tv)) (_:az tv od (TbA yX yV yW (hide H d) zs ds ts fN)) (_:gc zs ds ts fN) (_:Tld ts.length od) (_:Bef (akT ts fN) od) (_:kvs.length<=7) (_:(kvs.map (·.1)).Nodup) (_:FCd zs fN cd kvs) (_:(∀ j ∈ od,∀ t:PT,ts[j]?=some t->∀ c ∈ t.cols,c < fN->∀ z:Str,zs[c]?=some z->z ∈ kvs.map (·.1))) (_:∀ (l:Addr) (xs:List V) (H' : Hp),aq (hide H d) H'->H' l=some (.lst xs)->az xs od (StK NT K H' zs ds ts fN cd)->Q (.ref l) H'):mW K yA yE yN yO yP yQ yR yS yT yU yV yW yX ae yY yZ vs H Q e_
inductive gm (K:PySem.W.Frag) (yA yE yN yO yP yQ yR yS yT yU yV yW yX ae yY yZ:Addr) (vs:List V) (H:Hp) (Q:VK) (e_:XK):Prop
 | mk (r:Addr) (k:Nat) (zs:List Str) (ds:List PD) (ts:List PT) (fN:Nat) (t:PT) (nm:Str) (po:PD) (_:vs=[.ref r,.int (k:Int)]) (_:PlA H r zs ds ts) (_:gc zs ds ts fN) (_:ts[k]?=some t) (_:zs[fN+k]?=some nm) (_:ds[fN+k]?=some po) (_:∀ (x:Addr) (H' : Hp),aq H H'->TbN (λa=>H a=none) yX yV yW H' zs ds ts fN x k->Q (.ref x) H'):gm K yA yE yN yO yP yQ yR yS yT yU yV yW yX ae yY yZ vs H Q e_
inductive cF (K:PySem.W.Frag) (yA yE yN yO yP yQ yR yS yT yU yV yW yX ae yY yZ:Addr) (n:Nat) (vs:List V) (H:Hp) (Q:VK) (E:XK):Prop
 | mk (b o:Addr) (nm:Str) (zs:List Str) (ds:List PD) (ts:List PT) (fN:Nat) (mv:List V) (L:List Nat) (told:List Nat) (k:Nat) (_:vs=[.ref b,.str nm,.ref o]) (_:BkT yX yV yW ae (hide H o) b zs ds ts fN mv L) (_:(∀ k,k < ts.length->k ∈ L)) (_:H o=some (.lst ((told.map (tnm zs fN)).map V.str))) (_:Tld ts.length told) (_:SmB nm) (_:(∀ z ∈ zs,SmB z)) (_:k+1<=n) (_:((k < ts.length/\tnm zs fN k=nm/\k ∉ told/\∀ H',aq (hide H o) (hide H' o)->H' o=some (.lst (((odr (akT ts fN) k told).map (tnm zs fN)).map V.str))->Q .non H')\/((∀ k ∈ L,tnm zs fN k ≠ nm)/\E (.ref yE) none H))):cF K yA yE yN yO yP yQ yR yS yT yU yV yW yX ae yY yZ n vs H Q E
theorem nP {K:PySem.W.Frag} {yA yE yN yO yP yQ yR yS yT yU yV yW yX ae yY yZ:Addr} {vs:List V} {H:Hp} {Q:VK} {E:XK} (h:cF K yA yE yN yO yP yQ yR yS yT yU yV yW yX ae yY yZ 0 vs H Q E):False:=by
 obtain ⟨b,o,nm,zs,ds,ts,fN,mv,L,told,k,rfl,hB,cy,ho,htd,hs,hsz,hn,hq⟩:=h
 lia
inductive eY (K:PySem.W.Frag) (yA yE yN yO yP yQ yR yS yT yU yV yW yX ae yY yZ:Addr) (vs:List V) (H:Hp) (Q:VK) (E:XK):Prop
 | mk (b:Addr) (nm:Str) (zs:List Str) (ds:List PD) (ts:List PT) (fN:Nat) (mv:List V) (L:List Nat) (k:Nat) (_:vs=[.ref b,.str nm]) (_:BkT yX yV yW ae H b zs ds ts fN mv L) (_:(∀ k,k < ts.length->k ∈ L)) (_:SmB nm) (_:(∀ z ∈ zs,SmB z)) (_:k<=12) (_:((k < ts.length/\tnm zs fN k=nm/\∀ (l:Addr) (H' : Hp),aq H H'->H l=none->H' l=some (.lst (((odr (akT ts fN) k []).map (tnm zs fN)).map V.str))->Q (.ref l) H')\/((∀ k ∈ L,tnm zs fN k ≠ nm)/\∀ H',aq H H'->E (.ref yE) none H'))):eY K yA yE yN yO yP yQ yR yS yT yU yV yW yX ae yY yZ vs H Q E
inductive dQ (K:PySem.W.Frag) (yA yE yN yO yP yQ yR yS yT yU yV yW yX ae yY yZ:Addr) (vs:List V) (H:Hp) (Q:VK) (E:XK):Prop
 | mk (b:Addr) (nm:Str) (zs:List Str) (ds:List PD) (ts:List PT) (fN:Nat) (mv:List V) (L:List Nat) (k:Nat) (_:vs=[.ref b,.str nm]) (_:BkT yX yV yW ae H b zs ds ts fN mv L) (_:(∀ k,k < ts.length->k ∈ L)) (_:SmB nm) (_:(∀ z ∈ zs,SmB z)) (_:k<=12) (_:((k < ts.length/\tnm zs fN k=nm/\∀ (l:Addr) (xs:List V) (H' : Hp),aq H H'->H l=none->H' l=some (.lst xs)->az xs (odr (akT ts fN) k []) (λr j=>∃ i:Nat,mv[i]?=some (.ref r)/\L[i]?=some j)->Q (.ref l) H')\/((∀ k ∈ L,tnm zs fN k ≠ nm)/\∀ H',aq H H'->E (.ref yE) none H'))):dQ K yA yE yN yO yP yQ yR yS yT yU yV yW yX ae yY yZ vs H Q E
inductive mX (K:PySem.W.Frag) (yA yE yN yO yP yQ yR yS yT yU yV yW yX ae yY yZ:Addr) (vs:List V) (H:Hp) (Q:VK) (E:XK):Prop
 | mk (b:Addr) (nm:Str) (zs:List Str) (ds:List PD) (ts:List PT) (fN:Nat) (mv:List V) (L:List Nat) (k:Nat) (_:vs=[.ref b,.str nm]) (_:BkT yX yV yW ae H b zs ds ts fN mv L) (_:(∀ k,k < ts.length->k ∈ L)) (_:SmB nm) (_:(∀ z ∈ zs,SmB z)) (_:k<=12) (_:((k < ts.length/\tnm zs fN k=nm/\∀ (l:Addr) (H' : Hp),aq H H'->H l=none->H' l=some (.lst (((zs.take fN).filter (fO ts zs fN k)).map V.str))->Q (.ref l) H')\/((∀ k ∈ L,tnm zs fN k ≠ nm)/\∀ H',aq H H'->E (.ref yE) none H'))):mX K yA yE yN yO yP yQ yR yS yT yU yV yW yX ae yY yZ vs H Q E
inductive fz (K:PySem.W.Frag) (yA yE yN yO yP yQ yR yS yT yU yV yW yX ae yY yZ:Addr) (vs:List V) (H:Hp) (Q:VK) (e_:XK):Prop
 | mk (b fd:Addr) (nm:Str) (zs:List Str) (ds:List PD) (ts:List PT) (fN:Nat) (mv:List V) (L:List Nat) (k:Nat) (fk:List (Key × V)) (cd:List Int) (_:vs=[.ref b,.str nm,.ref fd]) (_:BkT yX yV yW ae H b zs ds ts fN mv L) (_:(∀ k,k < ts.length->k ∈ L)) (_:SmB nm) (_:(∀ z ∈ zs,SmB z)) (_:k<=12) (_:k < ts.length) (_:tnm zs fN k=nm) (_:H fd=some (.dK fk)) (_:FaD zs ds fN cd fk) (_:∀ (d:Addr) (kvs:List (Str × V)) (H' : Hp),aq H H'->H d=none->H' d=some (.dK (kvT kvs))->kvs.map (·.1)=(zs.take fN).filter (fO ts zs fN k)->FCd zs fN cd kvs->Q (.ref d) H'):fz K yA yE yN yO yP yQ yR yS yT yU yV yW yX ae yY yZ vs H Q e_
inductive mY (K:PySem.W.Frag) (yA yE yN yO yP yQ yR yS yT yU yV yW yX ae yY yZ:Addr) (vs:List V) (H:Hp) (Q:VK) (e_:XK):Prop
 | mk (b fd:Addr) (nm:Str) (zs:List Str) (ds:List PD) (ts:List PT) (fN:Nat) (mv:List V) (L:List Nat) (k:Nat) (fk:List (Key × V)) (cd:List Int) (_:vs=[.ref b,.str nm,.ref fd]) (_:BkT yX yV yW ae H b zs ds ts fN mv L) (_:(∀ k,k < ts.length->k ∈ L)) (_:SmB nm) (_:(∀ z ∈ zs,SmB z)) (_:k<=12) (_:k < ts.length) (_:tnm zs fN k=nm) (_:H fd=some (.dK fk)) (_:FaD zs ds fN cd fk) (_:∀ (l:Addr) (xs:List V) (H' : Hp),aq H H'->H' l=some (.lst xs)->az xs (odr (akT ts fN) k []) (StK NT K H' zs ds ts fN cd)->Q (.ref l) H'):mY K yA yE yN yO yP yQ yR yS yT yU yV yW yX ae yY yZ vs H Q e_
def J18 (K:PySem.W.Frag):Sp:=λvs H Q _=>∃ (a:Addr) (ns:List Int),vs=[.ref a]/\SqL K H a (ns.map V.int)/\ns.length<=63/\∀ H',Q (.bl true) H'
section
variable {P:Program} {w:World} {K:PySem.W.Frag} {mg:Str->Option Value} {base:Heap} {f:Addr} {fd:FuncData} {yA yE yN yO yP yQ yR yS yT yU yV yW yX ae yY yZ:Addr}
theorem Du (F:Fun K "all_among" "all_among" Y39 f fd) (bl:Bl K mg yA yE yN yO yP yQ yR yS yT yU yV yW yX ae yY yZ)  : aQ P w K mg base CX0 1 f fd ["text", "signs"] (gf K yA yE yN yO yP yQ yR yS yT yU yV yW yX ae yY yZ):=by
 refine F.ok Z39 (λvs H Q E h=>?_) (λcdv A outer s H vs Q E hr h=>?_)
 ·obtain ⟨z,g,rfl,q⟩:=h
  rfl
 obtain ⟨z,g,rfl,q⟩:=h
 refine ⟨_,(aC (bb PassesOwn.never rfl (zC (pv 0)) (aF (i:=2) Z39.nd rfl (Or.inl rfl))
  (ah (aR (aJ o7 (pv 2) (pv 1) (by with_unfolding_all rfl))
  (ah (aH fE))
  aI)))
  (ah (aH fE))),?_⟩
 refine ⟨_,rfl,z,rfl,xp (λi σ H'=>(∃ c2:Option V,σ=[some (.str z),some (.str g),c2])/\H'=H/\(z.cps.toList.take i).all (sg g)=true) ⟨⟨_,rfl⟩,rfl,rfl⟩ (λi c σ H' e h=>?_) (λσ H' h=>?_)⟩
 ·obtain ⟨⟨c2,rfl⟩,e0,ha⟩:=h
  rw [e0]
  refine ⟨_,rfl,_,rfl,_,_,rfl,rfl,_,rfl,?_⟩
  refine dj (λd=>?_) (λd=>?_)
  ·have z2:mz z g=false:=zO e (zP d)
   rw [z2] at q;exact q
  ·exact ⟨⟨_,rfl⟩,rfl,all_succ e (B7 d) ha⟩
 ·obtain ⟨⟨c2,rfl⟩,e0,ha⟩:=h
  rw [e0]
  rw [vI ha] at q;exact q
theorem Dv (F:Fun K "is_whole" "is_whole" Y44 f fd) (bl:Bl K mg yA yE yN yO yP yQ yR yS yT yU yV yW yX ae yY yZ)  : aQ P w K mg base CX0 1 f fd ["value"] (eV K yA yE yN yO yP yQ yR yS yT yU yV yW yX ae yY yZ):=by
 refine F.ok Z44 (λvs H Q E h=>?_) (λcdv A outer s H vs Q E hr h=>?_)
 ·obtain ⟨i,rfl,q⟩:=h
  rfl
 obtain ⟨i,rfl,q⟩:=h
 refine ⟨_,(ah (aH (fe (au cU rfl bl.isinstance_ PyProof.Rows.boot_isinstance (aa (pv 0) (aa (lB (v:=.ty "int") rfl bl.int_ PyProof.Rows.boot_int rfl) ag))) (i4 (za (au cU rfl bl.isinstance_ PyProof.Rows.boot_isinstance (aa (pv 0) (aa (lB (v:=.ty "bool") rfl bl.bool_ PyProof.Rows.boot_bool rfl) ag)))))))),?_⟩
 exact ⟨_,rfl,_,_,_,_,true,rfl,.ty _,.inl (.int _),(by first | rfl | with_unfolding_all rfl | decide +kernel),_,rfl,dJ ⟨_,rfl,_,_,_,_,false,rfl,.ty _,.inl (.int _),(by first | rfl | with_unfolding_all rfl | decide +kernel),_,rfl,q⟩⟩
theorem Dw (F:Fun K "alike" "alike" Y38 f fd) (bl:Bl K mg yA yE yN yO yP yQ yR yS yT yU yV yW yX ae yY yZ)  : aQ P w K mg base CX0 1 f fd ["one", "other"] (mU K yA yE yN yO yP yQ yR yS yT yU yV yW yX ae yY yZ):=by
 refine F.ok Z38 (λvs H Q E h=>?_) (λcdv A outer s H vs Q E hr h=>?_)
 ·obtain ⟨a,b,k,rfl,ha,hb,q⟩:=h
  rfl
 obtain ⟨a,b,k,rfl,ha,hb,q⟩:=h
 refine ⟨_,(aC (aR (PW.pt (fX (cG (au cU rfl bl.isinstance_ PyProof.Rows.boot_isinstance (aa (pv 0) (aa (cK (v:=.ref yV) rfl bl.Numbers_ rfl) ag)))) (d8 (cG (au cU rfl bl.isinstance_ PyProof.Rows.boot_isinstance (aa (pv 1) (aa (cK (v:=.ref yV) rfl bl.Numbers_ rfl) ag)))))))
  (ah (aH (fe (dz bX (aY (pv 0) rfl) (aY (pv 1) rfl) (aO _)) (i4 (dz bX (aY (pv 0) rfl) (aY (pv 1) rfl) (aO _))))))
  aI)
  (aC (aR (PW.pt (fX (cG (au cU rfl bl.isinstance_ PyProof.Rows.boot_isinstance (aa (pv 0) (aa (cK (v:=.ref yW) rfl bl.Words_ rfl) ag)))) (d8 (cG (au cU rfl bl.isinstance_ PyProof.Rows.boot_isinstance (aa (pv 1) (aa (cK (v:=.ref yW) rfl bl.Words_ rfl) ag)))))))
  (ah (aH (dz (vf hr) (aY (pv 0) rfl) (aY (pv 1) rfl) (aO _))))
  aI)
  (ah (aH fE)))),?_⟩
 obtain ⟨w,lo,hi⟩:=k
 cases w with
 | none =>
  obtain ⟨dx,e⟩:=ha
  obtain ⟨dx2,e2⟩:=hb
  refine ⟨_,rfl,_,_,_,_,true,rfl,.ref _,bl.t_Numbers.ty e,bl.f_nn,_,rfl,dJ ?_⟩
  refine ⟨_,rfl,_,_,_,_,true,rfl,.ref _,bl.t_Numbers.ty e2,bl.f_nn,_,rfl,dJ ?_⟩
  refine ⟨_,rfl,a,_,_,_,_,rfl,e,bl.k_Numbers,bl.na_Numbers_low,rfl,_,rfl,b,_,_,_,_,rfl,e2,bl.k_Numbers,bl.na_Numbers_low,rfl,rfl,_,rfl,de rfl ?_⟩
  refine ⟨_,rfl,a,_,_,_,_,rfl,e,bl.k_Numbers,bl.na_Numbers_high,rfl,_,rfl,b,_,_,_,_,rfl,e2,bl.k_Numbers,bl.na_Numbers_high,rfl,rfl,?_⟩
  rw [decide_eq_true rfl]
  exact q
 | some zs =>
  obtain ⟨⟨dx,l,e,f⟩,_⟩:=ha
  obtain ⟨⟨dx2,l2,e2,f2⟩,_⟩:=hb
  refine ⟨_,rfl,_,_,_,_,false,rfl,.ref _,bl.t_Words.ty e,bl.f_wn,_,rfl,b8 (b8 ?_)⟩
  refine ⟨_,rfl,_,_,_,_,true,rfl,.ref _,bl.t_Words.ty e,bl.f_ww,_,rfl,dJ ?_⟩
  refine ⟨_,rfl,_,_,_,_,true,rfl,.ref _,bl.t_Words.ty e2,bl.f_ww,_,rfl,dJ ?_⟩
  refine ⟨_,rfl,a,_,_,_,_,rfl,e,bl.k_Words,bl.na_Words_words,rfl,_,rfl,b,_,_,_,_,rfl,e2,bl.k_Words,bl.na_Words_words,rfl,?_⟩
  exact oE (SqL.of f) (SqL.of f2) (λx hx=>.inl (List.all_eq_true.mp (dn zs) x hx)) q
theorem Dx (F:Fun K "refuse_counts" "refuse_counts" Y71 f fd) (bl:Bl K mg yA yE yN yO yP yQ yR yS yT yU yV yW yX ae yY yZ)  : aQ P w K mg base CX0 1 f fd ["facts", "tables"] (cz K yA yE yN yO yP yQ yR yS yT yU yV yW yX ae yY yZ):=by
 refine F.ok Z71 (λvs H Q E h=>?_) (λcdv A outer s H vs Q E hr h=>?_)
 ·obtain ⟨fa,ma,fv,mv,rfl,e1,e2,h1,h2,q⟩:=h
  rfl
 obtain ⟨fa,ma,fv,mv,rfl,e1,e2,h1,h2,q⟩:=h
 refine ⟨_,(aC (aR (aJ gO (au ar rfl bl.len_ PySem.boot_len (aa (pv 0) ag)) (my rfl bl.MOST_FACTS_) (aO _))
  (ah ba)
  aI)
  (ah (aR (aJ gO (au ar rfl bl.len_ PySem.boot_len (aa (pv 1) ag)) (my rfl bl.MOST_TABLES_) (aO _))
  (ah ba)
  aI))),?_⟩
 refine ⟨_,rfl,fa,_,rfl,.inl (SqL.of e1),_,_,rfl,rfl,_,rfl,bM (by lia) ?_⟩
 exact ⟨_,rfl,ma,_,rfl,.inl (SqL.of e2),_,_,rfl,rfl,_,rfl,bM (by lia) q⟩
theorem Dy (F:Fun K "named_among" "named_among" Y66 f fd) (bl:Bl K mg yA yE yN yO yP yQ yR yS yT yU yV yW yX ae yY yZ)  : aQ P w K mg base CX0 1 f fd ["table", "names"] (dF K yA yE yN yO yP yQ yR yS yT yU yV yW yX ae yY yZ):=by
 refine F.ok Z66 (λvs H Q E h=>?_) (λcdv A outer s H vs Q E hr h=>?_)
 ·obtain ⟨t,na,ou,nm,wy,zs,ns,dv,rws,rfl,⟨rl,dx,tna,dl,fs,xs,ht,f1,f2,f3,f4,f5,f6,ena,edl,erl,hR,fA⟩,hna,Ae,q⟩:=h
  rfl
 obtain ⟨t,na,ou,nm,wy,zs,ns,dv,rws,rfl,⟨rl,dx,tna,dl,fs,xs,ht,f1,f2,f3,f4,f5,f6,ena,edl,erl,hR,fA⟩,hna,Ae,q⟩:=h
 refine ⟨_,(ah (aH (bt (aP (aY (pv 0) rfl)) (aX (N:=["name", "names"]) (fr:=[1]) (cl:=[("names",s.heap.objs.size+1)]) rfl rfl (by decide +kernel) (by decide +kernel) rfl (by decide +kernel) rfl rfl rfl (List.forall_mem_cons.mpr ⟨rfl,List.forall_mem_nil _⟩) rfl) rfl (λ_ _ _ _=>(eQ (aJ (mF (K:=K) rfl) (pv 0) (pv 1) (by with_unfolding_all rfl)))) (λ_ _ _ _=>(pv 0))))),?_⟩
 have hzl:(zs.map V.str).length=zs.length:=List.length_map _
 refine ⟨_,rfl,t,_,_,_,_,rfl,ht,bl.k_Table,bl.na_Table_names,f5,tna,rfl,⟨_,SqL.of ena⟩,aZ (xs:=zs.map V.str) (λD i ys H'=>aq H H'/\H' D=some (.lst ys)/\ys=((zs.take i).filter λz=>ns.contains z).map V.str) (λD hD=>⟨ai hD _,af,rfl⟩) (λD i ys H' hD _ h=>SqL.of (h.1 _ _ ena)) (λD i y ys H' hD e h=>?_) (λD ys H' hD h=>?_)⟩
 ·obtain ⟨sm,eD,rfl⟩:=h
  obtain ⟨z,rfl,ez⟩:=cO e
  have hi:i < (zs.map V.str).length:=(G7.mp e).1
  have hfl:((zs.take i).filter λz=>ns.contains z).length<=i:=Nat.le_trans (List.length_filter_le ..) (by rw [List.length_take];lia)
  refine ⟨_,rfl,_,rfl,na,_,rfl,.inl (SqL.of (sm _ _ hna)),rfl,dn ns,_,rfl,?_⟩
  rw [show (if false=true then !inV (V.str z) (ns.map V.str) else inV (V.str z) (ns.map V.str))=ns.contains z by rw [if_neg Bool.false_ne_true,gW]]
  have hf:((zs.take (i+1)).filter λz=>ns.contains z)=((zs.take i).filter λz=>ns.contains z) ++ (if ns.contains z then [z] else []):=by
   rw [take_snoc ez,List.filter_append]
   congr 1
   cases h:ns.contains z with
   | true=>rw [List.filter_cons_of_pos h,List.filter_nil];rfl
   | false=>rw [List.filter_cons_of_neg (by rw [h];exact Bool.false_ne_true),List.filter_nil];rfl
  cases hc:ns.contains z with
  | true =>
   rw [hc] at hf
   refine dJ ⟨_,rfl,bQ.mk hi eD (aD (by rw [List.length_map];lia)) ⟨sm.upd hD,af,?_⟩⟩
   rw [hf,List.map_append]
   rfl
  | false =>
   rw [hc] at hf
   refine b8 (d6.mk (zs:=((zs.take i).filter λz=>ns.contains z).map V.str) hi ⟨sm,eD,?_⟩)
   rw [hf]
   simp
 ·obtain ⟨sm,eD,rfl⟩:=h
  rw [hzl,List.take_length] at eD
  exact q D H' sm hD eD
theorem Dz (F:Fun K "table_of" "table_of" Y80 f fd) (bl:Bl K mg yA yE yN yO yP yQ yR yS yT yU yV yW yX ae yY yZ)  : aQ P w K mg base (CX1 P w) 1 f fd ["book", "name"] (eW K yA yE yN yO yP yQ yR yS yT yU yV yW yX ae yY yZ):=by
 refine F.okE Z80 (λvs H Q E h=>?_) (λcdv A outer s H vs Q E hr h=>?_)
 ·obtain ⟨b,nm,zs,ds,ts,fN,mv,L,rfl,hB,hs,q,qE⟩:=h
  rfl
 obtain ⟨b,nm,zs,ds,ts,fN,mv,L,rfl,hB,hs,q,qE⟩:=h
 refine ⟨_,(aC (bb (kG rfl rfl rfl) rfl (aP (aY (pv 0) rfl)) (aF (i:=2) Z80.nd rfl (Or.inl rfl))
  (ah (aR (aJ bX (aY (pv 2) rfl) (pv 1) (aO _))
  (ah (aH (pv 2)))
  aI)))
  (ah (uw bl.x_NoTable hr.hd rfl bl.NoTable_ (aa (zJ (pv 1)) ag)))),?_⟩
 obtain ⟨dx,fs,ta,fb,gv,hb,ft,eta,_⟩:=hB.bk
 have hml:mv.length=L.length:=hB.tabs.1
 refine ⟨_,rfl,b,_,_,_,_,rfl,hb,bl.k_Book,bl.na_Book_tables,ft,ta,rfl,⟨_,SqL.of eta⟩,bf (xs:=mv) (λi σ H'=>H'=H/\(∀ k ∈ L.take i,tnm zs fN k ≠ nm)/\∃ c2:Option V,σ=[some (.ref b),some (.str nm),c2]) ⟨rfl,λk hk=>by simp at hk,_,rfl⟩ (λi σ H' _ h=>by rw [h.1];exact SqL.of eta) (λi y σ H' e h=>?_) (λσ H' h=>?_)⟩
 ·obtain ⟨e0,hn,c2,rfl⟩:=h
  rw [e0]
  obtain ⟨t_,k,rfl,ek,hT⟩:=az.get hB.tabs e
  obtain ⟨tt,nm2,po,ou,dv,g1,g2,g3,g4,g5,g6⟩:=id hT
  obtain ⟨rl,dx2,na,dl,fs2,xs,ht,f1,f2,f3,f4,f5,f6,ena,edl,erl,hR,fA⟩:=g4
  refine ⟨_,rfl,t_,_,_,_,_,rfl,ht,bl.k_Table,bl.na_Table_name,f2,_,rfl,rfl,_,rfl,?_⟩
  by_cases h:nm2=nm
  ·exact de (by rw [h]) ⟨_,rfl,q t_ k i e ek (G8 ek) (by rw [dk g2,h]) hT⟩
  ·refine bM (λz=>by injection z with z;exact h z) ⟨rfl,λj hj=>?_,_,rfl⟩
   rw [take_snoc ek] at hj
   rcases List.mem_append.mp hj with hj | hj
   ·exact hn j hj
   ·rw [List.mem_singleton.mp hj,dk g2];exact h
 ·obtain ⟨e0,hn,c2,rfl⟩:=h
  rw [e0]
  rw [hml,List.take_length] at hn
  exact ⟨(by decide +kernel),_,rfl,nm,rfl,hs.1,hs.2,(by decide +kernel),λ_=>⟨(by show 1<=sizeLine;decide),qE hn⟩⟩
theorem DA (F:Fun K "holds" "holds" Y43 f fd) (bl:Bl K mg yA yE yN yO yP yQ yR yS yT yU yV yW yX ae yY yZ)  : aQ P w K mg base CX0 1 f fd ["spans", "number"] (mV K yA yE yN yO yP yQ yR yS yT yU yV yW yX ae yY yZ):=by
 refine F.ok Z43 (λvs H Q E h=>?_) (λcdv A outer s H vs Q E hr h=>?_)
 ·obtain ⟨a,xs,ps,n,rfl,hS,hP,q⟩:=h
  rfl
 obtain ⟨a,xs,ps,n,rfl,hS,hP,q⟩:=h
 refine ⟨_,(aC (bb PassesOwn.never rfl (aP (pv 0)) (dr rfl (aN (aF (i:=2) Z43.nd rfl (Or.inl rfl)) (aN (aF (i:=3) Z43.nd rfl (Or.inl rfl)) bO)))
  (ah (aR (l9 dZ dZ (pv 2) (pv 1) (pv 3))
  (ah (aH fE))
  aI)))
  (ah (aH fE))),?_⟩
 refine ⟨_,rfl,a,rfl,⟨_,hS⟩,bf (xs:=xs) (λi σ H'=>(∃ c2 c3,σ=[some (.ref a),some (.int n),c2,c3])/\H'=H/\(ps.take i).any (inR n)=false) ⟨⟨_,_,rfl⟩,rfl,rfl⟩ (λi σ H' _ h=>by obtain ⟨_,e,_⟩:=h;rw [e];exact hS) (λi x σ H' e h=>?_) (λσ H' h=>?_)⟩
 ·obtain ⟨⟨c2,c3,rfl⟩,e0,hn⟩:=h
  rw [e0]
  obtain ⟨p,r,e1,rfl,hr'⟩:=hP.get e
  refine ⟨r,_,rfl,SqT.of hr',rfl,_,_,rfl,_,_,rfl,rfl,?_⟩
  refine ⟨_,rfl,_,rfl,_,_,rfl,rfl,_,rfl,?_⟩
  refine dj (λc=>?_) (λc=>?_)
  ·refine ⟨_,rfl,_,_,rfl,rfl,_,rfl,?_⟩
   refine dj (λd=>?_) (λd=>?_)
   ·have z2:inP ps n=true:=ml e1 (B6 c d)
    rw [z2] at q;exact q
   ·exact ⟨⟨_,_,rfl⟩,rfl,dN e1 hn (yB d)⟩
  ·exact ⟨_,rfl,b8 ⟨⟨_,_,rfl⟩,rfl,dN e1 hn (yz c)⟩⟩
 ·obtain ⟨⟨c2,c3,rfl⟩,e0,hn⟩:=h
  rw [e0]
  have z:inP ps n=false:=by
   rw [hP.length,List.take_length] at hn
   exact hn
  rw [z] at q;exact q
theorem DB (F:Fun K "refuse_counts" "refuse_counts" Y72 f fd) (bl:Bl K mg yA yE yN yO yP yQ yR yS yT yU yV yW yX ae yY yZ)  : aQ P w K mg base CX0 1 f fd ["names", "rows"] (cm K yA yE yN yO yP yQ yR yS yT yU yV yW yX ae yY yZ):=by
 refine F.ok Z72 (λvs H Q E h=>?_) (λcdv A outer s H vs Q E hr h=>?_)
 ·obtain ⟨p,r,xs,ys,rfl,hP,hR,h1,h4,fA,q⟩:=h
  rfl
 obtain ⟨p,r,xs,ys,rfl,hP,hR,h1,h4,fA,q⟩:=h
 refine ⟨_,(aC (aR (cw (l9 dZ dZ aj (au ar rfl bl.len_ PySem.boot_len (aa (pv 0) ag)) (my rfl bl.MOST_COLUMNS_)))
  (ah ba)
  aI)
  (ah (aR (aJ gO (au ar rfl bl.len_ PySem.boot_len (aa (pv 1) ag)) (my rfl bl.MOST_ROWS_) (aO _))
  (ah ba)
  aI))),?_⟩
 refine ⟨_,rfl,p,_,rfl,.inl (hP),_,_,rfl,rfl,_,rfl,de (by lia) ?_⟩
 refine ⟨_,_,rfl,rfl,_,rfl,?_⟩
 rw [decide_eq_true (show ((xs.length:Nat):Int)<=4 by lia)]
 refine b8 ?_
 exact ⟨_,rfl,r,_,rfl,.inl (hR),_,_,rfl,rfl,_,rfl,bM (by lia) q⟩
theorem DC (F:Fun K "own_row" "own_row" Y69 f fd) (bl:Bl K mg yA yE yN yO yP yQ yR yS yT yU yV yW yX ae yY yZ)  : aQ P w K mg base CX0 1 f fd ["cells", "code"] (jf K yA yE yN yO yP yQ yR yS yT yU yV yW yX ae yY yZ):=by
 refine F.ok Z69 (λvs H Q E h=>?_) (λcdv A outer s H vs Q E hr h=>?_)
 ·obtain ⟨cl,xs,w_,rfl,hC,hcl,Ae,q⟩:=h
  rfl
 obtain ⟨cl,xs,w_,rfl,hC,hcl,Ae,q⟩:=h
 refine ⟨_,(ah (aH (bc (aa (bt (aP (pv 0)) (bg rfl (by decide +kernel) (by decide +kernel) (by decide +kernel) rfl) rfl (λ_ _ _ _=>aU) (λ_ _ _ _=>(bD (iY (K:=K) rfl) rfl bl.list_ PyProof.Rows.boot_list (aa (pv 0) ag)))) (aa (pv 1) ag))))),?_⟩
 refine ⟨_,rfl,cl,rfl,⟨_,SqL.of hC⟩,aZ (xs:=xs) (λD i zs H'=>aq H H'/\H' D=some (.lst zs)/\CL (Fr H D) H' zs (w_.1.take i))
  (λD hD=>⟨ai hD _,af,az.nil⟩) (λD i zs H' hD _ h=>SqL.of (h.1 _ _ hC)) (λD i x zs H' hD e h=>?_) (λD zs H' hD h=>?_)⟩
 ·obtain ⟨sm,eD,hz⟩:=h
  obtain ⟨l,ps,rfl,ep,hl⟩:=az.get hcl e
  obtain ⟨_,ys,el,hp⟩:=hl.same sm
  have hi:i < xs.length:=(G7.mp e).1
  have hlz:zs.length < sizeLine:=by
   have h1:=hz.1
   rw [List.length_take] at h1
   exact aD (by lia)
  refine ⟨_,rfl,l,_,rfl,.inl (SqL.of el),λl2 hl2=>?_⟩
  have s2:=ai hl2 (.lst ys)
  have e2:upd H' l2 (.lst ys) l2=some (.lst ys):=af
  have eD2:=s2 _ _ eD
  generalize upd H' l2 (.lst ys)=H2 at s2 e2 eD2 ⊢
  have n2:H l2=none:=sm.free hl2
  have nD:l2 ≠ D:=λz=>by rw [z,eD] at hl2;cases hl2
  refine bQ.mk hi eD2 hlz ⟨(sm.trans s2).upd hD,af,?_⟩
  rw [take_snoc ep]
  exact CL.updN (az.snoc (hz.same s2) ⟨⟨n2,nD⟩,ys,e2,hp.mono s2.tups⟩) Fr.out eD2
 ·obtain ⟨sm,eD,hz⟩:=h
  rw [hcl.1,List.take_length] at hz
  refine ⟨_,rfl,br,λr hr'=>q r _ (sm.trans (ai hr' _)) (sm.free hr') ⟨D,zs,af,hD,ai hr' _ _ _ eD,?_⟩⟩
  exact (hz.same (ai hr' _)).wk λa h=>h.1
theorem DD (F:Fun K "_law_at" "_law_at" Y49 f fd) (bl:Bl K mg yA yE yN yO yP yQ yR yS yT yU yV yW yX ae yY yZ)  : aQ P w K mg base CX0 1 f fd ["script", "k"] (iF K yA yE yN yO yP yQ yR yS yT yU yV yW yX ae yY yZ):=by
 refine F.ok Z49 (λvs H Q E h=>?_) (λcdv A outer s H vs Q E hr h=>?_)
 ·obtain ⟨a,ns,k,rfl,hS,h0,q⟩:=h
  rfl
 obtain ⟨a,ns,k,rfl,hS,h0,q⟩:=h
 refine ⟨_,(aC (aR (aJ l7 (pv 1) (au ar rfl bl.len_ PySem.boot_len (aa (pv 0) ag)) (aO _))
  (ah (aH (aE aK (pv 0) (pv 1) (λ_ _=>rfl))))
  aI)
  (ah (aH aj))),?_⟩
 refine ⟨_,rfl,_,rfl,a,_,rfl,.inl hS,_,_,rfl,rfl,_,rfl,?_⟩
 refine dj (λc=>?_) (λc=>?_)
 ·have c' : k < (((ns.map V.int).length:Nat):Int):=oq c
  rw [List.length_map] at c'
  have hk:k.toNat < ns.length:=by lia
  have hv:atI (ns.map V.int) k=some (.int ns[k.toNat]):=by
   have z:atI (ns.map V.int) ((k.toNat:Nat):Int)=some (.int ns[k.toNat]):=aM (by rw [List.getElem?_map,G6 hk];rfl)
   rw [show ((k.toNat:Nat):Int)=k by lia] at z
   exact z
  exact ⟨_,rfl,_,rfl,a,_,_,_,rfl,rfl,hS,hv,q _⟩
 ·exact q 0
theorem DE (F:Fun K "_law_words" "_law_words" Y63 f fd) (bl:Bl K mg yA yE yN yO yP yQ yR yS yT yU yV yW yX ae yY yZ)  : aQ P w K mg base CX0 1 f fd ["cell", "count"] (ee K yA yE yN yO yP yQ yR yS yT yU yV yW yX ae yY yZ):=by
 refine F.ok Z63 (λvs H Q E h=>?_) (λcdv A outer s H vs Q E hr h=>?_)
 ·obtain ⟨c,n,rfl,h40,q⟩:=h
  rfl
 obtain ⟨c,n,rfl,h40,q⟩:=h
 refine ⟨_,(aC (aL (i:=2) Z63.nd rfl (Or.inr rfl) aT)
  (aw (aL (i:=3) Z63.nd rfl (Or.inr rfl) (dR PySem.F.plainAttrs_str PySem.F.slot_str_join PySem.F.type_str_join tG aT (aa (bt (bh rfl bl.range_ (aa (aG bj (pv 0) aj) ag)) (aX (N:=["j", "cell", "letters"]) (fr:=[0,2]) (cl:=[("letters",s.heap.objs.size+1+1),("cell",s.heap.objs.size+1)]) rfl rfl (by decide +kernel) (by decide +kernel) rfl (by decide +kernel) rfl rfl rfl (List.forall_mem_cons.mpr ⟨rfl,List.forall_mem_cons.mpr ⟨rfl,List.forall_mem_nil _⟩⟩) rfl) rfl (λ_ _ _ _=>aU) (λ_ _ _ _=>(aE rO (pv 2) (aG bj (aG bA (pv 1) (aG bC (aG gN aj (pv 0)) aj)) aj) (λ_ _=>rfl)))) ag)))
  (aw (aL (i:=4) Z63.nd rfl (Or.inr rfl) (dR PySem.F.plainAttrs_str PySem.F.slot_str_join PySem.F.type_str_join tG aT (aa (bt (bh rfl bl.range_ (aa (aG bj (aG bA (pv 0) aj) aj) ag)) (aX (N:=["j", "cell", "letters"]) (fr:=[0,2]) (cl:=[("letters",s.heap.objs.size+1+1),("cell",s.heap.objs.size+1)]) rfl rfl (by decide +kernel) (by decide +kernel) rfl (by decide +kernel) rfl rfl rfl (List.forall_mem_cons.mpr ⟨rfl,List.forall_mem_cons.mpr ⟨rfl,List.forall_mem_nil _⟩⟩) rfl) rfl (λ_ _ _ _=>aU) (λ_ _ _ _=>(aE rO (pv 2) (aG bj (aG bA (pv 1) (aG bC (aG gN aj (pv 0)) aj)) aj) (λ_ _=>rfl)))) ag)))
  (ah (aH (bt (bh rfl bl.range_ (aa (pv 1) ag)) (aX (N:=["k", "cell", "letters", "head", "tail"]) (fr:=[0,2,3,4]) (cl:=[("tail",s.heap.objs.size+1+1+1+1),("letters",s.heap.objs.size+1+1),("head",s.heap.objs.size+1+1+1),("cell",s.heap.objs.size+1)]) rfl rfl (by decide +kernel) (by decide +kernel) rfl (by decide +kernel) rfl rfl rfl (List.forall_mem_cons.mpr ⟨rfl,List.forall_mem_cons.mpr ⟨rfl,List.forall_mem_cons.mpr ⟨rfl,List.forall_mem_cons.mpr ⟨rfl,List.forall_mem_nil _⟩⟩⟩⟩) rfl) rfl (λ_ _ _ _=>aU) (λ_ _ _ _=>(aG mf (aG mf (pv 3) (aE rO (pv 2) (aG bj (aG bC (aG bA (pv 1) aj) (aG gN aj (pv 0))) aj) (λ_ _=>rfl))) (pv 4))))))))),?_⟩
 have c0:=Int.emod_nonneg c (show (6:Int) ≠ 0 by decide)
 have c1:=Int.emod_lt_of_pos c (show (0:Int) < 6 by decide)
 have d0:=Int.emod_nonneg (c / 7) (show (6:Int) ≠ 0 by decide)
 have d1:=Int.emod_lt_of_pos (c / 7) (show (0:Int) < 6 by decide)
 refine ⟨λσ' H'=>aq H H'/\σ'=[some (.int c),some (.int (n:Int)),some (.str (Str.ofString "abcdefghijklmnopqrstuvwxyz")),some (.str ⟨(hcs c).toArray⟩),none],?_,?_⟩
 ·refine ⟨rfl,_,rfl,_,_,rfl,rfl,(by show (0:Int) < 6;decide),_,rfl,(by show -(2 ^ 62)<=c % 6;lia),(by show c % 6 < 2 ^ 62;lia),bE (λD i zs H'=>aq H H'/\H' D=some (.lst zs)/\zs=(((List.range i).map λj:Nat=>97+(c / (3 * (0+(j:Int))+1) % 13).toNat).map λx=>(⟨#[x]⟩:Str)).map V.str) (λD hD=>⟨ai hD _,af,rfl⟩) (λD i zs H' hD hi h=>?_) (λD zs H' hD h=>?_)⟩
  ·obtain ⟨sm,eD,rfl⟩:=h
   have a0:=Int.emod_nonneg (c / (3 * (0+(i:Int))+1)) (show (13:Int) ≠ 0 by decide)
   have a1:=Int.emod_lt_of_pos (c / (3 * (0+(i:Int))+1)) (show (0:Int) < 13 by decide)
   refine ⟨_,rfl,_,rfl,_,rfl,_,_,rfl,rfl,.inl ⟨by decide,by decide⟩,_,_,rfl,rfl,_,_,rfl,rfl,eG (by lia) (by lia),_,_,rfl,rfl,(by show (0:Int) < 13;decide),_,_,_,rfl,rfl,(by decide),pq vJ a0 (by lia),bQ.mk hi eD (aD (by simp;lia)) ⟨sm.upd hD,af,?_⟩⟩
   rw [List.range_succ,List.map_append,List.map_append,List.map_append]
   rfl
  ·obtain ⟨sm,eD,rfl⟩:=h
   have el:=pA c
   have ec:((List.range (c % 6).toNat).map λj:Nat=>97+(c / (3 * (0+(j:Int))+1) % 13).toNat)=hcs c:=rfl
   rw [ec] at eD
   refine ⟨_,D,_,rfl,rfl,SqL.of eD,(by decide +kernel),q0 _ el,sm,?_⟩
   rw [mL]
   rfl
 rintro σ1 H1 ⟨s1,rfl⟩
 refine ⟨λσ' H'=>aq H1 H'/\σ'=[some (.int c),some (.int (n:Int)),some (.str (Str.ofString "abcdefghijklmnopqrstuvwxyz")),some (.str ⟨(hcs c).toArray⟩),some (.str ⟨(tcs c).toArray⟩)],?_,?_⟩
 ·refine ⟨rfl,_,rfl,_,_,rfl,rfl,⟨by decide,by decide⟩,_,_,rfl,rfl,(by show (0:Int) < 6;decide),_,rfl,(by show -(2 ^ 62)<=c / 7 % 6;lia),(by show c / 7 % 6 < 2 ^ 62;lia),bE (λD i zs H'=>aq H1 H'/\H' D=some (.lst zs)/\zs=(((List.range i).map λj:Nat=>97+(c / (5 * (0+(j:Int))+2) % 13).toNat).map λx=>(⟨#[x]⟩:Str)).map V.str) (λD hD=>⟨ai hD _,af,rfl⟩) (λD i zs H' hD hi h=>?_) (λD zs H' hD h=>?_)⟩
  ·obtain ⟨sm,eD,rfl⟩:=h
   have a0:=Int.emod_nonneg (c / (5 * (0+(i:Int))+2)) (show (13:Int) ≠ 0 by decide)
   have a1:=Int.emod_lt_of_pos (c / (5 * (0+(i:Int))+2)) (show (0:Int) < 13 by decide)
   refine ⟨_,rfl,_,rfl,_,rfl,_,_,rfl,rfl,.inl ⟨by decide,by decide⟩,_,_,rfl,rfl,_,_,rfl,rfl,eG (by lia) (by lia),_,_,rfl,rfl,(by show (0:Int) < 13;decide),_,_,_,rfl,rfl,(by decide),pq vJ a0 (by lia),bQ.mk hi eD (aD (by simp;lia)) ⟨sm.upd hD,af,?_⟩⟩
   rw [List.range_succ,List.map_append,List.map_append,List.map_append]
   rfl
  ·obtain ⟨sm,eD,rfl⟩:=h
   have el:=pB c
   have ec:((List.range (c / 7 % 6).toNat).map λj:Nat=>97+(c / (5 * (0+(j:Int))+2) % 13).toNat)=tcs c:=rfl
   rw [ec] at eD
   refine ⟨_,D,_,rfl,rfl,SqL.of eD,(by decide +kernel),q0 _ el,sm,?_⟩
   rw [mL]
   rfl
 rintro σ2 H2 ⟨s2,rfl⟩
 have s12:=s1.trans s2
 have n1:(⟨(hcs c).toArray⟩:Str).length<=5:=by have:=pA c;simpa [Str.length] using this
 have n2:(⟨(tcs c).toArray⟩:Str).length<=5:=by have:=pB c;simpa [Str.length] using this
 have o1:∀ x:Nat,(⟨#[x]⟩:Str).length=1:=λ_=>rfl
 refine ⟨_,rfl,_,rfl,(by lia),(by lia),bE (λD i zs H'=>aq H2 H'/\H' D=some (.lst zs)/\zs=(lws c i).map V.str) (λD hD=>⟨ai hD _,af,rfl⟩) (λD i zs H' hD hi h=>?_) (λD zs H' hD h=>?_)⟩
 ·obtain ⟨sm,eD,rfl⟩:=h
  have a0:=Int.emod_nonneg (c / 11+3 * (0+(i:Int))) (show (26:Int) ≠ 0 by decide)
  have a1:=Int.emod_lt_of_pos (c / 11+3 * (0+(i:Int))) (show (0:Int) < 26 by decide)
  have ew:(⟨(hcs c).toArray⟩:Str) ++ (⟨#[97+((c / 11+3 * (0+(i:Int))) % 26).toNat]⟩:Str) ++ (⟨(tcs c).toArray⟩:Str)=lw c (0+(i:Int)):=by
   show Str.append (Str.append _ _) _=_
   unfold Str.append lw lwc
   simp
  refine ⟨_,rfl,_,rfl,_,rfl,_,_,rfl,rfl,⟨by decide,by decide⟩,_,rfl,_,_,rfl,rfl,.inl ⟨by decide,by decide⟩,_,_,rfl,rfl,_,_,rfl,rfl,(by show (0:Int) < 26;decide),_,_,_,rfl,rfl,(by decide),pq vJ a0 a1,_,_,rfl,rfl,big (by rw [o1];lia),_,rfl,_,_,rfl,rfl,big (by rw [zX,o1];lia),?_⟩
  rw [ew]
  refine bQ.mk hi eD (aD (by rw [List.length_map,j5];lia)) ⟨sm.upd hD,af,?_⟩
  rw [vO,List.map_append]
  rfl
 ·obtain ⟨sm,eD,rfl⟩:=h
  rw [Int.toNat_natCast] at eD
  exact q D H' (s12.trans sm) (s12.free hD) eD
theorem DF (F:Fun K "_law_pool" "_law_pool" Y58 f fd) (bl:Bl K mg yA yE yN yO yP yQ yR yS yT yU yV yW yX ae yY yZ)  : aQ P w K mg base CX0 1 f fd ["domain", "cell", "most"] (gX K yA yE yN yO yP yQ yR yS yT yU yV yW yX ae yY yZ):=by
 refine F.ok Z58 (λvs H Q E h=>?_) (λcdv A outer s H vs Q E hr h=>?_)
 ·obtain ⟨r,p,c,n,rfl,⟨wl,_,_,er,ewl⟩,ok,hn3,q⟩:=h
  rfl
 obtain ⟨r,p,c,n,rfl,⟨wl,_,_,er,ewl⟩,ok,hn3,q⟩:=h
 refine ⟨_,(aC (aL (i:=3) Z58.nd rfl (Or.inr rfl) (aG bC (aG cH (aE aS (pv 0) aj (λ_ _=>rfl)) (aE aS (pv 0) aj (λ_ _=>rfl))) aj))
  (ah (aH (bt (bh rfl bl.range_ (aa (pv 2) ag)) (aX (N:=["j", "domain", "cell", "width"]) (fr:=[0,1,3]) (cl:=[("width",s.heap.objs.size+1+1+1),("domain",s.heap.objs.size+1),("cell",s.heap.objs.size+1+1)]) rfl rfl (by decide +kernel) (by decide +kernel) rfl (by decide +kernel) rfl rfl rfl (List.forall_mem_cons.mpr ⟨rfl,List.forall_mem_cons.mpr ⟨rfl,List.forall_mem_cons.mpr ⟨rfl,List.forall_mem_nil _⟩⟩⟩) rfl) rfl (λ_ _ _ _=>aU) (λ_ _ _ _=>(aG bC (aE (dh (K:=K) rfl) (pv 1) aj (λ_ _=>rfl)) (aG bj (aG bC (aG bA (pv 2) (aG bC (aG gN aj (pv 0)) aj)) (aG gN (pv 0) (pv 2))) (pv 3)))))))),?_⟩
 have hle:=ok.le
 refine ⟨_,rfl,r,_,_,_,rfl,rfl,SqT.of er,rfl,_,rfl,r,_,_,_,rfl,rfl,SqT.of er,rfl,_,_,rfl,rfl,_,_,rfl,rfl,?_⟩
 have hw:0 < p.hi - p.lo+1:=by lia
 refine ⟨_,rfl,_,rfl,(by lia),(by lia),bE (λD i zs H'=>aq H H'/\H' D=some (.lst zs)/\∃ xs:List Int,zs=xs.map V.int/\xs.length=i/\∀ x ∈ xs,p.lo<=x/\x<=p.hi) (λD hD=>⟨ai hD _,af,[],rfl,rfl,(λx hx=>by cases hx)⟩) (λD i zs H' hD hi h=>?_) (λD zs H' hD h=>?_)⟩
 ·obtain ⟨sm,eD,xs,rfl,hl,hx⟩:=h
  rw [Int.toNat_natCast] at hi
  have a0:=Int.emod_nonneg (c / (3 * (0+(i:Int))+1)+(0+(i:Int)) * c) (Int.ne_of_gt hw)
  have a1:=Int.emod_lt_of_pos (c / (3 * (0+(i:Int))+1)+(0+(i:Int)) * c) hw
  refine ⟨_,rfl,r,_,_,_,rfl,rfl,SqT.of (sm _ _ er),rfl,_,rfl,_,rfl,_,_,rfl,rfl,.inl ⟨by decide,by decide⟩,_,_,rfl,rfl,_,_,rfl,rfl,eG (by lia) (by lia),_,rfl,_,rfl,_,_,rfl,rfl,.inl ⟨by lia,by lia⟩,_,_,rfl,rfl,_,rfl,_,_,rfl,rfl,hw,_,_,rfl,rfl,bQ.mk (by rw [Int.toNat_natCast];exact hi) eD (aD (by rw [List.length_map];lia)) ⟨sm.upd hD,af,xs ++ [_],by rw [List.map_append];rfl,by rw [List.length_append,hl];rfl,λx hx'=>?_⟩⟩
  rcases List.mem_append.mp hx' with hx' | hx'
  ·exact hx x hx'
  ·have e:x=p.lo+(c / (3 * (0+(i:Int))+1)+(0+(i:Int)) * c) % (p.hi - p.lo+1):=by simpa using hx'
   generalize (c / (3 * (0+(i:Int))+1)+(0+(i:Int)) * c) % (p.hi - p.lo+1)=m at a0 a1 e
   lia
 ·obtain ⟨sm,eD,xs,rfl,hl,hx⟩:=h
  rw [Int.toNat_natCast] at hl
  exact q D xs H' sm hD eD hl hx
theorem DG (F:Fun K "_law_spans" "_law_spans" Y60 f fd) (bl:Bl K mg yA yE yN yO yP yQ yR yS yT yU yV yW yX ae yY yZ)  : aQ P w K mg base CX0 1 f fd ["kind", "one", "two", "domain"] (gg K yA yE yN yO yP yQ yR yS yT yU yV yW yX ae yY yZ):=by
 refine F.ok Z60 (λvs H Q E h=>?_) (λcdv A outer s H vs Q E hr h=>?_)
 ·obtain ⟨kd,one,two,r,p,rfl,⟨wl,_,_,er,ewl⟩,h1,h2,h3,q⟩:=h
  rfl
 obtain ⟨kd,one,two,r,p,rfl,⟨wl,_,_,er,ewl⟩,h1,h2,h3,q⟩:=h
 refine ⟨_,(aw (aL (i:=4) Z60.nd rfl (Or.inl rfl) (bK (aa (bc (aa (aE aS (pv 3) aj (λ_ _=>rfl)) (aa (aE aS (pv 3) aj (λ_ _=>rfl)) ag))) ag)))
  (aw (aR (PW.pt (nX (aJ bX (pv 0) aj (aO _)) (l5 (PW.pt (fX (aJ bX (pv 0) aj (aO _)) (d8 (aJ dZ (pv 2) (aG bC (pv 1) aj) (aO _))))))))
  (ah (aL (i:=4) Z60.nd rfl (Or.inl rfl) (bK (aa (bc (aa (pv 1) (aa (pv 2) ag))) ag))))
  (ah (aR (aJ bX (pv 0) aj (aO _))
  (ah (aL (i:=4) Z60.nd rfl (Or.inl rfl) (bK (aa (bc (aa (pv 1) (aa (pv 1) ag))) (aa (bc (aa (pv 2) (aa (pv 2) ag))) ag)))))
  aI)))
  (aw (aR (aJ bX (pv 0) aj (aO _))
  (ah (aL (i:=4) Z60.nd rfl (Or.inl rfl) (bK (aa (bc (aa (pv 1) (aa (pv 1) ag))) ag))))
  aI)
  (aw (aR (aJ bX (pv 0) aj (aO _))
  (ah (aL (i:=4) Z60.nd rfl (Or.inl rfl) (bK (aa (bc (aa (aE aS (pv 3) aj (λ_ _=>rfl)) (aa (aG cH (pv 1) aj) ag))) (aa (bc (aa (aG bC (pv 2) aj) (aa (aE aS (pv 3) aj (λ_ _=>rfl)) ag))) ag)))))
  aI)
  (aw (aR (aJ bX (pv 0) aj (aO _))
  (ah (aL (i:=4) Z60.nd rfl (Or.inl rfl) (bK ag)))
  aI)
  (ah (aH (bt (aP (pv 4)) (bg rfl (by decide +kernel) (by decide +kernel) (by decide +kernel) rfl) rfl (λ_ _ _ _=>(eQ (aJ dZ (aE (dh (K:=K) rfl) (pv 0) aj (λ_ _=>rfl)) (aE (dh (K:=K) rfl) (pv 0) aj (λ_ _=>rfl)) (aO _)))) (λ_ _ _ _=>(pv 0)))))))))),?_⟩
 refine ⟨λσ' H'=>∃ pl,SPJ p one two H H' pl/\σ'=[some (.int kd),some (.int one),some (.int two),some (.ref r),some (.ref pl)],⟨_,rfl,r,_,_,_,rfl,rfl,SqT.of er,rfl,_,rfl,r,_,_,_,rfl,rfl,SqT.of er,rfl,br,λt ht=>⟨(by show 1<=sizeLine;decide),λl hl=>⟨l,SPJ.one (aq.refl H) (pl1 ht hl) (Int.le_refl _) (Int.le_refl _) ⟨.inl rfl,.inl rfl⟩,rfl⟩⟩⟩,?_⟩
 rintro σ1 H1 ⟨pl,hs,rfl⟩
 refine ⟨λσ' H'=>∃ pl,SPJ p one two H H' pl/\σ'=[some (.int kd),some (.int one),some (.int two),some (.ref r),some (.ref pl)],?_,?_⟩
 ·have s1:=hs.1
  have both:∀ t l,H1 t=none->upd H1 t (.tup [.int one,.int two]) l=none->SPJ p one two H (upd (upd H1 t (.tup [.int one,.int two])) l (.lst [.ref t])) l:=λt l ht hl=>SPJ.one s1 (pl1 ht hl) h1 h3 ⟨.inr (.inl rfl),.inr (.inr (.inl rfl))⟩
  refine ⟨_,rfl,rfl,_,rfl,dj (λ_=>dJ ?_) (λ_=>?_)⟩
  ·exact ⟨_,rfl,_,rfl,br,λt ht=>⟨(by show 1<=sizeLine;decide),λl hl=>⟨l,both t l ht hl,rfl⟩⟩⟩
  ·refine ⟨_,rfl,rfl,_,rfl,dj (λ_=>?_) (λ_=>b8 ?_)⟩
   ·refine ⟨_,rfl,_,rfl,_,_,rfl,rfl,_,_,rfl,rfl,_,rfl,dj (λ_=>?_) (λ_=>?_)⟩
    ·exact ⟨_,rfl,_,rfl,br,λt ht=>⟨(by show 1<=sizeLine;decide),λl hl=>⟨l,both t l ht hl,rfl⟩⟩⟩
    ·refine ⟨_,rfl,rfl,_,rfl,dj (λ_=>?_) (λ_=>⟨pl,hs,rfl⟩)⟩
     exact ⟨_,rfl,_,rfl,br,λt ht=>⟨_,rfl,_,rfl,br,λu hu=>⟨(by show 2<=sizeLine;decide),λl hl=>⟨l,SPJ.two s1 (pl2 ht hu hl) h1 (by lia) (by lia) h3 ⟨.inr (.inl rfl),.inr (.inl rfl)⟩ ⟨.inr (.inr (.inl rfl)),.inr (.inr (.inl rfl))⟩,rfl⟩⟩⟩⟩
   ·refine ⟨_,rfl,rfl,_,rfl,dj (λ_=>?_) (λ_=>⟨pl,hs,rfl⟩)⟩
    exact ⟨_,rfl,_,rfl,br,λt ht=>⟨_,rfl,_,rfl,br,λu hu=>⟨(by show 2<=sizeLine;decide),λl hl=>⟨l,SPJ.two s1 (pl2 ht hu hl) h1 (by lia) (by lia) h3 ⟨.inr (.inl rfl),.inr (.inl rfl)⟩ ⟨.inr (.inr (.inl rfl)),.inr (.inr (.inl rfl))⟩,rfl⟩⟩⟩⟩
 clear hs pl
 rintro σ2 H2 ⟨pl,hs,rfl⟩
 refine ⟨λσ' H'=>∃ pl,SPJ p one two H H' pl/\σ'=[some (.int kd),some (.int one),some (.int two),some (.ref r),some (.ref pl)],?_,?_⟩
 ·refine ⟨_,rfl,rfl,_,rfl,dj (λ_=>?_) (λ_=>⟨pl,hs,rfl⟩)⟩
  have s1:=hs.1
  exact ⟨_,rfl,_,rfl,br,λt ht=>⟨(by show 1<=sizeLine;decide),λl hl=>⟨l,SPJ.one s1 (pl1 ht hl) (by lia) (by lia) ⟨.inr (.inl rfl),.inr (.inl rfl)⟩,rfl⟩⟩⟩
 clear hs pl
 rintro σ3 H3 ⟨pl,hs,rfl⟩
 refine ⟨λσ' H'=>∃ pl,SPJ p one two H H' pl/\σ'=[some (.int kd),some (.int one),some (.int two),some (.ref r),some (.ref pl)],?_,?_⟩
 ·refine ⟨_,rfl,rfl,_,rfl,dj (λ_=>?_) (λ_=>⟨pl,hs,rfl⟩)⟩
  have s1:=hs.1
  refine ⟨_,rfl,r,_,_,_,rfl,rfl,SqT.of (s1 _ _ er),rfl,_,rfl,_,_,rfl,rfl,br,λt ht=>⟨_,rfl,_,_,rfl,rfl,_,rfl,r,_,_,_,rfl,rfl,SqT.of (((s1.trans (ai ht _)) _ _ er)),rfl,br,λu hu=>⟨(by show 2<=sizeLine;decide),λl hl=>⟨l,SPJ.two s1 (pl2 ht hu hl) (Int.le_refl _) (by lia) (by lia) (Int.le_refl _) ⟨.inl rfl,.inr (.inr (.inr rfl))⟩ ⟨.inr (.inr (.inr rfl)),.inl rfl⟩,rfl⟩⟩⟩⟩
 clear hs pl
 rintro σ6 H6 ⟨pl,hs,rfl⟩
 refine ⟨λσ' H'=>∃ pl,SPJ p one two H H' pl/\σ'=[some (.int kd),some (.int one),some (.int two),some (.ref r),some (.ref pl)],?_,?_⟩
 ·refine ⟨_,rfl,rfl,_,rfl,dj (λ_=>?_) (λ_=>⟨pl,hs,rfl⟩)⟩
  have s1:=hs.1
  exact ⟨(by show 0<=sizeLine;decide),λl hl=>⟨l,⟨s1.trans (ai hl _),[],[],af,.nil,(λx hx=>by cases hx),by simp,(λx hx=>by cases hx)⟩,rfl⟩⟩
 clear hs pl
 rintro σ7 H7 ⟨pl,hs,rfl⟩
 obtain ⟨s7,ts,ps,epl,hP,hb,hl2,hE⟩:=hs
 have htl:=hP.length
 refine ⟨_,rfl,pl,rfl,⟨_,SqL.of epl⟩,aZ (xs:=ts) (λD i zs H'=>aq H7 H'/\H' D=some (.lst zs)/\∃ ps' : Prs,PL H' zs ps'/\(∀ x ∈ ps',p.lo<=x.1/\x.1<=x.2/\x.2<=p.hi)/\ps'.length<=i/\∀ x ∈ ps',x ∈ ps) (λD hD=>⟨ai hD _,af,[],.nil,(λx hx=>by cases hx),Nat.zero_le _,(λx hx=>by cases hx)⟩) (λD i zs H' hD _ h=>SqL.of (h.1 _ _ epl)) (λD i y zs H' hD e h=>?_) (λD zs H' hD h=>?_)⟩
 ·obtain ⟨sm,eD,ps',hP',hb',hl',hin⟩:=h
  obtain ⟨x,t,ex,rfl,et⟩:=hP.get e
  have hi:i < ts.length:=(G7.mp e).1
  have et':=sm _ _ et
  refine ⟨_,rfl,t,_,_,_,rfl,rfl,SqT.of et',rfl,_,rfl,t,_,_,_,rfl,rfl,SqT.of et',rfl,_,_,rfl,rfl,_,rfl,?_⟩
  refine dj (λg=>?_) (λg=>?_)
  ·have g' : x.1<=x.2:=oq g
   have st:iX H' (upd H' D (.lst (zs ++ [.ref t]))):=oo eD
   refine ⟨_,rfl,bQ.mk hi eD (aD (by have:=hP'.length;lia)) ⟨sm.upd hD,af,ps' ++ [x],(hP'.mono st).snoc (st _ _ et'),λy hy=>?_,by rw [List.length_append,List.length_singleton];lia,λy hy=>?_⟩⟩
   ·rcases List.mem_append.mp hy with hy | hy
    ·exact hb' y hy
    ·rw [show y=x by simpa using hy]
     have:=hb x (G8 ex)
     lia
   ·rcases List.mem_append.mp hy with hy | hy
    ·exact hin y hy
    ·rw [show y=x by simpa using hy]
     exact G8 ex
  ·exact d6.mk (zs:=zs) hi ⟨sm,eD,ps',hP',hb',by lia,hin⟩
 ·obtain ⟨sm,eD,ps',hP',hb',hl',hin⟩:=h
  have s:=s7.trans sm
  exact q D ps' H' s ⟨s7.free hD,zs,eD,hP'⟩ hb' (by lia) λx hx=>hE x (hin x hx)
theorem DH (F:Fun K "_law_numbers" "_law_numbers" Y56 f fd) (bl:Bl K mg yA yE yN yO yP yQ yR yS yT yU yV yW yX ae yY yZ)  : aQ P w K mg base CX0 1 f fd ["script", "most"] (eJ K yA yE yN yO yP yQ yR yS yT yU yV yW yX ae yY yZ):=by
 refine F.ok Z56 (λvs H Q E h=>?_) (λcdv A outer s H vs Q E hr h=>?_)
 ·obtain ⟨a,ns,m,rfl,hS,h63,hm1,hm2,q⟩:=h
  rfl
 obtain ⟨a,ns,m,rfl,hS,h63,hm1,hm2,q⟩:=h
 refine ⟨_,(aw (aL (i:=2) Z56.nd rfl (Or.inl rfl) (bK ag))
  (aC (bb PassesOwn.never rfl (kB rfl bl.range_ (aa aj (aa (au ar rfl bl.len_ PySem.boot_len (aa (pv 0) ag)) ag))) (aF (i:=3) Z56.nd rfl (Or.inl rfl))
  (aC (aL (i:=4) Z56.nd rfl (Or.inl rfl) (aG bj (aE aK (pv 0) (pv 3) (λ_ _=>rfl)) (aG l6 aj aj)))
  (ah (aR (aJ l7 (au ar rfl bl.len_ PySem.boot_len (aa (pv 2) ag)) (pv 1) (aO _))
  (ah (aV (dR PySem.F.plainAttrs_list PySem.F.slot_list_append PySem.F.type_list_append bW (pv 2) (aa (pv 4) ag))))
  (aC (aL (i:=5) Z56.nd rfl (Or.inl rfl) (aG bC (aG gN (aE aK (pv 2) (aG bj (pv 3) (pv 1)) (λ_ _=>rfl)) aj) (pv 4)))
  (ah (i5 (aG bj (pv 5) (aG l6 aj aj)) (zd (pv 2) (aG bj (pv 3) (pv 1)) set_list))))))))
  (ah (aH (pv 2))))),?_⟩
 have hnl:(ns.map V.int).length=ns.length:=List.length_map _
 have hmp:(0:Int) < (m:Int):=by lia
 refine ⟨λσ' H'=>aq H H'/\∃ l:Addr,H l=none/\H' l=some (.lst [])/\σ'=[some (.ref a),some (.int (m:Int)),some (.ref l),none,none,none],⟨(by show 0<=sizeLine;decide),λl hl=>⟨ai hl _,l,hl,af,rfl⟩⟩,?_⟩
 rintro σ1 H1 ⟨s1,l,nl,el,rfl⟩
 refine ⟨_,rfl,a,_,rfl,.inl (s1.seq hS),_,_,rfl,⟨by lia,by lia,by lia,by lia⟩,dm (λi σ H'=>aq H H'/\∃ (ms:List Int) (c3 c4 c5:Option V),H' l=some (.lst (ms.map V.int))/\ms.length<=m/\σ=[some (.ref a),some (.int (m:Int)),some (.ref l),c3,c4,c5]) ⟨s1,[],_,_,_,el,Nat.zero_le _,rfl⟩ (λi σ H' hi h=>?_) (λσ H' h=>?_)⟩
 ·obtain ⟨sm,ms,c3,c4,c5,el2,hl,rfl⟩:=h
  have hi2:i+2 < ns.length:=by lia
  have ix2:atI (ns.map V.int) (2+(i:Int))=some (.int ns[i+2]):=by
   have:=aM (get_map (G6 hi2))
   rw [show ((i+2:Nat):Int)=2+(i:Int) by lia] at this
   exact this
  have hml:(ms.map V.int).length=ms.length:=List.length_map _
  refine ⟨_,rfl,_,rfl,a,_,_,_,rfl,rfl,sm.seq hS,ix2,_,_,rfl,rfl,⟨by decide,by decide,by decide⟩,_,_,rfl,rfl,p10 _,_,rfl,l,_,rfl,.inl (SqL.of el2),_,rfl,_,_,rfl,rfl,_,rfl,dj (λg=>?_) (λg=>?_)⟩
  ·have g:((ms.length:Nat):Int) < (m:Int):=by have:=of_decide_eq_true g;rw [hml] at this;exact this
   refine ⟨_,rfl,.inl ⟨rfl,_,SqL.of el2⟩,_,rfl,l,_,_,rfl,rfl,el2,aD (by lia),sm.upd nl,ms ++ [_],_,_,_,by rw [af,List.map_append];rfl,by rw [List.length_append];show _+1<=m;lia,rfl⟩
  ·have g:ms.length=m:=by
    have:¬ (((ms.map V.int).length:Nat):Int) < (m:Int):=λz=>g (decide_eq_true z)
    rw [hml] at this
    lia
   have j0:=Int.emod_nonneg (2+(i:Int)) (Int.ne_of_gt hmp)
   have j1:=Int.emod_lt_of_pos (2+(i:Int)) hmp
   obtain ⟨x,ex⟩:∃ x,ms[((2+(i:Int)) % (m:Int)).toNat]?=some x:=⟨_,G6 (by lia)⟩
   have ix:atI (ms.map V.int) ((2+(i:Int)) % (m:Int))=some (.int x):=by
    have:=aM (get_map ex)
    rw [Int.toNat_of_nonneg j0] at this
    exact this
   refine ⟨_,rfl,_,rfl,_,rfl,_,_,rfl,rfl,hmp,l,_,_,_,rfl,rfl,SqL.of el2,ix,_,_,rfl,rfl,.inr ⟨by decide,by decide⟩,_,rfl,_,_,rfl,rfl,?_⟩
   refine ⟨_,rfl,_,_,rfl,rfl,⟨by decide,by decide,by decide⟩,_,_,rfl,rfl,p10 _,_,rfl,_,rfl,_,rfl,_,_,rfl,rfl,hmp,l,_,_,((2+(i:Int)) % (m:Int)).toNat,rfl,rfl,el2,?_,?_⟩
   ·unfold ixN
    rw [if_pos j0,if_pos (by rw [hml];lia)]
   ·exact ⟨sm.upd nl,ms.set ((2+(i:Int)) % (m:Int)).toNat _,_,_,_,by rw [af,List.map_set],by rw [List.length_set];exact hl,rfl⟩
 ·obtain ⟨sm,ms,c3,c4,c5,el2,hl,rfl⟩:=h
  exact ⟨_,rfl,q l ms H' sm nl el2 hl⟩
theorem DI (F:Fun K "_law_held" "_law_held" Y54 f fd) (bl:Bl K mg yA yE yN yO yP yQ yR yS yT yU yV yW yX ae yY yZ)  : aQ P w K mg base CX0 1 f fd ["spans", "code"] (gY K yA yE yN yO yP yQ yR yS yT yU yV yW yX ae yY yZ):=by
 refine F.ok Z54 (λvs H Q E h=>?_) (λcdv A outer s H vs Q E hr h=>?_)
 ·obtain ⟨a,xs,ps,n,rfl,hS,hP,q⟩:=h
  rfl
 obtain ⟨a,xs,ps,n,rfl,hS,hP,q⟩:=h
 refine ⟨_,(aC (bb PassesOwn.never rfl (aP (pv 0)) (aF (i:=2) Z54.nd rfl (Or.inl rfl))
  (ah (aR (PW.pt (fX (aJ dZ (aE aS (pv 2) aj (λ_ _=>rfl)) (pv 1) (aO _)) (d8 (aJ dZ (pv 1) (aE aS (pv 2) aj (λ_ _=>rfl)) (aO _)))))
  (ah (aH fE))
  aI)))
  (ah (aH fE))),?_⟩
 refine ⟨_,rfl,a,rfl,⟨_,hS⟩,bf (xs:=xs) (λi σ H'=>(∃ c2,σ=[some (.ref a),some (.int n),c2])/\H'=H/\(ps.take i).any (inR n)=false) ⟨⟨_,rfl⟩,rfl,rfl⟩ (λi σ H' _ h=>by obtain ⟨_,e,_⟩:=h;rw [e];exact hS) (λi x σ H' e h=>?_) (λσ H' h=>?_)⟩
 ·obtain ⟨⟨c2,rfl⟩,e0,hn⟩:=h
  rw [e0]
  obtain ⟨p,r,e1,rfl,hr'⟩:=hP.get e
  refine ⟨_,rfl,r,_,_,_,rfl,rfl,SqT.of hr',rfl,_,rfl,_,_,rfl,rfl,_,rfl,?_⟩
  refine dj (λc=>?_) (λc=>?_)
  ·refine ⟨_,rfl,_,rfl,r,_,_,_,rfl,rfl,SqT.of hr',rfl,_,_,rfl,rfl,_,rfl,?_⟩
   refine dj (λd=>?_) (λd=>?_)
   ·have z2:inP ps n=true:=ml e1 (B6 c d)
    rw [z2] at q;exact q
   ·exact ⟨⟨_,rfl⟩,rfl,dN e1 hn (yB d)⟩
  ·exact b8 ⟨⟨_,rfl⟩,rfl,dN e1 hn (yz c)⟩
 ·obtain ⟨⟨c2,rfl⟩,e0,hn⟩:=h
  rw [e0]
  have z:inP ps n=false:=by
   rw [hP.length,List.take_length] at hn
   exact hn
  rw [z] at q;exact q
theorem DJ (F:Fun K "_law_due" "_law_due" Y52 f fd) (bl:Bl K mg yA yE yN yO yP yQ yR yS yT yU yV yW yX ae yY yZ)  : aQ P w K mg base CX0 1 f fd ["way", "outs", "domain"] (jg K yA yE yN yO yP yQ yR yS yT yU yV yW yX ae yY yZ):=by
 refine F.ok Z52 (λvs H Q E h=>?_) (λcdv A outer s H vs Q E hr h=>?_)
 ·obtain ⟨c,r,wy,i,ns,p,rfl,hwy,hS,⟨l,_,_,er,el⟩,hle,q⟩:=h
  rfl
 obtain ⟨c,r,wy,i,ns,p,rfl,hwy,hS,⟨l,_,_,er,el⟩,hle,q⟩:=h
 refine ⟨_,(aC (aR (aJ bX (au ar rfl bl.len_ PySem.boot_len (aa (pv 1) ag)) aj (aO _))
  (ah (aH (bc (aa aT (aa aj ag)))))
  aI)
  (aC (aR (aJ bX (pv 0) aT (aO _))
  (ah (aH (bc (aa aT (aa (aE aK (pv 1) aj (λ_ _=>rfl)) ag)))))
  aI)
  (aC (aR (aJ bX (pv 0) aT (aO _))
  (ah (aH (bc (aa aT (aa (au (fj rfl) rfl bl.min_ PyProof.Rows.boot_min (aa (pv 1) ag)) ag)))))
  aI)
  (aC (aR (aJ bX (pv 0) aT (aO _))
  (ah (aH (bc (aa aT (aa (au (fm rfl) rfl bl.max_ PyProof.Rows.boot_max (aa (pv 1) ag)) ag)))))
  aI)
  (aC (aR (aJ bX (pv 0) aT (aO _))
  (ah (aH (bc (aa aT (aa (au (ir rfl) rfl bl.max_ PyProof.Rows.boot_max (aa (aE aS (pv 2) aj (λ_ _=>rfl)) (aa (au (fF rfl) rfl bl.min_ PyProof.Rows.boot_min (aa (aE aS (pv 2) aj (λ_ _=>rfl)) (aa (au (dP rfl) rfl bl.sum_ PyProof.Rows.boot_sum (aa (pv 1) ag)) ag))) ag))) ag)))))
  aI)
  (aC (aR (PW.pt (nX (PW.pt (fX (aJ bX (pv 0) aT (aO _)) (d8 (aJ gO (au ar rfl bl.len_ PySem.boot_len (aa (pv 1) ag)) aj (aO _))))) (l5 (PW.pt (fX (aJ bX (pv 0) aT (aO _)) (d8 (aJ n5 (au (fj rfl) rfl bl.min_ PyProof.Rows.boot_min (aa (pv 1) ag)) (au (fm rfl) rfl bl.max_ PyProof.Rows.boot_max (aa (pv 1) ag)) (aO _))))))))
  (ah (aH (bc (aa aT (aa aj ag)))))
  aI)
  (ah (aH (bc (aa aT (aa (aE aK (pv 1) aj (λ_ _=>rfl)) ag))))))))))),?_⟩
 refine ⟨_,rfl,c,_,rfl,.inl (hS),rfl,_,rfl,?_⟩
 cases ns with
 | nil=>exact de rfl ⟨br,λt ht=>q t _ (ai ht _) af⟩
 | cons n ns =>
 refine bM (by simp;lia) ?_
 have hml:((n :: ns).map V.int).length=ns.length+1:=by simp
 have uK:∀ (m:Int) (e:wf i p.lo p.hi (n :: ns)=say m) (t:Addr),H t=none->Q (.ref t) (upd H t (.tup [.str (Str.ofString "say"),.int m])):=λm e t ht=>by
  refine q t _ (ai ht _) ?_
  rw [af]
  show _=some (HO.tup (tp (wf i p.lo p.hi (n :: ns))))
  rw [e]
  rfl
 match i,hwy with
 | 0,hwy =>
  cases hwy
  exact ⟨_,rfl,rfl,_,rfl,de rfl ⟨_,rfl,c,_,_,_,rfl,rfl,hS,at0 n ns,br,λt ht=>uK n rfl t ht⟩⟩
 | 1,hwy =>
  cases hwy
  refine ⟨_,rfl,rfl,_,rfl,bM (by decide +kernel) ⟨_,rfl,rfl,_,rfl,bM (by decide +kernel) ⟨_,rfl,rfl,_,rfl,bM (by decide +kernel) ⟨_,rfl,rfl,_,rfl,bM (by decide +kernel) ?_⟩⟩⟩⟩
  refine ⟨_,rfl,rfl,_,rfl,de rfl ⟨_,rfl,c,_,rfl,.inl (hS),_,_,rfl,rfl,_,rfl,?_⟩⟩
  refine dj (λg=>?_) (λg=>?_)
  ·refine dJ ⟨br,λt ht=>q t _ (ai ht _) ?_⟩
   rw [af]
   show _=some (HO.tup (tp (j3 (n :: ns))))
   unfold j3
   rw [if_neg (by have:=oq g;rw [List.length_cons];rw [hml] at this;lia)]
   rfl
  ·refine ⟨_,rfl,rfl,_,rfl,bM (by decide +kernel) (b8 ⟨_,rfl,c,_,_,_,rfl,rfl,hS,at0 n ns,br,λt ht=>uK n ?_ t ht⟩)⟩
   show j3 (n :: ns)=say n
   unfold j3
   rw [if_pos (by have:=tF g;rw [List.length_cons];rw [hml] at this;lia)]
   rfl
 | 2,hwy =>
  cases hwy
  refine ⟨_,rfl,rfl,_,rfl,bM (by decide +kernel) ⟨_,rfl,rfl,_,rfl,bM (by decide +kernel) ⟨_,rfl,rfl,_,rfl,bM (by decide +kernel) ⟨_,rfl,rfl,_,rfl,bM (by decide +kernel) ?_⟩⟩⟩⟩
  refine ⟨_,rfl,rfl,_,rfl,bM (by decide +kernel) (b8 ⟨_,rfl,rfl,_,rfl,de rfl ⟨_,rfl,c,_,rfl,hS,Nat.succ_pos _,λm h1 h2=>⟨_,rfl,c,_,rfl,hS,Nat.succ_pos _,λm' h1' h2'=>⟨rfl,_,rfl,?_⟩⟩⟩⟩)⟩
  rw [mH h1 h2,mI h1' h2']
  by_cases hg:least (n :: ns)=great (n :: ns)
  ·refine qL (by rw [hg]) ⟨_,rfl,c,_,_,_,rfl,rfl,hS,at0 n ns,br,λt ht=>uK n ?_ t ht⟩
   show jZ (n :: ns)=say n
   unfold jZ
   rw [if_pos hg,oN (kO.mpr hg)]
  ·refine yC (λz=>hg (by injection z)) ⟨br,λt ht=>q t _ (ai ht _) ?_⟩
   rw [af]
   show _=some (HO.tup (tp (jZ (n :: ns))))
   unfold jZ
   rw [if_neg hg]
   rfl
 | 3,hwy =>
  cases hwy
  refine ⟨_,rfl,rfl,_,rfl,bM (by decide +kernel) ⟨_,rfl,rfl,_,rfl,de rfl ⟨_,rfl,c,_,rfl,hS,Nat.succ_pos _,λm h1 h2=>⟨br,λt ht=>uK m (by rw [mH h1 h2];rfl) t ht⟩⟩⟩⟩
 | 4,hwy =>
  cases hwy
  refine ⟨_,rfl,rfl,_,rfl,bM (by decide +kernel) ⟨_,rfl,rfl,_,rfl,bM (by decide +kernel) ⟨_,rfl,rfl,_,rfl,de rfl ⟨_,rfl,c,_,rfl,hS,Nat.succ_pos _,λm h1 h2=>⟨br,λt ht=>uK m (by rw [mI h1 h2];rfl) t ht⟩⟩⟩⟩⟩
 | 5,hwy =>
  cases hwy
  refine ⟨_,rfl,rfl,_,rfl,bM (by decide +kernel) ⟨_,rfl,rfl,_,rfl,bM (by decide +kernel) ⟨_,rfl,rfl,_,rfl,bM (by decide +kernel) ⟨_,rfl,rfl,_,rfl,de rfl ⟨_,rfl,r,_,_,_,rfl,rfl,SqT.of er,rfl,_,rfl,r,_,_,_,rfl,rfl,SqT.of er,rfl,_,rfl,c,_,rfl,hS,_,_,rfl,_,_,rfl,br,λt ht=>uK _ ?_ t ht⟩⟩⟩⟩⟩
  show say (near p.lo p.hi (n :: ns).sum)=say _
  congr 1
  unfold near
  generalize (n :: ns).sum=t
  split <;> split <;> split <;> first | rfl | lia | (split <;> lia)
 | k+6,hwy=>exact absurd (zU hwy) (by lia)
theorem DK (F:Fun K "_law_point" "_law_point" Y57 f fd) (bl:Bl K mg yA yE yN yO yP yQ yR yS yT yU yV yW yX ae yY yZ)  : aQ P w K mg base CX0 1 f fd ["plan", "cell"] (gh K yA yE yN yO yP yQ yR yS yT yU yV yW yX ae yY yZ):=by
 refine F.ok Z57 (λvs H Q E h=>?_) (λcdv A outer s H vs Q E hr h=>?_)
 ·obtain ⟨r,cell,zs,ds,ts,fN,rfl,hPl,ok,h32,ht4,q⟩:=h
  rfl
 obtain ⟨r,cell,zs,ds,ts,fN,rfl,hPl,ok,h32,ht4,q⟩:=h
 refine ⟨_,(aw (i5 (pv 0) (dr rfl (aN (aF (i:=2) Z57.nd rfl (Or.inl rfl)) (aN (aF (i:=3) Z57.nd rfl (Or.inl rfl)) (aN (aF (i:=4) Z57.nd rfl (Or.inl rfl)) bO)))))
  (aw (d9 (i:=5) Z57.nd rfl (Or.inl rfl) (aP (pv 2)) (bg rfl (by decide +kernel) (by decide +kernel) (by decide +kernel) rfl) rfl (λ_ _ _ _=>aU) (λ_ _ _ _=>(bK ag)))
  (aw (bb PassesOwn.never rfl (aP (pv 4)) (aF (i:=6) Z57.nd rfl (Or.inl rfl))
  (ah (bb PassesOwn.never rfl (aP (aE aS (pv 6) aj (λ_ _=>rfl))) (aF (i:=7) Z57.nd rfl (Or.inl rfl))
  (ah (bb PassesOwn.never rfl (bh rfl bl.range_ (aa (au ar rfl bl.len_ PySem.boot_len (aa (aE aS (pv 6) aj (λ_ _=>rfl)) ag)) ag)) (aF (i:=8) Z57.nd rfl (Or.inl rfl))
  (aw (aL (i:=9) Z57.nd rfl (Or.inl rfl) (aE aK (aE aS (pv 7) aj (λ_ _=>rfl)) (pv 8) (λ_ _=>rfl)))
  (aw (aV (dR PySem.F.plainAttrs_list PySem.F.slot_list_extend PySem.F.type_list_extend kF (aE aK (pv 5) (aE aK (aE aS (pv 6) aj (λ_ _=>rfl)) (pv 8) (λ_ _=>rfl)) (λ_ _=>rfl)) (aa (bt (aP (pv 9)) (bg rfl (by decide +kernel) (by decide +kernel) (by decide +kernel) rfl) rfl (λ_ _ _ _=>aU) (λ_ _ _ _=>(aE (dh (K:=K) rfl) (pv 0) aj (λ_ _=>rfl)))) ag)))
  (ah (aV (dR PySem.F.plainAttrs_list PySem.F.slot_list_extend PySem.F.type_list_extend kF (aE aK (pv 5) (aE aK (aE aS (pv 6) aj (λ_ _=>rfl)) (pv 8) (λ_ _=>rfl)) (λ_ _=>rfl)) (aa (bt (aP (pv 9)) (bg rfl (by decide +kernel) (by decide +kernel) (by decide +kernel) rfl) rfl (λ_ _ _ _=>aU) (λ_ _ _ _=>(aG bC (aE (dh (K:=K) rfl) (pv 0) aj (λ_ _=>rfl)) aj))) ag)))))))))))
  (aw (aL (i:=10) Z57.nd rfl (Or.inl rfl) (bK ag))
  (aC (bb PassesOwn.never rfl (bh rfl bl.range_ (aa (aG cH (au ar rfl bl.len_ PySem.boot_len (aa (pv 2) ag)) (au ar rfl bl.len_ PySem.boot_len (aa (pv 4) ag))) ag)) (aF (i:=11) Z57.nd rfl (Or.inl rfl))
  (aw (aL (i:=12) Z57.nd rfl (Or.inl rfl) (aE aS (aE aK (pv 3) (pv 11) (λ_ _=>rfl)) aj (λ_ _=>rfl)))
  (aw (aL (i:=13) Z57.nd rfl (Or.inl rfl) (aE aS (aE aK (pv 3) (pv 11) (λ_ _=>rfl)) aj (λ_ _=>rfl)))
  (aw (aL (i:=14) Z57.nd rfl (Or.inl rfl) (aG bC (pv 12) (aG bj (aG bA (pv 1) (aG bC (pv 11) aj)) (aG bC (aG cH (pv 13) (pv 12)) aj))))
  (aw (aR (PW.pt (fX (aJ gO (au ar rfl bl.len_ PySem.boot_len (aa (aE aK (pv 5) (pv 11) (λ_ _=>rfl)) ag)) aj (aO _)) (d8 (aJ gO (aG bj (aG bA (pv 1) (aG bC aj (pv 11))) aj) aj (aO _)))))
  (ah (aL (i:=14) Z57.nd rfl (Or.inl rfl) (aG cH (aE aK (aE aK (pv 5) (pv 11) (λ_ _=>rfl)) (aG bj (aG bA (pv 1) aj) (au ar rfl bl.len_ PySem.boot_len (aa (aE aK (pv 5) (pv 11) (λ_ _=>rfl)) ag))) (λ_ _=>rfl)) (aG bj (aG bA (pv 1) aj) aj))))
  aI)
  (ah (aV (dR PySem.F.plainAttrs_list PySem.F.slot_list_append PySem.F.type_list_append bW (pv 10) (aa (au (ir rfl) rfl bl.max_ PyProof.Rows.boot_max (aa (pv 12) (aa (au (fF rfl) rfl bl.min_ PyProof.Rows.boot_min (aa (pv 13) (aa (pv 14) ag))) ag))) ag)))))))))
  (ah (aH (pv 10)))))))),?_⟩
 obtain ⟨nl,dl,tl_,dv,tv,er,enl,edl,hdv,etl,htv⟩:=id hPl
 have hzl:(zs.map V.str).length=zs.length:=List.length_map _
 have hl1:=ok.len
 have hl2:=ok.tab
 have h7:=ok.n7
 have htl:tv.length=ts.length:=htv.1
 refine ⟨λσ' H'=>H'=H/\σ'=[some (.ref r),some (.int cell),some (.ref nl),some (.ref dl),some (.ref tl_),none,none,none,none,none,none,none,none,none,none],⟨_,rfl,r,_,rfl,SqT.of er,rfl,_,_,rfl,_,_,rfl,_,_,rfl,rfl,rfl,rfl⟩,?_⟩
 rintro σ1 H1 ⟨e1_,rfl⟩
 subst e1_
 refine ⟨λσ' H'=>aq H1 H'/\∃ ea:Addr,EnA H1 H' ea zs.length 0/\σ'=[some (.ref r),some (.int cell),some (.ref nl),some (.ref dl),some (.ref tl_),some (.ref ea),none,none,none,none,none,none,none,none,none],?_,?_⟩
 ·refine ⟨_,rfl,nl,rfl,⟨_,SqL.of enl⟩,aZ (xs:=zs.map V.str) (λD i ys H'=>aq H1 H'/\H' D=some (.lst ys)/\ys.length=i/\∀ (j:Nat) (x:V),ys[j]?=some x->∃ l:Addr,x=.ref l/\l ≠ D/\H1 l=none/\H' l=some (.lst [])) (λD hD=>⟨ai hD _,af,rfl,λj x e=>by simp at e⟩) (λD i ys H' hD _ h=>SqL.of (h.1 _ _ enl)) (λD i y ys H' hD e h=>?_) (λD ys H' hD h=>?_)⟩
  ·obtain ⟨sm,eD,hyl,hy⟩:=h
   have hi:i < (zs.map V.str).length:=(G7.mp e).1
   refine ⟨Nat.zero_le _,λl hl=>?_⟩
   have u:=ai hl (.lst [])
   have el:upd H' l (.lst []) l=some (.lst []):=af
   have nlD:l ≠ D:=λz=>by rw [z,eD] at hl;cases hl
   generalize upd H' l (.lst [])=H2 at u el ⊢
   have eD2:=u _ _ eD
   refine bQ.mk hi eD2 (aD (by lia)) ⟨(sm.trans u).upd hD,af,by rw [List.length_append,hyl];rfl,λj x ex=>?_⟩
   by_cases hj:j < ys.length
   ·rw [List.getElem?_append_left hj] at ex
    obtain ⟨l',a1,a2,a3,a4⟩:=hy j x ex
    exact ⟨l',a1,a2,a3,(av a2).trans (u _ _ a4)⟩
   ·have hj2:j - ys.length=0:=by
     have:=(G7.mp ex).1
     rw [List.length_append,List.length_singleton] at this
     lia
    rw [List.getElem?_append_right (by lia),hj2] at ex
    cases ex
    exact ⟨l,rfl,nlD,sm.free hl,(av nlD).trans el⟩
  ·obtain ⟨sm,eD,hyl,hy⟩:=h
   rw [hzl] at hyl
   exact ⟨sm,D,⟨hD,ys,eD,hyl,λj x e=>let ⟨l,a1,a2,a3,a4⟩:=hy j x e;⟨l,[],a1,a2,a3,a4,Nat.le_refl _⟩⟩,rfl⟩
 rintro σ2 H2 ⟨s2,ea,hE2,rfl⟩
 have szl:∀ n:Nat,n<=2000->n<=sizeLine:=λn h=>Nat.le_trans h (by decide)
 refine ⟨λσ' H'=>aq H1 H'/\EnA H1 H' ea zs.length 1600/\∃ c6 c7 c8 c9:Option V,σ'=[some (.ref r),some (.int cell),some (.ref nl),some (.ref dl),some (.ref tl_),some (.ref ea),c6,c7,c8,c9,none,none,none,none,none],?_,?_⟩
 ·refine ⟨_,rfl,tl_,rfl,⟨_,SqL.of (s2 _ _ etl)⟩,bf (xs:=tv) (λi σ H'=>aq H1 H'/\EnA H1 H' ea zs.length (384 * i)/\∃ c6 c7 c8 c9:Option V,σ=[some (.ref r),some (.int cell),some (.ref nl),some (.ref dl),some (.ref tl_),some (.ref ea),c6,c7,c8,c9,none,none,none,none,none]) ⟨s2,hE2,_,_,_,_,rfl⟩ (λi σ H' _ h=>SqL.of (h.1 _ _ etl)) (λi y σ H' e h=>?_) (λσ H' h=>?_)⟩
  ·obtain ⟨sm,hE,c6,c7,c8,c9,rfl⟩:=h
   obtain ⟨ta,t,rfl,et,cl,rl,rx,g1,g2,g3,g4⟩:=az.get htv e
   have hi:i < ts.length:=(G7.mp et).1
   have tok:=ok.tabs i t et
   have hc3:t.cols.length<=3:=tok.ok.few
   have GZ:=h32 t (G8 et)
   have hrl:rx.length=t.rows.length:=g4.1
   have hvl:(vN t.cols).length=t.cols.length:=cZ _
   refine ⟨_,rfl,ta,_,_,_,rfl,rfl,SqT.of (sm _ _ g1),rfl,rl,rfl,⟨_,SqL.of (sm _ _ g3)⟩,bf (xs:=rx) (λii σ H'=>aq H1 H'/\EnA H1 H' ea zs.length (384 * i+12 * ii)/\∃ c7 c8 c9:Option V,σ=[some (.ref r),some (.int cell),some (.ref nl),some (.ref dl),some (.ref tl_),some (.ref ea),some (.ref ta),c7,c8,c9,none,none,none,none,none]) ⟨sm,hE,_,_,_,rfl⟩ (λii σ H' _ h=>SqL.of (h.1 _ _ g3)) (λii y σ H' e h=>?_) (λσ H' h=>?_)⟩
   ·obtain ⟨sn,hEn,c7,c8,c9,rfl⟩:=h
    obtain ⟨ro,w_,rfl,ew,ce,cv,q1,_,q2,q3⟩:=az.get g4 e
    have hii:ii < t.rows.length:=(G7.mp ew).1
    have fit:=tok.rows w_ (G8 ew)
    refine ⟨_,rfl,ta,_,_,_,rfl,rfl,SqT.of (sn _ _ g1),rfl,cl,_,rfl,.inl (SqL.of (sn _ _ g2)),_,rfl,(by lia),(by lia),dm (λjj σ H'=>aq H1 H'/\EnA H1 H' ea zs.length (384 * i+12 * ii+4 * jj)/\∃ c8 c9:Option V,σ=[some (.ref r),some (.int cell),some (.ref nl),some (.ref dl),some (.ref tl_),some (.ref ea),some (.ref ta),some (.ref ro),c8,c9,none,none,none,none,none]) ⟨sn,hEn,_,_,rfl⟩ (λjj σ H' hjj h=>?_) (λσ H' h=>?_)⟩
    ·obtain ⟨so,hEo,c8,c9,rfl⟩:=h
     rw [Int.toNat_natCast,cZ] at hjj
     rw [show (0:Int)+(jj:Int)=(jj:Int) by lia]
     have ecj:=G6 hjj
     generalize t.cols[jj]=cj at ecj
     have hcj:cj < zs.length:=by
      have:=tok.ok.lt cj (G8 ecj)
      lia
     have hcw:jj < w_.1.length:=by rw [fit.len];exact hjj
     have eps:=G6 hcw
     generalize w_.1[jj]=ps at eps
     obtain ⟨lc,elc,_,yv,eyv,hyv⟩:=q3.2 jj ps eps
     have Cc:=fit.few ps (G8 eps)
     have hyl:=hyv.length
     refine ⟨λσ' H''=>H''=H'/\σ'=[some (.ref r),some (.int cell),some (.ref nl),some (.ref dl),some (.ref tl_),some (.ref ea),some (.ref ta),some (.ref ro),some (.int (jj:Int)),some (.ref lc),none,none,none,none,none],⟨_,rfl,ro,_,_,_,rfl,rfl,SqT.of (so _ _ q1),rfl,_,rfl,ce,_,_,_,rfl,rfl,SqL.of (so _ _ q2),aM elc,rfl,rfl⟩,?_⟩
     rintro σa Ha ⟨ea_,rfl⟩
     subst ea_
     have one:∀ {HX:Hp} {m:Nat},aq H1 HX->EnA H1 HX ea zs.length m->∃ (ev:List V) (l:Addr) (xs:List Int),HX ea=some (.lst ev)/\ev[cj]?=some (.ref l)/\l ≠ ea/\H1 l=none/\HX l=some (.lst (xs.map V.int))/\xs.length<=m:=λsX hX=>by
      obtain ⟨h0,ev,h1,h2,h3⟩:=hX
      have ex:=G6 (l:=ev) (i:=cj) (by lia)
      obtain ⟨l,xs,a1,a2,a3,a4,a5⟩:=h3 cj _ ex
      rw [a1] at ex
      exact ⟨ev,l,xs,h1,ex,a2,a3,a4,a5⟩
     refine ⟨λσ' H''=>aq H1 H''/\EnA H1 H'' ea zs.length (384 * i+12 * ii+4 * jj+2)/\σ'=[some (.ref r),some (.int cell),some (.ref nl),some (.ref dl),some (.ref tl_),some (.ref ea),some (.ref ta),some (.ref ro),some (.int (jj:Int)),some (.ref lc),none,none,none,none,none],?_,?_⟩
     ·obtain ⟨ev,l,xs,b1,b2,b3,b4,b5,b6⟩:=one so hEo
      refine ⟨_,rfl,_,rfl,ta,_,_,_,rfl,rfl,SqT.of (so _ _ g1),rfl,_,rfl,cl,_,_,_,rfl,rfl,SqL.of (so _ _ g2),aM (vL ecj),ea,_,_,_,rfl,rfl,SqL.of b1,aM b2,.inl ⟨rfl,_,SqL.of b5⟩,_,rfl,lc,rfl,⟨_,SqL.of (so _ _ eyv)⟩,aZ (xs:=yv) (λD k ys H''=>aq Ha H''/\H'' D=some (.lst ys)/\ys=((ps.take k).map λy=>y.1).map V.int) (λD hD=>⟨ai hD _,af,rfl⟩) (λD k ys H'' hD _ h=>SqL.of ((so.trans h.1) _ _ eyv)) (λD k yy ys H'' hD e h=>?_) (λD ys H'' hD h=>?_)⟩
      ·obtain ⟨sq,eD',rfl⟩:=h
       obtain ⟨pr,rp,epr,rfl,erp⟩:=(hyv.mono (so.trans sq).tups).get e
       have hk' : k < yv.length:=(G7.mp e).1
       refine ⟨_,rfl,rp,_,_,_,rfl,rfl,SqT.of erp,rfl,bQ.mk hk' eD' (aD (by rw [List.length_map,List.length_map,List.length_take];lia)) ⟨sq.upd hD,af,?_⟩⟩
       rw [take_snoc epr,List.map_append,List.map_append]
       rfl
      ·obtain ⟨sq,eD',rfl⟩:=h
       rw [hyl,List.take_length] at eD'
       exact ⟨l,D,_,_,rfl,rfl,sq _ _ b5,eD',szl _ (by rw [List.length_map,List.length_map,List.length_map];lia),(so.trans sq).upd b4,(hEo.same sq).ext b3 (sq _ _ b5) b6 (by rw [List.length_map];exact Cc),rfl⟩
     rintro σb Hb ⟨sb,hEb,rfl⟩
     obtain ⟨ev,l,xs,b1,b2,b3,b4,b5,b6⟩:=one sb hEb
     refine ⟨_,rfl,_,rfl,ta,_,_,_,rfl,rfl,SqT.of (sb _ _ g1),rfl,_,rfl,cl,_,_,_,rfl,rfl,SqL.of (sb _ _ g2),aM (vL ecj),ea,_,_,_,rfl,rfl,SqL.of b1,aM b2,.inl ⟨rfl,_,SqL.of b5⟩,_,rfl,lc,rfl,⟨_,SqL.of (sb _ _ eyv)⟩,aZ (xs:=yv) (λD k ys H''=>aq Hb H''/\H'' D=some (.lst ys)/\ys=((ps.take k).map λy=>y.2+1).map V.int) (λD hD=>⟨ai hD _,af,rfl⟩) (λD k ys H'' hD _ h=>SqL.of ((sb.trans h.1) _ _ eyv)) (λD k yy ys H'' hD e h=>?_) (λD ys H'' hD h=>?_)⟩
     ·obtain ⟨sq,eD',rfl⟩:=h
      obtain ⟨pr,rp,epr,rfl,erp⟩:=(hyv.mono (sb.trans sq).tups).get e
      have hk' : k < yv.length:=(G7.mp e).1
      refine ⟨_,rfl,rp,_,_,_,rfl,rfl,SqT.of erp,rfl,_,_,rfl,rfl,bQ.mk hk' eD' (aD (by rw [List.length_map,List.length_map,List.length_take];lia)) ⟨sq.upd hD,af,?_⟩⟩
      rw [take_snoc epr,List.map_append,List.map_append]
      rfl
     ·obtain ⟨sq,eD',rfl⟩:=h
      rw [hyl,List.take_length] at eD'
      exact ⟨l,D,_,_,rfl,rfl,sq _ _ b5,eD',szl _ (by rw [List.length_map,List.length_map,List.length_map];lia),(sb.trans sq).upd b4,((hEb.same sq).ext b3 (sq _ _ b5) b6 (ys:=ps.map λy=>y.2+1) (k:=2) (by rw [List.length_map];exact Cc)).le (by lia),_,_,rfl⟩
    ·obtain ⟨so,hEo,c8,c9,rfl⟩:=h
     rw [Int.toNat_natCast,cZ] at hEo
     exact ⟨so,hEo.le (by lia),_,_,_,rfl⟩
   ·obtain ⟨sn,hEn,c7,c8,c9,rfl⟩:=h
    exact ⟨sn,hEn.le (by lia),_,_,_,_,rfl⟩
  ·obtain ⟨sm,hE,c6,c7,c8,c9,rfl⟩:=h
   exact ⟨sm,hE.le (by lia),_,_,_,_,rfl⟩
 rintro σ3 H3 ⟨s3,hE3,c6,c7,c8,c9,rfl⟩
 refine ⟨λσ' H'=>aq H3 H'/\∃ ca:Addr,H3 ca=none/\H' ca=some (.lst (([]:List Int).map V.int))/\σ'=[some (.ref r),some (.int cell),some (.ref nl),some (.ref dl),some (.ref tl_),some (.ref ea),c6,c7,c8,c9,some (.ref ca),none,none,none,none],⟨Nat.zero_le _,λl hl=>⟨ai hl _,l,hl,af,rfl⟩⟩,?_⟩
 rintro σ4 H4 ⟨s4,ca,nca,eca,rfl⟩
 have s34:=s3.trans s4
 have DL:=s3.free nca
 have vq:((((zs.map V.str).length:Nat):Int) - ((tv.length:Nat):Int)).toNat=fN:=by lia
 refine ⟨_,rfl,nl,_,rfl,.inl (SqL.of (s34 _ _ enl)),_,rfl,tl_,_,rfl,.inl (SqL.of (s34 _ _ etl)),_,_,rfl,rfl,_,rfl,(by lia),(by lia),dm (λi σ H'=>aq H3 H'/\∃ cd:List Int,H' ca=some (.lst (cd.map V.int))/\cd.length=i/\(∀ (f:Nat) (p:PD),f < i->ds[f]?=some p->p.lo<=cd.getD f 0/\cd.getD f 0<=p.hi)/\∃ c11 c12 c13 c14:Option V,σ=[some (.ref r),some (.int cell),some (.ref nl),some (.ref dl),some (.ref tl_),some (.ref ea),c6,c7,c8,c9,some (.ref ca),c11,c12,c13,c14]) ⟨s4,[],eca,rfl,(λf p hf=>by lia),_,_,_,_,rfl⟩ (λi σ H' hi h=>?_) (λσ H' h=>?_)⟩
 ·obtain ⟨sm0,cd,ecd,hcl,hcb,c11,c12,c13,c14,rfl⟩:=h
  have sm:=s3.trans sm0
  have hE:=hE3.same sm0
  rw [vq] at hi
  rw [show (0:Int)+(i:Int)=(i:Int) by lia]
  have ep:=G6 (l:=ds) (i:=i) (by lia)
  generalize ds[i]=p at ep
  obtain ⟨da,eda,wl,_,_,e1,e2⟩:=hdv.2 i p ep
  have pok:=ok.doms p (G8 ep)
  have hle:=pok.le
  refine ⟨λσ' H''=>H''=H'/\σ'=[some (.ref r),some (.int cell),some (.ref nl),some (.ref dl),some (.ref tl_),some (.ref ea),c6,c7,c8,c9,some (.ref ca),some (.int (i:Int)),some (.int p.lo),c13,c14],⟨_,rfl,_,rfl,dl,_,_,_,rfl,rfl,SqL.of (sm _ _ edl),aM eda,da,_,_,_,rfl,rfl,SqT.of (sm _ _ e1),rfl,rfl,rfl⟩,?_⟩
  rintro σa Ha ⟨ea_,rfl⟩
  subst ea_
  refine ⟨λσ' H''=>H''=Ha/\σ'=[some (.ref r),some (.int cell),some (.ref nl),some (.ref dl),some (.ref tl_),some (.ref ea),c6,c7,c8,c9,some (.ref ca),some (.int (i:Int)),some (.int p.lo),some (.int p.hi),c14],⟨_,rfl,_,rfl,dl,_,_,_,rfl,rfl,SqL.of (sm _ _ edl),aM eda,da,_,_,_,rfl,rfl,SqT.of (sm _ _ e1),rfl,rfl,rfl⟩,?_⟩
  rintro σb Hb ⟨eb_,rfl⟩
  subst eb_
  refine ⟨λσ' H''=>H''=Hb/\∃ co:Int,σ'=[some (.ref r),some (.int cell),some (.ref nl),some (.ref dl),some (.ref tl_),some (.ref ea),c6,c7,c8,c9,some (.ref ca),some (.int (i:Int)),some (.int p.lo),some (.int p.hi),some (.int co)],⟨_,rfl,_,rfl,_,rfl,_,_,rfl,rfl,_,_,rfl,rfl,eG (by lia) (by lia),_,rfl,_,rfl,_,_,rfl,rfl,_,_,rfl,rfl,_,_,rfl,rfl,(by show (0:Int) < p.hi - p.lo+1;lia),_,_,rfl,rfl,rfl,_,rfl⟩,?_⟩
  rintro σc Hc ⟨ec_,co,rfl⟩
  subst ec_
  obtain ⟨h0,ev,eev,G0,hev⟩:=id hE
  have ex:=G6 (l:=ev) (i:=i) (by lia)
  obtain ⟨l,xs,hx1,hx2,hx3,hx4,hx5⟩:=hev i _ ex
  rw [hx1] at ex
  have hxm:(xs.map V.int).length=xs.length:=List.length_map _
  refine ⟨λσ' H''=>H''=Hc/\∃ co:Int,σ'=[some (.ref r),some (.int cell),some (.ref nl),some (.ref dl),some (.ref tl_),some (.ref ea),c6,c7,c8,c9,some (.ref ca),some (.int (i:Int)),some (.int p.lo),some (.int p.hi),some (.int co)],?_,?_⟩
  ·refine ⟨_,rfl,_,rfl,ea,_,_,_,rfl,rfl,SqL.of eev,aM ex,l,_,rfl,.inl (SqL.of hx4),_,_,rfl,rfl,_,rfl,dj (λg=>?_) (λg=>⟨rfl,co,rfl⟩)⟩
   have g:=of_decide_eq_true g
   rw [hxm] at g
   refine ⟨_,rfl,_,rfl,_,_,rfl,rfl,_,_,rfl,rfl,eG (by lia) (by lia),_,_,rfl,rfl,(by show (0:Int) < 3;decide),_,_,rfl,rfl,_,rfl,dj (λg2=>?_) (λg2=>⟨rfl,co,rfl⟩)⟩
   have j0:=Int.emod_nonneg (cell / 7) (show ((xs.length:Nat):Int) ≠ 0 by lia)
   have j1:=Int.emod_lt_of_pos (cell / 7) (show (0:Int) < ((xs.length:Nat):Int) by lia)
   obtain ⟨v,ev2⟩:∃ v,xs[(cell / 7 % ((xs.length:Nat):Int)).toNat]?=some v:=⟨_,G6 (by lia)⟩
   have ix:atI (xs.map V.int) (cell / 7 % (((xs.map V.int).length:Nat):Int))=some (.int v):=by
    have:=aM (get_map ev2)
    rw [Int.toNat_of_nonneg j0] at this
    rw [hxm]
    exact this
   refine ⟨_,rfl,_,rfl,ea,_,_,_,rfl,rfl,SqL.of eev,aM ex,_,rfl,_,_,rfl,rfl,⟨by decide,by decide⟩,_,rfl,_,rfl,ea,_,_,_,rfl,rfl,SqL.of eev,aM ex,l,_,rfl,.inl (SqL.of hx4),_,_,rfl,rfl,(by rw [hxm];lia),l,_,_,_,rfl,rfl,SqL.of hx4,ix,_,rfl,_,_,rfl,rfl,⟨by decide,by decide⟩,_,_,rfl,rfl,(by show (0:Int) < 2;decide),_,_,rfl,rfl,rfl,_,rfl⟩
  rintro σd Hd ⟨ed_,co2,rfl⟩
  subst ed_
  refine ⟨_,rfl,.inl ⟨rfl,_,SqL.of ecd⟩,_,rfl,_,rfl,_,rfl,_,_,rfl,_,_,rfl,ca,_,_,rfl,rfl,ecd,aD (by rw [List.length_map];lia),sm0.upd nca,cd ++ [_],by rw [af,List.map_append];rfl,by rw [List.length_append,hcl];rfl,λf p' hf ep'=>?_,_,_,_,_,rfl⟩
  by_cases hfi:f < i
  ·have:=hcb f p' hfi ep'
   rw [List.getD_eq_getElem?_getD,List.getElem?_append_left (by lia),← List.getD_eq_getElem?_getD]
   exact this
  ·have:f=i:=by lia
   subst this
   rw [ep] at ep'
   cases ep'
   rw [List.getD_eq_getElem?_getD,List.getElem?_append_right (by lia),hcl,Nat.sub_self]
   simp only [List.getElem?_cons_zero,Option.getD_some]
   split <;> split <;> constructor <;> lia
 ·obtain ⟨sm0,cd,ecd,hcl,hcb,c11,c12,c13,c14,rfl⟩:=h
  rw [vq] at hcl hcb
  exact ⟨_,rfl,q ca cd H' (s3.trans sm0) DL ecd hcl hcb⟩
theorem DM (F:Fun K "_law_worth" "_law_worth" Y64 f fd) (bl:Bl K mg yA yE yN yO yP yQ yR yS yT yU yV yW yX ae yY yZ)  : aQ P w K mg base CX0 1 f fd ["domain", "code"] (gi K yA yE yN yO yP yQ yR yS yT yU yV yW yX ae yY yZ):=by
 refine F.ok Z64 (λvs H Q E h=>?_) (λcdv A outer s H vs Q E hr h=>?_)
 ·obtain ⟨r,p,c,rfl,⟨l,_,_,er,el⟩,ok,h1,h2,q⟩:=h
  rfl
 obtain ⟨r,p,c,rfl,⟨l,_,_,er,el⟩,ok,h1,h2,q⟩:=h
 refine ⟨_,(aC (aR (aJ gO (au ar rfl bl.len_ PySem.boot_len (aa (aE aS (pv 0) aj (λ_ _=>rfl)) ag)) aj (aO _))
  (ah (aH (aE aK (aE aS (pv 0) aj (λ_ _=>rfl)) (pv 1) (λ_ _=>rfl))))
  aI)
  (ah (aH (pv 1)))),?_⟩
 unfold wvP at q
 have hml:(p.ws.map V.str).length=p.ws.length:=List.length_map _
 refine ⟨_,rfl,r,_,_,_,rfl,rfl,SqT.of er,rfl,l,_,rfl,.inl (SqL.of el),_,_,rfl,rfl,_,rfl,?_⟩
 by_cases hw:p.ws=[]
 ·rw [if_pos hw] at q
  refine bM (by rw [hw];decide) ⟨_,rfl,q⟩
 ·rw [if_neg hw] at q
  obtain ⟨g,e0,e1⟩:=ok.wd hw
  have zE:0 < p.ws.length:=List.length_pos_iff.mpr hw
  unfold hiW at e1
  have ec:c=((c.toNat:Nat):Int):=by lia
  have ix:=G6 (l:=p.ws) (i:=c.toNat) (by lia)
  rw [List.getD_eq_getElem?_getD,ix] at q
  have hat:atI (p.ws.map V.str) ((c.toNat:Nat):Int)=some (.str (p.ws[c.toNat]'(by lia))):=aM (df ix)
  rw [← ec] at hat
  refine de (by show (0:Int) < (((p.ws.map V.str).length:Nat):Int);lia) ⟨_,rfl,r,_,_,_,rfl,rfl,SqT.of er,rfl,_,rfl,l,_,_,_,rfl,rfl,SqL.of el,hat,q⟩
theorem DN (F:Fun K "__init__" "Way.__init__" Y23 f fd) (bl:Bl K mg yA yE yN yO yP yQ yR yS yT yU yV yW yX ae yY yZ)  : aQ P w K mg base CX0 1 f fd ["self", "called"] (bS K yA yE yN yO yP yQ yR yS yT yU yV yW yX ae yY yZ):=by
 refine F.ok Z23 (λvs H Q E h=>?_) (λcdv A outer s H vs Q E hr h=>?_)
 ·obtain ⟨x,dx,z,rfl,hx,q⟩:=h
  rfl
 obtain ⟨x,dx,z,rfl,hx,q⟩:=h
 refine ⟨_,(ah (cx (pv 0) (pv 1) rfl)),?_⟩
 exact ⟨_,rfl,_,rfl,x,_,dx,_,rfl,hx,bl.k_First,bl.na_First_called,(by show 0 < 1000;decide),q⟩
theorem DO (F:Fun K "__init__" "Way.__init__" Y27 f fd) (bl:Bl K mg yA yE yN yO yP yQ yR yS yT yU yV yW yX ae yY yZ)  : aQ P w K mg base CX0 1 f fd ["self", "called"] (bY K yA yE yN yO yP yQ yR yS yT yU yV yW yX ae yY yZ):=by
 refine F.ok Z27 (λvs H Q E h=>?_) (λcdv A outer s H vs Q E hr h=>?_)
 ·obtain ⟨x,dx,z,rfl,hx,q⟩:=h
  rfl
 obtain ⟨x,dx,z,rfl,hx,q⟩:=h
 refine ⟨_,(ah (cx (pv 0) (pv 1) rfl)),?_⟩
 exact ⟨_,rfl,_,rfl,x,_,dx,_,rfl,hx,bl.k_Only,bl.na_Only_called,(by show 0 < 1000;decide),q⟩
theorem DP (F:Fun K "__init__" "Way.__init__" Y25 f fd) (bl:Bl K mg yA yE yN yO yP yQ yR yS yT yU yV yW yX ae yY yZ)  : aQ P w K mg base CX0 1 f fd ["self", "called"] (bZ K yA yE yN yO yP yQ yR yS yT yU yV yW yX ae yY yZ):=by
 refine F.ok Z25 (λvs H Q E h=>?_) (λcdv A outer s H vs Q E hr h=>?_)
 ·obtain ⟨x,dx,z,rfl,hx,q⟩:=h
  rfl
 obtain ⟨x,dx,z,rfl,hx,q⟩:=h
 refine ⟨_,(ah (cx (pv 0) (pv 1) rfl)),?_⟩
 exact ⟨_,rfl,_,rfl,x,_,dx,_,rfl,hx,bl.k_Like,bl.na_Like_called,(by show 0 < 1000;decide),q⟩
theorem DQ (F:Fun K "__init__" "Way.__init__" Y26 f fd) (bl:Bl K mg yA yE yN yO yP yQ yR yS yT yU yV yW yX ae yY yZ)  : aQ P w K mg base CX0 1 f fd ["self", "called"] (cc K yA yE yN yO yP yQ yR yS yT yU yV yW yX ae yY yZ):=by
 refine F.ok Z26 (λvs H Q E h=>?_) (λcdv A outer s H vs Q E hr h=>?_)
 ·obtain ⟨x,dx,z,rfl,hx,q⟩:=h
  rfl
 obtain ⟨x,dx,z,rfl,hx,q⟩:=h
 refine ⟨_,(ah (cx (pv 0) (pv 1) rfl)),?_⟩
 exact ⟨_,rfl,_,rfl,x,_,dx,_,rfl,hx,bl.k_Low,bl.na_Low_called,(by show 0 < 1000;decide),q⟩
theorem DR (F:Fun K "__init__" "Way.__init__" Y24 f fd) (bl:Bl K mg yA yE yN yO yP yQ yR yS yT yU yV yW yX ae yY yZ)  : aQ P w K mg base CX0 1 f fd ["self", "called"] (b7 K yA yE yN yO yP yQ yR yS yT yU yV yW yX ae yY yZ):=by
 refine F.ok Z24 (λvs H Q E h=>?_) (λcdv A outer s H vs Q E hr h=>?_)
 ·obtain ⟨x,dx,z,rfl,hx,q⟩:=h
  rfl
 obtain ⟨x,dx,z,rfl,hx,q⟩:=h
 refine ⟨_,(ah (cx (pv 0) (pv 1) rfl)),?_⟩
 exact ⟨_,rfl,_,rfl,x,_,dx,_,rfl,hx,bl.k_High,bl.na_High_called,(by show 0 < 1000;decide),q⟩
theorem DS (F:Fun K "__init__" "Way.__init__" Y28 f fd) (bl:Bl K mg yA yE yN yO yP yQ yR yS yT yU yV yW yX ae yY yZ)  : aQ P w K mg base CX0 1 f fd ["self", "called"] (cg K yA yE yN yO yP yQ yR yS yT yU yV yW yX ae yY yZ):=by
 refine F.ok Z28 (λvs H Q E h=>?_) (λcdv A outer s H vs Q E hr h=>?_)
 ·obtain ⟨x,dx,z,rfl,hx,q⟩:=h
  rfl
 obtain ⟨x,dx,z,rfl,hx,q⟩:=h
 refine ⟨_,(ah (cx (pv 0) (pv 1) rfl)),?_⟩
 exact ⟨_,rfl,_,rfl,x,_,dx,_,rfl,hx,bl.k_Sum,bl.na_Sum_called,(by show 0 < 1000;decide),q⟩
theorem O_1 (F:Fun K "__init__" "Domain.__init__" Y1 f fd) (bl:Bl K mg yA yE yN yO yP yQ yR yS yT yU yV yW yX ae yY yZ)  : aQ P w K mg base CX0 1 f fd ["self", "low", "high"] (bw K yA yE yN yO yP yQ yR yS yT yU yV yW yX ae yY yZ):=by
 refine F.ok Z1 (λvs H Q E h=>?_) (λcdv A outer s H vs Q E hr h=>?_)
 ·obtain ⟨x,dx,lo,hi,rfl,hx,q⟩:=h
  rfl
 obtain ⟨x,dx,lo,hi,rfl,hx,q⟩:=h
 refine ⟨_,(aC (cx (pv 0) (pv 1) rfl)
  (ah (cx (pv 0) (pv 2) rfl))),?_⟩
 refine ⟨_,rfl,_,rfl,x,_,dx,_,rfl,hx,bl.k_Numbers,bl.na_Numbers_low,(by show 0 < 1000;decide),_,rfl,_,rfl,x,_,dx,_,rfl,af,bl.k_Numbers,bl.na_Numbers_high,(by show 1 < 1000;decide),?_⟩
 show Q .non (upd (upd H x (.ins yV dx [("low",.int lo)])) x (.ins yV dx (bz "high" (.int hi) [("low",.int lo)])))
 rw [put2]
 exact q
theorem O_2 (F:Fun K "__init__" "Domain.__init__" Y2 f fd) (bl:Bl K mg yA yE yN yO yP yQ yR yS yT yU yV yW yX ae yY yZ)  : aQ P w K mg base CX0 1 f fd ["self", "low", "high"] (bF K yA yE yN yO yP yQ yR yS yT yU yV yW yX ae yY yZ):=by
 refine F.ok Z2 (λvs H Q E h=>?_) (λcdv A outer s H vs Q E hr h=>?_)
 ·obtain ⟨x,dx,lo,hi,rfl,hx,q⟩:=h
  rfl
 obtain ⟨x,dx,lo,hi,rfl,hx,q⟩:=h
 refine ⟨_,(aC (cx (pv 0) (pv 1) rfl)
  (ah (cx (pv 0) (pv 2) rfl))),?_⟩
 refine ⟨_,rfl,_,rfl,x,_,dx,_,rfl,hx,bl.k_Words,bl.na_Words_low,(by show 0 < 1000;decide),_,rfl,_,rfl,x,_,dx,_,rfl,af,bl.k_Words,bl.na_Words_high,(by show 1 < 1000;decide),?_⟩
 show Q .non (upd (upd H x (.ins yW dx [("low",.int lo)])) x (.ins yW dx (bz "high" (.int hi) [("low",.int lo)])))
 rw [put2]
 exact q
theorem DT (F:Fun K "borne_code" "Numbers.borne_code" Y17 f fd) (bl:Bl K mg yA yE yN yO yP yQ yR yS yT yU yV yW yX ae yY yZ)  : aQ P w K mg base CX0 1 f fd ["self", "value"] (bH K yA yE yN yO yP yQ yR yS yT yU yV yW yX ae yY yZ):=by
 refine F.ok Z17 (λvs H Q E h=>?_) (λcdv A outer s H vs Q E hr h=>?_)
 ·obtain ⟨a,v,rfl,q⟩:=h
  rfl
 obtain ⟨a,v,rfl,q⟩:=h
 refine ⟨_,(ah (aH (pv 1))),?_⟩
 exact ⟨_,rfl,q⟩
theorem DU (F:Fun K "borne_code" "Words.borne_code" Y37 f fd) (bl:Bl K mg yA yE yN yO yP yQ yR yS yT yU yV yW yX ae yY yZ)  : aQ P w K mg base CX0 1 f fd ["self", "value"] (bU K yA yE yN yO yP yQ yR yS yT yU yV yW yX ae yY yZ):=by
 refine F.ok Z37 (λvs H Q E h=>?_) (λcdv A outer s H vs Q E hr h=>?_)
 ·obtain ⟨a,zs,z,j,rfl,⟨dx,lw,ha,hw⟩,nd,ez,q⟩:=h
  rfl
 obtain ⟨a,zs,z,j,rfl,⟨dx,lw,ha,hw⟩,nd,ez,q⟩:=h
 refine ⟨_,(ah (aH (dR PySem.F.plainAttrs_list PySem.F.slot_list_index PySem.F.type_list_index qQ (aY (pv 0) rfl) (aa (pv 1) ag)))),?_⟩
 refine ⟨_,rfl,a,_,_,_,_,rfl,ha,bl.k_Words,bl.na_Words_words,rfl,.inl ⟨rfl,_,SqL.of hw⟩,_,rfl,lw,_,_,.str z,j,rfl,rfl,SqL.of hw,rfl,dn zs,df ez,by simp [eqV],λm u hm hu=>?_,q⟩
 obtain ⟨y,rfl,e⟩:=cO hu
 have:y ≠ z:=λw_=>by
  subst w_
  have:=d7 nd e ez
  lia
 simp [eqV,this]
theorem DV (F:Fun K "bears" "Words.bears" Y36 f fd) (bl:Bl K mg yA yE yN yO yP yQ yR yS yT yU yV yW yX ae yY yZ)  : aQ P w K mg base CX0 1 f fd ["self", "value"] (cP K yA yE yN yO yP yQ yR yS yT yU yV yW yX ae yY yZ):=by
 refine F.ok Z36 (λvs H Q E h=>?_) (λcdv A outer s H vs Q E hr h=>?_)
 ·obtain ⟨a,zs,z,rfl,⟨dx,lw,ha,hw⟩,hz,q⟩:=h
  rfl
 obtain ⟨a,zs,z,rfl,⟨dx,lw,ha,hw⟩,hz,q⟩:=h
 refine ⟨_,(ah (aH (dz oj (pv 1) (aY (pv 0) rfl) (by with_unfolding_all rfl)))),?_⟩
 refine ⟨_,rfl,_,rfl,a,_,_,_,_,rfl,ha,bl.k_Words,bl.na_Words_words,rfl,lw,_,rfl,.inl (SqL.of hw),rfl,dn zs,?_⟩
 show Q (.bl (inV (.str z) (zs.map V.str))) H
 rw [gW,show zs.contains z=true by simpa using hz]
 exact q
theorem O_8 (F:Fun K "chosen" "First.chosen" Y8 f fd) (bl:Bl K mg yA yE yN yO yP yQ yR yS yT yU yV yW yX ae yY yZ)  : aQ P w K mg base CX0 1 f fd ["self", "codes", "outcome"] (J1 K yO yV yW):=by
 refine F.ok Z8 (λvs H Q E h=>?_) (λcdv A outer s H vs Q E hr h=>?_)
 ·obtain ⟨x,c,o,n,ns,b,rfl,⟨dx,z,hx⟩,ho,hle,hS,hn,q⟩:=h
  rfl
 obtain ⟨x,c,o,n,ns,b,rfl,⟨dx,z,hx⟩,ho,hle,hS,hn,q⟩:=h
 refine ⟨_,(ah (aH (bc (aa aT (aa (aE aK (pv 1) aj (λ_ _=>rfl)) ag))))),?_⟩
 exact ⟨_,rfl,c,_,_,_,rfl,rfl,hS,at0 n ns,br,λt ht=>q t _ (ai ht _) (SqT.of af)⟩
theorem DW (F:Fun K "chosen" "Only.chosen" Y19 f fd) (bl:Bl K mg yA yE yN yO yP yQ yR yS yT yU yV yW yX ae yY yZ)  : aQ P w K mg base CX0 1 f fd ["self", "codes", "outcome"] (J9 K yP yV yW):=by
 refine F.ok Z19 (λvs H Q E h=>?_) (λcdv A outer s H vs Q E hr h=>?_)
 ·obtain ⟨x,c,o,n,ns,b,rfl,⟨dx,z,hx⟩,ho,hle,hS,hn,q⟩:=h
  rfl
 obtain ⟨x,c,o,n,ns,b,rfl,⟨dx,z,hx⟩,ho,hle,hS,hn,q⟩:=h
 refine ⟨_,(ah (aH (qD (aJ bX (au ar rfl bl.len_ PySem.boot_len (aa (pv 1) ag)) aj (aO _)) (bc (aa aT (aa (aE aK (pv 1) aj (λ_ _=>rfl)) ag))) (cK (v:=.ref yZ) rfl bl.CLASH_ rfl)))),?_⟩
 refine ⟨_,rfl,c,_,rfl,.inl (hS),rfl,_,rfl,?_⟩
 refine dj (λg=>?_) (λg=>?_)
 ·have e:wf 1 b.1 b.2 (n :: ns)=say n:=by
   have g':=oq g
   simp at g'
   show j3 _=_
   unfold j3
   rw [if_pos (by rw [List.length_cons];lia)]
   rfl
  rw [e] at q
  exact ⟨_,rfl,c,_,_,_,rfl,rfl,hS,at0 n ns,br,λt ht=>q t _ (ai ht _) (SqT.of af)⟩
 ·have e:wf 1 b.1 b.2 (n :: ns)=tR:=by
   have g':=tF g
   simp at g'
   show j3 _=_
   unfold j3
   rw [if_neg (by rw [List.length_cons];lia)]
  rw [e] at q
  exact q _ _ (aq.refl _) (bl.q_CLASH.sq _)
theorem DX (F:Fun K "chosen" "Like.chosen" Y12 f fd) (bl:Bl K mg yA yE yN yO yP yQ yR yS yT yU yV yW yX ae yY yZ)  : aQ P w K mg base CX0 1 f fd ["self", "codes", "outcome"] (J5 K yQ yV yW):=by
 refine F.ok Z12 (λvs H Q E h=>?_) (λcdv A outer s H vs Q E hr h=>?_)
 ·obtain ⟨x,c,o,n,ns,b,rfl,⟨dx,z,hx⟩,ho,hle,hS,hn,q⟩:=h
  rfl
 obtain ⟨x,c,o,n,ns,b,rfl,⟨dx,z,hx⟩,ho,hle,hS,hn,q⟩:=h
 refine ⟨_,(ah (aH (qD (aJ bX (au nM rfl bl.len_ PySem.boot_len (aa (bD (nK rfl) rfl bl.set_ PyProof.Rows.boot_set (aa (pv 1) ag)) ag)) aj (aO _)) (bc (aa aT (aa (aE aK (pv 1) aj (λ_ _=>rfl)) ag))) (cK (v:=.ref yZ) rfl bl.CLASH_ rfl)))),?_⟩
 refine ⟨_,rfl,c,_,rfl,hS,(by rw [List.length_cons];lia),λl hl=>?_⟩
 refine ⟨l,_,rfl,af,(by rw [List.length_cons];lia),rfl,_,rfl,?_⟩
 have sl:aq H (upd H l (xu P w l (n :: ns))):=ai hl _
 refine dj (λg=>?_) (λg=>?_)
 ·have g' : V.int _=V.int _:=oq g
  have g2:cntK (n :: ns) (n :: ns).length=1:=by injection g' with g';lia
  have g3:=oC.mp g2
  have e:wf 2 b.1 b.2 (n :: ns)=say n:=by
   show jZ _=_
   unfold jZ
   rw [if_pos (kO.mp g3),oN g3]
  rw [e] at q
  exact ⟨_,rfl,c,_,_,_,rfl,rfl,sl.seq hS,at0 n ns,br,λt ht=>q t _ (sl.trans (ai ht _)) (SqT.of af)⟩
 ·have g2:¬ cntK (n :: ns) (n :: ns).length=1:=λz=>(tF g) (by rw [z];rfl)
  have e:wf 2 b.1 b.2 (n :: ns)=tR:=by
   show jZ _=_
   unfold jZ
   rw [if_neg λz=>g2 (oC.mpr (kO.mpr z))]
  rw [e] at q
  exact q _ _ sl (bl.q_CLASH.sq _)
theorem DY (F:Fun K "chosen" "Low.chosen" Y14 f fd) (bl:Bl K mg yA yE yN yO yP yQ yR yS yT yU yV yW yX ae yY yZ)  : aQ P w K mg base CX0 1 f fd ["self", "codes", "outcome"] (J7 K yR yV yW):=by
 refine F.ok Z14 (λvs H Q E h=>?_) (λcdv A outer s H vs Q E hr h=>?_)
 ·obtain ⟨x,c,o,n,ns,b,rfl,⟨dx,z,hx⟩,ho,hle,hS,hn,q⟩:=h
  rfl
 obtain ⟨x,c,o,n,ns,b,rfl,⟨dx,z,hx⟩,ho,hle,hS,hn,q⟩:=h
 refine ⟨_,(ah (aH (bc (aa aT (aa (au (fj rfl) rfl bl.min_ PyProof.Rows.boot_min (aa (pv 1) ag)) ag))))),?_⟩
 refine ⟨_,rfl,c,_,rfl,hS,Nat.succ_pos _,λm h1 h2=>⟨br,λt ht=>q t _ (ai ht _) (SqT.of ?_)⟩⟩
 rw [af,mH h1 h2]
 rfl
theorem DZ (F:Fun K "chosen" "High.chosen" Y10 f fd) (bl:Bl K mg yA yE yN yO yP yQ yR yS yT yU yV yW yX ae yY yZ)  : aQ P w K mg base CX0 1 f fd ["self", "codes", "outcome"] (J3 K yS yV yW):=by
 refine F.ok Z10 (λvs H Q E h=>?_) (λcdv A outer s H vs Q E hr h=>?_)
 ·obtain ⟨x,c,o,n,ns,b,rfl,⟨dx,z,hx⟩,ho,hle,hS,hn,q⟩:=h
  rfl
 obtain ⟨x,c,o,n,ns,b,rfl,⟨dx,z,hx⟩,ho,hle,hS,hn,q⟩:=h
 refine ⟨_,(ah (aH (bc (aa aT (aa (au (fm rfl) rfl bl.max_ PyProof.Rows.boot_max (aa (pv 1) ag)) ag))))),?_⟩
 refine ⟨_,rfl,c,_,rfl,hS,Nat.succ_pos _,λm h1 h2=>⟨br,λt ht=>q t _ (ai ht _) (SqT.of ?_)⟩⟩
 rw [af,mI h1 h2]
 rfl
theorem D1 (F:Fun K "chosen" "Sum.chosen" Y21 f fd) (bl:Bl K mg yA yE yN yO yP yQ yR yS yT yU yV yW yX ae yY yZ)  : aQ P w K mg base CX0 1 f fd ["self", "codes", "outcome"] (J11 K yT yV yW):=by
 refine F.ok Z21 (λvs H Q E h=>?_) (λcdv A outer s H vs Q E hr h=>?_)
 ·obtain ⟨x,c,o,n,ns,b,rfl,⟨dx,z,hx⟩,⟨C,hC,dy,fs,ho,hlo,hhi,_⟩,hle,hS,hn,q⟩:=h
  rfl
 obtain ⟨x,c,o,n,ns,b,rfl,⟨dx,z,hx⟩,⟨C,hC,dy,fs,ho,hlo,hhi,_⟩,hle,hS,hn,q⟩:=h
 refine ⟨_,(ah (aH (bc (aa aT (aa (au (ir rfl) rfl bl.max_ PyProof.Rows.boot_max (aa (aY (pv 2) rfl) (aa (au (fF rfl) rfl bl.min_ PyProof.Rows.boot_min (aa (aY (pv 2) rfl) (aa (au (dP rfl) rfl bl.sum_ PyProof.Rows.boot_sum (aa (pv 1) ag)) ag))) ag))) ag))))),?_⟩
 have hk:Cls K C/\bq K C (Str.ofString "low")/\bq K C (Str.ofString "high"):=by
  rcases hC with rfl | rfl
  ·exact ⟨bl.k_Numbers,bl.na_Numbers_low,bl.na_Numbers_high⟩
  ·exact ⟨bl.k_Words,bl.na_Words_low,bl.na_Words_high⟩
 refine ⟨_,rfl,o,_,_,_,_,rfl,ho,hk.1,hk.2.1,hlo,_,rfl,o,_,_,_,_,rfl,ho,hk.1,hk.2.2,hhi,_,rfl,c,_,rfl,hS,_,_,rfl,_,_,rfl,?_⟩
 refine ⟨br,λt ht=>q t _ (ai ht _) (SqT.of ?_)⟩
 rw [af]
 have e:near b.1 b.2 (n :: ns).sum=if (if (n :: ns).sum < b.2 then (n :: ns).sum else b.2) > b.1 then (if (n :: ns).sum < b.2 then (n :: ns).sum else b.2) else b.1:=by
  unfold near
  generalize (n :: ns).sum=t
  split <;> split <;> split <;> first | rfl | lia | (split <;> lia)
 show _=some (HO.tup (tp (say (near b.1 b.2 (n :: ns).sum))))
 rw [e]
 rfl
theorem D3 (F:Fun K "is_word" "is_word" Y45 f fd) (bl:Bl K mg yA yE yN yO yP yQ yR yS yT yU yV yW yX ae yY yZ) (ra:Callee P w K mg base 1 "all_among" ["text", "signs"] (gf K yA yE yN yO yP yQ yR yS yT yU yV yW yX ae yY yZ)):aQ P w K mg base CX0 2 f fd ["text"] (eK K yA yE yN yO yP yQ yR yS yT yU yV yW yX ae yY yZ):=by
 refine F.ok Z45 (λvs H Q E h=>?_) (λcdv A outer s H vs Q E hr h=>?_)
 ·obtain ⟨z,rfl,hz,q⟩:=h
  rfl
 obtain ⟨z,rfl,hz,q⟩:=h
 refine ⟨_,(ah (aH (fe (l8 dZ dZ aj (au pb rfl bl.len_ PySem.boot_len (aa (pv 0) ag)) (my rfl bl.MOST_SIGNS_)) (fe (dz n5 (pv 0) aT (aO _)) (i4 (aW ra hr rfl (aa (pv 0) (aa (my rfl bl.SMALL_LETTERS_) ag)))))))),?_⟩
 refine ⟨_,rfl,_,rfl,big hz,_,_,rfl,rfl,_,rfl,?_⟩
 refine dj (λg1=>?_) (λg1=>?_)
 ·refine ⟨_,_,rfl,rfl,_,rfl,?_⟩
  refine dj (λg2=>?_) (λg2=>?_)
  ·refine ⟨_,rfl,rfl,_,rfl,?_⟩
   refine dj (λg3=>?_) (λg3=>?_)
   ·refine ⟨_,rfl,z,lets,rfl,?_⟩
    have e:isw z=mz z lets:=by unfold isw;rw [g1,g2,g3];rfl
    rw [e] at q;exact q
   ·have e:isw z=false:=by unfold isw;rw [Bool.eq_false_iff.mpr g3,Bool.false_and,Bool.and_false,Bool.and_false]
    rw [e] at q;exact q
  ·have e:isw z=false:=by unfold isw;rw [Bool.eq_false_iff.mpr g2,Bool.false_and,Bool.and_false]
   rw [e] at q;exact q
 ·have e:isw z=false:=by unfold isw;rw [Bool.eq_false_iff.mpr g1,Bool.false_and]
  rw [e] at q;exact ⟨_,rfl,b8 q⟩
theorem D4 (F:Fun K "refuse_domains" "refuse_domains" Y73 f fd) (bl:Bl K mg yA yE yN yO yP yQ yR yS yT yU yV yW yX ae yY yZ) (xN:Callee P w K mg base 1 "alike" ["one", "other"] (mU K yA yE yN yO yP yQ yR yS yT yU yV yW yX ae yY yZ)):aQ P w K mg base CX0 2 f fd ["facts", "tables"] (dG K yA yE yN yO yP yQ yR yS yT yU yV yW yX ae yY yZ):=by
 refine F.ok Z73 (λvs H Q E h=>?_) (λcdv A outer s H vs Q E hr h=>?_)
 ·obtain ⟨fa,ma,fv,mv,zs,ds,ts,fN,L,rfl,efa,ema,hB,q⟩:=h
  rfl
 obtain ⟨fa,ma,fv,mv,zs,ds,ts,fN,L,rfl,efa,ema,hB,q⟩:=h
 refine ⟨_,(aw (aL (i:=2) Z73.nd rfl (Or.inl rfl) (bD (jc rfl) rfl bl.dict_ PyProof.Rows.boot_dict (aa (aG mi (pv 0) (bt (aP (pv 1)) (bg rfl (by decide +kernel) (by decide +kernel) (by decide +kernel) rfl) rfl (λ_ _ _ _=>aU) (λ_ _ _ _=>(bc (aa (jX (K:=K) rfl (pv 0) rfl) (aa (jX (K:=K) rfl (pv 0) rfl) ag)))))) ag)))
  (ah (bb PassesOwn.never rfl (aP (pv 1)) (aF (i:=3) Z73.nd rfl (Or.inl rfl))
  (ah (bb PassesOwn.never rfl (rY rfl bl.zip_ (aa (aY (pv 3) rfl) (aa (aY (pv 3) rfl) ag))) (dr rfl (aN (aF (i:=4) Z73.nd rfl (Or.inl rfl)) (aN (aF (i:=5) Z73.nd rfl (Or.inl rfl)) bO)))
  (ah (aR (cw (cG (aW xN hr rfl (aa (pv 5) (aa (aE xy (pv 2) (pv 4) (λ_ _=>rfl)) ag)))))
  (ah ba)
  aI))))))),?_⟩
 obtain ⟨b1,b2,b3⟩:=hB.few
 have hfl:fv.length=fN:=by rw [hB.facts.1,List.length_range]
 have hml:mv.length=L.length:=hB.tabs.1
 have hzd:=hB.ok.len
 refine ⟨λσ' H'=>aq H H'/\∃ (da:Addr) (kvs:List (Str × V)),H' da=some (.dK (kvT kvs))/\Dt yV yW H' zs ds kvs/\σ'=[some (.ref fa),some (.ref ma),some (.ref da),none,none,none],?_,?_⟩
 ·refine ⟨_,rfl,_,rfl,ma,rfl,⟨_,SqL.of ema⟩,aZ (xs:=mv) (λD i ys H'=>aq H H'/\H' D=some (.lst ys)/\ys.length=i/\∀ (j k:Nat),j < i->L[j]?=some k->∃ (t:Addr) (po:PD) (d:Addr),ys[j]?=some (.ref t)/\ds[fN+k]?=some po/\H' t=some (.tup [.str (tnm zs fN k),.ref d])/\iI yV yW H d po.k) (λD hD=>⟨ai hD _,af,rfl,λj k hj=>by lia⟩) (λD i ys H' hD _ h=>SqL.of (h.1 _ _ ema)) (λD i y ys H' hD e h=>?_) (λD ys H' hD h=>?_)⟩
  ·obtain ⟨sm,eD,hl,hy⟩:=h
   obtain ⟨t_,k,rfl,ek,tt,nm,po,ou,dv,g1,g2,g3,g4,g5,g6⟩:=az.get hB.tabs e
   obtain ⟨rl,dx,na,dl,fs,xs,ht,f1,f2,f3,f4,f5,f6,ena,edl,erl,hR,fA⟩:=g4
   have hi:i < mv.length:=(G7.mp e).1
   refine ⟨_,rfl,t_,_,_,_,_,rfl,sm _ _ ht,bl.k_Table,bl.na_Table_name,f2,_,rfl,t_,_,_,_,_,rfl,sm _ _ ht,bl.k_Table,bl.na_Table_outcome,f4,br,λp hp=>?_⟩
   have u:=ai hp (.tup [.str nm,.ref ou])
   have ep:upd H' p (.tup [.str nm,.ref ou]) p=some (.tup [.str nm,.ref ou]):=af
   generalize upd H' p (.tup [.str nm,.ref ou])=H2 at u ep ⊢
   have eD2:=u _ _ eD
   refine bQ.mk hi eD2 (aD (by lia)) ⟨(sm.trans u).upd hD,af,by rw [List.length_append,hl];rfl,λj k' hj ek'=>?_⟩
   by_cases hji:j < i
   ·obtain ⟨t,po',d,h1,h2,h3,h4⟩:=hy j k' hji ek'
    have h3':=u _ _ h3
    exact ⟨t,po',d,by rw [List.getElem?_append_left (by lia)];exact h1,h2,(av (ck h3' eD2 (by intro z;cases z))).trans h3',h4⟩
   ·have hj2:j=i:=by lia
    subst hj2
    rw [ek] at ek'
    cases ek'
    refine ⟨p,po,ou,by rw [List.getElem?_append_right (by lia),hl,Nat.sub_self];rfl,g3,?_,g6⟩
    rw [dk g2]
    exact (av (ck ep eD2 (by intro z;cases z))).trans ep
  ·obtain ⟨sm,eD,hl,hy⟩:=h
   rw [hml] at hl
   refine ⟨fa,D,_,_,rfl,rfl,sm _ _ efa,eD,Nat.le_of_lt (aD (by lia)),λp hp=>?_⟩
   have u:=ai hp (.lst (fv ++ ys))
   have ep:upd H' p (.lst (fv ++ ys)) p=some (.lst (fv ++ ys)):=af
   generalize upd H' p (.lst (fv ++ ys))=H2 at u ep ⊢
   have s2:=sm.trans u
   obtain ⟨kvs,hkl,hkv⟩:=lE (P:=λj (a:Str × V)=>∃ (t:Addr) (d:Addr) (po:PD),(fv ++ ys)[j]?=some (.ref t)/\H2 t=some (.tup [.str a.1,.ref d])/\a.2=.ref d/\(bnm zs fN L)[j]?=some a.1/\iI yV yW H2 d po.k/\∀ (i:Nat),zs[i]?=some a.1->ds[i]?=some po) (fN+L.length) λj hj=>by
    by_cases hjf:j < fN
    ·obtain ⟨r,er,nm,po,d,h1,h2,h3,h4⟩:=hB.facts.2 j j (List.getElem?_range hjf)
     refine ⟨(nm,.ref d),r,d,po,by rw [List.getElem?_append_left (by lia)];exact er,s2 _ _ h3,rfl,?_,h4.same s2,λi ei=>?_⟩
     ·unfold bnm
      rw [List.getElem?_append_left (by rw [List.length_take];lia),List.getElem?_take,if_pos hjf]
      exact h1
     ·rw [d7 hB.ok.nd ei h1];exact h2
    ·have hjl:j - fN < L.length:=by lia
     have ek:=G6 hjl
     obtain ⟨t,po,d,h1,h2,h3,h4⟩:=hy (j - fN) _ (by lia) ek
     have htn:=hB.tn (G8 ek)
     refine ⟨(tnm zs fN L[j - fN],.ref d),t,d,po,by rw [List.getElem?_append_right (by lia),hfl];exact h1,u _ _ h3,rfl,?_,h4.same s2,λi ei=>?_⟩
     ·unfold bnm
      rw [List.getElem?_append_right (by rw [List.length_take];lia),List.length_take,show j - min fN zs.length=j - fN by lia,List.getElem?_map,ek]
      rfl
     ·rw [d7 hB.ok.nd ei htn];exact h2
   have mE:kvs.map (·.1)=bnm zs fN L:=by
    refine List.ext_getElem? λj=>?_
    rw [List.getElem?_map]
    cases e:kvs[j]? with
    | none =>
     have hlj:kvs.length<=j:=by rw [List.getElem?_eq_none_iff] at e;exact e
     rw [List.getElem?_eq_none (by unfold bnm;rw [List.length_append,List.length_take,List.length_map];lia)]
     rfl
    | some a =>
     obtain ⟨t,d,po,_,_,_,e4,_⟩:=hkv j a e
     rw [e4];rfl
   refine ⟨p,fv ++ ys,kvs,rfl,ep,by rw [List.length_append,hkl];lia,λj a ea=>?_,by rw [mE];exact hB.bnd_,λda hda=>?_⟩
   ·obtain ⟨t,d,po,e1,e2,e3,_⟩:=hkv j a ea
    exact ⟨t,e1,by rw [e3];exact e2⟩
   ·have u2:=ai hda (.dK (kvT kvs))
    refine ⟨s2.trans u2,da,kvs,af,λj z po ez ed=>?_,rfl⟩
    have hm:=hB.has (G8 ez)
    rw [← mE] at hm
    obtain ⟨a,ha,rfl⟩:=List.mem_map.mp hm
    obtain ⟨i,ei⟩:=List.getElem?_of_mem ha
    obtain ⟨t,d,po',e1,e2,e3,e4,e5,e6⟩:=hkv i a ei
    have:=e6 j ez
    rw [ed] at this
    cases this
    refine ⟨d,?_,e5.same u2⟩
    rw [← e3]
    exact pG (by rw [mE];exact hB.bnd_) ei
 rintro σ1 H1 ⟨s1,da,kvs,eda,D5,rfl⟩
 refine ⟨_,rfl,ma,rfl,⟨_,SqL.of (s1 _ _ ema)⟩,bf (xs:=mv) (λi σ H'=>aq H1 H'/\∃ c3 c4 c5:Option V,σ=[some (.ref fa),some (.ref ma),some (.ref da),c3,c4,c5]) ⟨aq.refl _,_,_,_,rfl⟩ (λi σ H' _ h=>SqL.of (h.1 _ _ (s1 _ _ ema))) (λi y σ H' e h=>?_) (λσ H' h=>q H' (s1.trans h.1))⟩
 obtain ⟨sm,c3,c4,c5,rfl⟩:=h
 obtain ⟨t_,k,rfl,ek,tt,nm,po,ou,dv,g1,g2,g3,g4,g5,g6⟩:=az.get hB.tabs e
 obtain ⟨rl,dx,na,dl,fs,xs,ht,f1,f2,f3,f4,f5,f6,ena,edl,erl,hR,fA⟩:=g4
 have sA:=s1.trans sm
 have hlt:=hB.ok.lt g1
 have ltz:∀ j ∈ tt.cols,j < zs.length:=λj hj=>by rw [hzd];exact hlt j hj
 have gz:=cM (os:=tt.cols) (xs:=zs) ltz
 have gk:=cM (os:=tt.cols) (xs:=ds.map PD.k) λj hj=>by rw [List.length_map];exact hlt j hj
 refine ⟨_,rfl,t_,_,_,_,_,rfl,sA _ _ ht,bl.k_Table,bl.na_Table_names,f5,_,rfl,t_,_,_,_,_,rfl,sA _ _ ht,bl.k_Table,bl.na_Table_domains,f6,na,dl,rfl,⟨_,SqL.of (sA _ _ ena)⟩,⟨_,SqL.of (sA _ _ edl)⟩,ph (xs:=(prm tt.cols zs).map V.str) (ys:=dv) (λi σ H2=>aq H' H2/\∃ c4 c5:Option V,σ=[some (.ref fa),some (.ref ma),some (.ref da),some (.ref t_),c4,c5]) ⟨aq.refl _,_,_,rfl⟩ (λi σ H2 h=>⟨SqL.of ((sA.trans h.1) _ _ ena),SqL.of ((sA.trans h.1) _ _ edl)⟩) (λi x y σ H2 T ex ey h hT=>?_) (λσ H2 h=>⟨sm.trans h.1,let ⟨c4,c5,e⟩:=h.2;⟨_,c4,c5,e⟩⟩)⟩
 obtain ⟨s2,d4,d5,rfl⟩:=h
 obtain ⟨z,rfl,ez⟩:=cO ex
 obtain ⟨a,kk,rfl,ekk,ha⟩:=az.get g5 ey
 have hi:i < tt.cols.length:=by rw [← gz.1];exact (G7.mp ez).1
 have ec:=G6 hi
 rw [gz.2 i _ ec] at ez
 rw [gk.2 i _ ec,List.getElem?_map] at ekk
 obtain ⟨p,ep⟩:∃ p,ds[tt.cols[i]]?=some p:=⟨_,G6 (hlt _ (G8 ec))⟩
 rw [ep] at ekk
 cases ekk
 obtain ⟨d,hd1,hd2⟩:=D5 _ z p ez ep
 have u:=ai hT (.tup [.str z,.ref a])
 have eT:upd H2 T (.tup [.str z,.ref a]) T=some (.tup [.str z,.ref a]):=af
 generalize upd H2 T (.tup [.str z,.ref a])=H3 at u eT ⊢
 have sB:=(sm.trans s2).trans u
 refine ⟨T,_,rfl,SqT.of eT,rfl,_,_,rfl,_,_,rfl,rfl,?_⟩
 exact ⟨_,rfl,_,rfl,_,rfl,da,kvs,z,.ref d,rfl,rfl,sB _ _ eda,hd1,a,d,p.k,rfl,(ha.same s1).same sB,hd2.same sB,_,rfl,b8 ⟨s2.trans u,_,_,rfl⟩⟩
theorem D6 (F:Fun K "refuse_rings" "refuse_rings" Y76 f fd) (bl:Bl K mg yA yE yN yO yP yQ yR yS yT yU yV yW yX ae yY yZ) (fB:Callee P w K mg base 1 "named_among" ["table", "names"] (dF K yA yE yN yO yP yQ yR yS yT yU yV yW yX ae yY yZ)):aQ P w K mg base CX0 2 f fd ["tables"] (dW K yA yE yN yO yP yQ yR yS yT yU yV yW yX ae yY yZ):=by
 refine F.ok Z76 (λvs H Q E h=>?_) (λcdv A outer s H vs Q E hr h=>?_)
 ·obtain ⟨ma,mv,zs,ds,ts,fN,L,rfl,ema,ok,hm,hlt,h7,q⟩:=h
  rfl
 obtain ⟨ma,mv,zs,ds,ts,fN,L,rfl,ema,ok,hm,hlt,h7,q⟩:=h
 refine ⟨_,(aC (aL (i:=1) Z76.nd rfl (Or.inl rfl) (pv 0))
  (ah (uS PassesOwn.never (dB (pv 1) (by intro _;rfl))
  (aw (aL (i:=2) Z76.nd rfl (Or.inr rfl) (bt (aP (pv 1)) (bg rfl (by decide +kernel) (by decide +kernel) (by decide +kernel) rfl) rfl (λ_ _ _ _=>aU) (λ_ _ _ _=>(jX (K:=K) rfl (pv 0) rfl))))
  (aw (d9 (i:=3) Z76.nd rfl (Or.inl rfl) (aP (pv 1)) (aX (N:=["table", "names"]) (fr:=[2]) (cl:=[("names",s.heap.objs.size+1)]) rfl rfl (by decide +kernel) (by decide +kernel) rfl (by decide +kernel) rfl rfl rfl (List.forall_mem_cons.mpr ⟨rfl,List.forall_mem_nil _⟩) rfl) rfl (λ_ _ _ _=>(eQ (oF (K:=K) rfl (aW fB hr rfl (aa (pv 0) (aa (pv 1) ag)))))) (λ_ _ _ _=>(pv 0)))
  (aC (aR (aJ bX (au ar rfl bl.len_ PySem.boot_len (aa (pv 3) ag)) (au ar rfl bl.len_ PySem.boot_len (aa (pv 1) ag)) (aO _))
  (ah ba)
  aI)
  (ah (aL (i:=1) Z76.nd rfl (Or.inl rfl) (pv 3))))))))),?_⟩
 refine ⟨_,rfl,?_⟩
 refine ⟨λm σ H'=>aq H H'/\∃ (la:Addr) (lv:List V) (L' : List Nat) (c2 c3:Option V),H' la=some (.lst lv)/\az lv L' (TbA yX yV yW H zs ds ts fN)/\(∀ k ∈ L',k < ts.length)/\L'.length=m/\m<=7/\σ=[some (.ref ma),some (.ref la),c2,c3],⟨_,aq.refl _,ma,mv,L,_,_,ema,hm,hlt,rfl,h7,rfl⟩,?_⟩
 rintro m σ H1 ⟨s1,la,lv,L',c2,c3,ela,hv,Cd,hlen,hm7,rfl⟩
 have hvl:lv.length=L'.length:=hv.1
 by_cases hne:L'=[]
 ·have elv:lv=[]:=List.length_eq_zero_iff.mp (by rw [hvl,hne];rfl)
  subst elv
  exact ⟨_,rfl,false,.inl ⟨_,SqL.of ela,rfl⟩,b8 (q H1 s1)⟩
 have hb:(!lv.isEmpty)=true:=by
  cases lv with
  | nil=>exact absurd (List.length_eq_zero_iff.mp hvl.symm) hne
  | cons=>rfl
 refine ⟨_,rfl,true,.inl ⟨_,SqL.of ela,hb.symm⟩,dJ ⟨λσ' H'=>∃ m',m' < m/\aq H H'/\∃ (la:Addr) (lv:List V) (L' : List Nat) (c2 c3:Option V),H' la=some (.lst lv)/\az lv L' (TbA yX yV yW H zs ds ts fN)/\(∀ k ∈ L',k < ts.length)/\L'.length=m'/\m'<=7/\σ'=[some (.ref ma),some (.ref la),c2,c3],λ_ _ h=>h,?_⟩⟩
 refine ⟨λσ' H'=>aq H1 H'/\∃ na:Addr,H' na=some (.lst ((L'.map (tnm zs fN)).map V.str))/\σ'=[some (.ref ma),some (.ref la),some (.ref na),c3],?_,?_⟩
 ·refine ⟨_,rfl,la,rfl,⟨_,SqL.of ela⟩,aZ (xs:=lv) (λD2 i ys H2=>aq H1 H2/\H2 D2=some (.lst ys)/\ys=((L'.take i).map (tnm zs fN)).map V.str) (λD2 hD2=>⟨ai hD2 _,af,rfl⟩) (λD2 i ys H2 hD2 _ h=>SqL.of (h.1 _ _ ela)) (λD2 i y ys H2 hD2 e h=>?_) (λD2 ys H2 hD2 h=>?_)⟩
  ·obtain ⟨s2,eD2,rfl⟩:=h
   obtain ⟨t_,k,rfl,ek,tt,nm,po,ou,dv,g1,g2,g3,g4,g5,g6⟩:=az.get hv e
   obtain ⟨rl,dx,na,dl,fs,xs,ht,f1,f2,f3,f4,f5,f6,ena,edl,erl,hR,fA⟩:=g4
   have hi:i < lv.length:=(G7.mp e).1
   refine ⟨_,rfl,t_,_,_,_,_,rfl,(s1.trans s2) _ _ ht,bl.k_Table,bl.na_Table_name,f2,bQ.mk hi eD2 (aD (by rw [List.length_map,List.length_map,List.length_take];lia)) ⟨s2.upd hD2,af,?_⟩⟩
   rw [take_snoc ek,List.map_append,List.map_append]
   show _ ++ [V.str nm]=_ ++ [V.str (tnm zs fN k)]
   rw [dk g2]
  ·obtain ⟨s2,eD2,rfl⟩:=h
   rw [hvl,List.take_length] at eD2
   exact ⟨s2,D2,eD2,rfl⟩
 rintro σ2 H2 ⟨s2,na,ena,rfl⟩
 have s12:=s1.trans s2
 refine ⟨λσ' H'=>aq H2 H'/\∃ (wa:Addr) (wv:List V),H' wa=some (.lst wv)/\az wv (L'.filter (wts ts fN L')) (TbA yX yV yW H zs ds ts fN)/\σ'=[some (.ref ma),some (.ref la),some (.ref na),some (.ref wa)],?_,?_⟩
 ·refine ⟨_,rfl,la,rfl,⟨_,SqL.of (s2 _ _ ela)⟩,aZ (xs:=lv) (λD2 i ys H3=>aq H2 H3/\H3 D2=some (.lst ys)/\az ys ((L'.take i).filter (wts ts fN L')) (TbA yX yV yW H zs ds ts fN)) (λD2 hD2=>⟨ai hD2 _,af,az.nil⟩) (λD2 i ys H3 hD2 _ h=>SqL.of ((s2.trans h.1) _ _ ela)) (λD2 i y ys H3 hD2 e h=>?_) (λD2 ys H3 hD2 h=>?_)⟩
  ·obtain ⟨s3,eD2,hy⟩:=h
   obtain ⟨t_,k,rfl,ek,hT⟩:=az.get hv e
   obtain ⟨tt,nm,po,ou,dv,g1,g2,g3,g4,g5,g6⟩:=id hT
   have hi:i < lv.length:=(G7.mp e).1
   have sA:=s12.trans s3
   have hcl:=(ok.tabs k tt g1).ok.few
   have hcl:tt.cols.length<=3:=hcl
   have hpl:(prm tt.cols zs).length=tt.cols.length:=(cM (os:=tt.cols) (xs:=zs) λj hj=>by rw [ok.len];exact ok.lt g1 j hj).1
   refine ⟨_,rfl,_,rfl,t_,na,ou,nm,tt.way,prm tt.cols zs,L'.map (tnm zs fN),dv,tt.rows,rfl,g4.same sA,s3 _ _ ena,by lia,λl H4 s4 nl el=>?_⟩
   have hw:=uI ok Cd g1
   have eD4:=s4 _ _ eD2
   have hfl:((L'.take i).filter (wts ts fN L')).length<=i:=Nat.le_trans (List.length_filter_le ..) (by rw [List.length_take];lia)
   have hf:((L'.take (i+1)).filter (wts ts fN L'))=((L'.take i).filter (wts ts fN L')) ++ (if wts ts fN L' k then [k] else []):=by
    rw [take_snoc ek,List.filter_append]
    congr 1
    cases h:wts ts fN L' k with
    | true=>rw [List.filter_cons_of_pos h,List.filter_nil];rfl
    | false=>rw [List.filter_cons_of_neg (by rw [h];exact Bool.false_ne_true),List.filter_nil];rfl
   refine ⟨wts ts fN L' k,.inl ⟨_,SqL.of el,?_⟩,?_⟩
   ·rw [← hw]
    cases (prm tt.cols zs).filter λz=>(L'.map (tnm zs fN)).contains z <;> rfl
   cases hc:wts ts fN L' k with
   | true =>
    rw [hc] at hf
    refine dJ ⟨_,rfl,bQ.mk hi eD4 (aD (by rw [hy.1];lia)) ⟨(s3.trans s4).upd hD2,af,?_⟩⟩
    rw [hf]
    exact az.snoc hy hT
   | false =>
    rw [hc] at hf
    refine b8 (d6.mk (zs:=ys) hi ⟨s3.trans s4,eD4,?_⟩)
    rw [hf]
    simpa using hy
  ·obtain ⟨s3,eD2,hy⟩:=h
   rw [hvl,List.take_length] at hy
   exact ⟨s3,D2,ys,eD2,hy,rfl⟩
 rintro σ3 H3 ⟨s3,wa,wv,ewa,hw,rfl⟩
 have Ce:=vU ok hne
 have hwl:wv.length=(L'.filter (wts ts fN L')).length:=hw.1
 refine ⟨_,rfl,wa,_,rfl,.inl (SqL.of ewa),_,rfl,la,_,rfl,.inl (SqL.of (s3 _ _ (s2 _ _ ela))),rfl,_,rfl,bM (λz=>by injection z with z;lia) ?_⟩
 exact ⟨_,rfl,_,by rw [← hlen];exact Ce,s12.trans s3,wa,wv,_,_,_,ewa,hw,(λk hk=>Cd k (List.mem_filter.mp hk).1),rfl,by lia,rfl⟩
theorem D7 (F:Fun K "asks" "asks" Y40 f fd) (bl:Bl K mg yA yE yN yO yP yQ yR yS yT yU yV yW yX ae yY yZ) (fB:Callee P w K mg base 1 "named_among" ["table", "names"] (dF K yA yE yN yO yP yQ yR yS yT yU yV yW yX ae yY yZ)) (ji:CalleeX P w K mg base 1 "table_of" ["book", "name"] (eW K yA yE yN yO yP yQ yR yS yT yU yV yW yX ae yY yZ)):aQ P w K mg base (CX1 P w) 2 f fd ["book", "name"] (pJ K yA yE yN yO yP yQ yR yS yT yU yV yW yX ae yY yZ):=by
 refine F.okE Z40 (λvs H Q E h=>?_) (λcdv A outer s H vs Q E hr h=>?_)
 ·obtain ⟨b,nm,zs,ds,ts,fN,mv,L,rfl,hB,hs,q,qE⟩:=h
  rfl
 obtain ⟨b,nm,zs,ds,ts,fN,mv,L,rfl,hB,hs,q,qE⟩:=h
 refine ⟨_,(ah (aH (aW fB hr rfl (aa (fi ji oA hr rfl (aa (pv 0) (aa (pv 1) ag))) (aa (bt (aP (aY (pv 0) rfl)) (bg rfl (by decide +kernel) (by decide +kernel) (by decide +kernel) rfl) rfl (λ_ _ _ _=>aU) (λ_ _ _ _=>(jX (K:=K) rfl (pv 0) rfl))) ag))))),?_⟩
 obtain ⟨dx,fs,ta,fb,gv,hb,ft,eta,_⟩:=hB.bk
 have hml:mv.length=L.length:=hB.tabs.1
 have h7:=hB.few
 refine ⟨_,rfl,_,rfl,b,nm,zs,ds,ts,fN,mv,L,rfl,hB,hs,λa k _ _ _ hk hn hT=>?_,qE⟩
 obtain ⟨tt,nm2,po,ou,dv,g1,g2,g3,g4,g5,g6⟩:=id hT
 have hcl:tt.cols.length<=3:=(hB.ok.tabs k tt g1).ok.few
 have hpl:(prm tt.cols zs).length=tt.cols.length:=(cM (os:=tt.cols) (xs:=zs) λj hj=>by rw [hB.ok.len];exact hB.ok.lt g1 j hj).1
 refine ⟨_,rfl,b,_,_,_,_,rfl,hb,bl.k_Book,bl.na_Book_tables,ft,ta,rfl,⟨_,SqL.of eta⟩,aZ (xs:=mv) (λD2 i ys H2=>aq H H2/\H2 D2=some (.lst ys)/\ys=((L.take i).map (tnm zs fN)).map V.str) (λD2 hD2=>⟨ai hD2 _,af,rfl⟩) (λD2 i ys H2 hD2 _ h=>SqL.of (h.1 _ _ eta)) (λD2 i y ys H2 hD2 e h=>?_) (λD2 ys H2 hD2 h=>?_)⟩
 ·obtain ⟨s2,eD2,rfl⟩:=h
  obtain ⟨t_,k,rfl,ek,tt,nm,po,ou,dv,g1,g2,g3,g4,g5,g6⟩:=az.get hB.tabs e
  obtain ⟨rl,dx,na,dl,fs,xs,ht,f1,f2,f3,f4,f5,f6,ena,edl,erl,hR,fA⟩:=g4
  have hi:i < mv.length:=(G7.mp e).1
  refine ⟨_,rfl,t_,_,_,_,_,rfl,s2 _ _ ht,bl.k_Table,bl.na_Table_name,f2,bQ.mk hi eD2 (aD (by rw [List.length_map,List.length_map,List.length_take];lia)) ⟨s2.upd hD2,af,?_⟩⟩
  rw [take_snoc ek,List.map_append,List.map_append]
  show _ ++ [V.str nm]=_ ++ [V.str (tnm zs fN k)]
  rw [dk g2]
 ·obtain ⟨s2,eD2,rfl⟩:=h
  rw [hml,List.take_length] at eD2
  exact ⟨a,D2,ou,nm2,tt.way,prm tt.cols zs,L.map (tnm zs fN),dv,tt.rows,rfl,g4.same s2,eD2,by lia,λl H4 s4 nl el=>q k tt l H4 hk hn g1 (s2.trans s4) (s2.free nl) el⟩
theorem D8 (F:Fun K "fits" "fits" Y42 f fd) (bl:Bl K mg yA yE yN yO yP yQ yR yS yT yU yV yW yX ae yY yZ) (xO:Callee P w K mg base 1 "holds" ["spans", "number"] (mV K yA yE yN yO yP yQ yR yS yT yU yV yW yX ae yY yZ)):aQ P w K mg base CX0 2 f fd ["table", "k", "codes"] (pK K yA yE yN yO yP yQ yR yS yT yU yV yW yX ae yY yZ):=by
 refine F.ok Z42 (λvs H Q E h=>?_) (λcdv A outer s H vs Q E hr h=>?_)
 ·obtain ⟨t,rl,c,dx,fs,xs,rws,k,w_,cs,rfl,ht,hf,hl,hR,ek,hS,hlen,q⟩:=h
  rfl
 obtain ⟨t,rl,c,dx,fs,xs,rws,k,w_,cs,rfl,ht,hf,hl,hR,ek,hS,hlen,q⟩:=h
 refine ⟨_,(aC (aL (i:=3) Z42.nd rfl (Or.inl rfl) (aE aS (aE aK (aY (pv 0) rfl) (pv 1) (λ_ _=>rfl)) aj (λ_ _=>rfl)))
  (aC (bb PassesOwn.never rfl (rY rfl bl.zip_ (aa (pv 3) (aa (pv 2) ag))) (dr rfl (aN (aF (i:=4) Z42.nd rfl (Or.inl rfl)) (aN (aF (i:=5) Z42.nd rfl (Or.inl rfl)) bO)))
  (ah (aR (cw (cG (aW xO hr rfl (aa (pv 4) (aa (pv 5) ag)))))
  (ah (aH fE))
  aI)))
  (ah (aH fE)))),?_⟩
 obtain ⟨r,er,ce,cv,e1,_,e2,hcl⟩:=hR.2 k w_ ek
 refine ⟨_,rfl,t,_,_,_,_,rfl,ht,bl.k_Table,bl.na_Table_rows,hf,_,rfl,rl,_,_,_,rfl,rfl,SqL.of hl,aM er,r,_,_,_,rfl,rfl,SqT.of e1,rfl,?_⟩
 refine ⟨_,rfl,_,rfl,ce,c,rfl,⟨_,SqL.of e2⟩,⟨_,hS⟩,ph (xs:=cv) (ys:=cs.map V.int) (λi σ H'=>aq H H'/\(∀ j,j < i->inP (w_.1.getD j []) (cs.getD j 0)=true)/\∃ c4 c5:Option V,σ=[some (.ref t),some (.int k),some (.ref c),some (.ref ce),c4,c5]) ⟨aq.refl _,(λj h=>absurd h (Nat.not_lt_zero j)),_,_,rfl⟩ (λi σ H' h=>⟨SqL.of (h.1 _ _ e2),h.1.seq hS⟩) (λi x y σ H' T ex ey h hT=>?_) (λσ H' h=>?_)⟩
 ·obtain ⟨sm,cy,c4,c5,rfl⟩:=h
  have s2:=sm.trans (ai hT (.tup [x,y]))
  have eT:upd H' T (.tup [x,y]) T=some (.tup [x,y]):=af
  generalize upd H' T (.tup [x,y])=H2 at s2 eT ⊢
  obtain ⟨l,ps,rfl,ep,hl'⟩:=az.get hcl ex
  obtain ⟨_,ys,el,hp⟩:=hl'.same s2
  obtain ⟨n,rfl,en⟩:=of_map ey
  refine ⟨T,_,rfl,SqT.of eT,rfl,_,_,rfl,_,_,rfl,rfl,?_⟩
  refine ⟨_,rfl,_,rfl,l,ys,ps,n,rfl,SqL.of el,hp,_,rfl,?_⟩
  have g1:w_.1.getD i []=ps:=by rw [List.getD_eq_getElem?_getD,ep];rfl
  have g2:cs.getD i 0=n:=by rw [List.getD_eq_getElem?_getD,en];rfl
  cases hin:inP ps n with
  | true =>
   refine b8 ⟨s2,λj hj=>?_,_,_,rfl⟩
   by_cases hji:j < i
   ·exact cy j hji
   ·have:j=i:=by lia
    subst this
    rw [g1,g2];exact hin
  | false =>
   refine dJ ?_
   have e:nO w_.1 cs=false:=by
    unfold nO
    rw [List.all_eq_false]
    refine ⟨i,List.mem_range.mpr (G7.mp en).1,?_⟩
    rw [g1,g2,hin];decide
   have q2:=q H2 s2
   rw [e] at q2
   exact q2
 ·obtain ⟨sm,cy,c4,c5,rfl⟩:=h
  have e:nO w_.1 cs=true:=by
   unfold nO
   rw [List.all_eq_true]
   intro j hj
   refine cy j ?_
   have h1:=hcl.1
   rw [List.length_map]
   have:=List.mem_range.mp hj
   lia
  have q2:=q H' sm
  rw [e] at q2
  exact q2
theorem D9 (F:Fun K "_law_domain" "_law_domain" Y51 f fd) (bl:Bl K mg yA yE yN yO yP yQ yR yS yT yU yV yW yX ae yY yZ) (gn:Callee P w K mg base 1 "_law_words" ["cell", "count"] (ee K yA yE yN yO yP yQ yR yS yT yU yV yW yX ae yY yZ)):aQ P w K mg base CX0 2 f fd ["cell"] (fq K yA yE yN yO yP yQ yR yS yT yU yV yW yX ae yY yZ):=by
 refine F.ok Z51 (λvs H Q E h=>?_) (λcdv A outer s H vs Q E hr h=>?_)
 ·obtain ⟨c,rfl,q⟩:=h
  rfl
 obtain ⟨c,rfl,q⟩:=h
 refine ⟨_,(aw (aL (i:=1) Z51.nd rfl (Or.inl rfl) (aG cH (aG bj (aG bA (pv 0) aj) (aG l6 aj aj)) (aG gN aj (aG l6 aj aj))))
  (aw (aL (i:=2) Z51.nd rfl (Or.inl rfl) (aG bj (aG bA (pv 0) aj) (aG l6 aj aj)))
  (aC (aR (aJ bX (aG bj (pv 0) aj) aj (aO _))
  (aC (aL (i:=3) Z51.nd rfl (Or.inl rfl) (aW gn hr rfl (aa (aG bA (pv 0) aj) (aa (aG bC aj (aG bj (aG bA (pv 0) aj) aj)) ag))))
  (ah (aH (bc (aa aj (aa (aG cH (au ar rfl bl.len_ PySem.boot_len (aa (pv 3) ag)) aj) (aa (pv 3) ag)))))))
  aI)
  (aw (aR (aJ bX (aG bj (pv 0) aj) aj (aO _))
  (ah (aL (i:=2) Z51.nd rfl (Or.inl rfl) (aG bj (aG bA (pv 0) aj) aj)))
  aI)
  (ah (aH (bc (aa (pv 1) (aa (aG bC (pv 1) (pv 2)) (aa (bK ag) ag)))))))))),?_⟩
 have k1:(10 ^ 30:Nat) * 10=10 ^ 31:=by decide
 have k2:(10 ^ 29:Nat) * 100=10 ^ 31:=by decide
 have k3:(1000:Nat)<=10 ^ 31:=by decide
 refine ⟨λσ' H'=>H'=H/\∃ lo:Int,-(5 * ((10 ^ 29:Nat):Int))<=lo/\lo < ((10 ^ 30:Nat):Int)/\σ'=[some (.int c),some (.int lo),none,none],?_,?_⟩
 ·have x0:=Int.emod_nonneg (c / 3) (Int.ne_of_gt (p10 (30:Int).toNat))
  have x1:=Int.emod_lt_of_pos (c / 3) (p10 (30:Int).toNat)
  refine ⟨_,rfl,_,_,rfl,rfl,⟨by decide,by decide⟩,_,_,rfl,rfl,⟨by decide,by decide,by decide⟩,_,_,rfl,rfl,p10 _,_,_,rfl,rfl,⟨by decide,by decide,by decide⟩,_,_,rfl,rfl,.inl ⟨by decide,by decide⟩,_,_,rfl,rfl,rfl,_,?_,?_,rfl⟩
  ·rw [p30] at x0 x1 ⊢
   rw [p29]
   generalize ((10 ^ 30:Nat):Int)=A at x0 x1 ⊢
   generalize ((10 ^ 29:Nat):Int)=B at *
   lia
  ·rw [p30] at x0 x1 ⊢
   rw [p29]
   have:(0:Int)<=((10 ^ 29:Nat):Int):=Int.natCast_nonneg _
   generalize ((10 ^ 30:Nat):Int)=A at x0 x1 ⊢
   generalize ((10 ^ 29:Nat):Int)=B at *
   lia
 rintro σ1 H1 ⟨rfl,lo,g0,g1,rfl⟩
 refine ⟨λσ' H'=>H'=H1/\∃ w:Int,0<=w/\w < ((10 ^ 30:Nat):Int)/\σ'=[some (.int c),some (.int lo),some (.int w),none],?_,?_⟩
 ·have x0:=Int.emod_nonneg (c / 7) (Int.ne_of_gt (p10 (30:Int).toNat))
  have x1:=Int.emod_lt_of_pos (c / 7) (p10 (30:Int).toNat)
  refine ⟨_,rfl,_,_,rfl,rfl,⟨by decide,by decide⟩,_,_,rfl,rfl,⟨by decide,by decide,by decide⟩,_,_,rfl,rfl,p10 _,rfl,_,x0,?_,rfl⟩
  rw [p30] at x1 ⊢
  exact x1
 rintro σ2 H2 ⟨rfl,w,w0,w1,rfl⟩
 refine ⟨_,rfl,_,_,rfl,rfl,(by show (0:Int) < 3;decide),rfl,_,rfl,?_⟩
 refine dj (λ_=>?_) (λ_=>?_)
 ·have y0:=Int.emod_nonneg (c / 3) (show (6:Int) ≠ 0 by decide)
  have y1:=Int.emod_lt_of_pos (c / 3) (show (0:Int) < 6 by decide)
  obtain ⟨n,en⟩:∃ n:Nat,1+c / 3 % 6=(n:Int):=⟨_,(Int.toNat_of_nonneg (by lia)).symm⟩
  refine ⟨_,rfl,_,_,rfl,rfl,⟨by decide,by decide⟩,_,rfl,_,_,rfl,rfl,⟨by decide,by decide⟩,_,_,rfl,rfl,(by show (0:Int) < 6;decide),_,_,rfl,rfl,c / 18,n,by rw [← en],by lia,λl H3 s3 nl el=>?_⟩
  have hg:=vQ (c:=c / 18) (n:=n) (by lia) (by lia)
  have hl:=j5 (c / 18) n
  generalize lws (c / 18) n=zs at el hg hl
  have hm:(zs.map V.str).length=zs.length:=List.length_map _
  refine ⟨_,rfl,l,_,rfl,.inl (SqL.of el),_,_,rfl,rfl,_,rfl,(by show 3<=sizeLine;decide),λr hr=>?_⟩
  refine q r ⟨0,((zs.map V.str).length:Int) - 1,zs,[]⟩ _ (s3.trans (ai hr _)) ⟨l,s3.free hr,nl,af,ai hr _ _ _ el⟩ ⟨by show (0:Int)<=((zs.map V.str).length:Int) - 1;lia,λ_=>⟨hg,rfl,by show ((zs.map V.str).length:Int) - 1=hiW zs;unfold hiW;rw [hm]⟩,λx x0 x1=>?_⟩
  have x0:0<=x:=x0
  have x1:x<=((zs.map V.str).length:Int) - 1:=x1
  exact B9 x0 (by lia)
 refine ⟨λσ' H'=>H'=H2/\∃ w:Int,0<=w/\w < ((10 ^ 30:Nat):Int)/\σ'=[some (.int c),some (.int lo),some (.int w),none],?_,?_⟩
 ·refine ⟨_,rfl,_,_,rfl,rfl,(by show (0:Int) < 3;decide),rfl,_,rfl,?_⟩
  refine dj (λ_=>?_) (λ_=>⟨rfl,w,w0,w1,rfl⟩)
  have x0:=Int.emod_nonneg (c / 7) (show (9:Int) ≠ 0 by decide)
  have x1:=Int.emod_lt_of_pos (c / 7) (show (0:Int) < 9 by decide)
  refine ⟨_,rfl,_,_,rfl,rfl,⟨by decide,by decide⟩,_,_,rfl,rfl,(by show (0:Int) < 9;decide),rfl,_,x0,?_,rfl⟩
  have:(9:Int)<=((10 ^ 30:Nat):Int):=by decide
  exact Int.lt_of_lt_of_le x1 this
 clear w0 w1 w
 rintro σ3 H3 ⟨rfl,w,w0,w1,rfl⟩
 refine ⟨_,rfl,_,rfl,_,rfl,_,_,rfl,rfl,(by show 0<=sizeLine;decide),λl hl=>?_⟩
 have u1:=ai hl (.lst [])
 have e1:upd H3 l (.lst []) l=some (.lst []):=af
 generalize upd H3 l (.lst [])=H4 at u1 e1 ⊢
 refine ⟨(by show 3<=sizeLine;decide),λr hr=>?_⟩
 refine q r ⟨lo,lo+w,[],[]⟩ _ (u1.trans (ai hr _)) ⟨l,u1.free hr,hl,af,ai hr _ _ _ e1⟩ ⟨by show lo<=lo+w;lia,λh=>absurd rfl h,λx x0 x1=>?_⟩
 have x0:lo<=x:=x0
 have x1:x<=lo+w:=x1
 refine Ca ?_ ?_
 ·generalize (10 ^ 30:Nat)=A at *
  generalize (10 ^ 29:Nat)=B at *
  generalize (10 ^ 31:Nat)=C at *
  lia
 ·generalize (10 ^ 30:Nat)=A at *
  generalize (10 ^ 29:Nat)=B at *
  generalize (10 ^ 31:Nat)=C at *
  lia
theorem Ea (F:Fun K "_law_row" "_law_row" Y59 f fd) (bl:Bl K mg yA yE yN yO yP yQ yR yS yT yU yV yW yX ae yY yZ) (pM:Callee P w K mg base 1 "_law_spans" ["kind", "one", "two", "domain"] (gg K yA yE yN yO yP yQ yR yS yT yU yV yW yX ae yY yZ)):aQ P w K mg base CX0 2 f fd ["columns", "domains", "pools", "own", "number"] (jh K yA yE yN yO yP yQ yR yS yT yU yV yW yX ae yY yZ):=by
 refine F.ok Z59 (λvs H Q E h=>?_) (λcdv A outer s H vs Q E hr h=>?_)
 ·obtain ⟨cl,dl,pl,ow,n,cols,dv,pvs,ds,rfl,hcl,hdl,hds,hpl,hps,hlt,how,h10,q⟩:=h
  rfl
 obtain ⟨cl,dl,pl,ow,n,cols,dv,pvs,ds,rfl,hcl,hdl,hds,hpl,hps,hlt,how,h10,q⟩:=h
 refine ⟨_,(aw (aL (i:=5) Z59.nd rfl (Or.inl rfl) (bK ag))
  (aw (bb PassesOwn.never rfl (aP (pv 0)) (aF (i:=6) Z59.nd rfl (Or.inl rfl))
  (aw (aL (i:=7) Z59.nd rfl (Or.inl rfl) (au ar rfl bl.len_ PySem.boot_len (aa (aE aK (pv 2) (pv 6) (λ_ _=>rfl)) ag)))
  (aw (aL (i:=8) Z59.nd rfl (Or.inl rfl) (aE aK (aE aK (pv 2) (pv 6) (λ_ _=>rfl)) (aG bj (pv 4) (pv 7)) (λ_ _=>rfl)))
  (aw (aL (i:=9) Z59.nd rfl (Or.inl rfl) (aE aK (aE aK (pv 2) (pv 6) (λ_ _=>rfl)) (aG bj (aG bA (pv 4) (pv 7)) (pv 7)) (λ_ _=>rfl)))
  (aw (aL (i:=4) Z59.nd rfl (Or.inl rfl) (aG bA (aG bA (pv 4) (pv 7)) (pv 7)))
  (aC (aV (dR PySem.F.plainAttrs_list PySem.F.slot_list_append PySem.F.type_list_append bW (pv 5) (aa (aW pM hr rfl (aa (aG bj (pv 4) aj) (aa (au (fF rfl) rfl bl.min_ PyProof.Rows.boot_min (aa (pv 8) (aa (pv 9) ag))) (aa (au (ir rfl) rfl bl.max_ PyProof.Rows.boot_max (aa (pv 8) (aa (pv 9) ag))) (aa (aE aK (pv 1) (pv 6) (λ_ _=>rfl)) ag))))) ag)))
  (ah (aL (i:=4) Z59.nd rfl (Or.inl rfl) (aG bA (pv 4) aj)))))))))
  (ah (aH (bc (aa (pv 5) (aa (aE aK (aE aK (pv 2) (pv 3) (λ_ _=>rfl)) (aG bj (pv 4) (au ar rfl bl.len_ PySem.boot_len (aa (aE aK (pv 2) (pv 3) (λ_ _=>rfl)) ag))) (λ_ _=>rfl)) ag))))))),?_⟩
 refine ⟨λσ' H'=>aq H H'/\∃ pa:Addr,H pa=none/\H' pa=some (.lst [])/\σ'=[some (.ref cl),some (.ref dl),some (.ref pl),some (.int (ow:Int)),some (.int n),some (.ref pa),none,none,none,none],⟨(by show 0<=sizeLine;decide),λl hl=>⟨ai hl _,l,hl,af,rfl⟩⟩,?_⟩
 rintro σ2 H2 ⟨s2,pa,npa,epa,rfl⟩
 refine ⟨λσ' H'=>aq H H'/\∃ (zs:List V) (pss:List Prs) (n:Int) (c6 c7 c8 c9:Option V),H' pa=some (.lst zs)/\CL (Fr H pa) H' zs pss/\pss.length=cols.length/\(∀ (j k:Nat) (ps:Prs) (p:PD),pss[j]?=some ps->cols[j]?=some k->ds[k]?=some p->∀ x ∈ ps,(p.lo<=x.1/\x.1<=x.2/\x.2<=p.hi)/\EdP p x)/\(∀ ps ∈ pss,ps.length<=2)/\σ'=[some (.ref cl),some (.ref dl),some (.ref pl),some (.int (ow:Int)),some (.int n),some (.ref pa),c6,c7,c8,c9],?_,?_⟩
 ·refine ⟨_,rfl,cl,rfl,⟨_,SqL.of (s2 _ _ hcl)⟩,bf (xs:=vN cols) (λi σ H'=>aq H H'/\∃ (zs:List V) (pss:List Prs) (n:Int) (c6 c7 c8 c9:Option V),H' pa=some (.lst zs)/\CL (Fr H pa) H' zs pss/\pss.length=i/\(∀ (j k:Nat) (ps:Prs) (p:PD),pss[j]?=some ps->cols[j]?=some k->ds[k]?=some p->∀ x ∈ ps,(p.lo<=x.1/\x.1<=x.2/\x.2<=p.hi)/\EdP p x)/\(∀ ps ∈ pss,ps.length<=2)/\σ=[some (.ref cl),some (.ref dl),some (.ref pl),some (.int (ow:Int)),some (.int n),some (.ref pa),c6,c7,c8,c9]) ⟨s2,[],[],n,_,_,_,_,epa,az.nil,rfl,(λj k ps p e=>by simp at e),(λps h=>by cases h),rfl⟩ (λi σ H' _ h=>SqL.of (h.1 _ _ hcl)) (λi y σ H' ey hh=>?_) (λσ H' hh=>?_)⟩
  ·obtain ⟨sm,zs,pss,n,c6,c7,c8,c9,ez,hz,hl,hin,rS,rfl⟩:=hh
   obtain ⟨k,rfl,ek⟩:=oO ey
   have hk:=hlt k (G8 ek)
   have hi:i < cols.length:=(G7.mp ek).1
   have ep:=G6 hk
   obtain ⟨pa_,e1,hpo⟩:=hps.2 k _ ep
   obtain ⟨da,e2,hpd⟩:=hds.2 k _ ep
   generalize ds[k]=p at ep hpo hpd
   have hpo:=hpo.same sm
   have hpd:=hpd.same sm
   obtain ⟨_,epo,hp1,hp3,hpb⟩:=id hpo
   have Af:(p.pool.map V.int).length=p.pool.length:=List.length_map _
   have hsp:(0:Int) < ((p.pool.length:Nat):Int):=by lia
   have hss:((p.pool.length:Nat):Int) < 1073741824:=by lia
   refine ⟨λσ' H''=>H''=H'/\σ'=[some (.ref cl),some (.ref dl),some (.ref pl),some (.int (ow:Int)),some (.int n),some (.ref pa),some (.int (k:Int)),some (.int ((p.pool.length:Nat):Int)),c8,c9],?_,?_⟩
   ·refine ⟨_,rfl,_,rfl,pl,_,_,_,rfl,rfl,SqL.of (sm _ _ hpl),aM e1,pa_,_,rfl,.inl (SqL.of epo),rfl,?_⟩
    rw [← Af]
    rfl
   rintro σ3 H3 ⟨e3,rfl⟩
   subst e3
   obtain ⟨one,q1,q2,a1,a2⟩:=hpo.pick n
   refine ⟨λσ' H''=>H''=H3/\σ'=[some (.ref cl),some (.ref dl),some (.ref pl),some (.int (ow:Int)),some (.int n),some (.ref pa),some (.int (k:Int)),some (.int ((p.pool.length:Nat):Int)),some (.int one),c9],⟨_,rfl,_,rfl,pl,_,_,_,rfl,rfl,SqL.of (sm _ _ hpl),aM e1,_,rfl,_,rfl,_,_,rfl,rfl,hsp,pa_,_,_,_,rfl,rfl,SqL.of epo,q1,rfl,rfl⟩,?_⟩
   rintro σ4 H4 ⟨e4,rfl⟩
   subst e4
   obtain ⟨two,q3,q4,b1,b2⟩:=hpo.pick (n / ((p.pool.length:Nat):Int))
   refine ⟨λσ' H''=>H''=H4/\σ'=[some (.ref cl),some (.ref dl),some (.ref pl),some (.int (ow:Int)),some (.int n),some (.ref pa),some (.int (k:Int)),some (.int ((p.pool.length:Nat):Int)),some (.int one),some (.int two)],⟨_,rfl,_,rfl,pl,_,_,_,rfl,rfl,SqL.of (sm _ _ hpl),aM e1,_,rfl,_,rfl,_,_,rfl,rfl,⟨hsp,hss⟩,_,rfl,_,_,rfl,rfl,hsp,pa_,_,_,_,rfl,rfl,SqL.of epo,q3,rfl,rfl⟩,?_⟩
   rintro σ5 H5 ⟨e5,rfl⟩
   subst e5
   refine ⟨λσ' H''=>H''=H5/\∃ n:Int,σ'=[some (.ref cl),some (.ref dl),some (.ref pl),some (.int (ow:Int)),some (.int n),some (.ref pa),some (.int (k:Int)),some (.int ((p.pool.length:Nat):Int)),some (.int one),some (.int two)],⟨_,rfl,_,rfl,_,_,rfl,rfl,⟨hsp,hss⟩,_,rfl,_,_,rfl,rfl,⟨hsp,hss⟩,rfl,_,rfl⟩,?_⟩
   rintro σ6 H6 ⟨e6,n2,rfl⟩
   subst e6
   refine ⟨_,rfl,.inl ⟨rfl,_,SqL.of ez⟩,_,rfl,_,_,rfl,rfl,(by show (0:Int) < 8;decide),_,rfl,_,rfl,_,_,rfl,_,rfl,_,rfl,_,_,rfl,_,rfl,_,rfl,dl,_,_,_,rfl,rfl,SqL.of (sm _ _ hdl),aM e2,_,_,_,da,p,rfl,hpd,?_,?_,?_,λl ps H7 s7 Cf hb hl2 hE=>?_⟩
   ·split <;> lia
   ·split <;> split <;> lia
   ·split <;> lia
   have ez5:=s7 _ _ ez
   have n4:H6 l=none:=Cf.1
   have nl:l ≠ pa:=λz=>by rw [z,ez] at n4;cases n4
   have hz2:CL (Fr H pa) H7 (zs ++ [.ref l]) (pss ++ [ps]):=az.snoc (hz.same s7) ⟨⟨sm.free n4,nl⟩,Cf.2⟩
   have Ag:(if two < one then two else one) ∈ p.pool:=by split <;> assumption
   have Ah:(if two > one then two else one) ∈ p.pool:=by split <;> assumption
   refine ⟨pa,_,_,rfl,rfl,ez5,aD (by rw [hz.1];lia),_,rfl,_,_,rfl,rfl,⟨by decide,by decide⟩,(sm.trans s7).upd npa,zs ++ [.ref l],pss ++ [ps],_,_,_,_,_,af,hz2.updN Fr.out ez5,by rw [List.length_append,hl];rfl,λj k' ps' p' f1 f2 f3=>?_,λps' h'=>?_,rfl⟩
   ·by_cases hj:j < pss.length
    ·rw [List.getElem?_append_left hj] at f1
     exact hin j k' ps' p' f1 f2 f3
    ·have hj2:j=pss.length:=by have:=(G7.mp f1).1;simp at this;lia
     subst hj2
     simp at f1
     subst f1
     rw [hl,ek] at f2
     cases f2
     rw [ep] at f3
     cases f3
     intro x hx
     refine ⟨hb x hx,?_⟩
     obtain ⟨E1,E2⟩:=hE x hx
     constructor
     ·rcases E1 with E1 | E1 | E1 | E1
      ·exact .inl E1
      ·exact .inr (.inl (by rw [E1];exact Ag))
      ·exact .inr (.inl (by rw [E1];exact Ah))
      ·exact .inr (.inr (by rw [E1,Int.add_sub_cancel];exact Ah))
     ·rcases E2 with E2 | E2 | E2 | E2
      ·exact .inl E2
      ·exact .inr (.inl (by rw [E2];exact Ag))
      ·exact .inr (.inl (by rw [E2];exact Ah))
      ·exact .inr (.inr (by rw [E2,Int.sub_add_cancel];exact Ag))
   ·rcases List.mem_append.mp h' with h' | h'
    ·exact rS ps' h'
    ·rw [show ps'=ps by simpa using h'];exact hl2
  ·obtain ⟨sm,zs,pss,n,c6,c7,c8,c9,ez,hz,hl,hin,rS,rfl⟩:=hh
   exact ⟨sm,zs,pss,n,_,_,_,_,ez,hz,by rw [hl,cZ],hin,rS,rfl⟩
 rintro σ5 H5 ⟨s5,zs,pss,n,c6,c7,c8,c9,ez,hz,hl,hin,rS,rfl⟩
 have epw:=G6 how
 obtain ⟨po,e1,hpo⟩:=hps.2 ow _ epw
 have hpo:=hpo.same s5
 obtain ⟨_,epo,hp1,hp3,hpb⟩:=id hpo
 have Af:((ds[ow]).pool.map V.int).length=(ds[ow]).pool.length:=List.length_map _
 have hsp:(0:Int) < ((((ds[ow]).pool.map V.int).length:Nat):Int):=by lia
 obtain ⟨x,q1,_,q3,q4⟩:=hpo.pick n
 rw [← Af] at q1
 refine ⟨_,rfl,_,rfl,_,rfl,pl,_,_,_,rfl,rfl,SqL.of (s5 _ _ hpl),aM e1,_,rfl,_,rfl,_,rfl,pl,_,_,_,rfl,rfl,SqL.of (s5 _ _ hpl),aM e1,po,_,rfl,.inl (SqL.of epo),_,_,rfl,rfl,hsp,po,_,_,_,rfl,rfl,SqL.of epo,q1,br,λr hr=>?_⟩
 have u:=ai hr (.tup [.ref pa,.int x])
 exact q r (pss,x) _ (s5.trans u) ⟨pa,zs,af,npa,u _ _ ez,(hz.same u).wk λa h=>h.1⟩ ⟨hl,(λj k ps p f1 f2 f3 y hy=>(hin j k ps p f1 f2 f3 y hy).1),rS,(λp ep=>by rw [epw] at ep;cases ep;exact ⟨q3,q4⟩),(λj k ps p f1 f2 f3 y hy=>(hin j k ps p f1 f2 f3 y hy).2)⟩
theorem Eb (F:Fun K "_law_step" "_law_step" Y61 f fd) (bl:Bl K mg yA yE yN yO yP yQ yR yS yT yU yV yW yX ae yY yZ) (sG:Callee P w K mg base 1 "_law_due" ["way", "outs", "domain"] (jg K yA yE yN yO yP yQ yR yS yT yU yV yW yX ae yY yZ)) (rb:Callee P w K mg base 1 "_law_held" ["spans", "code"] (gY K yA yE yN yO yP yQ yR yS yT yU yV yW yX ae yY yZ)):aQ P w K mg base CX0 2 f fd ["plan", "k", "part", "verdicts", "codes"] (gZ K yA yE yN yO yP yQ yR yS yT yU yV yW yX ae yY yZ):=by
 refine F.ok Z61 (λvs H Q E h=>?_) (λcdv A outer s H vs Q E hr h=>?_)
 ·obtain ⟨r,pa,ve,ca,j,zs,ds,ts,fN,cd,vk,rfl,hPl,ok,hj,hSt,hve,hti,hca,hcd,q⟩:=h
  rfl
 obtain ⟨r,pa,ve,ca,j,zs,ds,ts,fN,cd,vk,rfl,hPl,ok,hj,hSt,hve,hti,hca,hcd,q⟩:=h
 refine ⟨_,(aw (i5 (pv 0) (dr rfl (aN (aF (i:=5) Z61.nd rfl (Or.inl rfl)) (aN (aF (i:=6) Z61.nd rfl (Or.inl rfl)) (aN (aF (i:=7) Z61.nd rfl (Or.inl rfl)) bO)))))
  (aw (aL (i:=8) Z61.nd rfl (Or.inl rfl) (aG cH (au ar rfl bl.len_ PySem.boot_len (aa (pv 5) ag)) (au ar rfl bl.len_ PySem.boot_len (aa (pv 7) ag))))
  (aw (i5 (aE aK (pv 7) (aG cH (pv 1) (pv 8)) (λ_ _=>rfl)) (dr rfl (aN (aF (i:=9) Z61.nd rfl (Or.inl rfl)) (aN (aF (i:=10) Z61.nd rfl (Or.inl rfl)) (aN (aF (i:=11) Z61.nd rfl (Or.inr rfl)) bO)))))
  (aw (aR (PW.pt (nX (cw (cG (au cU rfl bl.isinstance_ PyProof.Rows.boot_isinstance (aa (pv 2) (aa (lB (v:=.ty "tuple") rfl bl.tuple_ PyProof.Rows.boot_tuple rfl) ag))))) (nX (aJ n5 (au ar rfl bl.len_ PySem.boot_len (aa (pv 2) ag)) aj (aO _)) (l5 (aJ n5 (aE aS (pv 2) aj (λ_ _=>rfl)) (aE aK (pv 5) (pv 1) (λ_ _=>rfl)) (aO _))))))
  (ah (aH fE))
  aI)
  (aw (aL (i:=12) Z61.nd rfl (Or.inr rfl) (bK ag))
  (aw (bb PassesOwn.never rfl (aP (pv 9)) (aF (i:=13) Z61.nd rfl (Or.inl rfl))
  (ah (aR (aJ l7 (pv 13) (pv 8) (aO _))
  (ah (aV (dR PySem.F.plainAttrs_list PySem.F.slot_list_append PySem.F.type_list_append bW (pv 12) (aa (aE aK (pv 4) (pv 13) (λ_ _=>rfl)) ag))))
  (ah (aR (aJ bX (aE aS (aE fJ (pv 3) (aE aK (pv 5) (pv 13) (λ_ _=>rfl)) (λ_ _=>rfl)) aj (λ_ _=>rfl)) aT (aO _))
  (ah (aV (dR PySem.F.plainAttrs_list PySem.F.slot_list_append PySem.F.type_list_append bW (pv 12) (aa (aE aS (aE fJ (pv 3) (aE aK (pv 5) (pv 13) (λ_ _=>rfl)) (λ_ _=>rfl)) aj (λ_ _=>rfl)) ag))))
  (ah (aH (fe (dz zm (aE aS (pv 2) aj (λ_ _=>rfl)) uR (aO _)) (fe (dz bX (aE aS (pv 2) aj (λ_ _=>rfl)) aj (aO _)) (i4 (dz (vm hr) (aE aS (pv 2) aj (λ_ _=>rfl)) (aE fJ (pv 3) (aE aK (pv 5) (pv 13) (λ_ _=>rfl)) (λ_ _=>rfl)) (aO _))))))))))))
  (aw (aL (i:=14) Z61.nd rfl (Or.inl rfl) (bK ag))
  (aw (bb PassesOwn.never rfl (bh rfl bl.range_ (aa (au ar rfl bl.len_ PySem.boot_len (aa (pv 11) ag)) ag)) (aF (i:=15) Z61.nd rfl (Or.inl rfl))
  (aw (aL (i:=16) Z61.nd rfl (Or.inr rfl) (aE aS (aE aK (pv 11) (pv 15) (λ_ _=>rfl)) aj (λ_ _=>rfl)))
  (ah (aR (aJ bX (au ar rfl bl.len_ PySem.boot_len (aa (bt (bh rfl bl.range_ (aa (au ar rfl bl.len_ PySem.boot_len (aa (pv 12) ag)) ag)) (aX (N:=["j", "own", "parts"]) (fr:=[12,16]) (cl:=[("parts",s.heap.objs.size+1+1+1),("own",s.heap.objs.size+1+1)]) rfl rfl (by decide +kernel) (by decide +kernel) rfl (by decide +kernel) rfl rfl rfl (List.forall_mem_cons.mpr ⟨rfl,List.forall_mem_cons.mpr ⟨rfl,List.forall_mem_nil _⟩⟩) rfl) rfl (λ_ _ _ _=>(eQ (cG (aW rb hr rfl (aa (aE (dc (K:=K) rfl) (pv 2) (pv 0) (λ_ _=>rfl)) (aa (aE (dc (K:=K) rfl) (pv 1) (pv 0) (λ_ _=>rfl)) ag)))))) (λ_ _ _ _=>(pv 0))) ag)) (au ar rfl bl.len_ PySem.boot_len (aa (pv 12) ag)) (aO _))
  (ah (aV (dR PySem.F.plainAttrs_list PySem.F.slot_list_append PySem.F.type_list_append bW (pv 14) (aa (pv 15) ag))))
  aI))))
  (aw (aL (i:=17) Z61.nd rfl (Or.inl rfl) (aW sG hr rfl (aa (pv 10) (aa (bt (aP (pv 14)) (aX (N:=["i", "rows"]) (fr:=[11]) (cl:=[("rows",s.heap.objs.size+1)]) rfl rfl (by decide +kernel) (by decide +kernel) rfl (by decide +kernel) rfl rfl rfl (List.forall_mem_cons.mpr ⟨rfl,List.forall_mem_nil _⟩) rfl) rfl (λ_ _ _ _=>aU) (λ_ _ _ _=>(aE (dh (K:=K) rfl) (aE (dc (K:=K) rfl) (pv 1) (pv 0) (λ_ _=>rfl)) aj (λ_ _=>rfl)))) (aa (aE aK (pv 6) (pv 1) (λ_ _=>rfl)) ag)))))
  (ah (aH (fe (dz (vf hr) (aE aS (pv 2) aj (λ_ _=>rfl)) (pv 12) (aO _)) (fe (dz bX (aE aS (pv 2) aj (λ_ _=>rfl)) (au (dP rfl) rfl bl.sum_ PyProof.Rows.boot_sum (aa (bt (aP (pv 14)) (bg rfl (by decide +kernel) (by decide +kernel) (by decide +kernel) rfl) rfl (λ_ _ _ _=>aU) (λ_ _ _ _=>(aG uT aj (pv 0)))) ag)) (aO _)) (i4 (dz (vm hr) (aE aS (pv 2) aj (λ_ _=>rfl)) (pv 17) (aO _)))))))))))))))),?_⟩
 obtain ⟨nl,dl,tl_,dv,tv,er,enl,edl,hdv,etl,htv⟩:=id hPl
 have hzl:(zs.map V.str).length=zs.length:=List.length_map _
 have hl1:=ok.len
 have hl2:=ok.tab
 have h7:=ok.n7
 have htl:tv.length=ts.length:=htv.1
 obtain ⟨t,p,nm,et,ep,enm,hst⟩:=hSt
 obtain ⟨ta,eta,cl,rl,rx,g1,g2,g3,g4⟩:=htv.2 j t et
 obtain ⟨da,eda,hda⟩:=hdv.2 (fN+j) p ep
 have tok:=ok.tabs j t et
 have pok:=ok.doms p (G8 ep)
 have hc3:t.cols.length<=3:=tok.ok.few
 have hrl:rx.length=t.rows.length:=g4.1
 have fA:=tok.few
 have xP:∀ (k:Nat) (t:PT),ts[k]?=some t->∀ c ∈ t.cols,c < fN+k:=λk t et c hc=>(ok.tabs k t et).ok.lt c hc
 obtain ⟨cv,mm,r3,epa,hr3,v7⟩:=hst
 have hcl:(t.cols.map (cvo ts ds fN cd)).length=t.cols.length:=List.length_map _
 generalize Ec:t.cols.map (cvo ts ds fN cd)=cvs at hr3 v7 hcl
 have ixn:atI (zs.map V.str) ((fN+j:Nat):Int)=some (.str nm):=aM (df enm)
 refine ⟨λσ' H'=>H'=H/\σ'=[some (.ref r),some (.int ((fN+j:Nat):Int)),some (.ref pa),some (.ref ve),some (.ref ca),some (.ref nl),some (.ref dl),some (.ref tl_),none,none,none,none,none,none,none,none,none,none],⟨_,rfl,r,_,rfl,SqT.of er,rfl,_,_,rfl,_,_,rfl,_,_,rfl,rfl,rfl,rfl⟩,?_⟩
 rintro σ1 H1 ⟨e1_,rfl⟩
 subst e1_
 refine ⟨λσ' H'=>H'=H1/\σ'=[some (.ref r),some (.int ((fN+j:Nat):Int)),some (.ref pa),some (.ref ve),some (.ref ca),some (.ref nl),some (.ref dl),some (.ref tl_),some (.int (fN:Int)),none,none,none,none,none,none,none,none,none],⟨_,rfl,nl,_,rfl,.inl (SqL.of enl),_,rfl,tl_,_,rfl,.inl (SqL.of etl),_,_,rfl,rfl,rfl,?_⟩,?_⟩
 ·rw [show (fN:Int)=(((zs.map V.str).length:Nat):Int) - ((tv.length:Nat):Int) by lia]
  rfl
 rintro σ2 H2 ⟨e2_,rfl⟩
 subst e2_
 have ix:atI tv (((fN+j:Nat):Int) - (fN:Int))=some (.ref ta):=by
  rw [show ((fN+j:Nat):Int) - (fN:Int)=(j:Int) by lia]
  exact aM eta
 refine ⟨λσ' H'=>H'=H2/\σ'=[some (.ref r),some (.int ((fN+j:Nat):Int)),some (.ref pa),some (.ref ve),some (.ref ca),some (.ref nl),some (.ref dl),some (.ref tl_),some (.int (fN:Int)),some (.ref cl),some (.str t.way),some (.ref rl),none,none,none,none,none,none],⟨_,rfl,_,rfl,_,rfl,_,_,rfl,rfl,tl_,_,_,_,rfl,rfl,SqL.of etl,ix,ta,_,rfl,SqT.of g1,rfl,_,_,rfl,_,_,rfl,_,_,rfl,rfl,rfl,rfl⟩,?_⟩
 rintro σ3 H3 ⟨e3_,rfl⟩
 subst e3_
 refine ⟨λσ' H'=>H'=H3/\σ'=[some (.ref r),some (.int ((fN+j:Nat):Int)),some (.ref pa),some (.ref ve),some (.ref ca),some (.ref nl),some (.ref dl),some (.ref tl_),some (.int (fN:Int)),some (.ref cl),some (.str t.way),some (.ref rl),none,none,none,none,none,none],?_,?_⟩
 ·exact ⟨_,rfl,_,_,_,_,true,rfl,.ty _,.inl (.tup epa),(by first | rfl | with_unfolding_all rfl | decide +kernel),_,rfl,b8 ⟨_,rfl,pa,_,rfl,.inr (SqT.of epa),rfl,_,rfl,qL rfl ⟨_,rfl,pa,_,_,_,rfl,rfl,SqT.of epa,rfl,_,rfl,_,rfl,nl,_,_,_,rfl,rfl,SqL.of enl,ixn,rfl,_,rfl,qL rfl ⟨rfl,rfl⟩⟩⟩⟩
 rintro σ4 H4 ⟨e4_,rfl⟩
 subst e4_
 refine ⟨λσ' H'=>aq H4 H'/\∃ ow:Addr,H4 ow=none/\H' ow=some (.lst [])/\σ'=[some (.ref r),some (.int ((fN+j:Nat):Int)),some (.ref pa),some (.ref ve),some (.ref ca),some (.ref nl),some (.ref dl),some (.ref tl_),some (.int (fN:Int)),some (.ref cl),some (.str t.way),some (.ref rl),some (.ref ow),none,none,none,none,none],⟨Nat.zero_le _,λl hl=>⟨ai hl _,l,hl,af,rfl⟩⟩,?_⟩
 rintro σ5 H5 ⟨s5,ow,now,eow,rfl⟩
 refine ⟨λσ' H'=>aq H4 H'/\H' ow=some (.lst ((cvs.map (·.2)).map V.int))/\(∀ v ∈ cvs,cq v=true)/\∃ c13:Option V,σ'=[some (.ref r),some (.int ((fN+j:Nat):Int)),some (.ref pa),some (.ref ve),some (.ref ca),some (.ref nl),some (.ref dl),some (.ref tl_),some (.int (fN:Int)),some (.ref cl),some (.str t.way),some (.ref rl),some (.ref ow),c13,none,none,none,none],?_,?_⟩
 ·refine ⟨_,rfl,cl,rfl,⟨_,SqL.of (s5 _ _ g2)⟩,bf (xs:=vN t.cols) (λi σ H'=>aq H4 H'/\H' ow=some (.lst (((cvs.take i).map (·.2)).map V.int))/\(∀ v ∈ cvs.take i,cq v=true)/\∃ c13:Option V,σ=[some (.ref r),some (.int ((fN+j:Nat):Int)),some (.ref pa),some (.ref ve),some (.ref ca),some (.ref nl),some (.ref dl),some (.ref tl_),some (.int (fN:Int)),some (.ref cl),some (.str t.way),some (.ref rl),some (.ref ow),c13,none,none,none,none]) ⟨s5,eow,(λv hv=>by cases hv),_,rfl⟩ (λi σ H' _ h=>SqL.of (h.1 _ _ g2)) (λi y σ H' e h=>?_) (λσ H' h=>?_)⟩
  ·obtain ⟨sm,eo,mZ,c13,rfl⟩:=h
   obtain ⟨c,rfl,ec⟩:=oO e
   have hcm:=G8 ec
   have hi:i < t.cols.length:=(G7.mp ec).1
   have G1:=tok.ok.lt c hcm
   have ev:cvs[i]?=some (cvo ts ds fN cd c):=by rw [← Ec,List.getElem?_map,ec];rfl
   have hol:(((cvs.take i).map (·.2)).map V.int).length<=3:=by rw [List.length_map,List.length_map,List.length_take];lia
   have yF:∀ x:Int,x=(cvo ts ds fN cd c).2->cq (cvo ts ds fN cd c)=true->(aq H4 (upd H' ow (.lst (((cvs.take i).map (·.2)).map V.int ++ [V.int x])))/\upd H' ow (.lst (((cvs.take i).map (·.2)).map V.int ++ [V.int x])) ow=some (.lst (((cvs.take (i+1)).map (·.2)).map V.int))/\∀ v ∈ cvs.take (i+1),cq v=true):=λx hx hs=>by
    subst hx
    refine ⟨sm.upd now,?_,λv hv=>?_⟩
    ·rw [af,take_snoc ev,List.map_append,List.map_append]
     rfl
    ·rw [take_snoc ev] at hv
     rcases List.mem_append.mp hv with hv | hv
     ·exact mZ v hv
     ·rw [List.mem_singleton.mp hv];exact hs
   refine ⟨_,rfl,_,rfl,_,_,rfl,rfl,_,rfl,?_⟩
   by_cases hcf:c < fN
   ·have hx:cvo ts ds fN cd c=say (cd.getD c 0):=by unfold cvo;rw [if_pos hcf]
    have exc:=G6 (l:=cd) (i:=c) (by lia)
    have hgx:cd.getD c 0=cd[c]'(by lia):=by rw [List.getD_eq_getElem?_getD,exc];rfl
    obtain ⟨a1,a2,a3⟩:=yF (cd[c]'(by lia)) (by rw [hx,← hgx];rfl) (by rw [hx];rfl)
    refine de (by lia) ⟨_,rfl,.inl ⟨rfl,_,SqL.of eo⟩,_,rfl,_,rfl,ca,_,_,_,rfl,rfl,SqL.of (sm _ _ hca),aM (get_map exc),ow,_,_,rfl,rfl,eo,aD (by lia),a1,a2,a3,_,rfl⟩
   ·refine bM (by lia) ?_
    have ezc:=G6 (l:=zs) (i:=c) (by lia)
    generalize zs[c]=z at ezc
    obtain ⟨rr,v9,hrr⟩:=hti c z ezc ⟨by lia,by
     unfold akT
     rw [et]
     exact List.mem_map.mpr ⟨c,List.mem_filter.mpr ⟨hcm,decide_eq_true (by lia)⟩,rfl⟩⟩
    have Ai:=sm _ _ hve
    have Aj:=sm.seqT hrr
    have ixz:atI (zs.map V.str) (c:Int)=some (.str z):=aM (df ezc)
    have Ak:=sm _ _ enl
    refine ⟨_,rfl,_,rfl,_,rfl,nl,_,_,_,rfl,rfl,SqL.of Ak,ixz,ve,vk,z,_,rfl,rfl,Ai,v9,rr,_,_,_,rfl,rfl,Aj,rfl,rfl,_,rfl,?_⟩
    by_cases hs:(cvo ts ds fN cd c).1=Str.ofString "say"
    ·obtain ⟨a1,a2,a3⟩:=yF _ rfl (decide_eq_true hs)
     refine de (by rw [hs]) ⟨_,rfl,.inl ⟨rfl,_,SqL.of eo⟩,_,rfl,_,rfl,_,rfl,nl,_,_,_,rfl,rfl,SqL.of Ak,ixz,ve,vk,z,_,rfl,rfl,Ai,v9,rr,_,_,_,rfl,rfl,Aj,rfl,ow,_,_,rfl,rfl,eo,aD (by lia),a1,a2,a3,_,rfl⟩
    ·have hs' : cq (cvo ts ds fN cd c)=false:=decide_eq_false hs
     have Ed:=xK (p:=p) (t:=t) ev hs' mZ
     have hno:cvs.all cq=false:=by
      rw [List.all_eq_false]
      exact ⟨_,G8 ev,by rw [hs'];exact Bool.false_ne_true⟩
     rcases v7 with ⟨_,hcv,hm⟩ | ⟨hy,_⟩
     ·subst hcv hm
      rw [Ed] at hr3
      refine bM (λz=>hs (by injection z)) ⟨_,rfl,pa,_,_,_,rfl,rfl,SqT.of (sm _ _ epa),rfl,rfl,_,rfl,de rfl ⟨_,rfl,pa,_,_,_,rfl,rfl,SqT.of (sm _ _ epa),rfl,rfl,_,rfl,de rfl ⟨_,rfl,pa,_,_,_,rfl,rfl,SqT.of (sm _ _ epa),rfl,_,rfl,_,rfl,_,rfl,nl,_,_,_,rfl,rfl,SqL.of Ak,ixz,ve,vk,z,_,rfl,rfl,Ai,v9,vX (sm.seqT hr3) Aj (q _ sm)⟩⟩⟩
     ·rw [hno] at hy
      cases hy
  ·obtain ⟨sm,eo,mZ,c13,rfl⟩:=h
   rw [cZ,← hcl,List.take_length] at eo mZ
   exact ⟨sm,eo,mZ,c13,rfl⟩
 rintro σ6 H6 ⟨s6,eo6,mZ,c13,rfl⟩
 have cy:cvs.all cq=true:=List.all_eq_true.mpr mZ
 rcases v7 with ⟨hno,_⟩ | ⟨_,lc,hcv,_,elc,hm⟩
 ·rw [cy] at hno
  cases hno
 subst hcv hm
 rw [q9 mZ] at hr3
 have Al:(cvs.map (·.2)).length=t.cols.length:=by rw [List.length_map,hcl]
 generalize cvs.map (·.2)=cs at hr3 elc eo6 epa Al
 refine ⟨λσ' H'=>aq H6 H'/\∃ fa:Addr,H6 fa=none/\H' fa=some (.lst (vN []))/\σ'=[some (.ref r),some (.int ((fN+j:Nat):Int)),some (.ref pa),some (.ref ve),some (.ref ca),some (.ref nl),some (.ref dl),some (.ref tl_),some (.int (fN:Int)),some (.ref cl),some (.str t.way),some (.ref rl),some (.ref ow),c13,some (.ref fa),none,none,none],⟨Nat.zero_le _,λl hl=>⟨ai hl _,l,hl,af,rfl⟩⟩,?_⟩
 rintro σ7 H7 ⟨s7,fa,nfa,efa,rfl⟩
 have s47:=s6.trans s7
 refine ⟨λσ' H'=>aq H6 H'/\H' fa=some (.lst (vN ((List.range t.rows.length).filter (eE t.rows cs))))/\∃ c15 c16:Option V,σ'=[some (.ref r),some (.int ((fN+j:Nat):Int)),some (.ref pa),some (.ref ve),some (.ref ca),some (.ref nl),some (.ref dl),some (.ref tl_),some (.int (fN:Int)),some (.ref cl),some (.str t.way),some (.ref rl),some (.ref ow),c13,some (.ref fa),c15,c16,none],?_,?_⟩
 ·refine ⟨_,rfl,rl,_,rfl,.inl (SqL.of (s47 _ _ g3)),_,rfl,(by lia),(by lia),dm (λi σ H'=>aq H6 H'/\H' fa=some (.lst (vN ((List.range i).filter (eE t.rows cs))))/\∃ c15 c16:Option V,σ=[some (.ref r),some (.int ((fN+j:Nat):Int)),some (.ref pa),some (.ref ve),some (.ref ca),some (.ref nl),some (.ref dl),some (.ref tl_),some (.int (fN:Int)),some (.ref cl),some (.str t.way),some (.ref rl),some (.ref ow),c13,some (.ref fa),c15,c16,none]) ⟨s7,efa,_,_,rfl⟩ (λi σ H' hi h=>?_) (λσ H' h=>?_)⟩
  ·obtain ⟨sm,xQ,c15,c16,rfl⟩:=h
   rw [Int.toNat_natCast,hrl] at hi
   rw [show (0:Int)+(i:Int)=(i:Int) by lia]
   have ew:=G6 hi
   generalize t.rows[i]=w_ at ew
   have s4m:=s6.trans sm
   obtain ⟨ro,ero,ce,cvv,q1,_,q2,q3⟩:=g4.2 i w_ ew
   have fit:=tok.rows w_ (G8 ew)
   refine ⟨λσ' H''=>H''=H'/\σ'=[some (.ref r),some (.int ((fN+j:Nat):Int)),some (.ref pa),some (.ref ve),some (.ref ca),some (.ref nl),some (.ref dl),some (.ref tl_),some (.int (fN:Int)),some (.ref cl),some (.str t.way),some (.ref rl),some (.ref ow),c13,some (.ref fa),some (.int (i:Int)),some (.ref ce),none],⟨_,rfl,_,rfl,rl,_,_,_,rfl,rfl,SqL.of (s4m _ _ g3),aM ero,ro,_,_,_,rfl,rfl,SqT.of (s4m _ _ q1),rfl,rfl,rfl⟩,?_⟩
   rintro σa Ha ⟨ea_,rfl⟩
   subst ea_
   have eoa:=sm _ _ eo6
   have hil:(cs.map V.int).length=cs.length:=List.length_map _
   refine ⟨_,rfl,ow,_,rfl,.inl (SqL.of eoa),_,rfl,(by lia),(by lia),bE (λD k ys H''=>aq Ha H''/\H'' D=some (.lst ys)/\ys.length=((List.range k).filter λj=>inP (w_.1.getD j []) (cs.getD j 0)).length) (λD hD=>⟨ai hD _,af,rfl⟩) (λD k ys H'' hD hk h=>?_) (λD ys H'' hD h=>?_)⟩
   ·obtain ⟨sn,eD,hyl⟩:=h
    rw [Int.toNat_natCast,hil] at hk
    have eps:=G6 (l:=w_.1) (i:=k) (by rw [fit.len];lia)
    generalize hps:w_.1[k]'(by rw [fit.len];lia)=ps at eps
    obtain ⟨lp,elp,_,yv,eyv,hyv⟩:=q3.2 k ps eps
    have exk:=G6 (l:=cs) (i:=k) (by lia)
    have s4n:=s4m.trans sn
    have hfl:=List.length_filter_le (λj=>inP (w_.1.getD j []) (cs.getD j 0)) (List.range k)
    rw [List.length_range] at hfl
    have hd1:w_.1.getD k []=ps:=by rw [List.getD_eq_getElem?_getD,eps];rfl
    have hd2:cs.getD k 0=cs[k]'(by lia):=by rw [List.getD_eq_getElem?_getD,exk];rfl
    rw [show (0:Int)+(k:Int)=(k:Int) by lia]
    refine ⟨_,rfl,_,rfl,ce,_,_,_,rfl,rfl,SqL.of (s4n _ _ q2),aM elp,_,rfl,_,rfl,ow,_,_,_,rfl,rfl,SqL.of (sn _ _ eoa),aM (get_map exk),lp,yv,ps,_,rfl,SqL.of (s4n _ _ eyv),hyv.mono s4n.tups,_,rfl,?_⟩
    cases hb:inP ps (cs[k]'(by lia)) with
    | true =>
     refine dJ ⟨_,rfl,bQ.mk (by rw [Int.toNat_natCast,hil];exact hk) eD (aD (by lia)) ⟨sn.upd hD,af,?_⟩⟩
     rw [List.range_succ,List.filter_append,List.filter_cons_of_pos (by rw [hd1,hd2];exact hb),List.length_append,List.length_append,hyl]
     rfl
    | false =>
     refine b8 (d6.mk (zs:=ys) (by rw [Int.toNat_natCast,hil];exact hk) ⟨sn,eD,?_⟩)
     rw [List.range_succ,List.filter_append,List.filter_cons_of_neg (by rw [hd1,hd2,hb];exact Bool.false_ne_true),List.filter_nil,List.append_nil,hyl]
   ·obtain ⟨sn,eD,hyl⟩:=h
    rw [Int.toNat_natCast,hil] at hyl
    have Cg:eE t.rows cs i=(List.range cs.length).all λj=>inP (w_.1.getD j []) (cs.getD j 0):=by
     unfold eE
     rw [getD_at ew]
     rfl
    have Am:=vY (λj=>inP (w_.1.getD j []) (cs.getD j 0)) cs.length
    rw [← hyl,← Cg] at Am
    have ud:=List.length_filter_le (eE t.rows cs) (List.range i)
    rw [List.length_range] at ud
    have An:=sn _ _ xQ
    refine ⟨D,_,rfl,.inl (SqL.of eD),_,rfl,ow,_,rfl,.inl (SqL.of (sn _ _ eoa)),rfl,_,rfl,?_⟩
    by_cases hf:eE t.rows cs i=true
    ·have hl:=Am.mpr hf
     refine de (by rw [hil,hl]) ⟨_,rfl,.inl ⟨rfl,_,SqL.of An⟩,_,rfl,fa,_,_,rfl,rfl,An,aD (by rw [cZ];lia),(sm.trans sn).upd nfa,?_,_,_,rfl⟩
     rw [af,List.range_succ,List.filter_append,List.filter_cons_of_pos hf]
     unfold vN
     rw [List.map_append]
     rfl
    ·have hl:ys.length ≠ cs.length:=λz=>hf (Am.mp z)
     refine bM (λz=>hl (by rw [hil] at z;injection z with z;exact Int.ofNat.inj z)) ⟨sm.trans sn,?_,_,_,rfl⟩
     rw [List.range_succ,List.filter_append,List.filter_cons_of_neg hf,List.filter_nil,List.append_nil]
     exact An
  ·obtain ⟨sm,xQ,c15,c16,rfl⟩:=h
   rw [Int.toNat_natCast,hrl] at xQ
   exact ⟨sm,xQ,c15,c16,rfl⟩
 rintro σ8 H8 ⟨s8,xR,c15,c16,rfl⟩
 have s48:=s6.trans s8
 have ud:=List.length_filter_le (eE t.rows cs) (List.range t.rows.length)
 rw [List.length_range] at ud
 have rf:∀ (k b:Nat),((List.range t.rows.length).filter (eE t.rows cs))[k]?=some b->b < t.rows.length:=λk b e=>List.mem_range.mp (List.mem_filter.mp (G8 e)).1
 have nQ:=uc (eE t.rows cs) t.rows.length
 have hpk:pkF t.rows (eE t.rows cs) t.rows.length=((List.range t.rows.length).filter (eE t.rows cs)).map λk=>(t.rows.getD k ([],0)).2:=rfl
 rw [vK] at hpk
 generalize (List.range t.rows.length).filter (eE t.rows cs)=L at xR ud rf nQ hpk
 refine ⟨λσ' H'=>aq H8 H'/\∃ du:Addr,H' du=some (.tup (tp (ver (wf (ixF six t.way) p.lo p.hi) (fl t.rows cs))))/\σ'=[some (.ref r),some (.int ((fN+j:Nat):Int)),some (.ref pa),some (.ref ve),some (.ref ca),some (.ref nl),some (.ref dl),some (.ref tl_),some (.int (fN:Int)),some (.ref cl),some (.str t.way),some (.ref rl),some (.ref ow),c13,some (.ref fa),c15,c16,some (.ref du)],?_,?_⟩
 ·refine ⟨_,rfl,_,rfl,fa,rfl,⟨_,SqL.of xR⟩,aZ (xs:=vN L) (λD k ys H''=>aq H8 H''/\H'' D=some (.lst ys)/\ys=((L.take k).map λk=>(t.rows.getD k ([],0)).2).map V.int) (λD hD=>⟨ai hD _,af,rfl⟩) (λD k ys H'' hD _ h=>SqL.of (h.1 _ _ xR)) (λD k y ys H'' hD e h=>?_) (λD ys H'' hD h=>?_)⟩
  ·obtain ⟨sn,eD,rfl⟩:=h
   obtain ⟨b,rfl,eb⟩:=oO e
   have hk:k < (vN L).length:=(G7.mp e).1
   have hkL:k < L.length:=by rw [cZ] at hk;exact hk
   have hb:=rf k b eb
   have ew:=G6 hb
   generalize t.rows[b]=w_ at ew
   obtain ⟨ro,ero,ce,cvv,q1,_,q2,q3⟩:=g4.2 b w_ ew
   have s4n:=s48.trans sn
   refine ⟨_,rfl,_,rfl,rl,_,_,_,rfl,rfl,SqL.of (s4n _ _ g3),aM ero,ro,_,_,_,rfl,rfl,SqT.of (s4n _ _ q1),rfl,bQ.mk hk eD (aD (by rw [List.length_map,List.length_map,List.length_take];lia)) ⟨sn.upd hD,af,?_⟩⟩
   rw [take_snoc eb,List.map_append,List.map_append,List.map_cons,List.map_cons,getD_at ew]
   rfl
  ·obtain ⟨sn,eD,rfl⟩:=h
   rw [cZ,List.take_length,← hpk] at eD
   have s4n:=s48.trans sn
   exact ⟨_,rfl,_,rfl,dl,_,_,_,rfl,rfl,SqL.of (s4n _ _ edl),aM eda,D,da,t.way,ixF six t.way,fl t.rows cs,p,rfl,sD tok.ok.way,SqL.of eD,hda.same s4n,pok.le,λdu H9 s9 edu=>⟨sn.trans s9,du,edu,rfl⟩⟩
 rintro σ9 H9 ⟨s9,du,edu,rfl⟩
 have s49:=s48.trans s9
 have Ci:=s9 _ _ xR
 refine ⟨_,rfl,pa,_,_,_,rfl,rfl,SqT.of (s49 _ _ epa),rfl,_,rfl,oE (SqL.of (s49 _ _ elc)) (SqL.of ((s8.trans s9) _ _ eo6)) (λx hx=>.inl (xM cs x hx)) ⟨_,rfl,dJ ⟨_,rfl,pa,_,_,_,rfl,rfl,SqT.of (s49 _ _ epa),rfl,_,rfl,fa,rfl,⟨_,SqL.of Ci⟩,aZ (xs:=vN L) (λD k ys H''=>aq H9 H''/\H'' D=some (.lst ys)/\ys=((L.take k).map λb:Nat=>(1:Int) * 2 ^ ((b:Int)).toNat).map V.int) (λD hD=>⟨ai hD _,af,rfl⟩) (λD k ys H'' hD _ h=>SqL.of (h.1 _ _ Ci)) (λD k y ys H'' hD e h=>?_) (λD ys H'' hD h=>?_)⟩⟩⟩
 ·obtain ⟨sn,eD,rfl⟩:=h
  obtain ⟨b,rfl,eb⟩:=oO e
  have hk:k < (vN L).length:=(G7.mp e).1
  have hkL:k < L.length:=by rw [cZ] at hk;exact hk
  have hb:=rf k b eb
  refine ⟨_,rfl,_,_,rfl,rfl,⟨by lia,by lia,by decide⟩,bQ.mk hk eD (aD (by rw [List.length_map,List.length_map,List.length_take];lia)) ⟨sn.upd hD,af,?_⟩⟩
  rw [take_snoc eb,List.map_append,List.map_append]
  rfl
 ·obtain ⟨sn,eD,rfl⟩:=h
  rw [cZ,List.take_length] at eD
  have s4n:=s49.trans sn
  refine ⟨D,_,rfl,SqL.of eD,rfl,_,rfl,de (by rw [nQ]) ⟨_,rfl,pa,_,_,_,rfl,rfl,SqT.of (s4n _ _ epa),rfl,_,rfl,vX (s4n.seqT hr3) (SqT.of (sn _ _ edu)) (q _ s4n)⟩⟩
theorem O_7 (F:Fun K "__init__" "First.__init__" Y7 f fd) (bl:Bl K mg yA yE yN yO yP yQ yR yS yT yU yV yW yX ae yY yZ) (hV:BCallee CX0 P w K mg base 1 "Way" "__init__" ["self", "called"] (bS K yA yE yN yO yP yQ yR yS yT yU yV yW yX ae yY yZ)):aQ P w K mg base CX0 2 f fd ["self"] (J0 K yO):=by
 refine F.ok Z7 (λvs H Q E h=>?_) (λcdv A outer s H vs Q E hr h=>?_)
 ·obtain ⟨x,dx,rfl,hx,q⟩:=h
  rfl
 obtain ⟨x,dx,rfl,hx,q⟩:=h
 refine ⟨_,(ah (aV (eR hV bL hr rfl (aa (pv 0) (aa aT ag))))),?_⟩
 exact ⟨_,rfl,x,dx,_,rfl,hx,q⟩
theorem Ee (F:Fun K "__init__" "Only.__init__" Y18 f fd) (bl:Bl K mg yA yE yN yO yP yQ yR yS yT yU yV yW yX ae yY yZ) (iJ:BCallee CX0 P w K mg base 1 "Way" "__init__" ["self", "called"] (bY K yA yE yN yO yP yQ yR yS yT yU yV yW yX ae yY yZ)):aQ P w K mg base CX0 2 f fd ["self"] (J8 K yP):=by
 refine F.ok Z18 (λvs H Q E h=>?_) (λcdv A outer s H vs Q E hr h=>?_)
 ·obtain ⟨x,dx,rfl,hx,q⟩:=h
  rfl
 obtain ⟨x,dx,rfl,hx,q⟩:=h
 refine ⟨_,(ah (aV (eR iJ bL hr rfl (aa (pv 0) (aa aT ag))))),?_⟩
 exact ⟨_,rfl,x,dx,_,rfl,hx,q⟩
theorem Ef (F:Fun K "__init__" "Like.__init__" Y11 f fd) (bl:Bl K mg yA yE yN yO yP yQ yR yS yT yU yV yW yX ae yY yZ) (iK:BCallee CX0 P w K mg base 1 "Way" "__init__" ["self", "called"] (bZ K yA yE yN yO yP yQ yR yS yT yU yV yW yX ae yY yZ)):aQ P w K mg base CX0 2 f fd ["self"] (J4 K yQ):=by
 refine F.ok Z11 (λvs H Q E h=>?_) (λcdv A outer s H vs Q E hr h=>?_)
 ·obtain ⟨x,dx,rfl,hx,q⟩:=h
  rfl
 obtain ⟨x,dx,rfl,hx,q⟩:=h
 refine ⟨_,(ah (aV (eR iK bL hr rfl (aa (pv 0) (aa aT ag))))),?_⟩
 exact ⟨_,rfl,x,dx,_,rfl,hx,q⟩
theorem Eg (F:Fun K "__init__" "Low.__init__" Y13 f fd) (bl:Bl K mg yA yE yN yO yP yQ yR yS yT yU yV yW yX ae yY yZ) (jk:BCallee CX0 P w K mg base 1 "Way" "__init__" ["self", "called"] (cc K yA yE yN yO yP yQ yR yS yT yU yV yW yX ae yY yZ)):aQ P w K mg base CX0 2 f fd ["self"] (J6 K yR):=by
 refine F.ok Z13 (λvs H Q E h=>?_) (λcdv A outer s H vs Q E hr h=>?_)
 ·obtain ⟨x,dx,rfl,hx,q⟩:=h
  rfl
 obtain ⟨x,dx,rfl,hx,q⟩:=h
 refine ⟨_,(ah (aV (eR jk bL hr rfl (aa (pv 0) (aa aT ag))))),?_⟩
 exact ⟨_,rfl,x,dx,_,rfl,hx,q⟩
theorem O_9 (F:Fun K "__init__" "High.__init__" Y9 f fd) (bl:Bl K mg yA yE yN yO yP yQ yR yS yT yU yV yW yX ae yY yZ) (iL:BCallee CX0 P w K mg base 1 "Way" "__init__" ["self", "called"] (b7 K yA yE yN yO yP yQ yR yS yT yU yV yW yX ae yY yZ)):aQ P w K mg base CX0 2 f fd ["self"] (J2 K yS):=by
 refine F.ok Z9 (λvs H Q E h=>?_) (λcdv A outer s H vs Q E hr h=>?_)
 ·obtain ⟨x,dx,rfl,hx,q⟩:=h
  rfl
 obtain ⟨x,dx,rfl,hx,q⟩:=h
 refine ⟨_,(ah (aV (eR iL bL hr rfl (aa (pv 0) (aa aT ag))))),?_⟩
 exact ⟨_,rfl,x,dx,_,rfl,hx,q⟩
theorem Eh (F:Fun K "__init__" "Sum.__init__" Y20 f fd) (bl:Bl K mg yA yE yN yO yP yQ yR yS yT yU yV yW yX ae yY yZ) (jl:BCallee CX0 P w K mg base 1 "Way" "__init__" ["self", "called"] (cg K yA yE yN yO yP yQ yR yS yT yU yV yW yX ae yY yZ)):aQ P w K mg base CX0 2 f fd ["self"] (J10 K yT):=by
 refine F.ok Z20 (λvs H Q E h=>?_) (λcdv A outer s H vs Q E hr h=>?_)
 ·obtain ⟨x,dx,rfl,hx,q⟩:=h
  rfl
 obtain ⟨x,dx,rfl,hx,q⟩:=h
 refine ⟨_,(ah (aV (eR jl bL hr rfl (aa (pv 0) (aa aT ag))))),?_⟩
 exact ⟨_,rfl,x,dx,_,rfl,hx,q⟩
theorem O_5 (F:Fun K "has_code" "Domain.has_code" Y5 f fd) (bl:Bl K mg yA yE yN yO yP yQ yR yS yT yU yV yW yX ae yY yZ) (jm:Callee P w K mg base 1 "is_whole" ["value"] (eV K yA yE yN yO yP yQ yR yS yT yU yV yW yX ae yY yZ)):aQ P w K mg base CX0 2 f fd ["self", "value"] (bx K yA yE yN yO yP yQ yR yS yT yU yV yW yX ae yY yZ):=by
 refine F.ok Z5 (λvs H Q E h=>?_) (λcdv A outer s H vs Q E hr h=>?_)
 ·obtain ⟨a,b,i,rfl,⟨dx,fs,ha,hl,hh,_⟩,h1,h2,q⟩:=h
  rfl
 obtain ⟨a,b,i,rfl,⟨dx,fs,ha,hl,hh,_⟩,h1,h2,q⟩:=h
 refine ⟨_,(ah (aH (fe (aW jm hr rfl (aa (pv 1) ag)) (i4 (l8 dZ dZ (aY (pv 0) rfl) (pv 1) (aY (pv 0) rfl)))))),?_⟩
 refine ⟨_,rfl,i,rfl,_,rfl,dJ ?_⟩
 refine ⟨_,rfl,a,_,_,_,_,rfl,ha,bl.k_Numbers,bl.na_Numbers_low,hl,_,rfl,_,_,rfl,rfl,_,rfl,de h1 ?_⟩
 refine ⟨_,rfl,a,_,_,_,_,rfl,ha,bl.k_Numbers,bl.na_Numbers_high,hh,_,_,rfl,rfl,?_⟩
 show Q (.bl (decide (i<=b.2))) H
 rw [decide_eq_true h2]
 exact q
theorem O_6 (F:Fun K "has_code" "Domain.has_code" Y6 f fd) (bl:Bl K mg yA yE yN yO yP yQ yR yS yT yU yV yW yX ae yY yZ) (jm:Callee P w K mg base 1 "is_whole" ["value"] (eV K yA yE yN yO yP yQ yR yS yT yU yV yW yX ae yY yZ)):aQ P w K mg base CX0 2 f fd ["self", "value"] (b9 K yA yE yN yO yP yQ yR yS yT yU yV yW yX ae yY yZ):=by
 refine F.ok Z6 (λvs H Q E h=>?_) (λcdv A outer s H vs Q E hr h=>?_)
 ·obtain ⟨a,b,i,rfl,⟨dx,fs,ha,hl,hh,_⟩,h1,h2,q⟩:=h
  rfl
 obtain ⟨a,b,i,rfl,⟨dx,fs,ha,hl,hh,_⟩,h1,h2,q⟩:=h
 refine ⟨_,(ah (aH (fe (aW jm hr rfl (aa (pv 1) ag)) (i4 (l8 dZ dZ (aY (pv 0) rfl) (pv 1) (aY (pv 0) rfl)))))),?_⟩
 refine ⟨_,rfl,i,rfl,_,rfl,dJ ?_⟩
 refine ⟨_,rfl,a,_,_,_,_,rfl,ha,bl.k_Words,bl.na_Words_low,hl,_,rfl,_,_,rfl,rfl,_,rfl,de h1 ?_⟩
 refine ⟨_,rfl,a,_,_,_,_,rfl,ha,bl.k_Words,bl.na_Words_high,hh,_,_,rfl,rfl,?_⟩
 show Q (.bl (decide (i<=b.2))) H
 rw [decide_eq_true h2]
 exact q
theorem Ei (F:Fun K "__init__" "Numbers.__init__" Y15 f fd) (bl:Bl K mg yA yE yN yO yP yQ yR yS yT yU yV yW yX ae yY yZ) (eO:BCallee CX0 P w K mg base 1 "Domain" "__init__" ["self", "low", "high"] (bw K yA yE yN yO yP yQ yR yS yT yU yV yW yX ae yY yZ)):aQ P w K mg base CX0 2 f fd ["self", "low", "high"] (bu K yA yE yN yO yP yQ yR yS yT yU yV yW yX ae yY yZ):=by
 refine F.ok Z15 (λvs H Q E h=>?_) (λcdv A outer s H vs Q E hr h=>?_)
 ·obtain ⟨x,dx,lo,hi,rfl,hx,hle,q⟩:=h
  rfl
 obtain ⟨x,dx,lo,hi,rfl,hx,hle,q⟩:=h
 refine ⟨_,(aC (aR (aJ gO (pv 1) (pv 2) (aO _))
  (ah ba)
  aI)
  (ah (aV (eR eO bL hr rfl (aa (pv 0) (aa (pv 1) (aa (pv 2) ag))))))),?_⟩
 exact ⟨_,rfl,_,rfl,_,_,rfl,rfl,_,rfl,bM (by lia) ⟨_,rfl,_,rfl,_,rfl,x,dx,lo,hi,rfl,hx,q⟩⟩
theorem O_4 (F:Fun K "code" "Domain.code" Y4 f fd) (bl:Bl K mg yA yE yN yO yP yQ yR yS yT yU yV yW yX ae yY yZ) (fC:MCallee CX0 P w K mg base 1 yW "borne_code" ["self", "value"] (bU K yA yE yN yO yP yQ yR yS yT yU yV yW yX ae yY yZ)) (iM:MCallee CX0 P w K mg base 1 yW "bears" ["self", "value"] (cP K yA yE yN yO yP yQ yR yS yT yU yV yW yX ae yY yZ)):aQ P w K mg base CX0 2 f fd ["self", "value"] (cQ K yA yE yN yO yP yQ yR yS yT yU yV yW yX ae yY yZ):=by
 refine F.ok Z4 (λvs H Q E h=>?_) (λcdv A outer s H vs Q E hr h=>?_)
 ·obtain ⟨a,zs,z,j,rfl,hW,nd,ez,q⟩:=h
  rfl
 obtain ⟨a,zs,z,j,rfl,hW,nd,ez,q⟩:=h
 refine ⟨_,(aC (aR (cw (cG (gP iM bL bl.k_Words hr (pv 0) (aa (pv 1) ag))))
  (ah ba)
  aI)
  (ah (aH (gP fC bL bl.k_Words hr (pv 0) (aa (pv 1) ag))))),?_⟩
 obtain ⟨dx,lw,ha,hw⟩:=id hW
 refine ⟨_,rfl,a,_,_,rfl,ha,rfl,_,rfl,a,zs,z,rfl,hW,G8 ez,_,rfl,b8 ?_⟩
 exact ⟨_,rfl,a,_,_,rfl,ha,rfl,_,rfl,a,zs,z,j,rfl,hW,nd,ez,q⟩
theorem Ej (F:Fun K "verdict" "Way.verdict" Y29 f fd) (bl:Bl K mg yA yE yN yO yP yQ yR yS yT yU yV yW yX ae yY yZ) (hZ:MCallee CX0 P w K mg base 1 yO "chosen" ["self", "codes", "outcome"] (J1 K yO yV yW)):aQ P w K mg base CX0 2 f fd ["self", "codes", "outcome"] (J12 K yO yV yW):=by
 refine F.ok Z29 (λvs H Q E h=>?_) (λcdv A outer s H vs Q E hr h=>?_)
 ·obtain ⟨x,c,o,ns,b,rfl,⟨dx,z,hx⟩,ho,hle,hS,hn,q⟩:=h
  rfl
 obtain ⟨x,c,o,ns,b,rfl,⟨dx,z,hx⟩,ho,hle,hS,hn,q⟩:=h
 refine ⟨_,(aC (aR (cw (dB (pv 1) (by intro _;rfl)))
  (ah (aH (cK (v:=.ref yY) rfl bl.NONE_ rfl)))
  aI)
  (ah (aH (gP hZ bL bl.k_First hr (pv 0) (aa (pv 1) (aa (pv 2) ag)))))),?_⟩
 refine ⟨_,rfl,!(ns.map V.int).isEmpty,.inl ⟨_,hS,rfl⟩,?_⟩
 cases ns with
 | nil=>exact dJ (q _ _ (aq.refl _) (bl.q_NONE.sq _))
 | cons n ns=>exact b8 ⟨_,rfl,x,_,_,rfl,hx,rfl,_,rfl,_,rfl,x,c,o,n,ns,b,rfl,⟨dx,z,hx⟩,ho,hle,hS,Nat.lt_of_succ_lt hn,q⟩
theorem Ek (F:Fun K "verdict" "Way.verdict" Y33 f fd) (bl:Bl K mg yA yE yN yO yP yQ yR yS yT yU yV yW yX ae yY yZ) (jn:MCallee CX0 P w K mg base 1 yP "chosen" ["self", "codes", "outcome"] (J9 K yP yV yW)):aQ P w K mg base CX0 2 f fd ["self", "codes", "outcome"] (J16 K yP yV yW):=by
 refine F.ok Z33 (λvs H Q E h=>?_) (λcdv A outer s H vs Q E hr h=>?_)
 ·obtain ⟨x,c,o,ns,b,rfl,⟨dx,z,hx⟩,ho,hle,hS,hn,q⟩:=h
  rfl
 obtain ⟨x,c,o,ns,b,rfl,⟨dx,z,hx⟩,ho,hle,hS,hn,q⟩:=h
 refine ⟨_,(aC (aR (cw (dB (pv 1) (by intro _;rfl)))
  (ah (aH (cK (v:=.ref yY) rfl bl.NONE_ rfl)))
  aI)
  (ah (aH (gP jn bL bl.k_Only hr (pv 0) (aa (pv 1) (aa (pv 2) ag)))))),?_⟩
 refine ⟨_,rfl,!(ns.map V.int).isEmpty,.inl ⟨_,hS,rfl⟩,?_⟩
 cases ns with
 | nil=>exact dJ (q _ _ (aq.refl _) (bl.q_NONE.sq _))
 | cons n ns=>exact b8 ⟨_,rfl,x,_,_,rfl,hx,rfl,_,rfl,_,rfl,x,c,o,n,ns,b,rfl,⟨dx,z,hx⟩,ho,hle,hS,Nat.lt_of_succ_lt hn,q⟩
theorem El (F:Fun K "verdict" "Way.verdict" Y31 f fd) (bl:Bl K mg yA yE yN yO yP yQ yR yS yT yU yV yW yX ae yY yZ) (jo:MCallee CX0 P w K mg base 1 yQ "chosen" ["self", "codes", "outcome"] (J5 K yQ yV yW)):aQ P w K mg base CX0 2 f fd ["self", "codes", "outcome"] (J14 K yQ yV yW):=by
 refine F.ok Z31 (λvs H Q E h=>?_) (λcdv A outer s H vs Q E hr h=>?_)
 ·obtain ⟨x,c,o,ns,b,rfl,⟨dx,z,hx⟩,ho,hle,hS,hn,q⟩:=h
  rfl
 obtain ⟨x,c,o,ns,b,rfl,⟨dx,z,hx⟩,ho,hle,hS,hn,q⟩:=h
 refine ⟨_,(aC (aR (cw (dB (pv 1) (by intro _;rfl)))
  (ah (aH (cK (v:=.ref yY) rfl bl.NONE_ rfl)))
  aI)
  (ah (aH (gP jo bL bl.k_Like hr (pv 0) (aa (pv 1) (aa (pv 2) ag)))))),?_⟩
 refine ⟨_,rfl,!(ns.map V.int).isEmpty,.inl ⟨_,hS,rfl⟩,?_⟩
 cases ns with
 | nil=>exact dJ (q _ _ (aq.refl _) (bl.q_NONE.sq _))
 | cons n ns=>exact b8 ⟨_,rfl,x,_,_,rfl,hx,rfl,_,rfl,_,rfl,x,c,o,n,ns,b,rfl,⟨dx,z,hx⟩,ho,hle,hS,Nat.lt_of_succ_lt hn,q⟩
theorem Em (F:Fun K "verdict" "Way.verdict" Y32 f fd) (bl:Bl K mg yA yE yN yO yP yQ yR yS yT yU yV yW yX ae yY yZ) (kR:MCallee CX0 P w K mg base 1 yR "chosen" ["self", "codes", "outcome"] (J7 K yR yV yW)):aQ P w K mg base CX0 2 f fd ["self", "codes", "outcome"] (J15 K yR yV yW):=by
 refine F.ok Z32 (λvs H Q E h=>?_) (λcdv A outer s H vs Q E hr h=>?_)
 ·obtain ⟨x,c,o,ns,b,rfl,⟨dx,z,hx⟩,ho,hle,hS,hn,q⟩:=h
  rfl
 obtain ⟨x,c,o,ns,b,rfl,⟨dx,z,hx⟩,ho,hle,hS,hn,q⟩:=h
 refine ⟨_,(aC (aR (cw (dB (pv 1) (by intro _;rfl)))
  (ah (aH (cK (v:=.ref yY) rfl bl.NONE_ rfl)))
  aI)
  (ah (aH (gP kR bL bl.k_Low hr (pv 0) (aa (pv 1) (aa (pv 2) ag)))))),?_⟩
 refine ⟨_,rfl,!(ns.map V.int).isEmpty,.inl ⟨_,hS,rfl⟩,?_⟩
 cases ns with
 | nil=>exact dJ (q _ _ (aq.refl _) (bl.q_NONE.sq _))
 | cons n ns=>exact b8 ⟨_,rfl,x,_,_,rfl,hx,rfl,_,rfl,_,rfl,x,c,o,n,ns,b,rfl,⟨dx,z,hx⟩,ho,hle,hS,Nat.lt_of_succ_lt hn,q⟩
theorem En (F:Fun K "verdict" "Way.verdict" Y30 f fd) (bl:Bl K mg yA yE yN yO yP yQ yR yS yT yU yV yW yX ae yY yZ) (jq:MCallee CX0 P w K mg base 1 yS "chosen" ["self", "codes", "outcome"] (J3 K yS yV yW)):aQ P w K mg base CX0 2 f fd ["self", "codes", "outcome"] (J13 K yS yV yW):=by
 refine F.ok Z30 (λvs H Q E h=>?_) (λcdv A outer s H vs Q E hr h=>?_)
 ·obtain ⟨x,c,o,ns,b,rfl,⟨dx,z,hx⟩,ho,hle,hS,hn,q⟩:=h
  rfl
 obtain ⟨x,c,o,ns,b,rfl,⟨dx,z,hx⟩,ho,hle,hS,hn,q⟩:=h
 refine ⟨_,(aC (aR (cw (dB (pv 1) (by intro _;rfl)))
  (ah (aH (cK (v:=.ref yY) rfl bl.NONE_ rfl)))
  aI)
  (ah (aH (gP jq bL bl.k_High hr (pv 0) (aa (pv 1) (aa (pv 2) ag)))))),?_⟩
 refine ⟨_,rfl,!(ns.map V.int).isEmpty,.inl ⟨_,hS,rfl⟩,?_⟩
 cases ns with
 | nil=>exact dJ (q _ _ (aq.refl _) (bl.q_NONE.sq _))
 | cons n ns=>exact b8 ⟨_,rfl,x,_,_,rfl,hx,rfl,_,rfl,_,rfl,x,c,o,n,ns,b,rfl,⟨dx,z,hx⟩,ho,hle,hS,Nat.lt_of_succ_lt hn,q⟩
theorem Eo (F:Fun K "verdict" "Way.verdict" Y34 f fd) (bl:Bl K mg yA yE yN yO yP yQ yR yS yT yU yV yW yX ae yY yZ) (kS:MCallee CX0 P w K mg base 1 yT "chosen" ["self", "codes", "outcome"] (J11 K yT yV yW)):aQ P w K mg base CX0 2 f fd ["self", "codes", "outcome"] (J17 K yT yV yW):=by
 refine F.ok Z34 (λvs H Q E h=>?_) (λcdv A outer s H vs Q E hr h=>?_)
 ·obtain ⟨x,c,o,ns,b,rfl,⟨dx,z,hx⟩,ho,hle,hS,hn,q⟩:=h
  rfl
 obtain ⟨x,c,o,ns,b,rfl,⟨dx,z,hx⟩,ho,hle,hS,hn,q⟩:=h
 refine ⟨_,(aC (aR (cw (dB (pv 1) (by intro _;rfl)))
  (ah (aH (cK (v:=.ref yY) rfl bl.NONE_ rfl)))
  aI)
  (ah (aH (gP kS bL bl.k_Sum hr (pv 0) (aa (pv 1) (aa (pv 2) ag)))))),?_⟩
 refine ⟨_,rfl,!(ns.map V.int).isEmpty,.inl ⟨_,hS,rfl⟩,?_⟩
 cases ns with
 | nil=>exact dJ (q _ _ (aq.refl _) (bl.q_NONE.sq _))
 | cons n ns=>exact b8 ⟨_,rfl,x,_,_,rfl,hx,rfl,_,rfl,_,rfl,x,c,o,n,ns,b,rfl,⟨dx,z,hx⟩,ho,hle,hS,Nat.lt_of_succ_lt hn,q⟩
theorem Ep (F:Fun K "refuse_names" "refuse_names" Y74 f fd) (bl:Bl K mg yA yE yN yO yP yQ yR yS yT yU yV yW yX ae yY yZ) (fP:Callee P w K mg base 2 "is_word" ["text"] (eK K yA yE yN yO yP yQ yR yS yT yU yV yW yX ae yY yZ)):aQ P w K mg base CX0 3 f fd ["facts", "tables"] (cJ K yA yE yN yO yP yQ yR yS yT yU yV yW yX ae yY yZ):=by
 refine F.ok Z74 (λvs H Q E h=>?_) (λcdv A outer s H vs Q E hr h=>?_)
 ·obtain ⟨fa,ma,fv,mv,zs,ds,ts,fN,L,rfl,efa,ema,hB,q⟩:=h
  rfl
 obtain ⟨fa,ma,fv,mv,zs,ds,ts,fN,L,rfl,efa,ema,hB,q⟩:=h
 refine ⟨_,(aw (bb PassesOwn.never rfl (aP (pv 0)) (dr rfl (aN (aF (i:=2) Z74.nd rfl (Or.inl rfl)) (aN (aF (i:=3) Z74.nd rfl (Or.inl rfl)) bO)))
  (ah (aR (cw (cG (aW fP hr rfl (aa (pv 2) ag))))
  (ah ba)
  aI)))
  (aw (aL (i:=4) Z74.nd rfl (Or.inl rfl) (aG mi (fI (aP (pv 0)) (cS (N:=["name", "domain"]) (k:=2) rfl rfl (by decide +kernel) (by decide +kernel) (by decide +kernel)) rfl (λ_ _ _ _=>(ox (K:=K) (n:=2) rfl rfl (aN (aF (i:=0) (show (["name", "domain"]:List Str).Nodup by decide +kernel) rfl (Or.inl rfl) (Or.inr rfl)) (aN (aF (i:=1) (show (["name", "domain"]:List Str).Nodup by decide +kernel) rfl (Or.inl rfl) (Or.inr rfl)) bO)))) (λ_ _ _ _=>aU) (λ_ _ _ _=>(pv 0))) (bt (aP (pv 1)) (bg rfl (by decide +kernel) (by decide +kernel) (by decide +kernel) rfl) rfl (λ_ _ _ _=>aU) (λ_ _ _ _=>(jX (K:=K) rfl (pv 0) rfl)))))
  (aC (aR (aJ l7 (au fh rfl bl.len_ PySem.boot_len (aa (bD (fg rfl) rfl bl.set_ PyProof.Rows.boot_set (aa (pv 4) ag)) ag)) (au ar rfl bl.len_ PySem.boot_len (aa (pv 4) ag)) (aO _))
  (ah ba)
  aI)
  (ah (bb PassesOwn.never rfl (aP (pv 1)) (aF (i:=5) Z74.nd rfl (Or.inl rfl))
  (ah (bb PassesOwn.never rfl (aP (aY (pv 5) rfl)) (aF (i:=2) Z74.nd rfl (Or.inl rfl))
  (ah (aR (aJ jT (pv 2) (pv 4) (by with_unfolding_all rfl))
  (ah ba)
  aI))))))))),?_⟩
 obtain ⟨b1,b2,b3⟩:=hB.few
 have hfl:fv.length=fN:=by rw [hB.facts.1,List.length_range]
 have hml:mv.length=L.length:=hB.tabs.1
 refine ⟨λσ' H'=>H'=H/\∃ c2 c3:Option V,σ'=[some (.ref fa),some (.ref ma),c2,c3,none,none],?_,?_⟩
 ·refine ⟨_,rfl,fa,rfl,⟨_,SqL.of efa⟩,bf (xs:=fv) (λi σ H'=>H'=H/\∃ c2 c3:Option V,σ=[some (.ref fa),some (.ref ma),c2,c3,none,none]) ⟨rfl,_,_,rfl⟩ (λi σ H' _ h=>by rw [h.1];exact SqL.of efa) (λi y σ H' e h=>?_) (λσ H' h=>h)⟩
  obtain ⟨e0,c2,c3,rfl⟩:=h
  rw [e0]
  obtain ⟨r,k,rfl,ek,nm,po,d,h1,h2,h3,h4⟩:=az.get hB.facts e
  have hw:=hB.ok.words nm (G8 h1)
  refine ⟨r,_,rfl,SqT.of h3,rfl,_,_,rfl,_,_,rfl,rfl,?_⟩
  refine ⟨_,rfl,nm,rfl,Nat.le_trans (tV hw) (by decide),_,rfl,?_⟩
  rw [hw]
  exact b8 ⟨rfl,_,_,rfl⟩
 rintro σ1 H1 ⟨e1,c2,c3,rfl⟩
 rw [e1]
 clear e1
 refine ⟨λσ' H'=>aq H H'/\∃ na:Addr,H' na=some (.lst ((bnm zs fN L).map V.str))/\σ'=[some (.ref fa),some (.ref ma),c2,c3,some (.ref na),none],?_,?_⟩
 ·refine ⟨_,rfl,fa,rfl,⟨_,SqL.of efa⟩,dM (xs:=fv) (λD i ys H'=>aq H H'/\H' D=some (.lst ys)/\ys=(zs.take i).map V.str) (λD hD=>⟨ai hD _,af,rfl⟩) (λD i ys H' hD _ h=>SqL.of (h.1 _ _ efa)) (λD i y ys H' hD e h ts_ hts=>?_) (λD ys H' hD h=>?_)⟩
  ·obtain ⟨sm,eD,rfl⟩:=h
   obtain ⟨r,k,rfl,ek,nm,po,d,h1,h2,h3,h4⟩:=az.get hB.facts e
   obtain ⟨rfl,hi⟩:=pF ek
   obtain ⟨t0,t1,rfl⟩:∃ t0 t1,ts_=[t0,t1]:=by
    match ts_,hts with
    | [t0,t1],_=>exact ⟨t0,t1,rfl⟩
   refine ⟨r,_,rfl,SqT.of (sm _ _ h3),rfl,_,_,rfl,_,_,rfl,rfl,⟨[some (.str nm),some (.ref d)],rfl,rfl⟩,?_⟩
   refine ⟨_,rfl,bQ.mk (by lia) eD (aD (by rw [List.length_map,List.length_take];lia)) ⟨sm.upd hD,af,?_⟩⟩
   rw [take_snoc h1,List.map_append]
   rfl
  ·obtain ⟨sm,eD,rfl⟩:=h
   rw [hfl] at eD
   refine ⟨_,rfl,ma,rfl,⟨_,SqL.of (sm _ _ ema)⟩,aZ (xs:=mv) (λD2 i ys H2=>aq H' H2/\H2 D2=some (.lst ys)/\ys=((L.take i).map (tnm zs fN)).map V.str) (λD2 hD2=>⟨ai hD2 _,af,rfl⟩) (λD2 i ys H2 hD2 _ h=>SqL.of (h.1 _ _ (sm _ _ ema))) (λD2 i y ys H2 hD2 e h=>?_) (λD2 ys H2 hD2 h=>?_)⟩
   ·obtain ⟨s2,eD2,rfl⟩:=h
    obtain ⟨t_,k,rfl,ek,tt,nm,po,ou,dv,g1,g2,g3,g4,g5,g6⟩:=az.get hB.tabs e
    obtain ⟨rl,dx,na,dl,fs,xs,ht,f1,f2,f3,f4,f5,f6,ena,edl,erl,hR,fA⟩:=g4
    have hi:i < mv.length:=(G7.mp e).1
    have sA:=sm.trans s2
    refine ⟨_,rfl,t_,_,_,_,_,rfl,sA _ _ ht,bl.k_Table,bl.na_Table_name,f2,bQ.mk hi eD2 (aD (by rw [List.length_map,List.length_map,List.length_take];lia)) ⟨s2.upd hD2,af,?_⟩⟩
    rw [take_snoc ek,List.map_append,List.map_append]
    show _ ++ [V.str nm]=_ ++ [V.str (tnm zs fN k)]
    rw [dk g2]
   ·obtain ⟨s2,eD2,rfl⟩:=h
    rw [hml,List.take_length] at eD2
    refine ⟨D,D2,_,_,rfl,rfl,s2 _ _ eD,eD2,Nat.le_of_lt (aD (by rw [List.length_map,List.length_map,List.length_map,List.length_take];lia)),λp hp=>⟨(sm.trans s2).trans (ai hp _),p,?_,rfl⟩⟩
    rw [af]
    unfold bnm
    rw [List.map_append]
 rintro σ2 H2 ⟨s2,na,ena,rfl⟩
 have hbl:(bnm zs fN L).length<=14:=by unfold bnm;rw [List.length_append,List.length_take,List.length_map];lia
 have hnl:((bnm zs fN L).map V.str).length=(bnm zs fN L).length:=List.length_map _
 refine ⟨_,rfl,na,bnm zs fN L,rfl,SqL.of ena,by lia,λl hl2=>⟨l,bnm zs fN L,rfl,af,by lia,_,rfl,na,_,rfl,.inl (SqL.of (ai hl2 _ _ _ ena)),_,_,rfl,rfl,_,rfl,?_⟩⟩
 have cf:=iw (bnm zs fN L) (bnm zs fN L).length (Nat.le_refl _)
 rw [List.take_length] at cf
 refine bM (by rw [hnl,cf.mpr hB.bnd_];lia) ?_
 have s3:=s2.trans (ai hl2 (ly P w l (bnm zs fN L)))
 have Er:=ai hl2 (ly P w l (bnm zs fN L)) _ _ ena
 refine ⟨_,rfl,ma,rfl,⟨_,SqL.of (s3 _ _ ema)⟩,bf (xs:=mv) (λi σ H'=>aq H H'/\H' na=some (.lst ((bnm zs fN L).map V.str))/\∃ c2 c5:Option V,σ=[some (.ref fa),some (.ref ma),c2,c3,some (.ref na),c5]) ⟨s3,Er,_,_,rfl⟩ (λi σ H' _ h=>SqL.of (h.1 _ _ ema)) (λi y σ H' e h=>?_) (λσ H' h=>q H' h.1)⟩
 obtain ⟨s4,Cj,d2,d5,rfl⟩:=h
 obtain ⟨t_,k,rfl,ek,tt,nm,po,ou,dv,g1,g2,g3,g4,g5,g6⟩:=az.get hB.tabs e
 obtain ⟨rl,dx,na2,dl,fs,xs,ht,f1,f2,f3,f4,f5,f6,Ck,edl,erl,hR,fA⟩:=g4
 refine ⟨_,rfl,t_,_,_,_,_,rfl,s4 _ _ ht,bl.k_Table,bl.na_Table_names,f5,na2,rfl,⟨_,SqL.of (s4 _ _ Ck)⟩,bf (xs:=(prm tt.cols zs).map V.str) (λi σ H2=>H2=H'/\∃ c2:Option V,σ=[some (.ref fa),some (.ref ma),c2,c3,some (.ref na),some (.ref t_)]) ⟨rfl,_,rfl⟩ (λi σ H2 _ h=>by rw [h.1];exact SqL.of (s4 _ _ Ck)) (λi y σ H2 e h=>?_) (λσ H2 h=>by rw [h.1];exact ⟨s4,Cj,let ⟨c,e⟩:=h.2;⟨c,_,e⟩⟩)⟩
 obtain ⟨e0,d2',rfl⟩:=h
 rw [e0]
 obtain ⟨z,rfl,ez⟩:=cO e
 have hz:=hB.has (tU (G8 ez))
 refine ⟨_,rfl,_,rfl,na,_,rfl,.inl (SqL.of Cj),rfl,dn _,_,rfl,?_⟩
 rw [show (if true=true then !inV (V.str z) ((bnm zs fN L).map V.str) else inV (V.str z) ((bnm zs fN L).map V.str))=false by rw [if_pos rfl,gW];simpa using hz]
 exact b8 ⟨rfl,_,rfl⟩
theorem Es (F:Fun K "refuse_names" "refuse_names" Y75 f fd) (bl:Bl K mg yA yE yN yO yP yQ yR yS yT yU yV yW yX ae yY yZ) (fP:Callee P w K mg base 2 "is_word" ["text"] (eK K yA yE yN yO yP yQ yR yS yT yU yV yW yX ae yY yZ)):aQ P w K mg base CX0 3 f fd ["names"] (cA K yA yE yN yO yP yQ yR yS yT yU yV yW yX ae yY yZ):=by
 refine F.ok Z75 (λvs H Q E h=>?_) (λcdv A outer s H vs Q E hr h=>?_)
 ·obtain ⟨p,zs,rfl,hS,hw,hn,hl,q⟩:=h
  rfl
 obtain ⟨p,zs,rfl,hS,hw,hn,hl,q⟩:=h
 refine ⟨_,(aw (bb PassesOwn.never rfl (aP (pv 0)) (aF (i:=1) Z75.nd rfl (Or.inl rfl))
  (ah (aR (cw (cG (aW fP hr rfl (aa (pv 1) ag))))
  (ah ba)
  aI)))
  (ah (aR (aJ l7 (au fh rfl bl.len_ PySem.boot_len (aa (bD (fg rfl) rfl bl.set_ PyProof.Rows.boot_set (aa (pv 0) ag)) ag)) (au ar rfl bl.len_ PySem.boot_len (aa (pv 0) ag)) (aO _))
  (ah ba)
  aI))),?_⟩
 have hlen:(zs.map V.str).length=zs.length:=List.length_map _
 refine ⟨λσ' H'=>H'=H/\∃ c1:Option V,σ'=[some (.ref p),c1],?_,?_⟩
 ·refine ⟨_,rfl,p,rfl,⟨_,hS⟩,bf (xs:=zs.map V.str) (λi σ H'=>H'=H/\∃ c1:Option V,σ=[some (.ref p),c1]) ⟨rfl,_,rfl⟩ (λi σ H' _ h=>by rw [h.1];exact hS) (λi y σ H' e h=>?_) (λσ H' h=>h)⟩
  obtain ⟨e0,c1,rfl⟩:=h
  rw [e0]
  obtain ⟨z,rfl,ez⟩:=cO e
  have hz1:=hw z (G8 ez)
  have hz:z.length<=1000:=by
   have hw2:=hz1
   unfold isw at hw2
   simp only [Bool.and_eq_true,decide_eq_true_eq] at hw2
   lia
  refine ⟨_,rfl,z,rfl,hz,_,rfl,?_⟩
  rw [hz1]
  exact b8 ⟨rfl,_,rfl⟩
 rintro σ2 H2 ⟨e2,c1,rfl⟩
 rw [e2]
 refine ⟨_,rfl,p,zs,rfl,hS,by lia,λl hl2=>⟨l,zs,rfl,af,by lia,_,rfl,p,_,rfl,.inl ((ai hl2 _).seq hS),_,_,rfl,rfl,_,rfl,?_⟩⟩
 have cf:=iw zs zs.length (Nat.le_refl _)
 rw [List.take_length] at cf
 exact bM (by rw [hlen,cf.mpr hn];lia) (q _ (ai hl2 _))
theorem Et (F:Fun K "refuse_row" "refuse_row" Y77 f fd) (bl:Bl K mg yA yE yN yO yP yQ yR yS yT yU yV yW yX ae yY yZ) (bV:MCallee CX0 P w K mg base 2 yV "has_code" ["self", "value"] (bx K yA yE yN yO yP yQ yR yS yT yU yV yW yX ae yY yZ)) (fQ:MCallee CX0 P w K mg base 2 yW "has_code" ["self", "value"] (b9 K yA yE yN yO yP yQ yR yS yT yU yV yW yX ae yY yZ)):aQ P w K mg base CX0 3 f fd ["domains", "outcome", "cells", "code"] (fu K yA yE yN yO yP yQ yR yS yT yU yV yW yX ae yY yZ):=by
 refine F.ok Z77 (λvs H Q E h=>?_) (λcdv A outer s H vs Q E hr h=>?_)
 ·obtain ⟨dl,ou,cl,dv,xs,bs,o,w_,rfl,hD,hdv,hO,hC,hcl,ok,q⟩:=h
  rfl
 obtain ⟨dl,ou,cl,dv,xs,bs,o,w_,rfl,hD,hdv,hO,hC,hcl,ok,q⟩:=h
 refine ⟨_,(aC (aR (aJ n5 (au ar rfl bl.len_ PySem.boot_len (aa (pv 2) ag)) (au ar rfl bl.len_ PySem.boot_len (aa (pv 0) ag)) (aO _))
  (ah ba)
  aI)
  (aw (bb PassesOwn.never rfl (rY rfl bl.zip_ (aa (pv 0) (aa (pv 2) ag))) (dr rfl (aN (aF (i:=4) Z77.nd rfl (Or.inl rfl)) (aN (aF (i:=5) Z77.nd rfl (Or.inl rfl)) bO)))
  (ah (bb PassesOwn.never rfl (aP (pv 5)) (dr rfl (aN (aF (i:=6) Z77.nd rfl (Or.inl rfl)) (aN (aF (i:=7) Z77.nd rfl (Or.inl rfl)) bO)))
  (ah (aR (PW.pt (nX (aJ l7 (pv 6) (aY (pv 4) rfl) (aO _)) (l5 (aJ gO (pv 7) (aY (pv 4) rfl) (aO _)))))
  (ah ba)
  aI)))))
  (ah (aR (cw (cG (rX (nN bV bl.k_Numbers (nN fQ bl.k_Words zI)) bL hr (pv 1) (aa (pv 3) ag))))
  (ah ba)
  aI)))),?_⟩
 have hdf:∀ (C:Addr),(C=yV\/C=yW)->Cls K C/\bq K C (Str.ofString "low")/\bq K C (Str.ofString "high"):=λC h=>by
  rcases h with rfl | rfl
  ·exact ⟨bl.k_Numbers,bl.na_Numbers_low,bl.na_Numbers_high⟩
  ·exact ⟨bl.k_Words,bl.na_Words_low,bl.na_Words_high⟩
 have hlen:xs.length=dv.length:=by rw [hcl.1,ok.len,hdv.1]
 refine ⟨_,rfl,cl,_,rfl,.inl (SqL.of hC),_,rfl,dl,_,rfl,.inl (hD),rfl,_,rfl,qL (by rw [hlen]) ?_⟩
 refine ⟨λσ' H'=>aq H H'/\∃ c4 c5 c6 c7:Option V,σ'=[some (.ref dl),some (.ref ou),some (.ref cl),some (.int w_.2),c4,c5,c6,c7],?_,?_⟩
 ·refine ⟨_,rfl,_,rfl,dl,cl,rfl,⟨_,hD⟩,⟨_,SqL.of hC⟩,ph (xs:=dv) (ys:=xs) (λi σ H'=>aq H H'/\∃ c4 c5 c6 c7:Option V,σ=[some (.ref dl),some (.ref ou),some (.ref cl),some (.int w_.2),c4,c5,c6,c7]) ⟨aq.refl _,_,_,_,_,rfl⟩ (λi σ H' h=>⟨h.1.seq hD,SqL.of (h.1 _ _ hC)⟩) (λi x y σ H' T ex ey h hT=>?_) (λσ H' h=>h)⟩
  obtain ⟨sm,c4,c5,c6,c7,rfl⟩:=h
  have s2:=sm.trans (ai hT (.tup [x,y]))
  have eT:upd H' T (.tup [x,y]) T=some (.tup [x,y]):=af
  generalize upd H' T (.tup [x,y])=H2 at s2 eT ⊢
  obtain ⟨a,b,rfl,eb,hb⟩:=hdv.get ex
  obtain ⟨l,ps,rfl,ep,hl⟩:=az.get hcl ey
  obtain ⟨C,hC',dx,fs,ha,f1,f2,_⟩:=hb.same s2
  obtain ⟨k1,k2,k3⟩:=hdf C hC'
  obtain ⟨_,ys,el,hp⟩:=hl.same s2
  refine ⟨T,_,rfl,SqT.of eT,rfl,_,_,rfl,_,_,rfl,rfl,?_⟩
  refine ⟨_,rfl,l,rfl,⟨_,SqL.of el⟩,bf (xs:=ys) (λj σ H'=>H'=H2/\∃ c6 c7:Option V,σ=[some (.ref dl),some (.ref ou),some (.ref cl),some (.int w_.2),some (.ref a),some (.ref l),c6,c7]) ⟨rfl,_,_,rfl⟩ (λj σ H' _ h=>by rw [h.1];exact SqL.of el) (λj y σ H' e h=>?_) (λσ H' h=>?_)⟩
  ·obtain ⟨e0,c6,c7,rfl⟩:=h
   rw [e0]
   obtain ⟨p,r,e1,rfl,hr'⟩:=hp.get e
   obtain ⟨i1,i2⟩:=ok.inn i ps b ep eb p (G8 e1)
   refine ⟨r,_,rfl,SqT.of hr',rfl,_,_,rfl,_,_,rfl,rfl,?_⟩
   refine ⟨_,rfl,_,rfl,a,_,_,_,_,rfl,ha,k1,k2,f1,_,_,rfl,rfl,_,rfl,bM (by lia) ?_⟩
   exact ⟨_,rfl,_,rfl,a,_,_,_,_,rfl,ha,k1,k3,f2,_,_,rfl,rfl,_,rfl,bM (by lia) ⟨rfl,_,_,rfl⟩⟩
  ·obtain ⟨e0,c6,c7,rfl⟩:=h
   rw [e0]
   exact ⟨s2,_,_,_,_,rfl⟩
 rintro σ3 H3 ⟨s3,c4,c5,c6,c7,rfl⟩
 obtain ⟨C,hC',hd⟩:=hO.same s3
 obtain ⟨dx,fs,ha,f1,f2,f3⟩:=id hd
 rcases hC' with rfl | rfl
 ·exact ⟨_,rfl,ou,_,dx,fs,rfl,.head _,ha,f3,_,rfl,ou,o,w_.2,rfl,hd,ok.lo,ok.hi,_,rfl,b8 (q _ s3)⟩
 ·exact ⟨_,rfl,ou,_,dx,fs,rfl,.tail _ (.head _),ha,f3,_,rfl,ou,o,w_.2,rfl,hd,ok.lo,ok.hi,_,rfl,b8 (q _ s3)⟩
theorem Eu (F:Fun K "mask" "mask" Y65 f fd) (bl:Bl K mg yA yE yN yO yP yQ yR yS yT yU yV yW yX ae yY yZ) (Ao:Callee P w K mg base 2 "fits" ["table", "k", "codes"] (pK K yA yE yN yO yP yQ yR yS yT yU yV yW yX ae yY yZ)):aQ P w K mg base CX0 3 f fd ["table", "codes"] (pL K yA yE yN yO yP yQ yR yS yT yU yV yW yX ae yY yZ):=by
 refine F.ok Z65 (λvs H Q E h=>?_) (λcdv A outer s H vs Q E hr h=>?_)
 ·obtain ⟨t,c,rws,wi,o,cs,rfl,⟨rl,ou,dx,fs,xs,wy,ht,hf,hfw,hfo,erl,hR,hwi,hou,hole,fA⟩,hS,hlen,q⟩:=h
  rfl
 obtain ⟨t,c,rws,wi,o,cs,rfl,⟨rl,ou,dx,fs,xs,wy,ht,hf,hfw,hfo,erl,hR,hwi,hou,hole,fA⟩,hS,hlen,q⟩:=h
 refine ⟨_,(ah (aH (au (dP rfl) rfl bl.sum_ PyProof.Rows.boot_sum (aa (bt (bh rfl bl.range_ (aa (au ar rfl bl.len_ PySem.boot_len (aa (aY (pv 0) rfl) ag)) ag)) (aX (N:=["k", "table", "codes"]) (fr:=[0,1]) (cl:=[("table",s.heap.objs.size+1),("codes",s.heap.objs.size+1+1)]) rfl rfl (by decide +kernel) (by decide +kernel) rfl (by decide +kernel) rfl rfl rfl (List.forall_mem_cons.mpr ⟨rfl,List.forall_mem_cons.mpr ⟨rfl,List.forall_mem_nil _⟩⟩) rfl) rfl (λ_ _ _ _=>(eQ (cG (aW Ao hr rfl (aa (pv 1) (aa (pv 0) (aa (pv 2) ag))))))) (λ_ _ _ _=>(aG uT aj (pv 0)))) ag)))),?_⟩
 have hxl:xs.length=rws.length:=hR.1
 refine ⟨_,rfl,t,_,_,_,_,rfl,ht,bl.k_Table,bl.na_Table_rows,hf,rl,_,rfl,.inl (SqL.of erl),_,rfl,(by show -(2 ^ 62)<=((xs.length:Nat):Int);lia),(by show ((xs.length:Nat):Int) < 2 ^ 62;lia),bE (λD i zs H'=>aq H H'/\H' D=some (.lst zs)/\∃ ys:List Int,zs=ys.map V.int/\ys.sum=((msk (eE rws cs) i:Nat):Int)/\ys.length<=i)
  (λD hD=>⟨ai hD _,af,[],rfl,rfl,Nat.zero_le _⟩) (λD i zs H' hD hi h=>?_) (λD zs H' hD h=>?_)⟩
 ·obtain ⟨sm,eD,ys,rfl,nQ,hl⟩:=h
  have hi2:i < rws.length:=by first | lia | (rw [← hxl];lia)
  obtain ⟨w_,ew⟩:∃ w_,rws[i]?=some w_:=⟨_,G6 hi2⟩
  have hg:rws.getD i ([],0)=w_:=getD_at ew
  refine ⟨_,rfl,_,rfl,_,rfl,t,rl,c,dx,fs,xs,rws,i,w_,cs,by rw [Int.zero_add],sm _ _ ht,hf,sm _ _ erl,hR.same sm,ew,sm.seq hS,hlen w_ (G8 ew),λH3 s3=>⟨_,rfl,?_⟩⟩
  have sA:=sm.trans s3
  have eD3:=s3 _ _ eD
  cases hb:nO w_.1 cs with
  | true =>
   refine dJ ⟨_,rfl,_,_,rfl,rfl,⟨by lia,by lia,by decide⟩,bQ.mk hi eD3 (aD (by rw [List.length_map];lia)) ⟨sA.upd hD,af,ys ++ [1 * 2 ^ (0+(i:Int)).toNat],by simp,?_,by simp;lia⟩⟩
   have e2:(0+(i:Int)).toNat=i:=by lia
   rw [e2,List.sum_append,nQ,mJ,show eE rws cs i=true by unfold eE;rw [hg];exact hb]
   simp
   lia
  | false =>
   refine b8 (d6.mk (zs:=ys.map V.int) hi ⟨sA,eD3,ys,rfl,?_,by lia⟩)
   rw [nQ,mJ,show eE rws cs i=false by unfold eE;rw [hg];exact hb]
   simp
 ·obtain ⟨sm,eD,ys,rfl,nQ,hl⟩:=h
  rw [Int.toNat_natCast] at nQ
  refine ⟨D,ys,rfl,SqL.of eD,?_⟩
  have q2:=q H' sm
  rw [← hxl,← nQ] at q2
  exact q2
theorem Ew (F:Fun K "_law_book" "_law_book" Y50 f fd) (bl:Bl K mg yA yE yN yO yP yQ yR yS yT yU yV yW yX ae yY yZ) (m4:Callee P w K mg base 2 "_law_numbers" ["script", "most"] (eJ K yA yE yN yO yP yQ yR yS yT yU yV yW yX ae yY yZ)) (nR:Callee P w K mg base 2 "_law_domain" ["cell"] (fq K yA yE yN yO yP yQ yR yS yT yU yV yW yX ae yY yZ)) (rg:Callee P w K mg base 2 "_law_pool" ["domain", "cell", "most"] (gX K yA yE yN yO yP yQ yR yS yT yU yV yW yX ae yY yZ)) (dq:Callee P w K mg base 2 "_law_at" ["script", "k"] (iF K yA yE yN yO yP yQ yR yS yT yU yV yW yX ae yY yZ)) (gn:Callee P w K mg base 2 "_law_words" ["cell", "count"] (ee K yA yE yN yO yP yQ yR yS yT yU yV yW yX ae yY yZ)) (sI:Callee P w K mg base 2 "_law_row" ["columns", "domains", "pools", "own", "number"] (jh K yA yE yN yO yP yQ yR yS yT yU yV yW yX ae yY yZ)):aQ P w K mg base CX0 3 f fd ["script"] (hU K yA yE yN yO yP yQ yR yS yT yU yV yW yX ae yY yZ):=by
 refine F.ok Z50 (λvs H Q E h=>?_) (λcdv A outer s H vs Q E hr h=>?_)
 ·obtain ⟨a,ns,rfl,hS,h63,q⟩:=h
  rfl
 obtain ⟨a,ns,rfl,hS,h63,q⟩:=h
 refine ⟨_,(aw (aL (i:=1) Z50.nd rfl (Or.inr rfl) (aG bC aj (aG bj (aW dq hr rfl (aa (pv 0) (aa aj ag))) aj)))
  (aw (aL (i:=2) Z50.nd rfl (Or.inl rfl) (aG bC (aG bC (pv 1) aj) (aG bj (aG bA (aW dq hr rfl (aa (pv 0) (aa aj ag))) aj) (aE aK (bK (aa aj (aa aj (aa aj ag)))) (aG cH (pv 1) aj) (λ_ _=>rfl)))))
  (aw (aL (i:=3) Z50.nd rfl (Or.inr rfl) (bt (bh rfl bl.range_ (aa (pv 2) ag)) (aX (N:=["k", "script"]) (fr:=[0]) (cl:=[("script",s.heap.objs.size+1)]) rfl rfl (by decide +kernel) (by decide +kernel) rfl (by decide +kernel) rfl rfl rfl (List.forall_mem_cons.mpr ⟨rfl,List.forall_mem_nil _⟩) rfl) rfl (λ_ _ _ _=>aU) (λ_ _ _ _=>(aW nR hr rfl (aa (aW dq hr rfl (aa (pv 1) (aa (aG bC aj (pv 0)) ag))) ag)))))
  (aw (aL (i:=4) Z50.nd rfl (Or.inr rfl) (aG mi (bt (bh rfl bl.range_ (aa (pv 1) ag)) (aX (N:=["k", "facts"]) (fr:=[1]) (cl:=[("facts",s.heap.objs.size+1+1)]) rfl rfl (by decide +kernel) (by decide +kernel) rfl (by decide +kernel) rfl rfl rfl (List.forall_mem_cons.mpr ⟨rfl,List.forall_mem_nil _⟩) rfl) rfl (λ_ _ _ _=>aU) (λ_ _ _ _=>(aE (dc (K:=K) rfl) (bK (aa aj (aa aj (aa aj ag)))) (aG cH (pv 1) aj) (λ_ _=>rfl)))) (bt (bh rfl bl.range_ (aa (aG cH (pv 2) (pv 1)) ag)) (bg rfl (by decide +kernel) (by decide +kernel) (by decide +kernel) rfl) rfl (λ_ _ _ _=>aU) (λ_ _ _ _=>aj))))
  (aw (d9 (i:=5) Z50.nd rfl (Or.inl rfl) (bh rfl bl.range_ (aa (pv 2) ag)) (aX (N:=["k", "script", "domains", "sizes"]) (fr:=[0,3,4]) (cl:=[("sizes",s.heap.objs.size+1+1+1+1),("script",s.heap.objs.size+1),("domains",s.heap.objs.size+1+1+1)]) rfl rfl (by decide +kernel) (by decide +kernel) rfl (by decide +kernel) rfl rfl rfl (List.forall_mem_cons.mpr ⟨rfl,List.forall_mem_cons.mpr ⟨rfl,List.forall_mem_cons.mpr ⟨rfl,List.forall_mem_nil _⟩⟩⟩) rfl) rfl (λ_ _ _ _=>aU) (λ_ _ _ _=>(aW rg hr rfl (aa (aE (dc (K:=K) rfl) (pv 2) (pv 0) (λ_ _=>rfl)) (aa (aW dq hr rfl (aa (pv 1) (aa (aG bC aj (pv 0)) ag))) (aa (aE (dc (K:=K) rfl) (pv 3) (pv 0) (λ_ _=>rfl)) ag))))))
  (aw (aL (i:=6) Z50.nd rfl (Or.inl rfl) (bK ag))
  (aw (bb PassesOwn.never rfl (kB rfl bl.range_ (aa (pv 1) (aa (pv 2) ag))) (aF (i:=7) Z50.nd rfl (Or.inr rfl))
  (aw (aL (i:=8) Z50.nd rfl (Or.inr rfl) (aW dq hr rfl (aa (pv 0) (aa (aG cH (aG bC aj (pv 7)) (pv 1)) ag))))
  (aw (d9 (i:=9) Z50.nd rfl (Or.inl rfl) (bh rfl bl.range_ (aa (au (fF rfl) rfl bl.min_ PyProof.Rows.boot_min (aa (aG bC aj (aG bj (pv 8) aj)) (aa (pv 7) ag))) ag)) (aX (N:=["j", "own", "cell"]) (fr:=[7,8]) (cl:=[("own",s.heap.objs.size+1+1+1+1+1),("cell",s.heap.objs.size+1+1+1+1+1+1)]) rfl rfl (by decide +kernel) (by decide +kernel) rfl (by decide +kernel) rfl rfl rfl (List.forall_mem_cons.mpr ⟨rfl,List.forall_mem_cons.mpr ⟨rfl,List.forall_mem_nil _⟩⟩) rfl) rfl (λ_ _ _ _=>aU) (λ_ _ _ _=>(aG bj (aG bC (aG bA (pv 2) aj) (pv 0)) (pv 1))))
  (aw (aL (i:=10) Z50.nd rfl (Or.inl rfl) (aE aK (bK (aa aT (aa aT (aa aT (aa aT (aa aT (aa aT ag))))))) (aG bj (aG bA (pv 8) aj) aj) (λ_ _=>rfl)))
  (aw (aR (PW.pt (fX (aJ bX (pv 10) aT (aO _)) (d8 (aJ gO (au ar rfl bl.len_ PySem.boot_len (aa (aE aS (aE aK (pv 3) (pv 7) (λ_ _=>rfl)) aj (λ_ _=>rfl)) ag)) aj (aO _)))))
  (ah (aL (i:=10) Z50.nd rfl (Or.inl rfl) aT))
  aI)
  (ah (aV (dR PySem.F.plainAttrs_list PySem.F.slot_list_append PySem.F.type_list_append bW (pv 6) (aa (bc (aa (pv 9) (aa (pv 10) (aa (bK ag) ag)))) ag)))))))))
  (aw (aL (i:=11) Z50.nd rfl (Or.inl rfl) (aW m4 hr rfl (aa (pv 0) (aa (aG gN (au ar rfl bl.len_ PySem.boot_len (aa (pv 6) ag)) (aE aK (bK (aa aj (aa aj (aa aj ag)))) (aG cH (pv 1) aj) (λ_ _=>rfl))) ag))))
  (aw (bb PassesOwn.never rfl (bh rfl bl.range_ (aa (au ar rfl bl.len_ PySem.boot_len (aa (pv 11) ag)) ag)) (aF (i:=12) Z50.nd rfl (Or.inl rfl))
  (aw (aL (i:=13) Z50.nd rfl (Or.inl rfl) (aE aK (pv 6) (aG bj (pv 12) (au ar rfl bl.len_ PySem.boot_len (aa (pv 6) ag))) (λ_ _=>rfl)))
  (ah (aV (dR PySem.F.plainAttrs_list PySem.F.slot_list_append PySem.F.type_list_append bW (aE aS (pv 13) aj (λ_ _=>rfl)) (aa (aW sI hr rfl (aa (aE aS (pv 13) aj (λ_ _=>rfl)) (aa (pv 3) (aa (pv 5) (aa (aG bC (pv 1) (aG bj (pv 12) (au ar rfl bl.len_ PySem.boot_len (aa (pv 6) ag)))) (aa (aE aK (pv 11) (pv 12) (λ_ _=>rfl)) ag)))))) ag))))))
  (ah (aH (bc (aa (aW gn hr rfl (aa (aW dq hr rfl (aa (pv 0) (aa aj ag))) (aa (pv 2) ag))) (aa (pv 3) (aa (pv 6) ag))))))))))))))),?_⟩
 refine ⟨λσ' H'=>H'=H/\∃ fN:Nat,1<=fN/\fN<=3/\σ'=[some (.ref a),some (.int (fN:Int)),none,none,none,none,none,none,none,none,none,none,none,none],⟨_,rfl,a,ns,0,rfl,hS,Int.le_refl _,λr=>⟨_,_,rfl,rfl,(by show (0:Int) < 3;decide),_,_,rfl,rfl,rfl,(1+r % 3).toNat,?_,?_,?_⟩⟩,?_⟩
 ·have:=Int.emod_nonneg r (show (3:Int) ≠ 0 by decide);lia
 ·have:=Int.emod_lt_of_pos r (show (0:Int) < 3 by decide);lia
 ·rw [Int.toNat_of_nonneg (by have:=Int.emod_nonneg r (show (3:Int) ≠ 0 by decide);lia)];rfl
 rintro σ1 H1 ⟨rfl,fN,hf1,hf3,rfl⟩
 refine ⟨λσ' H'=>aq H1 H'/\∃ tN:Nat,fN < tN/\tN<=fN+4/\σ'=[some (.ref a),some (.int (fN:Int)),some (.int (tN:Int)),none,none,none,none,none,none,none,none,none,none,none],?_,?_⟩
 ·refine ⟨_,rfl,_,_,rfl,rfl,_,rfl,a,ns,0,rfl,hS,Int.le_refl _,λr=>⟨_,_,rfl,rfl,⟨by decide,by decide⟩,(by show 3<=sizeLine;decide),λl3 hl3=>?_⟩⟩
  obtain ⟨v,ev,hv1,hv4⟩:=sC (x:=4) (y:=3) (z:=2) hf1 hf3 (by decide) (by decide) (by decide)
  refine ⟨_,rfl,_,_,rfl,rfl,l3,_,_,_,rfl,rfl,SqL.of af,ev,_,_,rfl,rfl,(by show (0:Int) < v;lia),_,_,rfl,rfl,ai hl3 _,((fN:Int)+1+r / 3 % v).toNat,?_,?_,?_⟩
  ·have:=Int.emod_nonneg (r / 3) (show v ≠ 0 by lia);lia
  ·have:=Int.emod_lt_of_pos (r / 3) (show (0:Int) < v by lia);lia
  ·rw [Int.toNat_of_nonneg (by have:=Int.emod_nonneg (r / 3) (show v ≠ 0 by lia);lia)];rfl
 rintro σ2 H2 ⟨s12,tN,ht1,ht4,rfl⟩
 replace hS:=s12.seq hS
 refine ⟨λσ' H'=>aq H2 H'/\∃ (dl:Addr) (dv:List V) (ds:List PD),H' dl=some (.lst dv)/\az dv ds (PDA NT H')/\ds.length=tN/\(∀ p ∈ ds,pC p)/\σ'=[some (.ref a),some (.int (fN:Int)),some (.int (tN:Int)),some (.ref dl),none,none,none,none,none,none,none,none,none,none],?_,?_⟩
 ·refine ⟨_,rfl,_,rfl,(by lia),(by lia),bE (λD i zs H'=>aq H2 H'/\H' D=some (.lst zs)/\∃ ds:List PD,az zs ds (PDA (· ≠ D) H')/\ds.length=i/\∀ p ∈ ds,pC p) (λD hD=>⟨ai hD _,af,[],az.nil,rfl,(λp hp=>by cases hp)⟩) (λD i zs H' hD hi hh=>?_) (λD zs H' hD hh=>?_)⟩
  ·obtain ⟨sm,eD,ds,hz,hl,hok⟩:=hh
   refine ⟨_,rfl,_,rfl,_,_,rfl,rfl,a,ns,_,rfl,sm.seq hS,(by show 0<=2+(0+(i:Int));lia),λr=>⟨r,rfl,λl p H3 s3 hp ok=>?_⟩⟩
   have eD3:=s3 _ _ eD
   have hp2:PDA (· ≠ D) H3 l p:=hp.wk λx hx z=>by rw [z,eD] at hx;cases hx
   have hz2:az (zs ++ [.ref l]) (ds ++ [p]) (PDA (· ≠ D) H3):=az.snoc (az.mono hz λ_ _ p=>p.same s3) hp2
   refine bQ.mk hi eD3 (aD (by have:=hz.1;lia)) ⟨(sm.trans s3).upd hD,af,ds ++ [p],az.mono hz2 λ_ _ p=>p.updN (λz=>z rfl) eD3,by rw [List.length_append,hl];rfl,λp' hp'=>?_⟩
   rcases List.mem_append.mp hp' with hp' | hp'
   ·exact hok p' hp'
   ·rw [show p'=p by simpa using hp'];exact ok
  ·obtain ⟨sm,eD,ds,hz,hl,hok⟩:=hh
   rw [Int.toNat_natCast] at hl
   exact ⟨sm,D,zs,ds,eD,az.mono hz (λ_ _ p=>p.wk λ_ _=>trivial),hl,hok,rfl⟩
 rintro σ3 H3 ⟨s3,dl,dv,ds,edl,hds,hdn,wb,rfl⟩
 refine ⟨λσ' H'=>aq H3 H'/\∃ (sz:Addr) (sn:List Nat),H' sz=some (.lst (vN sn))/\sn.length=tN/\(∀ x ∈ sn,1<=x/\x<=3)/\σ'=[some (.ref a),some (.int (fN:Int)),some (.int (tN:Int)),some (.ref dl),some (.ref sz),none,none,none,none,none,none,none,none,none],?_,?_⟩
 ·obtain ⟨v,ev,hv1,hv3⟩:=sC (x:=3) (y:=3) (z:=2) hf1 hf3 (by decide) (by decide) (by decide)
  obtain ⟨k,rfl⟩:∃ k:Nat,v=(k:Int):=⟨v.toNat,by lia⟩
  refine ⟨_,rfl,_,rfl,(by lia),(by lia),bE (λD i zs H'=>aq H3 H'/\H' D=some (.lst zs)/\zs=vN (List.replicate i k)) (λD hD=>⟨ai hD _,af,rfl⟩) (λD i zs H' hD hi hh=>?_) (λD zs H' hD hh=>?_)⟩
  ·obtain ⟨sm,eD,rfl⟩:=hh
   rw [Int.toNat_natCast] at hi
   refine ⟨(by show 3<=sizeLine;decide),λl3 hl3=>?_⟩
   have u3:=ai hl3 (.lst [.int 3,.int 3,.int 2])
   refine ⟨_,rfl,_,_,rfl,rfl,l3,_,_,_,rfl,rfl,SqL.of af,ev,bQ.mk (by rw [Int.toNat_natCast];exact hi) (u3 _ _ eD) (aD (by rw [cZ,List.length_replicate];lia)) ⟨(sm.trans u3).upd hD,af,?_⟩⟩
   rw [List.replicate_succ',← sk]
   rfl
  ·obtain ⟨sm,eD,rfl⟩:=hh
   rw [Int.toNat_natCast] at eD
   refine ⟨_,rfl,_,rfl,_,_,rfl,rfl,_,rfl,(by lia),(by lia),bE (λD2 i zs H2'=>aq H' H2'/\H2' D2=some (.lst zs)/\zs=vN (List.replicate i 3)) (λD2 hD2=>⟨ai hD2 _,af,rfl⟩) (λD2 i zs H2' hD2 hi hh=>?_) (λD2 zs H2' hD2 hh=>?_)⟩
   ·obtain ⟨sm2,eD2,rfl⟩:=hh
    refine bQ.mk hi eD2 (aD (by rw [cZ,List.length_replicate];lia)) ⟨sm2.upd hD2,af,?_⟩
    rw [List.replicate_succ',← sk]
    rfl
   ·obtain ⟨sm2,eD2,rfl⟩:=hh
    rw [show ((tN:Int) - (fN:Int)).toNat=tN - fN by lia] at eD2
    refine ⟨D,D2,_,_,rfl,rfl,sm2 _ _ eD,eD2,Nat.le_of_lt (aD (by rw [cZ,cZ,List.length_replicate,List.length_replicate];lia)),λp hp=>⟨(sm.trans sm2).trans (ai hp _),p,List.replicate fN k ++ List.replicate (tN - fN) 3,by rw [af,sk],by rw [List.length_append,List.length_replicate,List.length_replicate];lia,λx hx=>?_,rfl⟩⟩
    rcases List.mem_append.mp hx with hx | hx
    ·rw [(List.mem_replicate.mp hx).2];lia
    ·rw [(List.mem_replicate.mp hx).2];lia
 rintro σs Hs ⟨ss,sz,sn,esz,hsl,hsn,rfl⟩
 replace s3:=s3.trans ss
 replace edl:=ss _ _ edl
 replace hds:az dv ds (PDA NT Hs):=az.mono hds λ_ _ p=>p.same ss
 clear ss
 refine ⟨λσ' H'=>aq Hs H'/\∃ (po:Addr) (pvs:List V) (ds2:List PD),H' po=some (.lst pvs)/\az pvs ds2 (PoB NT H')/\az dv ds2 (PDA NT H')/\ds2.length=tN/\(∀ p ∈ ds2,pC p)/\σ'=[some (.ref a),some (.int (fN:Int)),some (.int (tN:Int)),some (.ref dl),some (.ref sz),some (.ref po),none,none,none,none,none,none,none,none],?_,?_⟩
 ·refine ⟨_,rfl,_,rfl,(by lia),(by lia),bE (λD i zs H'=>aq Hs H'/\H' D=some (.lst zs)/\∃ pls:List (List Int),az zs pls (PlB (· ≠ D) H')/\pls.length=i/\∀ (j:Nat) (P:List Int) (p:PD),pls[j]?=some P->ds[j]?=some p->1<=P.length/\P.length<=3/\∀ x ∈ P,p.lo<=x/\x<=p.hi) (λD hD=>⟨ai hD _,af,[],az.nil,rfl,(λj P p e=>by simp at e)⟩) (λD i zs H' hD hi hh=>?_) (λD zs H' hD hh=>?_)⟩
  ·obtain ⟨sm,eD,pls,hz,hpl,hpb⟩:=hh
   rw [Int.toNat_natCast] at hi
   have ep:=G6 (l:=ds) (i:=i) (by lia)
   obtain ⟨da,e2,hpd⟩:=hds.2 i _ ep
   generalize ds[i]=p at ep hpd
   have en:=G6 (l:=sn) (i:=i) (by lia)
   have hn:=hsn _ (G8 en)
   generalize sn[i]=nn at en hn
   have ix:atI dv (0+(i:Int))=some (.ref da):=by rw [Int.zero_add];exact aM e2
   have ix2:atI (vN sn) (0+(i:Int))=some (.int (nn:Int)):=by rw [Int.zero_add];exact aM (vL en)
   refine ⟨_,rfl,_,rfl,dl,_,_,_,rfl,rfl,SqL.of (sm _ _ edl),ix,_,rfl,_,rfl,_,_,rfl,rfl,a,ns,_,rfl,(s3.trans sm).seq hS,(by show 0<=9+(0+(i:Int));lia),λr=>⟨_,rfl,_,rfl,sz,_,_,_,rfl,rfl,SqL.of (sm _ _ esz),ix2,da,p,r,nn,rfl,hpd.same sm,wb p (G8 ep),hn.2,λl xs H4 s4 nl el hl hx=>?_⟩⟩
   have eD4:=s4 _ _ eD
   have nD:l ≠ D:=λz=>by rw [z,eD] at nl;cases nl
   have hz2:az (zs ++ [.ref l]) (pls ++ [xs]) (PlB (· ≠ D) H4):=az.snoc (az.mono hz λ_ _ p=>⟨p.1,s4 _ _ p.2⟩) ⟨nD,el⟩
   refine bQ.mk (by rw [Int.toNat_natCast];exact hi) eD4 (aD (by have:=hz.1;lia)) ⟨(sm.trans s4).upd hD,af,pls ++ [xs],az.mono hz2 (λ_ _ p=>⟨p.1,(av p.1).trans p.2⟩),by rw [List.length_append,hpl];rfl,λj P p' f1 f2=>?_⟩
   by_cases hj:j < pls.length
   ·rw [List.getElem?_append_left hj] at f1
    exact hpb j P p' f1 f2
   ·have hj2:j=pls.length:=by have:=(G7.mp f1).1;simp at this;lia
    subst hj2
    simp at f1
    subst f1
    rw [hpl,ep] at f2
    cases f2
    exact ⟨by lia,by lia,hx⟩
  ·obtain ⟨sm,eD,pls,hz,hpl,hpb⟩:=hh
   rw [Int.toNat_natCast] at hpl
   have hl2:pls.length=ds.length:=by lia
   refine ⟨sm,D,zs,List.zipWith (λ(p:PD) P=>{ p with pool:=P }) ds pls,eD,?_,?_,by rw [List.length_zipWith];lia,?_,rfl⟩
   ·refine ⟨by rw [List.length_zipWith,hz.1];lia,λj p e=>?_⟩
    obtain ⟨p0,P,e1,e2,rfl⟩:=mS e
    obtain ⟨l,el,nl,hl⟩:=hz.2 j P e2
    obtain ⟨g1,g2,g3⟩:=hpb j P p0 e2 e1
    exact ⟨l,el,trivial,hl,g1,g2,g3⟩
   ·refine ⟨by rw [List.length_zipWith,hds.1];lia,λj p e=>?_⟩
    obtain ⟨p0,P,e1,e2,rfl⟩:=mS e
    obtain ⟨l,el,hl⟩:=hds.2 j p0 e1
    exact ⟨l,el,hl.same sm⟩
   ·intro p hp
    obtain ⟨j,e⟩:=List.getElem?_of_mem hp
    obtain ⟨p0,P,e1,e2,rfl⟩:=mS e
    have h:=wb p0 (G8 e1)
    exact ⟨h.1,h.2,h.3⟩
 clear hds hdn wb
 rintro σ4 H4 ⟨s4,po,pvs,ds,epo,hpo,hds,hdn,wb,rfl⟩
 have s14:=s3.trans s4
 refine ⟨λσ' H'=>aq H4 H'/\∃ tb:Addr,H4 tb=none/\H' tb=some (.lst [])/\σ'=[some (.ref a),some (.int (fN:Int)),some (.int (tN:Int)),some (.ref dl),some (.ref sz),some (.ref po),some (.ref tb),none,none,none,none,none,none,none],⟨(by show 0<=sizeLine;decide),λl hl=>⟨ai hl _,l,hl,af,rfl⟩⟩,?_⟩
 rintro σ5 H5 ⟨s5,tb,ntb,etb,rfl⟩
 have s25:=s14.trans s5
 refine ⟨λσ' H'=>aq H4 H'/\∃ (tv:List V) (ts:List ((List Nat × Str) × Addr)) (c6 c7 c8 c9:Option V),H' tb=some (.lst tv)/\az tv ts (TT (hideL H' (tb :: rls ts)))/\ts.length=tN - fN/\(rls ts).Nodup/\(∀ x ∈ rls ts,H4 x=none/\x ≠ tb/\H' x=some (.lst []))/\(∀ (j:Nat) (t:(List Nat × Str) × Addr),ts[j]?=some t->zZ fN ds j t.1)/\σ'=[some (.ref a),some (.int (fN:Int)),some (.int (tN:Int)),some (.ref dl),some (.ref sz),some (.ref po),some (.ref tb),c6,c7,c8,c9,none,none,none],?_,?_⟩
 ·refine ⟨_,rfl,_,rfl,_,_,rfl,⟨by lia,by lia,by lia,by lia⟩,dm (λi σ H'=>aq H4 H'/\∃ (tv:List V) (ts:List ((List Nat × Str) × Addr)) (c6 c7 c8 c9:Option V),H' tb=some (.lst tv)/\az tv ts (TT (hideL H' (tb :: rls ts)))/\ts.length=i/\(rls ts).Nodup/\(∀ x ∈ rls ts,H4 x=none/\x ≠ tb/\H' x=some (.lst []))/\(∀ (j:Nat) (t:(List Nat × Str) × Addr),ts[j]?=some t->zZ fN ds j t.1)/\σ=[some (.ref a),some (.int (fN:Int)),some (.int (tN:Int)),some (.ref dl),some (.ref sz),some (.ref po),some (.ref tb),c6,c7,c8,c9,none,none,none]) ⟨s5,[],[],_,_,_,_,etb,az.nil,rfl,List.nodup_nil,(λx hx=>by cases hx),(λj t e=>by simp at e),rfl⟩ (λi σ H' hi hh=>?_) (λσ H' hh=>?_)⟩
  ·obtain ⟨sm,tv,ts,c6,c7,c8,c9,etv,htv,htl,hnd,hrl,xS,rfl⟩:=hh
   have hi2:i < tN - fN:=by lia
   obtain ⟨ow,how⟩:∃ ow:Nat,(fN:Int)+(i:Int)=(ow:Int):=⟨fN+i,by lia⟩
   have G2:ow=fN+i:=by lia
   rw [how]
   refine ⟨λσ' H''=>H''=H'/\∃ c:Int,σ'=[some (.ref a),some (.int (fN:Int)),some (.int (tN:Int)),some (.ref dl),some (.ref sz),some (.ref po),some (.ref tb),some (.int (ow:Int)),some (.int c),c8,c9,none,none,none],⟨_,rfl,_,rfl,_,_,rfl,rfl,_,rfl,_,_,rfl,rfl,a,ns,_,rfl,(s14.trans sm).seq hS,(by show 0<=16+(ow:Int) - (fN:Int);lia),λr=>⟨rfl,r,rfl⟩⟩,?_⟩
   rintro σa Ha ⟨rfl,c,rfl⟩
   obtain ⟨m,em,m1,m3,mo⟩:=xJ (c:=c) (ow:=ow) (by lia)
   refine ⟨λσ' H''=>aq Ha H''/\∃ cl:Addr,Ha cl=none/\H'' cl=some (.lst (vN (clm c ow m)))/\σ'=[some (.ref a),some (.int (fN:Int)),some (.int (tN:Int)),some (.ref dl),some (.ref sz),some (.ref po),some (.ref tb),some (.int (ow:Int)),some (.int c),some (.ref cl),c9,none,none,none],?_,?_⟩
   ·refine ⟨_,rfl,_,_,rfl,rfl,(by show (0:Int) < 3;decide),_,_,rfl,rfl,_,rfl,_,_,rfl,_,rfl,(by rw [em];lia),(by rw [em];lia),bE (λD i zs H''=>aq Ha H''/\H'' D=some (.lst zs)/\zs=vN (clm c ow i)) (λD hD=>⟨ai hD _,af,rfl⟩) (λD i zs H'' hD hi hh=>?_) (λD zs H'' hD hh=>?_)⟩
    ·obtain ⟨sm2,eD,rfl⟩:=hh
     rw [em,Int.toNat_natCast] at hi
     have v0:=Int.emod_nonneg (c / 3+(0+(i:Int))) (show (ow:Int) ≠ 0 by lia)
     refine ⟨_,rfl,_,_,rfl,rfl,⟨by decide,by decide⟩,_,rfl,_,_,rfl,rfl,_,rfl,_,_,rfl,rfl,(by show (0:Int) < (ow:Int);lia),bQ.mk (by rw [em,Int.toNat_natCast];exact hi) eD (aD (by rw [cZ,pE];lia)) ⟨sm2.upd hD,af,?_⟩⟩
     rw [vR,Int.toNat_of_nonneg v0]
    ·obtain ⟨sm2,eD,rfl⟩:=hh
     rw [em,Int.toNat_natCast] at eD
     exact ⟨sm2,D,hD,eD,rfl⟩
   rintro σb Hb ⟨sb,cl,ncl,ecl,rfl⟩
   refine ⟨λσ' H''=>aq Hb H''/\∃ wy:Str,wy ∈ six/\σ'=[some (.ref a),some (.int (fN:Int)),some (.int (tN:Int)),some (.ref dl),some (.ref sz),some (.ref po),some (.ref tb),some (.int (ow:Int)),some (.int c),some (.ref cl),some (.str wy),none,none,none],?_,?_⟩
   ·refine ⟨(by show 6<=sizeLine;decide),λp6 hp6=>?_⟩
    have w0:=Int.emod_nonneg (c / 50) (show (6:Int) ≠ 0 by decide)
    have w1:=Int.emod_lt_of_pos (c / 50) (show (0:Int) < 6 by decide)
    obtain ⟨k,ek⟩:∃ k:Nat,c / 50 % 6=(k:Int):=⟨_,(Int.toNat_of_nonneg w0).symm⟩
    have hk:k < six.length:=by show k < 6;lia
    have e6:=G6 hk
    have ex:atI [V.str (Str.ofString "first"),.str (Str.ofString "only"),.str (Str.ofString "like"),.str (Str.ofString "low"),.str (Str.ofString "high"),.str (Str.ofString "sum")] (c / 50 % 6)=some (.str six[k]):=by
     rw [ek]
     exact aM (xs:=six.map V.str) (by rw [List.getElem?_map,e6];rfl)
    exact ⟨_,rfl,_,_,rfl,rfl,⟨by decide,by decide⟩,_,_,rfl,rfl,(by show (0:Int) < 6;decide),p6,_,_,_,rfl,rfl,SqL.of af,ex,ai hp6 _,_,G8 e6,rfl⟩
   rintro σc Hc ⟨sc,wy0,hw6,rfl⟩
   have sac:=sb.trans sc
   have ep:=G6 (l:=ds) (i:=ow) (by lia)
   obtain ⟨da,e2,hpd⟩:=hds.2 ow _ ep
   generalize ds[ow]=p at ep hpd
   have s3c:=(s4.trans sm).trans sac
   obtain ⟨wl,_,_,f1,f2⟩:=hpd.same (sm.trans sac)
   refine ⟨λσ' H''=>H''=Hc/\∃ wy:Str,wy ∈ six/\(wy=Str.ofString "sum" -> p.ws=[])/\σ'=[some (.ref a),some (.int (fN:Int)),some (.int (tN:Int)),some (.ref dl),some (.ref sz),some (.ref po),some (.ref tb),some (.int (ow:Int)),some (.int c),some (.ref cl),some (.str wy),none,none,none],?_,?_⟩
   ·refine ⟨_,rfl,rfl,_,rfl,?_⟩
    refine dj (λg=>?_) (λg=>?_)
    ·refine ⟨_,rfl,_,rfl,dl,_,_,_,rfl,rfl,SqL.of (s3c _ _ edl),aM e2,da,_,_,_,rfl,rfl,SqT.of f1,rfl,wl,_,rfl,.inl (SqL.of f2),_,_,rfl,rfl,_,rfl,?_⟩
     refine dj (λg2=>?_) (λg2=>?_)
     ·exact ⟨rfl,Str.ofString "high",by unfold six;simp,(λz=>absurd z (by decide +kernel)),rfl⟩
     ·refine ⟨rfl,wy0,hw6,λ_=>?_,rfl⟩
      have:¬ ((0:Int) < (((p.ws.map V.str).length:Nat):Int)):=λh=>g2 (decide_eq_true h)
      rw [List.length_map] at this
      exact List.length_eq_zero_iff.mp (by lia)
    ·refine ⟨rfl,wy0,hw6,λz=>absurd ?_ g,rfl⟩
     rw [z]
     exact decide_eq_true rfl
   rintro σd Hd ⟨rfl,wy,hwy,nQ,rfl⟩
   have etd:=sac _ _ etv
   refine ⟨_,rfl,.inl ⟨rfl,_,SqL.of etd⟩,_,rfl,_,rfl,(by show 0<=sizeLine;decide),λx hx=>?_⟩
   have u1:=ai hx (.lst [])
   have ex:upd Hd x (.lst []) x=some (.lst []):=af
   generalize upd Hd x (.lst [])=He at u1 ex ⊢
   refine ⟨(by show 3<=sizeLine;decide),λr hr=>?_⟩
   have u2:=ai hr (.tup [.ref cl,.str wy,.ref x])
   have er:upd He r (.tup [.ref cl,.str wy,.ref x]) r=some (.tup [.ref cl,.str wy,.ref x]):=af
   generalize upd He r (.tup [.ref cl,.str wy,.ref x])=Hf at u2 er ⊢
   have saf:=(sac.trans u1).trans u2
   have etf:=saf _ _ etv
   refine ⟨tb,_,_,rfl,rfl,etf,aD (by have:=htv.1;lia),?_⟩
   have nxa:Ha x=none:=sac.free hx
   have nx4:H4 x=none:=sm.free nxa
   have nxt:x ≠ tb:=λz=>by rw [z,etv] at nxa;cases nxa
   have clx:cl ≠ x:=λz=>by rw [← z,sc _ _ ecl] at hx;cases hx
   have old:∀ b ∈ tb :: rls ts,∃ zs,Ha b=some (.lst zs):=λb hb=>by
    rcases List.mem_cons.mp hb with rfl | hb
    ·exact ⟨_,etv⟩
    ·exact ⟨_,(hrl b hb).2.2⟩
   have Cm:cl ∉ tb :: rls ts:=λhm=>by obtain ⟨zs,e⟩:=old cl hm;rw [e] at ncl;cases ncl
   have nxF:x ∉ tb :: rls ts:=λhm=>by obtain ⟨zs,e⟩:=old x hm;rw [e] at nxa;cases nxa
   have nrF:r ∉ tb :: rls ts:=λhm=>by obtain ⟨zs,e⟩:=old r hm;have:=saf _ _ e;rw [er] at this;cases this
   have nrx:r ≠ x:=λz=>by have:=u2 _ _ ex;rw [← z,er] at this;cases this
   have eF:rls (ts ++ [((clm c ow m,wy),x)])=rls ts ++ [x]:=vS ..
   have inF:∀ b,b ∉ tb :: rls ts->b ≠ x->b ∉ tb :: (rls ts ++ [x]):=λb h1 h2 hm=>by
    rcases List.mem_cons.mp hm with z | hm
    ·exact h1 (by rw [z];exact List.mem_cons_self)
    ·rcases List.mem_append.mp hm with hm | hm
     ·exact h1 (List.mem_cons_of_mem _ hm)
     ·exact h2 (by simpa using hm)
   have gr:aq (hideL Ha (tb :: rls ts)) (hideL (upd Hf tb (.lst (tv ++ [.ref r]))) (tb :: (rls ts ++ [x]))):=oU λb o hb e=>by
    refine ⟨(av λz=>hb (by rw [z];exact List.mem_cons_self)).trans (saf _ _ e),inF b hb λz=>?_⟩
    rw [z,nxa] at e;cases e
   have hT:TT (hideL (upd Hf tb (.lst (tv ++ [.ref r]))) (tb :: (rls ts ++ [x]))) r ((clm c ow m,wy),x):=by
    refine ⟨cl,dg ((av λz=>nrF (by rw [z];exact List.mem_cons_self)).trans er) (inF r nrF nrx),dg ((av λz=>Cm (by rw [z];exact List.mem_cons_self)).trans (u2 _ _ (u1 _ _ (sc _ _ ecl)))) (inF cl Cm clx)⟩
   refine ⟨(sm.trans saf).upd ntb,tv ++ [.ref r],ts ++ [((clm c ow m,wy),x)],_,_,_,_,af,?_,by rw [List.length_append,htl];rfl,?_,λy hy=>?_,λj t e=>?_,rfl⟩
   ·rw [eF]
    exact az.snoc (az.mono htv λ_ _ p=>p.same gr) hT
   ·rw [eF]
    refine List.nodup_append.mpr ⟨hnd,by simp,λy hy z hz=>?_⟩
    rw [show z=x by simpa using hz]
    exact λe=>nxF (by rw [← e];exact List.mem_cons_of_mem _ hy)
   ·rw [eF] at hy
    rcases List.mem_append.mp hy with hy | hy
    ·obtain ⟨y1,y2,y3⟩:=hrl y hy
     exact ⟨y1,y2,(av y2).trans (saf _ _ y3)⟩
    ·rw [show y=x by simpa using hy]
     exact ⟨nx4,nxt,(av nxt).trans (u2 _ _ ex)⟩
   ·by_cases hj:j < ts.length
    ·rw [List.getElem?_append_left hj] at e
     exact xS j t e
    ·have hj2:j=ts.length:=by have:=(G7.mp e).1;simp at this;lia
     subst hj2
     simp at e
     subst e
     have eo:fN+ts.length=ow:=by lia
     refine ⟨by show 1<=(clm c ow m).length;rw [pE];exact m1,by show (clm c ow m).length<=3;rw [pE];exact m3,λk hk=>?_,Ab (by lia) mo,hwy,λz p' ep'=>?_⟩
     ·rw [eo];exact Aa (by lia) k hk
     ·rw [eo,ep] at ep'
      cases ep'
      exact nQ z
  ·obtain ⟨sm,tv,ts,c6,c7,c8,c9,r⟩:=hh
   rw [show ((tN:Int) - (fN:Int)).toNat=tN - fN by lia] at r
   exact ⟨sm,tv,ts,c6,c7,c8,c9,r⟩
 rintro σ6 H6o ⟨s6o,tv,ts,c6,c7,c8,c9,Cn,Co,htl,hnd,Cp,xS,rfl⟩
 have hn1:1<=ts.length:=by lia
 have Ex:tv.length=ts.length:=Co.1
 refine ⟨λσ' H'=>aq H6o H'/\∃ (nu:Addr) (ms:List Int),H6o nu=none/\H' nu=some (.lst (ms.map V.int))/\ms.length<=32/\σ'=[some (.ref a),some (.int (fN:Int)),some (.int (tN:Int)),some (.ref dl),some (.ref sz),some (.ref po),some (.ref tb),c6,c7,c8,c9,some (.ref nu),none,none],?_,?_⟩
 ·refine ⟨_,rfl,_,rfl,tb,_,rfl,.inl (SqL.of Cn),(by show 3<=sizeLine;decide),λl3 hl3=>?_⟩
  obtain ⟨v,ev,hv1,hv8⟩:=sC (x:=8) (y:=6) (z:=5) hf1 hf3 (by decide) (by decide) (by decide)
  obtain ⟨k,rfl⟩:∃ k:Nat,v=(k:Int):=⟨v.toNat,by lia⟩
  have u3:=ai hl3 (.lst [.int 8,.int 6,.int 5])
  have hm1:1<=tv.length * k:=Nat.mul_pos (by lia) (by lia)
  have hm2:tv.length * k<=4 * 8:=Nat.mul_le_mul (by lia) (by lia)
  refine ⟨_,rfl,_,_,rfl,rfl,l3,_,_,_,rfl,rfl,SqL.of af,ev,_,_,rfl,rfl,.inr ⟨by lia,by lia⟩,a,ns,tv.length * k,(by rw [Int.natCast_mul]),((s14.trans s6o).trans u3).seq hS,h63,hm1,by lia,λl ms H' s nl el hl=>⟨u3.trans s,l,ms,u3.free nl,el,by lia,rfl⟩⟩
 rintro σ6 H6 ⟨s6n,nu,ms,nnu,enu,hms,rfl⟩
 have s6:=s6o.trans s6n
 have etv:=s6n _ _ Cn
 have hrl:∀ x ∈ rls ts,H4 x=none/\x ≠ tb/\H6 x=some (.lst []):=λx hx=>let ⟨h1,h2,h3⟩:=Cp x hx;⟨h1,h2,s6n _ _ h3⟩
 have htv:az tv ts (TT (hideL H6 (tb :: rls ts))):=az.mono Co λ_ _ p=>p.same (gb s6n)
 have hF4:∀ x ∈ rls ts,H4 x=none:=λx hx=>(hrl x hx).1
 have hB4:aq H4 (hideL H6 (rls ts)):=sx s6 hF4
 have ntF:tb ∉ rls ts:=λhm=>(hrl tb hm).2.1 rfl
 have etB:hideL H6 (rls ts) tb=some (.lst tv):=dg etv ntF
 have htB:az tv ts (TT (hideL H6 (rls ts))):=az.mono htv λ_ _ p=>p.same (oU λb o hb e=>⟨e,λhm=>hb (List.mem_cons_of_mem _ hm)⟩)
 have nuF:nu ∉ rls ts:=λhm=>by have:=(Cp nu hm).2.2;rw [nnu] at this;cases this
 have enB:hideL H6 (rls ts) nu=some (.lst (ms.map V.int)):=dg enu nuF
 generalize hB:hideL H6 (rls ts)=B at hB4 etB htB enB
 refine ⟨λσ' H'=>aq H4 H'/\aq B (hideL H' (rls ts))/\∃ (rss:List (List Rw)) (c6 c7 c8 c9 c10 c11:Option V),RwI H' (rls ts) fN ds ts rss 32/\σ'=[some (.ref a),some (.int (fN:Int)),some (.int (tN:Int)),some (.ref dl),some (.ref sz),some (.ref po),some (.ref tb),c6,c7,c8,c9,some (.ref nu),c10,c11],?_,?_⟩
 ·have Cq:(ms.map V.int).length=ms.length:=List.length_map _
  refine ⟨_,rfl,nu,_,rfl,.inl (SqL.of enu),_,rfl,(by lia),(by lia),dm (λi σ H'=>aq H4 H'/\aq B (hideL H' (rls ts))/\∃ (rss:List (List Rw)) (c6 c7 c8 c9 c10 c11:Option V),RwI H' (rls ts) fN ds ts rss i/\σ=[some (.ref a),some (.int (fN:Int)),some (.int (tN:Int)),some (.ref dl),some (.ref sz),some (.ref po),some (.ref tb),c6,c7,c8,c9,some (.ref nu),c10,c11]) ⟨s6,by rw [hB];exact aq.refl B,List.replicate ts.length [],_,_,_,_,_,_,⟨by rw [List.length_replicate],λj t rs e1 e2=>?_⟩,rfl⟩ (λi σ H' hi hh=>?_) (λσ H' hh=>?_)⟩
  ·rw [List.getElem?_replicate] at e2
   split at e2
   ·cases e2
    exact ⟨⟨[],(hrl t.2 (lJ e1)).2.2,az.nil⟩,(λw hw=>by cases hw),Nat.zero_le _⟩
   ·cases e2
  ·obtain ⟨sm,sB,rss,c6,c7,c8,c9,c10,c11,hrw,rfl⟩:=hh
   rw [Int.toNat_natCast,Cq] at hi
   rw [show (0:Int)+(i:Int)=(i:Int) by lia]
   have Ap:=dU _ _ _ _ (sB _ _ etB)
   have xT:(0:Int) < ((tv.length:Nat):Int):=by lia
   obtain ⟨jj,ejj⟩:∃ jj:Nat,(i:Int) % ((tv.length:Nat):Int)=(jj:Int):=⟨_,(Int.toNat_of_nonneg (Int.emod_nonneg _ (Int.ne_of_gt xT))).symm⟩
   have hjj:jj < ts.length:=by have:=Int.emod_lt_of_pos (i:Int) xT;lia
   have et:=G6 hjj
   obtain ⟨r,er,hT⟩:=htB.2 jj _ et
   obtain ⟨rs,ers⟩:∃ rs,rss[jj]?=some rs:=⟨_,G6 (by rw [hrw.1];exact hjj)⟩
   generalize ts[jj]=t at et hT
   have hT':=(hT.same sB).same (dU _ _)
   obtain ⟨cl,g1,g2⟩:=hT'
   obtain ⟨⟨zs,ez,hzr⟩,Cg,hlen⟩:=hrw.2 jj t rs et ers
   have tok:=xS jj t et
   have ix:atI tv ((i:Int) % ((tv.length:Nat):Int))=some (.ref r):=by rw [ejj];exact aM er
   refine ⟨λσ' H''=>H''=H'/\σ'=[some (.ref a),some (.int (fN:Int)),some (.int (tN:Int)),some (.ref dl),some (.ref sz),some (.ref po),some (.ref tb),c6,c7,c8,c9,some (.ref nu),some (.int (i:Int)),some (.ref r)],⟨_,rfl,_,rfl,_,rfl,tb,_,rfl,.inl (SqL.of Ap),_,_,rfl,rfl,xT,tb,_,_,_,rfl,rfl,SqL.of Ap,ix,rfl,rfl⟩,?_⟩
   rintro σb Hb ⟨eb_,rfl⟩
   subst eb_
   have s4b:=hB4.trans (sB.trans (dU _ _))
   have es:=G6 hi
   have ixs:atI (ms.map V.int) (i:Int)=some (.int ms[i]):=aM (get_map es)
   have enb:=dU _ _ _ _ (sB _ _ enB)
   have eow:(fN:Int)+(i:Int) % ((tv.length:Nat):Int)=((fN+jj:Nat):Int):=by rw [ejj];lia
   refine ⟨_,rfl,r,_,_,_,rfl,rfl,SqT.of g1,rfl,.inl ⟨rfl,_,SqL.of ez⟩,_,rfl,r,_,_,_,rfl,rfl,SqT.of g1,rfl,_,rfl,_,rfl,_,rfl,_,rfl,_,rfl,tb,_,rfl,.inl (SqL.of Ap),_,_,rfl,rfl,xT,_,_,rfl,rfl,_,rfl,_,rfl,nu,_,_,_,rfl,rfl,SqL.of enb,ixs,cl,dl,po,fN+jj,_,t.1.1,dv,pvs,ds,(by rw [← eow]),g2,s4b _ _ (s4 _ _ edl),az.mono hds (λ_ _ p=>p.same s4b),s4b _ _ epo,az.mono hpo (λ_ _ p=>p.same s4b),(λk hk=>by have:=tok.lt k hk;lia),by lia,by have:=tok.few;lia,λr2 w H2' s2 wc hf2=>?_⟩
   have hFl:∀ D ∈ rls ts,∃ zs,Hb D=some (.lst zs):=λD hD=>by
    obtain ⟨j,ej⟩:=List.getElem?_of_mem hD
    have hjl:j < ts.length:=by have:=(G7.mp ej).1;unfold rls at this;rwa [List.length_map] at this
    have et':=G6 hjl
    have er':=G6 (l:=rss) (i:=j) (by rw [hrw.1];exact hjl)
    obtain ⟨⟨zs',f1,_⟩,_⟩:=hrw.2 j _ _ et' er'
    have:=lI et'
    rw [ej] at this
    cases this
    exact ⟨zs',f1⟩
   have Cr:=wc.hideL hFl s2
   have hzl:zs.length=rs.length:=hzr.1
   refine ⟨t.2,_,_,rfl,rfl,s2 _ _ ez,aD (by lia),(sm.trans s2).upd (hF4 _ (lJ et)),?_,rss.set jj (rs ++ [w]),_,_,_,_,_,_,hrw.grow hnd s2 et ers ez hzr Cr hf2,rfl⟩
   rw [oS (lJ et)]
   exact sB.trans (gb s2)
  ·obtain ⟨sm,sB,rss,c6,c7,c8,c9,c10,c11,hrw,rfl⟩:=hh
   rw [Int.toNat_natCast,Cq] at hrw
   exact ⟨sm,sB,rss,_,_,_,_,_,_,⟨hrw.1,λj t rs e1 e2=>let ⟨b1,b2,b3⟩:=hrw.2 j t rs e1 e2;⟨b1,b2,by lia⟩⟩,rfl⟩
 rintro σ7 H7 ⟨s7,sB,rss,c6',c7',c8',c9',c10,c11,hrw,rfl⟩
 have sB7:=sB.trans (dU H7 (rls ts))
 have s47:=hB4.trans sB7
 refine ⟨_,rfl,a,ns,1,rfl,(s14.trans s7).seq hS,by decide,λc=>⟨_,rfl,c,tN,rfl,by lia,λnl H8 s8 _ enl=>⟨_,rfl,_,rfl,(by show 3<=sizeLine;decide),λr hr=>?_⟩⟩⟩
 have u:=ai hr (.tup [.ref nl,.ref dl,.ref tb])
 have Aq:∀ (j:Nat) (t:PT),(List.zipWith mkT ts rss)[j]?=some t->t.rows.length<=32:=λj t e=>by
  rw [List.getElem?_zipWith] at e
  cases e1:ts[j]? with
  | none=>rw [e1] at e;cases e
  | some t0 =>
   cases e2:rss[j]? with
   | none=>rw [e1,e2] at e;cases e
   | some rs =>
    rw [e1,e2] at e
    have e:some (mkT t0 rs)=some t:=e
    cases e
    obtain ⟨_,_,h3⟩:=hrw.2 j _ _ e1 e2
    exact h3
 have sE:=s8.trans u
 have s4E:=s47.trans sE
 refine q r (lws c tN) ds (List.zipWith mkT ts rss) fN _ (s12.trans ((s14.trans s47).trans sE)) ⟨nl,dl,tb,dv,tv,af,u _ _ enl,s4E _ _ (s4 _ _ edl),az.mono hds (λ_ _ p=>p.same s4E),sE _ _ (sB7 _ _ etB),?_⟩ ⟨(λz hz=>tW hz),oR (by lia),by rw [j5,hdn],by lia,?_,?_,wb,λj t e=>?_⟩ (λp hp=>by obtain ⟨j,e⟩:=List.getElem?_of_mem hp;obtain ⟨_,_,_,_,_,h3,_⟩:=hpo.2 j p e;exact h3) (λt ht=>by obtain ⟨j,e⟩:=List.getElem?_of_mem ht;exact Aq j t e) (by rw [List.length_zipWith,hrw.1];lia) hf1 vW Ad
 ·refine ⟨by rw [List.length_zipWith,hrw.1,Ex];lia,λj t e=>?_⟩
  rw [List.getElem?_zipWith] at e
  cases e1:ts[j]? with
  | none=>rw [e1] at e;cases e
  | some t0 =>
   cases e2:rss[j]? with
   | none=>rw [e1,e2] at e;cases e
   | some rs =>
    rw [e1,e2] at e
    have e:some (mkT t0 rs)=some t:=e
    cases e
    obtain ⟨r',er,hT⟩:=htB.2 j _ e1
    obtain ⟨⟨zs,ez,hzr⟩,_⟩:=hrw.2 j _ _ e1 e2
    obtain ⟨cl,g1,g2⟩:=hT.same sB7
    exact ⟨r',er,cl,t0.2,zs,sE _ _ g1,sE _ _ g2,sE _ _ ez,(hzr.same (dU _ _)).same sE⟩
 ·rw [List.length_zipWith,hrw.1];lia
 ·rw [List.length_zipWith,hrw.1];lia
 ·rw [List.getElem?_zipWith] at e
  cases e1:ts[j]? with
  | none=>rw [e1] at e;cases e
  | some t0 =>
   cases e2:rss[j]? with
   | none=>rw [e1,e2] at e;cases e
   | some rs =>
    rw [e1,e2] at e
    have e:some (mkT t0 rs)=some t:=e
    cases e
    obtain ⟨_,h2,h3⟩:=hrw.2 j _ _ e1 e2
    exact ⟨xS j t0 e1,h2,by show rs.length<=200;lia⟩
theorem Ey (F:Fun K "__init__" "Words.__init__" Y35 f fd) (bl:Bl K mg yA yE yN yO yP yQ yR yS yT yU yV yW yX ae yY yZ) (fR:BCallee CX0 P w K mg base 2 "Domain" "__init__" ["self", "low", "high"] (bF K yA yE yN yO yP yQ yR yS yT yU yV yW yX ae yY yZ)) (fP:Callee P w K mg base 2 "is_word" ["text"] (eK K yA yE yN yO yP yQ yR yS yT yU yV yW yX ae yY yZ)):aQ P w K mg base CX0 3 f fd ["self", "words"] (bI K yA yE yN yO yP yQ yR yS yT yU yV yW yX ae yY yZ):=by
 refine F.ok Z35 (λvs H Q E h=>?_) (λcdv A outer s H vs Q E hr h=>?_)
 ·obtain ⟨x,dx,p,zs,rfl,hx,hP,hg,q⟩:=h
  rfl
 obtain ⟨x,dx,p,zs,rfl,hx,hP,hg,q⟩:=h
 refine ⟨_,(aC (aR (cw (l9 dZ dZ aj (au ar rfl bl.len_ PySem.boot_len (aa (pv 1) ag)) (my rfl bl.MOST_WORDS_)))
  (ah ba)
  aI)
  (aw (bb PassesOwn.never rfl (aP (pv 1)) (aF (i:=2) Z35.nd rfl (Or.inl rfl))
  (ah (aR (cw (cG (aW fP hr rfl (aa (pv 2) ag))))
  (ah ba)
  aI)))
  (aC (aR (aJ l7 (au fh rfl bl.len_ PySem.boot_len (aa (bD (fg rfl) rfl bl.set_ PyProof.Rows.boot_set (aa (pv 1) ag)) ag)) (au ar rfl bl.len_ PySem.boot_len (aa (pv 1) ag)) (aO _))
  (ah ba)
  aI)
  (aC (aV (eR fR bL hr rfl (aa (pv 0) (aa aj (aa (aG cH (au ar rfl bl.len_ PySem.boot_len (aa (pv 1) ag)) aj) ag)))))
  (ah (cx (pv 0) (bD cR rfl bl.list_ PyProof.Rows.boot_list (aa (pv 1) ag)) rfl)))))),?_⟩
 have hS:SqL K H p (zs.map V.str):=SqL.of hP
 have hpx:p ≠ x:=ck hP hx (by intro z;cases z)
 have hlen:(zs.map V.str).length=zs.length:=List.length_map _
 have h1:=hg.some_
 have h40:=hg.few
 refine ⟨_,rfl,p,_,rfl,.inl hS,_,_,rfl,rfl,_,rfl,de (by rw [hlen];lia) ?_⟩
 refine ⟨_,_,rfl,rfl,_,rfl,?_⟩
 rw [decide_eq_true (show (((zs.map V.str).length:Nat):Int)<=40 by rw [hlen];lia)]
 refine b8 ?_
 refine ⟨λσ' H'=>H'=H/\∃ c2:Option V,σ'=[some (.ref x),some (.ref p),c2],?_,?_⟩
 ·refine ⟨_,rfl,p,rfl,⟨_,hS⟩,bf (xs:=zs.map V.str) (λi σ H'=>H'=H/\∃ c2:Option V,σ=[some (.ref x),some (.ref p),c2]) ⟨rfl,_,rfl⟩ (λi σ H' _ h=>by rw [h.1];exact hS) (λi y σ H' e h=>?_) (λσ H' h=>h)⟩
  obtain ⟨e0,c2,rfl⟩:=h
  rw [e0]
  obtain ⟨z,rfl,ez⟩:=cO e
  have hw:=hg.words z (G8 ez)
  have hz:z.length<=1000:=by
   have hw2:=hw
   unfold isw at hw2
   simp only [Bool.and_eq_true,decide_eq_true_eq] at hw2
   lia
  refine ⟨_,rfl,z,rfl,hz,_,rfl,?_⟩
  rw [hw]
  exact b8 ⟨rfl,_,rfl⟩
 rintro σ2 H2 ⟨e2,c2,rfl⟩
 rw [e2]
 refine ⟨_,rfl,p,zs,rfl,hS,by lia,λl hl=>⟨l,zs,rfl,af,by lia,_,rfl,p,_,rfl,.inl ((ai hl _).seq hS),_,_,rfl,rfl,_,rfl,?_⟩⟩
 have s1:=ai hl (ly P w l zs)
 have cf:=iw zs zs.length (Nat.le_refl _)
 rw [List.take_length] at cf
 refine bM (by rw [hlen,cf.mpr hg.once];lia) ?_
 have hx1:=s1 _ _ hx
 have hP1:=s1 _ _ hP
 refine ⟨_,rfl,_,rfl,p,_,rfl,.inl (SqL.of hP1),_,_,rfl,rfl,x,dx,0,_,rfl,hx1,?_⟩
 have e1:mkd yW (upd H l (ly P w l zs)) x dx 0 ((((zs.map V.str).length:Nat):Int) - 1) x=some (.ins yW dx [("low",.int 0),("high",.int ((((zs.map V.str).length:Nat):Int) - 1))]):=af
 have e2:mkd yW (upd H l (ly P w l zs)) x dx 0 ((((zs.map V.str).length:Nat):Int) - 1) p=some (.lst (zs.map V.str)):=by unfold mkd;rw [av hpx,av hpx];exact hP1
 have e3:∀ b o,b ≠ x->H b=some o->mkd yW (upd H l (ly P w l zs)) x dx 0 ((((zs.map V.str).length:Nat):Int) - 1) b=some o:=λb o hb h=>by unfold mkd;rw [av hb,av hb];exact s1 b o h
 have eh:(((zs.map V.str).length:Nat):Int) - 1=hiW zs:=by rw [hlen];rfl
 refine ⟨_,rfl,p,_,rfl,.inl (SqL.of e2),λl2 hl2=>⟨_,rfl,x,_,dx,_,rfl,jd e1 hl2,bl.k_Words,bl.na_Words_words,(by show 2 < 1000;decide),?_⟩⟩
 show Q .non (upd (upd (mkd yW (upd H l (ly P w l zs)) x dx 0 ((((zs.map V.str).length:Nat):Int) - 1)) l2 (.lst (zs.map V.str))) x (.ins yW dx (bz (Str.ofString "words") (.ref l2) [(Str.ofString "low",.int 0),(Str.ofString "high",.int ((((zs.map V.str).length:Nat):Int) - 1))])))
 rw [put3]
 have hl3:mkd yW (upd H l (ly P w l zs)) x dx 0 ((((zs.map V.str).length:Nat):Int) - 1) l2=none:=hl2
 clear hl2
 generalize mkd yW (upd H l (ly P w l zs)) x dx 0 ((((zs.map V.str).length:Nat):Int) - 1)=H2 at e1 e2 e3 hl3 ⊢
 rw [eh]
 have nl:l2 ≠ x:=(bB e1 hl3).symm
 exact q _ l2 (λb o hb h=>(av hb).trans (jd (e3 b o hb h) hl3)) af ((av nl).trans af) (by cases q_:H l2 with | none=>rfl | some o=>rw [e3 l2 o nl q_] at hl3;cases hl3)
theorem Ez (F:Fun K "bears" "Numbers.bears" Y16 f fd) (bl:Bl K mg yA yE yN yO yP yQ yR yS yT yU yV yW yX ae yY yZ) (bV:MCallee CX0 P w K mg base 2 yV "has_code" ["self", "value"] (bx K yA yE yN yO yP yQ yR yS yT yU yV yW yX ae yY yZ)):aQ P w K mg base CX0 3 f fd ["self", "value"] (cb K yA yE yN yO yP yQ yR yS yT yU yV yW yX ae yY yZ):=by
 refine F.ok Z16 (λvs H Q E h=>?_) (λcdv A outer s H vs Q E hr h=>?_)
 ·obtain ⟨a,lo,hi,i,rfl,⟨dx,ha⟩,h1,h2,q⟩:=h
  rfl
 obtain ⟨a,lo,hi,i,rfl,⟨dx,ha⟩,h1,h2,q⟩:=h
 refine ⟨_,(ah (aH (gP bV bL bl.k_Numbers hr (pv 0) (aa (pv 1) ag)))),?_⟩
 exact ⟨_,rfl,a,_,_,rfl,ha,rfl,_,rfl,a,(lo,hi),i,rfl,⟨dx,_,ha,rfl,rfl,rfl⟩,h1,h2,q⟩
theorem EA (F:Fun K "way_by" "way_by" Y83 f fd) (bl:Bl K mg yA yE yN yO yP yQ yR yS yT yU yV yW yX ae yY yZ) (k_First:MkCallee CX0 P w K mg base 2 "First" yO ["self"] (J0 K yO)) (k_Only:MkCallee CX0 P w K mg base 2 "Only" yP ["self"] (J8 K yP)) (k_Like:MkCallee CX0 P w K mg base 2 "Like" yQ ["self"] (J4 K yQ)) (k_Low:MkCallee CX0 P w K mg base 2 "Low" yR ["self"] (J6 K yR)) (k_High:MkCallee CX0 P w K mg base 2 "High" yS ["self"] (J2 K yS)) (k_Sum:MkCallee CX0 P w K mg base 2 "Sum" yT ["self"] (J10 K yT)):aQ P w K mg base CX0 4 f fd ["name"] (iG K yA yE yN yO yP yQ yR yS yT yU yV yW yX ae yY yZ):=by
 refine F.ok Z83 (λvs H Q E h=>?_) (λcdv A outer s H vs Q E hr h=>?_)
 ·obtain ⟨z,rfl,hz,q⟩:=h
  rfl
 obtain ⟨z,rfl,hz,q⟩:=h
 refine ⟨_,(aC (bb PassesOwn.never rfl (aP (bK (aa (kH k_First bL hr rfl) (aa (kH k_Only bL hr rfl) (aa (kH k_Like bL hr rfl) (aa (kH k_Low bL hr rfl) (aa (kH k_High bL hr rfl) (aa (kH k_Sum bL hr rfl) ag)))))))) (aF (i:=1) Z83.nd rfl (Or.inl rfl))
  (ah (aR (aJ bX (aY (pv 1) rfl) (pv 0) (aO _))
  (ah (aH (pv 1)))
  aI)))
  (ah ba)),?_⟩
 refine λw0 d0 hw hdw hnw=>⟨w0,d0,rfl,af,rfl,?_⟩
 have t0:aq H (upd (upd (upd H d0 (.own w0)) w0 (.ins yO d0 [])) w0 (.ins yO d0 [("called",.str (Str.ofString "first"))])):=((ai hdw _).upd hw).upd hw
 have y0:WyN yO (upd (upd (upd H d0 (.own w0)) w0 (.ins yO d0 [])) w0 (.ins yO d0 [("called",.str (Str.ofString "first"))])) w0 (Str.ofString "first"):=⟨d0,af⟩
 generalize upd (upd (upd H d0 (.own w0)) w0 (.ins yO d0 [])) w0 (.ins yO d0 [("called",.str (Str.ofString "first"))])=H0 at t0 y0 ⊢
 clear hw hdw hnw
 refine λw1 d1 hw hdw hnw=>⟨w1,d1,rfl,af,rfl,?_⟩
 have t1:aq H0 (upd (upd (upd H0 d1 (.own w1)) w1 (.ins yP d1 [])) w1 (.ins yP d1 [("called",.str (Str.ofString "only"))])):=((ai hdw _).upd hw).upd hw
 have y1:WyN yP (upd (upd (upd H0 d1 (.own w1)) w1 (.ins yP d1 [])) w1 (.ins yP d1 [("called",.str (Str.ofString "only"))])) w1 (Str.ofString "only"):=⟨d1,af⟩
 generalize upd (upd (upd H0 d1 (.own w1)) w1 (.ins yP d1 [])) w1 (.ins yP d1 [("called",.str (Str.ofString "only"))])=H1 at t1 y1 ⊢
 clear hw hdw hnw
 have y0:=y0.same t1
 refine λw2 d2 hw hdw hnw=>⟨w2,d2,rfl,af,rfl,?_⟩
 have t2:aq H1 (upd (upd (upd H1 d2 (.own w2)) w2 (.ins yQ d2 [])) w2 (.ins yQ d2 [("called",.str (Str.ofString "like"))])):=((ai hdw _).upd hw).upd hw
 have y2:WyN yQ (upd (upd (upd H1 d2 (.own w2)) w2 (.ins yQ d2 [])) w2 (.ins yQ d2 [("called",.str (Str.ofString "like"))])) w2 (Str.ofString "like"):=⟨d2,af⟩
 generalize upd (upd (upd H1 d2 (.own w2)) w2 (.ins yQ d2 [])) w2 (.ins yQ d2 [("called",.str (Str.ofString "like"))])=H2 at t2 y2 ⊢
 clear hw hdw hnw
 have y0:=y0.same t2
 have y1:=y1.same t2
 refine λw3 d3 hw hdw hnw=>⟨w3,d3,rfl,af,rfl,?_⟩
 have t3:aq H2 (upd (upd (upd H2 d3 (.own w3)) w3 (.ins yR d3 [])) w3 (.ins yR d3 [("called",.str (Str.ofString "low"))])):=((ai hdw _).upd hw).upd hw
 have y3:WyN yR (upd (upd (upd H2 d3 (.own w3)) w3 (.ins yR d3 [])) w3 (.ins yR d3 [("called",.str (Str.ofString "low"))])) w3 (Str.ofString "low"):=⟨d3,af⟩
 generalize upd (upd (upd H2 d3 (.own w3)) w3 (.ins yR d3 [])) w3 (.ins yR d3 [("called",.str (Str.ofString "low"))])=H3 at t3 y3 ⊢
 clear hw hdw hnw
 have y0:=y0.same t3
 have y1:=y1.same t3
 have y2:=y2.same t3
 refine λw4 d4 hw hdw hnw=>⟨w4,d4,rfl,af,rfl,?_⟩
 have t4:aq H3 (upd (upd (upd H3 d4 (.own w4)) w4 (.ins yS d4 [])) w4 (.ins yS d4 [("called",.str (Str.ofString "high"))])):=((ai hdw _).upd hw).upd hw
 have y4:WyN yS (upd (upd (upd H3 d4 (.own w4)) w4 (.ins yS d4 [])) w4 (.ins yS d4 [("called",.str (Str.ofString "high"))])) w4 (Str.ofString "high"):=⟨d4,af⟩
 generalize upd (upd (upd H3 d4 (.own w4)) w4 (.ins yS d4 [])) w4 (.ins yS d4 [("called",.str (Str.ofString "high"))])=H4 at t4 y4 ⊢
 clear hw hdw hnw
 have y0:=y0.same t4
 have y1:=y1.same t4
 have y2:=y2.same t4
 have y3:=y3.same t4
 refine λw5 d5 hw hdw hnw=>⟨w5,d5,rfl,af,rfl,?_⟩
 have t5:aq H4 (upd (upd (upd H4 d5 (.own w5)) w5 (.ins yT d5 [])) w5 (.ins yT d5 [("called",.str (Str.ofString "sum"))])):=((ai hdw _).upd hw).upd hw
 have y5:WyN yT (upd (upd (upd H4 d5 (.own w5)) w5 (.ins yT d5 [])) w5 (.ins yT d5 [("called",.str (Str.ofString "sum"))])) w5 (Str.ofString "sum"):=⟨d5,af⟩
 generalize upd (upd (upd H4 d5 (.own w5)) w5 (.ins yT d5 [])) w5 (.ins yT d5 [("called",.str (Str.ofString "sum"))])=H5 at t5 y5 ⊢
 clear hw hdw hnw
 have y0:=y0.same t5
 have y1:=y1.same t5
 have y2:=y2.same t5
 have y3:=y3.same t5
 have y4:=y4.same t5
 have s5:aq H H5:=((((t0.trans t1).trans t2).trans t3).trans t4).trans t5
 refine ⟨(by show 6<=sizeLine;decide),λl hl=>?_⟩
 have sl:aq H5 (upd H5 l (.lst [V.ref w0,.ref w1,.ref w2,.ref w3,.ref w4,.ref w5])):=ai hl _
 have el:upd H5 l (.lst [V.ref w0,.ref w1,.ref w2,.ref w3,.ref w4,.ref w5]) l=some (.lst [V.ref w0,.ref w1,.ref w2,.ref w3,.ref w4,.ref w5]):=af
 generalize upd H5 l (.lst [V.ref w0,.ref w1,.ref w2,.ref w3,.ref w4,.ref w5])=H6 at sl el ⊢
 have y0:=y0.same sl
 have y1:=y1.same sl
 have y2:=y2.same sl
 have y3:=y3.same sl
 have y4:=y4.same sl
 have y5:=y5.same sl
 have sA:=s5.trans sl
 have key:∀ (i:Nat) (x:V),[V.ref w0,.ref w1,.ref w2,.ref w3,.ref w4,.ref w5][i]?=some x->∃ (a C:Addr) (y:Str),x=.ref a/\(cl6 yO yP yQ yR yS yT)[i]?=some C/\six[i]?=some y/\WyN C H6 a y/\Cls K C/\bq K C (Str.ofString "called"):=λi x e=>by
  match i,e with
  | 0,e=>cases e;exact ⟨w0,yO,_,rfl,rfl,rfl,y0,bl.k_First,bl.na_First_called⟩
  | 1,e=>cases e;exact ⟨w1,yP,_,rfl,rfl,rfl,y1,bl.k_Only,bl.na_Only_called⟩
  | 2,e=>cases e;exact ⟨w2,yQ,_,rfl,rfl,rfl,y2,bl.k_Like,bl.na_Like_called⟩
  | 3,e=>cases e;exact ⟨w3,yR,_,rfl,rfl,rfl,y3,bl.k_Low,bl.na_Low_called⟩
  | 4,e=>cases e;exact ⟨w4,yS,_,rfl,rfl,rfl,y4,bl.k_High,bl.na_High_called⟩
  | 5,e=>cases e;exact ⟨w5,yT,_,rfl,rfl,rfl,y5,bl.k_Sum,bl.na_Sum_called⟩
  | n+6,e=>simp at e
 refine ⟨l,rfl,⟨_,SqL.of el⟩,bf (xs:=[V.ref w0,.ref w1,.ref w2,.ref w3,.ref w4,.ref w5]) (λi σ H'=>(∃ c1:Option V,σ=[some (.str z),c1])/\H'=H6/\∀ j:Nat,j < i->six[j]? ≠ some z) ⟨⟨_,rfl⟩,rfl,(λj h=>absurd h (Nat.not_lt_zero j))⟩ (λi σ H' _ h=>by rw [h.2.1];exact SqL.of el) (λi x σ H' e h=>?_) (λσ H' h=>?_)⟩
 ·obtain ⟨⟨c1,rfl⟩,e0,hno⟩:=h
  rw [e0]
  obtain ⟨a,C,y,rfl,eC,ey,⟨dx,ha⟩,hc,hn⟩:=key i x e
  refine ⟨_,rfl,a,_,_,_,_,rfl,ha,hc,hn,rfl,_,rfl,rfl,_,rfl,?_⟩
  refine dj (λg=>?_) (λg=>?_)
  ·have g' : V.str y=V.str z:=oq g
   injection g' with g'
   subst g'
   exact ⟨_,rfl,q i ey a C H6 sA eC ⟨dx,ha⟩⟩
  ·refine ⟨⟨_,rfl⟩,rfl,λj hj=>?_⟩
   by_cases hji:j < i
   ·exact hno j hji
   ·have:j=i:=by lia
    subst this
    rw [ey]
    intro q2
    exact (tF g) (by injection q2 with q2;rw [q2])
 ·obtain ⟨⟨c1,rfl⟩,e0,hno⟩:=h
  rw [e0]
  obtain ⟨j,hj,ej⟩:=List.getElem_of_mem hz
  exact absurd (by rw [G6 hj,ej]) (hno j hj)
theorem O_0 (F:Fun K "__init__" "Book.__init__" Y0 f fd) (bl:Bl K mg yA yE yN yO yP yQ yR yS yT yU yV yW yX ae yY yZ) (gG:Callee P w K mg base 3 "refuse_counts_books" ["facts", "tables"] (cz K yA yE yN yO yP yQ yR yS yT yU yV yW yX ae yY yZ)) (ia:Callee P w K mg base 3 "refuse_names_books" ["facts", "tables"] (cJ K yA yE yN yO yP yQ yR yS yT yU yV yW yX ae yY yZ)) (kT:Callee P w K mg base 3 "refuse_domains" ["facts", "tables"] (dG K yA yE yN yO yP yQ yR yS yT yU yV yW yX ae yY yZ)) (m5:Callee P w K mg base 3 "refuse_rings" ["tables"] (dW K yA yE yN yO yP yQ yR yS yT yU yV yW yX ae yY yZ)):aQ P w K mg base CX0 4 f fd ["self", "facts", "tables"] (bT K yA yE yN yO yP yQ yR yS yT yU yV yW yX ae yY yZ):=by
 refine F.ok Z0 (λvs H Q E h=>?_) (λcdv A outer s H vs Q E hr h=>?_)
 ·obtain ⟨x,dx,fa,ma,fv,mv,zs,ds,ts,fN,L,P,rfl,hx,efa,ema,hB,hfP,q⟩:=h
  rfl
 obtain ⟨x,dx,fa,ma,fv,mv,zs,ds,ts,fN,L,P,rfl,hx,efa,ema,hB,hfP,q⟩:=h
 refine ⟨_,(aC (aV (aW gG hr rfl (aa (pv 1) (aa (pv 2) ag))))
  (aC (aV (aW ia hr rfl (aa (pv 1) (aa (pv 2) ag))))
  (aC (aV (aW kT hr rfl (aa (pv 1) (aa (pv 2) ag))))
  (aC (aV (aW m5 hr rfl (aa (pv 2) ag)))
  (aC (cx (pv 0) (fI (aP (pv 1)) (cS (N:=["name", "domain"]) (k:=2) rfl rfl (by decide +kernel) (by decide +kernel) (by decide +kernel)) rfl (λ_ _ _ _=>(ox (K:=K) (n:=2) rfl rfl (aN (aF (i:=0) (show (["name", "domain"]:List Str).Nodup by decide +kernel) rfl (Or.inl rfl) (Or.inr rfl)) (aN (aF (i:=1) (show (["name", "domain"]:List Str).Nodup by decide +kernel) rfl (Or.inl rfl) (Or.inr rfl)) bO)))) (λ_ _ _ _=>aU) (λ_ _ _ _=>(bc (aa (pv 0) (aa (pv 1) ag))))) rfl)
  (ah (cx (pv 0) (bD cR rfl bl.list_ PyProof.Rows.boot_list (aa (pv 2) ag)) rfl))))))),?_⟩
 obtain ⟨b1,b2,b3⟩:=hB.few
 have hfl:fv.length=fN:=by rw [hB.facts.1,List.length_range]
 have hml:mv.length=L.length:=hB.tabs.1
 refine ⟨_,rfl,_,rfl,fa,ma,fv,mv,rfl,efa,ema,by lia,by lia,?_⟩
 refine ⟨_,rfl,_,rfl,fa,ma,fv,mv,zs,ds,ts,fN,L,rfl,efa,ema,hB,λH1 s1=>?_⟩
 refine ⟨_,rfl,_,rfl,fa,ma,fv,mv,zs,ds,ts,fN,L,rfl,s1 _ _ efa,s1 _ _ ema,hB.same s1,λH2 s2=>?_⟩
 have s12:=s1.trans s2
 refine ⟨_,rfl,ma,mv,zs,ds,ts,fN,L,rfl,s12 _ _ ema,hB.ok,(hB.same s12).tabs,hB.lt,by lia,λH3 s3=>?_⟩
 have s13:=s12.trans s3
 have Cs:=s13 _ _ efa
 have hB3:=hB.same s13
 refine ⟨_,rfl,fa,rfl,⟨_,SqL.of Cs⟩,dM (xs:=fv) (λD i ys H'=>aq H3 H'/\H' D=some (.lst ys)/\az ys (List.range i) (FcT P H' zs)) (λD hD=>⟨ai hD _,af,az.nil⟩) (λD i ys H' hD _ h=>SqL.of (h.1 _ _ Cs)) (λD i y ys H' hD e h ts' hts=>?_) (λD ys H' hD h=>?_)⟩
 ·obtain ⟨sm,eD,hy⟩:=h
  obtain ⟨r,k,rfl,ek,nm,po,d,z1,z2,g1,g2⟩:=az.get hB3.facts e
  have hi:i < fv.length:=(G7.mp e).1
  obtain ⟨t0,t1,rfl⟩:∃ t0 t1,ts'=[t0,t1]:=by
   match ts',hts with
   | [t0,t1],_=>exact ⟨t0,t1,rfl⟩
  refine ⟨r,_,rfl,SqT.of (sm _ _ g1),rfl,_,_,rfl,_,_,rfl,rfl,⟨[some (.str nm),some (.ref d)],rfl,rfl⟩,?_⟩
  refine ⟨_,rfl,_,rfl,(by show 2<=sizeLine;decide),λtp htp=>?_⟩
  have u:=ai htp (.tup [.str nm,.ref d])
  have eT:upd H' tp (.tup [.str nm,.ref d]) tp=some (.tup [.str nm,.ref d]):=af
  generalize upd H' tp (.tup [.str nm,.ref d])=H9 at u eT ⊢
  have eD9:=u _ _ eD
  obtain ⟨r2,k2,er2,ek2,nm2,d2,y1,y2,y3⟩:=az.get hfP e
  cases er2
  rw [ek] at ek2
  cases ek2
  have y3':=s13 _ _ y3
  rw [g1] at y3'
  cases y3'
  obtain ⟨rfl,hlt⟩:=pF ek
  have hyl:ys.length=k:=by rw [hy.1,List.length_range]
  refine bQ.mk hi eD9 (aD (by lia)) ⟨(sm.trans u).upd hD,af,?_⟩
  rw [List.range_succ]
  exact az.mono (az.snoc (az.mono hy λ_ _ p=>p.tups u.tups) ⟨nm,d,z1,y2,eT⟩) λ_ _ p=>p.tups (oW eD9)
 ·obtain ⟨sm,eD,hy⟩:=h
  have hx3:H3 x=some (.ins ae dx []):=s13 _ _ hx
  refine ⟨_,rfl,x,_,dx,_,rfl,sm _ _ hx3,bl.k_Book,bl.na_Book_facts,(by show 0 < 1000;decide),?_⟩
  have nDx:D ≠ x:=λz=>by rw [z,hx3] at hD;cases hD
  have nmx:ma ≠ x:=λz=>by rw [z,hx] at ema;cases ema
  have g1:upd H' x (.ins ae dx (bz (Str.ofString "facts") (V.ref D) []))=upd H' x (.ins ae dx [(Str.ofString "facts",V.ref D)]):=rfl
  rw [g1]
  have e2:upd H' x (.ins ae dx [(Str.ofString "facts",V.ref D)]) ma=some (.lst mv):=(av nmx).trans (sm _ _ (s13 _ _ ema))
  have x2:upd H' x (.ins ae dx [(Str.ofString "facts",V.ref D)]) x=some (.ins ae dx [(Str.ofString "facts",V.ref D)]):=af
  have k2:∀ b o,b ≠ x->H b=some o->upd H' x (.ins ae dx [(Str.ofString "facts",V.ref D)]) b=some o:=λb o hb e=>(av hb).trans (sm _ _ (s13 _ _ e))
  have d2:upd H' x (.ins ae dx [(Str.ofString "facts",V.ref D)]) D=some (.lst ys):=(av nDx).trans eD
  rw [hfl] at hy
  have y2:az ys (List.range fN) (FcT P (upd H' x (.ins ae dx [(Str.ofString "facts",V.ref D)])) zs):=az.mono hy λ_ _ p=>p.tups (oX (sm _ _ hx3))
  generalize upd H' x (.ins ae dx [(Str.ofString "facts",V.ref D)])=H4 at e2 x2 k2 d2 y2 ⊢
  refine ⟨_,rfl,ma,mv,rfl,.inl (SqL.of e2),λc hc=>?_⟩
  have u:=ai hc (.lst mv)
  have ec:upd H4 c (.lst mv) c=some (.lst mv):=af
  generalize upd H4 c (.lst mv)=H5 at u ec ⊢
  refine ⟨_,rfl,x,_,dx,_,rfl,u _ _ x2,bl.k_Book,bl.na_Book_tables,(by show 1 < 1000;decide),?_⟩
  have ncx:c ≠ x:=λz=>by rw [z,x2] at hc;cases hc
  exact q _ _ c D ys (λb o hb e=>(av hb).trans (u _ _ (k2 b o hb e))) af rfl ((av ncx).trans ec) rfl ((av nDx).trans (u _ _ d2)) (az.mono (az.mono y2 λ_ _ p=>p.tups u.tups) λ_ _ p=>p.tups (oX (u _ _ x2)))
theorem O_3 (F:Fun K "code" "Domain.code" Y3 f fd) (bl:Bl K mg yA yE yN yO yP yQ yR yS yT yU yV yW yX ae yY yZ) (dX:MCallee CX0 P w K mg base 3 yV "borne_code" ["self", "value"] (bH K yA yE yN yO yP yQ yR yS yT yU yV yW yX ae yY yZ)) (fS:MCallee CX0 P w K mg base 3 yV "bears" ["self", "value"] (cb K yA yE yN yO yP yQ yR yS yT yU yV yW yX ae yY yZ)):aQ P w K mg base CX0 4 f fd ["self", "value"] (cC K yA yE yN yO yP yQ yR yS yT yU yV yW yX ae yY yZ):=by
 refine F.ok Z3 (λvs H Q E h=>?_) (λcdv A outer s H vs Q E hr h=>?_)
 ·obtain ⟨a,lo,hi,i,rfl,⟨dx,ha⟩,h1,h2,q⟩:=h
  rfl
 obtain ⟨a,lo,hi,i,rfl,⟨dx,ha⟩,h1,h2,q⟩:=h
 refine ⟨_,(aC (aR (cw (cG (gP fS bL bl.k_Numbers hr (pv 0) (aa (pv 1) ag))))
  (ah ba)
  aI)
  (ah (aH (gP dX bL bl.k_Numbers hr (pv 0) (aa (pv 1) ag))))),?_⟩
 exact ⟨_,rfl,a,_,_,rfl,ha,rfl,_,rfl,a,lo,hi,i,rfl,⟨dx,ha⟩,h1,h2,_,rfl,b8 ⟨_,rfl,a,_,_,rfl,ha,rfl,_,rfl,a,.int i,rfl,q⟩⟩
theorem EB (F:Fun K "refuse_way" "refuse_way" Y78 f fd) (bl:Bl K mg yA yE yN yO yP yQ yR yS yT yU yV yW yX ae yY yZ) (m6:Callee P w K mg base 4 "way_by" ["name"] (iG K yA yE yN yO yP yQ yR yS yT yU yV yW yX ae yY yZ)):aQ P w K mg base CX0 5 f fd ["way", "outcome"] (fw K yA yE yN yO yP yQ yR yS yT yU yV yW yX ae yY yZ):=by
 refine F.ok Z78 (λvs H Q E h=>?_) (λcdv A outer s H vs Q E hr h=>?_)
 ·obtain ⟨z,ou,rfl,hz,hne,q⟩:=h
  rfl
 obtain ⟨z,ou,rfl,hz,hne,q⟩:=h
 refine ⟨_,(ah (aR (PW.pt (fX (aJ bX (aY (aW m6 hr rfl (aa (pv 0) ag)) rfl) aT (aO _)) (d8 (cG (au cU rfl bl.isinstance_ PyProof.Rows.boot_isinstance (aa (pv 1) (aa (cK (v:=.ref yW) rfl bl.Words_ rfl) ag)))))))
  (ah ba)
  aI)),?_⟩
 refine ⟨_,rfl,z,rfl,hz,λi ei x C H' s' eC hw=>?_⟩
 have hF:Cls K C/\bq K C (Str.ofString "called"):=by
  match i,eC with
  | 0,eC=>cases eC;exact ⟨bl.k_First,bl.na_First_called⟩
  | 1,eC=>cases eC;exact ⟨bl.k_Only,bl.na_Only_called⟩
  | 2,eC=>cases eC;exact ⟨bl.k_Like,bl.na_Like_called⟩
  | 3,eC=>cases eC;exact ⟨bl.k_Low,bl.na_Low_called⟩
  | 4,eC=>cases eC;exact ⟨bl.k_High,bl.na_High_called⟩
  | 5,eC=>cases eC;exact ⟨bl.k_Sum,bl.na_Sum_called⟩
  | n+6,eC=>simp [cl6] at eC
 obtain ⟨dx,hx⟩:=hw
 refine ⟨x,_,_,_,_,rfl,hx,hF.1,hF.2,rfl,rfl,_,rfl,?_⟩
 by_cases hs:z=Str.ofString "sum"
 ·obtain ⟨dy,fs,ho⟩:=hne hs
  exact de (by rw [hs]) ⟨_,rfl,_,_,_,_,false,rfl,.ref _,bl.t_Numbers.ty (s' _ _ ho),bl.f_nw,_,rfl,b8 (q _ s')⟩
 ·exact bM (λe=>by injection e with e;exact hs e) (b8 (q _ s'))
theorem EC (F:Fun K "judged" "judged" Y46 f fd) (bl:Bl K mg yA yE yN yO yP yQ yR yS yT yU yV yW yX ae yY yZ) (iN:MCallee CX0 P w K mg base 4 yO "verdict" ["self", "codes", "outcome"] (J12 K yO yV yW)) (jr:MCallee CX0 P w K mg base 4 yP "verdict" ["self", "codes", "outcome"] (J16 K yP yV yW)) (js:MCallee CX0 P w K mg base 4 yQ "verdict" ["self", "codes", "outcome"] (J14 K yQ yV yW)) (kb:MCallee CX0 P w K mg base 4 yR "verdict" ["self", "codes", "outcome"] (J15 K yR yV yW)) (jt:MCallee CX0 P w K mg base 4 yS "verdict" ["self", "codes", "outcome"] (J13 K yS yV yW)) (kc:MCallee CX0 P w K mg base 4 yT "verdict" ["self", "codes", "outcome"] (J17 K yT yV yW)) (m6:Callee P w K mg base 4 "way_by" ["name"] (iG K yA yE yN yO yP yQ yR yS yT yU yV yW yX ae yY yZ)):aQ P w K mg base CX0 5 f fd ["table", "rows"] (kQ K yA yE yN yO yP yQ yR yS yT yU yV yW yX ae yY yZ):=by
 refine F.ok Z46 (λvs H Q E h=>?_) (λcdv A outer s H vs Q E hr h=>?_)
 ·obtain ⟨t,rws,wi,o,m,rfl,⟨rl,ou,dx,fs,xs,wy,ht,hf,hfw,hfo,erl,hR,hwi,hou,hole,fA⟩,q⟩:=h
  rfl
 obtain ⟨t,rws,wi,o,m,rfl,⟨rl,ou,dx,fs,xs,wy,ht,hf,hfw,hfo,erl,hR,hwi,hou,hole,fA⟩,q⟩:=h
 refine ⟨_,(aC (qS (i:=2) Z46.nd rfl (Or.inl rfl) (xw rfl bl.enumerate_ (aa (aY (pv 0) rfl) ag)) (ll (N:=["k", "row", "rows"]) (k:=2) (fr:=[1]) (cl:=[("rows",s.heap.objs.size+1)]) rfl rfl (by decide +kernel) (by decide +kernel) rfl rfl (List.forall_mem_cons.mpr ⟨rfl,List.forall_mem_nil _⟩) rfl) rfl (λ_ _ _ _=>(ox (K:=K) (n:=2) rfl rfl (aN (aF (i:=0) (show (["k", "row", "rows"]:List Str).Nodup by decide +kernel) rfl (Or.inl rfl) (Or.inr rfl)) (aN (aF (i:=1) (show (["k", "row", "rows"]:List Str).Nodup by decide +kernel) rfl (Or.inl rfl) (Or.inr rfl)) bO)))) (λ_ _ _ _=>(eQ (oF (K:=K) rfl (aG zl (aG zk (pv 2) (pv 0)) aj)))) (λ_ _ _ _=>(aE (dh (K:=K) rfl) (pv 1) aj (λ_ _=>rfl))))
  (ah (aH (rX (nN iN bl.k_First (nN jr bl.k_Only (nN js bl.k_Like (nN kb bl.k_Low (nN jt bl.k_High (nN kc bl.k_Sum zI)))))) bL hr (aW m6 hr rfl (aa (aY (pv 0) rfl) ag)) (aa (pv 2) (aa (aY (pv 0) rfl) ag)))))),?_⟩
 have hxl:xs.length=rws.length:=hR.1
 refine ⟨_,rfl,t,_,_,_,_,rfl,ht,bl.k_Table,bl.na_Table_rows,hf,rl,rfl,⟨_,SqL.of erl⟩,rZ (xs:=xs) (λD i zs H'=>aq H H'/\H' D=some (.lst zs)/\zs=(pkF rws (gU m) i).map V.int)
  (λD hD=>⟨ai hD _,af,rfl⟩) (λD i zs H' hD _ h=>SqL.of (h.1 _ _ erl)) (λD i x zs H' T hD ex h hT ts hts=>?_) (λD zs H' hD h=>?_)⟩
 ·obtain ⟨sm,eD,rfl⟩:=h
  have s2:=sm.trans (ai hT (.tup [.int i,x]))
  have eT:upd H' T (.tup [.int i,x]) T=some (.tup [.int i,x]):=af
  have eD2:=ai hT (.tup [.int i,x]) _ _ eD
  generalize upd H' T (.tup [.int i,x])=H2 at s2 eT eD2 ⊢
  obtain ⟨r,w_,rfl,ew,ce,cv,g1,_,g2,g3⟩:=az.get (hR.same s2) ex
  have hi:i < xs.length:=(G7.mp ex).1
  have hg:rws.getD i ([],0)=w_:=getD_at ew
  have hpl:=tT rws (gU m) i
  obtain ⟨t0,t1,rfl⟩:∃ t0 t1,ts=[t0,t1]:=by
   match ts,hts with
   | [t0,t1],_=>exact ⟨t0,t1,rfl⟩
  refine ⟨T,_,rfl,SqT.of eT,rfl,_,_,rfl,_,_,rfl,rfl,⟨[some (.int i),some (.ref r)],rfl,rfl⟩,?_⟩
  refine ⟨_,rfl,_,rfl,_,_,rfl,rfl,Int.natCast_nonneg _,_,_,rfl,rfl,gU m i,rfl,?_⟩
  have hs:=qX rws (gU m) i
  rw [hg] at hs
  cases hb:gU m i with
  | true =>
   rw [hb] at hs
   refine dJ ⟨_,rfl,r,_,_,_,rfl,rfl,SqT.of g1,rfl,bQ.mk hi eD2 (aD (by rw [List.length_map];lia)) ⟨s2.upd hD,af,?_⟩⟩
   rw [hs,List.map_append];rfl
  | false =>
   rw [hb] at hs
   refine b8 (d6.mk (zs:=(pkF rws (gU m) i).map V.int) hi ⟨s2,eD2,?_⟩)
   rw [hs];simp
 ·obtain ⟨sm,eD,rfl⟩:=h
  rw [hxl] at eD
  have hwy:wy ∈ six:=G8 hwi
  refine ⟨_,rfl,t,_,_,_,_,rfl,sm _ _ ht,bl.k_Table,bl.na_Table_way,hfw,wy,rfl,hwy,λi2 ei2 x C H2 s2 eC hw=>?_⟩
  have ii:i2=wi:=xE ei2 hwi
  subst ii
  have sA:=sm.trans s2
  obtain ⟨dw,hx⟩:=hw
  have hpl:=tT rws (gU m) rws.length
  have key:(C,j4 K C yV yW i2) ∈ [(yO,j4 K yO yV yW 0),(yP,j4 K yP yV yW 1),(yQ,j4 K yQ yV yW 2),(yR,j4 K yR yV yW 3),(yS,j4 K yS yV yW 4),(yT,j4 K yT yV yW 5)]:=by
   match i2,eC with
   | 0,eC=>cases eC;exact .head _
   | 1,eC=>cases eC;exact .tail _ (.head _)
   | 2,eC=>cases eC;exact .tail _ (.tail _ (.head _))
   | 3,eC=>cases eC;exact .tail _ (.tail _ (.tail _ (.head _)))
   | 4,eC=>cases eC;exact .tail _ (.tail _ (.tail _ (.tail _ (.head _))))
   | 5,eC=>cases eC;exact .tail _ (.tail _ (.tail _ (.tail _ (.tail _ (.head _)))))
   | n+6,eC=>simp [cl6] at eC
  refine ⟨x,(C,j4 K C yV yW i2),dw,_,rfl,key,hx,rfl,_,rfl,_,rfl,t,_,_,_,_,rfl,sA _ _ ht,bl.k_Table,bl.na_Table_outcome,hfo,x,D,ou,_,o,rfl,⟨dw,_,hx⟩,hou.same sA,hole,SqL.of (s2 _ _ eD),by lia,λr H3 s3 h3=>q r H3 (sA.trans s3) h3⟩
theorem ED (F:Fun K "_law_made" "_law_made" Y55 f fd) (bl:Bl K mg yA yE yN yO yP yQ yR yS yT yU yV yW yX ae yY yZ) (k_Numbers:MkCallee CX0 P w K mg base 3 "Numbers" yV ["self", "low", "high"] (bu K yA yE yN yO yP yQ yR yS yT yU yV yW yX ae yY yZ)) (k_Words:MkCallee CX0 P w K mg base 3 "Words" yW ["self", "words"] (bI K yA yE yN yO yP yQ yR yS yT yU yV yW yX ae yY yZ)):aQ P w K mg base CX0 5 f fd ["domain"] (eX K yA yE yN yO yP yQ yR yS yT yU yV yW yX ae yY yZ):=by
 refine F.ok Z55 (λvs H Q E h=>?_) (λcdv A outer s H vs Q E hr h=>?_)
 ·obtain ⟨r,p,rfl,⟨wl,_,_,er,ewl⟩,ok,q⟩:=h
  rfl
 obtain ⟨r,p,rfl,⟨wl,_,_,er,ewl⟩,ok,q⟩:=h
 refine ⟨_,(aC (aR (aJ gO (au ar rfl bl.len_ PySem.boot_len (aa (aE aS (pv 0) aj (λ_ _=>rfl)) ag)) aj (aO _))
  (ah (aH (tI k_Words bL hr rfl (aa (bD cR rfl bl.list_ PyProof.Rows.boot_list (aa (aE aS (pv 0) aj (λ_ _=>rfl)) ag)) ag))))
  aI)
  (ah (aH (tI k_Numbers bL hr rfl (aa (aE aS (pv 0) aj (λ_ _=>rfl)) (aa (aE aS (pv 0) aj (λ_ _=>rfl)) ag)))))),?_⟩
 have hlm:(p.ws.map V.str).length=p.ws.length:=List.length_map _
 refine ⟨_,rfl,r,_,_,_,rfl,rfl,SqT.of er,rfl,wl,_,rfl,.inl (SqL.of ewl),_,_,rfl,rfl,_,rfl,?_⟩
 refine dj (λg=>?_) (λg=>?_)
 ·have hne:p.ws ≠ []:=λz=>by
   have:=of_decide_eq_true g
   rw [z] at this
   exact absurd this (by decide)
  obtain ⟨hg,h0,h1⟩:=ok.wd hne
  refine ⟨_,rfl,r,_,_,_,rfl,rfl,SqT.of er,rfl,wl,_,rfl,.inl (SqL.of ewl),λc hc=>?_⟩
  have u1:=ai hc (.lst (p.ws.map V.str))
  have ec:upd H c (.lst (p.ws.map V.str)) c=some (.lst (p.ws.map V.str)):=af
  generalize upd H c (.lst (p.ws.map V.str))=H1 at u1 ec ⊢
  intro x dx hx hdx G3
  have s3:aq H1 (upd (upd H1 dx (.own x)) x (.ins yW dx [])):=(ai hdx _).upd hx
  refine ⟨x,dx,c,p.ws,rfl,af,s3 _ _ ec,hg,λH4 l4 k1 k2 k3 k4=>⟨rfl,q x H4 (λb o e=>k1 b o (bB (u1 _ _ e) hx) (s3 _ _ (u1 _ _ e))) ?_⟩⟩
  rw [PD.k_some hne]
  exact ⟨⟨dx,l4,u1.free (s3.free k4),k2,k3⟩,h0,h1,hg⟩
 ·have he:p.ws=[]:=by
   have:¬ ((0:Int) < (((p.ws.map V.str).length:Nat):Int)):=λh=>g (decide_eq_true h)
   rw [hlm] at this
   exact List.length_eq_zero_iff.mp (by lia)
  refine ⟨_,rfl,r,_,_,_,rfl,rfl,SqT.of er,rfl,_,rfl,r,_,_,_,rfl,rfl,SqT.of er,rfl,λx dx hx hdx hne=>⟨x,dx,p.lo,p.hi,rfl,af,ok.le,rfl,q x _ ?_ ?_⟩⟩
  ·unfold mkd
   exact (((ai hdx _).upd hx).upd hx).upd hx
  ·rw [PD.k_none he]
   exact ⟨dx,af⟩
theorem EE (F:Fun K "judged_step" "judged_step" Y47 f fd) (bl:Bl K mg yA yE yN yO yP yQ yR yS yT yU yV yW yX ae yY yZ) (Ar:Callee P w K mg base 5 "mask" ["table", "codes"] (pL K yA yE yN yO yP yQ yR yS yT yU yV yW yX ae yY yZ)) (we:Callee P w K mg base 5 "judged" ["table", "rows"] (kQ K yA yE yN yO yP yQ yR yS yT yU yV yW yX ae yY yZ)):aQ P w K mg base CX0 6 f fd ["table", "columns"] (eL K yA yE yN yO yP yQ yR yS yT yU yV yW yX ae yY yZ):=by
 refine F.ok Z47 (λvs H Q E h=>?_) (λcdv A outer s H vs Q E hr h=>?_)
 ·obtain ⟨a,l,k,zs,ds,ts,fN,xs,cvs,t,p,nm,rfl,hT,et,enm,ep,tok,pok,hl,hxs,hcl,q⟩:=h
  rfl
 obtain ⟨a,l,k,zs,ds,ts,fN,xs,cvs,t,p,nm,rfl,hT,et,enm,ep,tok,pok,hl,hxs,hcl,q⟩:=h
 refine ⟨_,(aw (d9 (i:=2) Z47.nd rfl (Or.inl rfl) (aP (pv 1)) (bg rfl (by decide +kernel) (by decide +kernel) (by decide +kernel) rfl) rfl (λ_ _ _ _=>(eQ (aJ n5 (aE (dh (K:=K) rfl) (pv 0) aj (λ_ _=>rfl)) aT (aO _)))) (λ_ _ _ _=>(pv 0)))
  (aC (aR (dB (pv 2) (by intro _;rfl))
  (ah (aH (bc (aa (aY (pv 0) rfl) (aa uR (aa aj (aa (aE aK (pv 2) aj (λ_ _=>rfl)) ag)))))))
  aI)
  (aw (d9 (i:=3) Z47.nd rfl (Or.inl rfl) (aP (pv 1)) (bg rfl (by decide +kernel) (by decide +kernel) (by decide +kernel) rfl) rfl (λ_ _ _ _=>aU) (λ_ _ _ _=>(aE (dh (K:=K) rfl) (pv 0) aj (λ_ _=>rfl))))
  (aw (aL (i:=4) Z47.nd rfl (Or.inl rfl) (aW Ar hr rfl (aa (pv 0) (aa (pv 3) ag))))
  (ah (aH (bc (aa (aY (pv 0) rfl) (aa (pv 3) (aa (pv 4) (aa (aW we hr rfl (aa (pv 0) (aa (pv 4) ag))) ag))))))))))),?_⟩
 obtain ⟨t',nm',po',ou,dv,g1,g2,g3,g4,g5,g6⟩:=id hT
 rw [et] at g1
 cases g1
 rw [enm] at g2
 cases g2
 rw [ep] at g3
 cases g3
 obtain ⟨rl,dx,na,dl,fs,xs2,ht,f1,f2,f3,f4,f5,f6,ena,edl,erl,hR,fA⟩:=id g4
 have hwy:six[ixF six t.way]?=some t.way:=sD tok.ok.way
 have Ct:Tbl yX yV yW H a t.rows (ixF six t.way) (p.lo,p.hi):=g4.tbl hwy g6.dom pok.le
 have hc3:t.cols.length<=3:=tok.ok.few
 refine ⟨λσ' H'=>aq H H'/\∃ (sa:Addr) (sv:List V),H' sa=some (.lst sv)/\az sv (cvs.filter λv=>!cq v) (λr v=>SqT K H r (tp v))/\σ'=[some (.ref a),some (.ref l),some (.ref sa),none,none],?_,?_⟩
 ·refine ⟨_,rfl,l,rfl,⟨_,hl⟩,aZ (xs:=xs) (λD i ys H'=>aq H H'/\H' D=some (.lst ys)/\az ys ((cvs.take i).filter λv=>!cq v) (λr v=>SqT K H r (tp v))) (λD hD=>⟨ai hD _,af,az.nil⟩) (λD i ys H' hD _ h=>h.1.seq hl) (λD i y ys H' hD e h=>?_) (λD ys H' hD h=>?_)⟩
  ·obtain ⟨sm,eD,hy⟩:=h
   obtain ⟨r,v,rfl,ev,hv⟩:=az.get hxs e
   have hi:i < xs.length:=(G7.mp e).1
   have hyl:ys.length<=3:=by
    have h1:=hy.1
    have h2:=List.length_filter_le (λv:SI=>!cq v) (cvs.take i)
    rw [List.length_take] at h2
    lia
   refine ⟨_,rfl,r,_,_,_,rfl,rfl,sm.seqT hv,rfl,rfl,_,rfl,?_⟩
   by_cases hs:v.1=Str.ofString "say"
   ·have hs' : cq v=true:=decide_eq_true hs
    refine qL (by rw [hs]) (d6.mk (zs:=ys) hi ⟨sm,eD,?_⟩)
    rw [take_snoc ev,List.filter_append,List.filter_cons_of_neg (by simp [hs']),List.filter_nil,List.append_nil]
    exact hy
   ·have hs' : cq v=false:=decide_eq_false hs
    refine yC (λz=>hs (by injection z)) ⟨_,rfl,bQ.mk hi eD (aD (by lia)) ⟨sm.upd hD,af,?_⟩⟩
    rw [take_snoc ev,List.filter_append,List.filter_cons_of_pos (by simp [hs']),List.filter_nil]
    exact az.snoc hy hv
  ·obtain ⟨sm,eD,hy⟩:=h
   rw [hxs.1,List.take_length] at hy
   exact ⟨sm,D,ys,eD,hy,rfl⟩
 rintro σ1 H1 ⟨s1,sa,sv,esa,hsv,rfl⟩
 have wg:4<=sizeLine:=by decide
 refine ⟨_,rfl,_,.inl ⟨sv,SqL.of esa,rfl⟩,?_⟩
 cases hfl:cvs.filter λv=>!cq v with
 | cons v vs =>
  rw [hfl] at hsv
  obtain ⟨r0,e0,hr0⟩:=hsv.2 0 v rfl
  have hne:sv.isEmpty=false:=by
   cases sv with
   | nil=>simp at e0
   | cons x y=>rfl
  rw [hne]
  have hst:kP p t cvs=v:=by
   unfold kP
   rw [← List.head?_filter,hfl]
   rfl
  have cy:cvs.all cq=false:=by
   have hm:v ∈ cvs.filter λv=>!cq v:=by rw [hfl];exact List.mem_cons_self
   obtain ⟨h1,h2⟩:=List.mem_filter.mp hm
   rw [List.all_eq_false]
   exact ⟨v,h1,by simpa using h2⟩
  refine dJ ⟨_,rfl,a,_,_,_,_,rfl,s1 _ _ ht,bl.k_Table,bl.na_Table_name,f2,_,rfl,sa,_,_,_,rfl,rfl,SqL.of esa,aM (j:=0) e0,wg,λtp_ htp=>q tp_ _ (s1.trans (ai htp _)) ⟨.non,0,r0,af,?_,.inl ⟨cy,rfl,rfl⟩⟩⟩
  rw [hst]
  exact (s1.trans (ai htp _)).seqT hr0
 | nil =>
  rw [hfl] at hsv
  have EF:sv=[]:=List.length_eq_zero_iff.mp hsv.1
  rw [EF]
  have mZ:∀ v ∈ cvs,cq v=true:=λv hv=>by
   have:=List.filter_eq_nil_iff.mp hfl v hv
   simpa using this
  have cy:cvs.all cq=true:=List.all_eq_true.mpr mZ
  refine b8 ?_
  refine ⟨λσ' H'=>aq H1 H'/\∃ ca:Addr,H1 ca=none/\H' ca=some (.lst ((cvs.map (·.2)).map V.int))/\σ'=[some (.ref a),some (.ref l),some (.ref sa),some (.ref ca),none],?_,?_⟩
  ·refine ⟨_,rfl,l,rfl,⟨_,s1.seq hl⟩,aZ (xs:=xs) (λD i ys H'=>aq H1 H'/\H' D=some (.lst ys)/\ys=((cvs.take i).map (·.2)).map V.int) (λD hD=>⟨ai hD _,af,rfl⟩) (λD i ys H' hD _ h=>h.1.seq (s1.seq hl)) (λD i y ys H' hD e h=>?_) (λD ys H' hD h=>?_)⟩
   ·obtain ⟨sm,eD,rfl⟩:=h
    obtain ⟨r,v,rfl,ev,hv⟩:=az.get hxs e
    have hi:i < xs.length:=(G7.mp e).1
    have hxl:=hxs.1
    refine ⟨_,rfl,r,_,_,_,rfl,rfl,(s1.trans sm).seqT hv,rfl,bQ.mk hi eD (aD (by rw [List.length_map,List.length_map,List.length_take];lia)) ⟨sm.upd hD,af,?_⟩⟩
    rw [take_snoc ev,List.map_append,List.map_append]
    rfl
   ·obtain ⟨sm,eD,rfl⟩:=h
    rw [hxs.1,List.take_length] at eD
    exact ⟨sm,D,hD,eD,rfl⟩
  rintro σ2 H2 ⟨s2,ca,nca,eca,rfl⟩
  have s12:=s1.trans s2
  refine ⟨λσ' H'=>aq H2 H'/\σ'=[some (.ref a),some (.ref l),some (.ref sa),some (.ref ca),some (.int ((msk (eE t.rows (cvs.map (·.2))) t.rows.length:Nat):Int))],?_,?_⟩
  ·exact ⟨_,rfl,_,rfl,a,ca,t.rows,_,_,cvs.map (·.2),rfl,Ct.same s12,SqL.of eca,(λw_ hw=>by rw [List.length_map,hcl];exact (tok.rows w_ hw).len),λH3 s3=>⟨s3,rfl⟩⟩
  rintro σ3 H3 ⟨s3,rfl⟩
  have s13:=s12.trans s3
  refine ⟨_,rfl,a,_,_,_,_,rfl,s13 _ _ ht,bl.k_Table,bl.na_Table_name,f2,_,rfl,_,rfl,_,rfl,_,rfl,a,t.rows,_,_,_,rfl,Ct.same s13,λr H4 s4 hr4=>⟨wg,λtp_ htp=>q tp_ _ ((s13.trans s4).trans (ai htp _)) ⟨.ref ca,_,r,af,?_,.inr ⟨cy,ca,rfl,s1.free nca,((s3.trans s4).trans (ai htp _)) _ _ eca,rfl⟩⟩⟩⟩
  rw [xF,vK] at hr4
  rw [q9 mZ]
  exact (ai htp _).seqT hr4
theorem EG (F:Fun K "_law_facts" "_law_facts" Y53 f fd) (bl:Bl K mg yA yE yN yO yP yQ yR yS yT yU yV yW yX ae yY yZ) (eZ:Callee P w K mg base 5 "_law_made" ["domain"] (eX K yA yE yN yO yP yQ yR yS yT yU yV yW yX ae yY yZ)):aQ P w K mg base CX0 6 f fd ["plan"] (gj K yA yE yN yO yP yQ yR yS yT yU yV yW yX ae yY yZ):=by
 refine F.ok Z53 (λvs H Q E h=>?_) (λcdv A outer s H vs Q E hr h=>?_)
 ·obtain ⟨r,zs,ds,ts,fN,rfl,hPl,ok,q⟩:=h
  rfl
 obtain ⟨r,zs,ds,ts,fN,rfl,hPl,ok,q⟩:=h
 refine ⟨_,(aw (i5 (pv 0) (dr rfl (aN (aF (i:=1) Z53.nd rfl (Or.inr rfl)) (aN (aF (i:=2) Z53.nd rfl (Or.inr rfl)) (aN (aF (i:=3) Z53.nd rfl (Or.inl rfl)) bO)))))
  (ah (aH (bt (bh rfl bl.range_ (aa (aG cH (au ar rfl bl.len_ PySem.boot_len (aa (pv 1) ag)) (au ar rfl bl.len_ PySem.boot_len (aa (pv 3) ag))) ag)) (aX (N:=["k", "names", "domains"]) (fr:=[1,2]) (cl:=[("names",s.heap.objs.size+1),("domains",s.heap.objs.size+1+1)]) rfl rfl (by decide +kernel) (by decide +kernel) rfl (by decide +kernel) rfl rfl rfl (List.forall_mem_cons.mpr ⟨rfl,List.forall_mem_cons.mpr ⟨rfl,List.forall_mem_nil _⟩⟩) rfl) rfl (λ_ _ _ _=>aU) (λ_ _ _ _=>(bc (aa (aE (dc (K:=K) rfl) (pv 1) (pv 0) (λ_ _=>rfl)) (aa (aW eZ hr rfl (aa (aE (dc (K:=K) rfl) (pv 2) (pv 0) (λ_ _=>rfl)) ag)) ag)))))))),?_⟩
 obtain ⟨nl,dl,tl_,dv,tv,er,enl,edl,hdv,etl,htv⟩:=id hPl
 have hzl:(zs.map V.str).length=zs.length:=List.length_map _
 have hl1:=ok.len
 have hl2:=ok.tab
 have h7:=ok.n7
 have htl:tv.length=ts.length:=htv.1
 refine ⟨λσ' H'=>H'=H/\σ'=[some (.ref r),some (.ref nl),some (.ref dl),some (.ref tl_)],⟨_,rfl,r,_,rfl,SqT.of er,rfl,_,_,rfl,_,_,rfl,_,_,rfl,rfl,rfl,rfl⟩,?_⟩
 rintro σ1 H1 ⟨rfl,rfl⟩
 have eN:(((zs.map V.str).length:Nat):Int) - ((tv.length:Nat):Int)=(fN:Int):=by lia
 refine ⟨_,rfl,nl,_,rfl,.inl (SqL.of enl),_,rfl,tl_,_,rfl,.inl (SqL.of etl),_,_,rfl,rfl,_,rfl,(by rw [eN];lia),(by rw [eN];lia),bE (λD i ys H'=>aq H1 H'/\H' D=some (.lst ys)/\az ys (List.range i) (FcN (Fr H1 D) yV yW H' zs ds)) (λD hD=>⟨ai hD _,af,az.nil⟩) (λD i ys H' hD hi h=>?_) (λD ys H' hD h=>?_)⟩
 ·obtain ⟨sm,eD,hz⟩:=h
  rw [eN,Int.toNat_natCast] at hi
  have ez:=G6 (l:=zs) (i:=i) (by lia)
  have ed:=G6 (l:=ds) (i:=i) (by lia)
  obtain ⟨da,e2,hpd⟩:=hdv.2 i _ ed
  have okd:=ok.doms _ (G8 ed)
  generalize ds[i]=p at ed hpd okd
  generalize zs[i]=nm at ez
  have ix1:atI (zs.map V.str) (0+(i:Int))=some (.str nm):=by rw [Int.zero_add];exact aM (df ez)
  have ix2:atI dv (0+(i:Int))=some (.ref da):=by rw [Int.zero_add];exact aM e2
  refine ⟨_,rfl,_,rfl,nl,_,_,_,rfl,rfl,SqL.of (sm _ _ enl),ix1,_,rfl,_,rfl,dl,_,_,_,rfl,rfl,SqL.of (sm _ _ edl),ix2,da,p,rfl,hpd.same sm,okd,λx H6 s6 hx=>⟨br,λtt_ htt=>?_⟩⟩
  have u7:=ai htt (.tup [.str nm,.ref x])
  have eT:upd H6 tt_ (.tup [.str nm,.ref x]) tt_=some (.tup [.str nm,.ref x]):=af
  generalize upd H6 tt_ (.tup [.str nm,.ref x])=H7 at u7 eT ⊢
  have sA:=s6.trans u7
  have eD7:=sA _ _ eD
  have hz2:az (ys ++ [.ref tt_]) (List.range i ++ [i]) (FcN (Fr H1 D) yV yW H7 zs ds):=az.snoc (az.mono hz λ_ _ p=>p.same sA) ⟨nm,p,x,ez,ed,eT,(hx.wk λa h=>⟨sm.free h,λz=>by rw [z,eD] at h;cases h⟩).same u7⟩
  refine bQ.mk (by rw [eN,Int.toNat_natCast];exact hi) eD7 (aD (by rw [hz.1,List.length_range];lia)) ⟨(sm.trans sA).upd hD,af,?_⟩
  rw [List.range_succ]
  exact az.mono hz2 λ_ _ p=>p.upd Fr.out eD7
 ·obtain ⟨sm,eD,hz⟩:=h
  rw [eN,Int.toNat_natCast] at hz
  exact q D ys H' sm eD (az.mono hz λ_ _ p=>p.fc)
theorem EH (F:Fun K "__init__" "Table.__init__" Y22 f fd) (bl:Bl K mg yA yE yN yO yP yQ yR yS yT yU yV yW yX ae yY yZ) (gH:Callee P w K mg base 5 "refuse_names_tables" ["names"] (cA K yA yE yN yO yP yQ yR yS yT yU yV yW yX ae yY yZ)) (gq:Callee P w K mg base 5 "refuse_counts_tables" ["names", "rows"] (cm K yA yE yN yO yP yQ yR yS yT yU yV yW yX ae yY yZ)) (pN:Callee P w K mg base 5 "refuse_way" ["way", "outcome"] (fw K yA yE yN yO yP yQ yR yS yT yU yV yW yX ae yY yZ)) (pO:Callee P w K mg base 5 "refuse_row" ["domains", "outcome", "cells", "code"] (fu K yA yE yN yO yP yQ yR yS yT yU yV yW yX ae yY yZ)) (uL:Callee P w K mg base 5 "own_row" ["cells", "code"] (jf K yA yE yN yO yP yQ yR yS yT yU yV yW yX ae yY yZ)):aQ P w K mg base CX0 6 f fd ["self", "name", "names", "domains", "outcome", "way", "rows"] (bJ K yA yE yN yO yP yQ yR yS yT yU yV yW yX ae yY yZ):=by
 refine F.ok Z22 (λvs H Q E h=>?_) (λcdv A outer s H vs Q E hr h=>?_)
 ·obtain ⟨x,dx,na,dl,ou,rl,nm,wy,zs,dv,rx,bs,o,rws,rfl,hx,hna,hw,hnd,h1,h4,hwy,hws,hdl,hdv,hou,hrl,hR,fA,hb4,hok,q⟩:=h
  rfl
 obtain ⟨x,dx,na,dl,ou,rl,nm,wy,zs,dv,rx,bs,o,rws,rfl,hx,hna,hw,hnd,h1,h4,hwy,hws,hdl,hdv,hou,hrl,hR,fA,hb4,hok,q⟩:=h
 refine ⟨_,(aC (aV (aW gH hr rfl (aa (aG mi (bK (aa (pv 1) ag)) (pv 2)) ag)))
  (aC (aV (aW gq hr rfl (aa (pv 2) (aa (pv 6) ag))))
  (aC (aV (aW pN hr rfl (aa (pv 5) (aa (pv 4) ag))))
  (aw (bb PassesOwn.never rfl (aP (pv 6)) (dr rfl (aN (aF (i:=7) Z22.nd rfl (Or.inl rfl)) (aN (aF (i:=8) Z22.nd rfl (Or.inl rfl)) bO)))
  (ah (aV (aW pO hr rfl (aa (pv 3) (aa (pv 4) (aa (pv 7) (aa (pv 8) ag))))))))
  (aC (cx (pv 0) (pv 1) rfl)
  (aC (cx (pv 0) (bD cR rfl bl.list_ PyProof.Rows.boot_list (aa (pv 2) ag)) rfl)
  (aC (cx (pv 0) (bD cR rfl bl.list_ PyProof.Rows.boot_list (aa (pv 3) ag)) rfl)
  (aC (cx (pv 0) (pv 4) rfl)
  (aC (cx (pv 0) (pv 5) rfl)
  (ah (cx (pv 0) (fI (aP (pv 6)) (cS (N:=["cells", "code"]) (k:=2) rfl rfl (by decide +kernel) (by decide +kernel) (by decide +kernel)) rfl (λ_ _ _ _=>(ox (K:=K) (n:=2) rfl rfl (aN (aF (i:=0) (show (["cells", "code"]:List Str).Nodup by decide +kernel) rfl (Or.inl rfl) (Or.inr rfl)) (aN (aF (i:=1) (show (["cells", "code"]:List Str).Nodup by decide +kernel) rfl (Or.inl rfl) (Or.inr rfl)) bO)))) (λ_ _ _ _=>aU) (λ_ _ _ _=>(aW uL hr rfl (aa (pv 0) (aa (pv 1) ag))))) rfl))))))))))),?_⟩
 have hzl:(zs.map V.str).length=zs.length:=List.length_map _
 refine ⟨_,rfl,(by show 1<=sizeLine;decide),λl1 hl1=>?_⟩
 have s1:=ai hl1 (.lst [.str nm])
 have e1:upd H l1 (.lst [.str nm]) l1=some (.lst [.str nm]):=af
 generalize upd H l1 (.lst [.str nm])=H1 at s1 e1 ⊢
 refine ⟨_,rfl,l1,na,_,_,rfl,rfl,e1,s1 _ _ hna,(by rw [hzl];show 1+zs.length<=sizeLine;exact big (by lia)),λl2 hl2=>?_⟩
 have s2:=s1.trans (ai hl2 (.lst ([V.str nm] ++ zs.map V.str)))
 have e2:upd H1 l2 (.lst ([V.str nm] ++ zs.map V.str)) l2=some (.lst ((nm :: zs).map V.str)):=af
 generalize upd H1 l2 (.lst ([V.str nm] ++ zs.map V.str))=H2 at s2 e2 ⊢
 refine ⟨l2,nm :: zs,rfl,SqL.of e2,hw,hnd,by rw [List.length_cons];lia,λH3 t3=>?_⟩
 have s3:=s2.trans t3
 refine ⟨_,rfl,_,rfl,na,rl,_,_,rfl,SqL.of (s3 _ _ hna),SqL.of (s3 _ _ hrl),by rw [hzl];exact h1,by rw [hzl];exact h4,fA,?_⟩
 refine ⟨_,rfl,_,rfl,wy,ou,rfl,hwy,(λz=>let ⟨dx',fs',e'⟩:=hws z;⟨dx',fs',s3 _ _ e'⟩),λH4 t4=>?_⟩
 have s4:=s3.trans t4
 refine ⟨λσ' H'=>aq H H'/\∃ c7 c8:Option V,σ'=[some (.ref x),some (.str nm),some (.ref na),some (.ref dl),some (.ref ou),some (.str wy),some (.ref rl),c7,c8],?_,?_⟩
 ·refine ⟨_,rfl,rl,rfl,⟨_,SqL.of (s4 _ _ hrl)⟩,bf (xs:=rx) (λi σ H'=>aq H H'/\∃ c7 c8:Option V,σ=[some (.ref x),some (.str nm),some (.ref na),some (.ref dl),some (.ref ou),some (.str wy),some (.ref rl),c7,c8]) ⟨s4,_,_,rfl⟩ (λi σ H' _ h=>SqL.of (h.1 _ _ hrl)) (λi y σ H' e h=>?_) (λσ H' h=>h)⟩
  obtain ⟨sm,c7,c8,rfl⟩:=h
  obtain ⟨r,w_,rfl,ew,ce,cv,g1,_,g2,g3⟩:=az.get (hR.same sm) e
  refine ⟨r,_,rfl,SqT.of g1,rfl,_,_,rfl,_,_,rfl,rfl,?_⟩
  exact ⟨_,rfl,_,rfl,_,rfl,_,rfl,dl,ou,ce,dv,cv,bs,o,w_,rfl,SqL.of (sm _ _ hdl),az.mono hdv λ_ _ p=>p.same sm,hou.same sm,g2,g3,hok w_ (G8 ew),λH2 t2=>⟨sm.trans t2,_,_,rfl⟩⟩
 rintro σ5 H5 ⟨s5,c7,c8,rfl⟩
 have x5:=s5 _ _ hx
 have nax:na ≠ x:=ck hna hx (by intro z;cases z)
 have dlx:dl ≠ x:=ck hdl hx (by intro z;cases z)
 have rlx:rl ≠ x:=ck hrl hx (by intro z;cases z)
 have k5:∀ b o,b ≠ x->H b=some o->H5 b=some o:=λb o _ e=>s5 b o e
 have R5:=RL.hide x5 (hR.same s5)
 refine ⟨_,rfl,_,rfl,x,_,dx,_,rfl,x5,bl.k_Table,bl.na_Table_name,(by show 0 < 1000;decide),?_⟩
 have k6:∀ b o,b ≠ x->H5 b=some o->upd H5 x (.ins yX dx [(Str.ofString "name",.str nm)]) b=some o:=λb o hb e=>(av hb).trans e
 have x6:upd H5 x (.ins yX dx [(Str.ofString "name",.str nm)]) x=some (.ins yX dx [(Str.ofString "name",.str nm)]):=af
 have g6:upd H5 x (.ins yX dx (bz (Str.ofString "name") (.str nm) []))=upd H5 x (.ins yX dx [(Str.ofString "name",.str nm)]):=rfl
 rw [g6]
 clear g6
 generalize upd H5 x (.ins yX dx [(Str.ofString "name",.str nm)])=H6 at k6 x6 ⊢
 refine ⟨_,rfl,na,_,rfl,.inl (SqL.of (k6 _ _ nax (s5 _ _ hna))),λm1 hm1=>⟨_,rfl,x,_,dx,_,rfl,jd x6 hm1,bl.k_Table,bl.na_Table_names,(by show 1 < 1000;decide),?_⟩⟩
 have g7:upd (upd H6 m1 (.lst (zs.map V.str))) x (.ins yX dx (bz (Str.ofString "names") (V.ref m1) [(Str.ofString "name",V.str nm)]))=upd (upd H6 m1 (.lst (zs.map V.str))) x (.ins yX dx [(Str.ofString "name",V.str nm),(Str.ofString "names",V.ref m1)]):=by rw [pf1]
 rw [g7]
 clear g7
 have k7:∀ b o,b ≠ x->H5 b=some o->upd (upd H6 m1 (.lst (zs.map V.str))) x (.ins yX dx [(Str.ofString "name",V.str nm),(Str.ofString "names",V.ref m1)]) b=some o:=λb o hb e=>(av hb).trans (jd (k6 b o hb e) hm1)
 have x7:upd (upd H6 m1 (.lst (zs.map V.str))) x (.ins yX dx [(Str.ofString "name",V.str nm),(Str.ofString "names",V.ref m1)]) x=some (.ins yX dx [(Str.ofString "name",V.str nm),(Str.ofString "names",V.ref m1)]):=af
 have m1x:m1 ≠ x:=λz=>by rw [z,x6] at hm1;cases hm1
 have j7:upd (upd H6 m1 (.lst (zs.map V.str))) x (.ins yX dx [(Str.ofString "name",V.str nm),(Str.ofString "names",V.ref m1)]) m1=some (.lst (zs.map V.str)):=(av m1x).trans af
 generalize upd (upd H6 m1 (.lst (zs.map V.str))) x (.ins yX dx [(Str.ofString "name",V.str nm),(Str.ofString "names",V.ref m1)])=H7 at k7 x7 j7 ⊢
 refine ⟨_,rfl,dl,_,rfl,.inl (SqL.of (k7 _ _ dlx (s5 _ _ hdl))),λm2 hm2=>⟨_,rfl,x,_,dx,_,rfl,jd x7 hm2,bl.k_Table,bl.na_Table_domains,(by show 2 < 1000;decide),?_⟩⟩
 have g8:upd (upd H7 m2 (.lst dv)) x (.ins yX dx (bz (Str.ofString "domains") (V.ref m2) [(Str.ofString "name",V.str nm),(Str.ofString "names",V.ref m1)]))=upd (upd H7 m2 (.lst dv)) x (.ins yX dx [(Str.ofString "name",V.str nm),(Str.ofString "names",V.ref m1),(Str.ofString "domains",V.ref m2)]):=by rw [pf2]
 rw [g8]
 clear g8
 have k8:∀ b o,b ≠ x->H5 b=some o->upd (upd H7 m2 (.lst dv)) x (.ins yX dx [(Str.ofString "name",V.str nm),(Str.ofString "names",V.ref m1),(Str.ofString "domains",V.ref m2)]) b=some o:=λb o hb e=>(av hb).trans (jd (k7 b o hb e) hm2)
 have x8:upd (upd H7 m2 (.lst dv)) x (.ins yX dx [(Str.ofString "name",V.str nm),(Str.ofString "names",V.ref m1),(Str.ofString "domains",V.ref m2)]) x=some (.ins yX dx [(Str.ofString "name",V.str nm),(Str.ofString "names",V.ref m1),(Str.ofString "domains",V.ref m2)]):=af
 have m2x:m2 ≠ x:=λz=>by rw [z,x7] at hm2;cases hm2
 have j8:upd (upd H7 m2 (.lst dv)) x (.ins yX dx [(Str.ofString "name",V.str nm),(Str.ofString "names",V.ref m1),(Str.ofString "domains",V.ref m2)]) m1=some (.lst (zs.map V.str)):=(av m1x).trans (jd j7 hm2)
 have i8:upd (upd H7 m2 (.lst dv)) x (.ins yX dx [(Str.ofString "name",V.str nm),(Str.ofString "names",V.ref m1),(Str.ofString "domains",V.ref m2)]) m2=some (.lst dv):=(av m2x).trans af
 generalize upd (upd H7 m2 (.lst dv)) x (.ins yX dx [(Str.ofString "name",V.str nm),(Str.ofString "names",V.ref m1),(Str.ofString "domains",V.ref m2)])=H8 at k8 x8 j8 i8 ⊢
 refine ⟨_,rfl,_,rfl,x,_,dx,_,rfl,x8,bl.k_Table,bl.na_Table_outcome,(by show 3 < 1000;decide),?_⟩
 have g9:upd H8 x (.ins yX dx (bz (Str.ofString "outcome") (V.ref ou) [(Str.ofString "name",V.str nm),(Str.ofString "names",V.ref m1),(Str.ofString "domains",V.ref m2)]))=upd H8 x (.ins yX dx [(Str.ofString "name",V.str nm),(Str.ofString "names",V.ref m1),(Str.ofString "domains",V.ref m2),(Str.ofString "outcome",V.ref ou)]):=by rw [pf3]
 rw [g9]
 clear g9
 have k9:∀ b o,b ≠ x->H5 b=some o->upd H8 x (.ins yX dx [(Str.ofString "name",V.str nm),(Str.ofString "names",V.ref m1),(Str.ofString "domains",V.ref m2),(Str.ofString "outcome",V.ref ou)]) b=some o:=λb o hb e=>(av hb).trans (k8 b o hb e)
 have x9:upd H8 x (.ins yX dx [(Str.ofString "name",V.str nm),(Str.ofString "names",V.ref m1),(Str.ofString "domains",V.ref m2),(Str.ofString "outcome",V.ref ou)]) x=some (.ins yX dx [(Str.ofString "name",V.str nm),(Str.ofString "names",V.ref m1),(Str.ofString "domains",V.ref m2),(Str.ofString "outcome",V.ref ou)]):=af
 have j9:upd H8 x (.ins yX dx [(Str.ofString "name",V.str nm),(Str.ofString "names",V.ref m1),(Str.ofString "domains",V.ref m2),(Str.ofString "outcome",V.ref ou)]) m1=some (.lst (zs.map V.str)):=(av m1x).trans j8
 have i9:upd H8 x (.ins yX dx [(Str.ofString "name",V.str nm),(Str.ofString "names",V.ref m1),(Str.ofString "domains",V.ref m2),(Str.ofString "outcome",V.ref ou)]) m2=some (.lst dv):=(av m2x).trans i8
 generalize upd H8 x (.ins yX dx [(Str.ofString "name",V.str nm),(Str.ofString "names",V.ref m1),(Str.ofString "domains",V.ref m2),(Str.ofString "outcome",V.ref ou)])=H9 at k9 x9 j9 i9 ⊢
 refine ⟨_,rfl,_,rfl,x,_,dx,_,rfl,x9,bl.k_Table,bl.na_Table_way,(by show 4 < 1000;decide),?_⟩
 have g10:upd H9 x (.ins yX dx (bz (Str.ofString "way") (V.str wy) [(Str.ofString "name",V.str nm),(Str.ofString "names",V.ref m1),(Str.ofString "domains",V.ref m2),(Str.ofString "outcome",V.ref ou)]))=upd H9 x (.ins yX dx [(Str.ofString "name",V.str nm),(Str.ofString "names",V.ref m1),(Str.ofString "domains",V.ref m2),(Str.ofString "outcome",V.ref ou),(Str.ofString "way",V.str wy)]):=by rw [pf4]
 rw [g10]
 clear g10
 have k10:∀ b o,b ≠ x->H5 b=some o->upd H9 x (.ins yX dx [(Str.ofString "name",V.str nm),(Str.ofString "names",V.ref m1),(Str.ofString "domains",V.ref m2),(Str.ofString "outcome",V.ref ou),(Str.ofString "way",V.str wy)]) b=some o:=λb o hb e=>(av hb).trans (k9 b o hb e)
 have x10:upd H9 x (.ins yX dx [(Str.ofString "name",V.str nm),(Str.ofString "names",V.ref m1),(Str.ofString "domains",V.ref m2),(Str.ofString "outcome",V.ref ou),(Str.ofString "way",V.str wy)]) x=some (.ins yX dx [(Str.ofString "name",V.str nm),(Str.ofString "names",V.ref m1),(Str.ofString "domains",V.ref m2),(Str.ofString "outcome",V.ref ou),(Str.ofString "way",V.str wy)]):=af
 have j10:upd H9 x (.ins yX dx [(Str.ofString "name",V.str nm),(Str.ofString "names",V.ref m1),(Str.ofString "domains",V.ref m2),(Str.ofString "outcome",V.ref ou),(Str.ofString "way",V.str wy)]) m1=some (.lst (zs.map V.str)):=(av m1x).trans j9
 have i10:upd H9 x (.ins yX dx [(Str.ofString "name",V.str nm),(Str.ofString "names",V.ref m1),(Str.ofString "domains",V.ref m2),(Str.ofString "outcome",V.ref ou),(Str.ofString "way",V.str wy)]) m2=some (.lst dv):=(av m2x).trans i9
 generalize upd H9 x (.ins yX dx [(Str.ofString "name",V.str nm),(Str.ofString "names",V.ref m1),(Str.ofString "domains",V.ref m2),(Str.ofString "outcome",V.ref ou),(Str.ofString "way",V.str wy)])=H10 at k10 x10 j10 i10 ⊢
 have R10:RL NT H10 rx rws:=RL.same R5 (kN k10)
 have yG:=k10 _ _ rlx (s5 _ _ hrl)
 refine ⟨_,rfl,rl,rfl,⟨_,SqL.of yG⟩,dM (xs:=rx) (λD i zs H'=>aq H10 H'/\H' D=some (.lst zs)/\RL (Fr H10 D) H' zs (rws.take i))
  (λD hD=>⟨ai hD _,af,az.nil⟩) (λD i zs H' hD _ h=>SqL.of (h.1 _ _ yG)) (λD i y zs H' hD e h ts hts=>?_) (λD zs H' hD h=>?_)⟩
 ·obtain ⟨sm,eD,hz⟩:=h
  obtain ⟨r,w_,rfl,ew,ce,cv,g1,_,g2,g3⟩:=az.get (R10.same sm) e
  have hi:i < rx.length:=(G7.mp e).1
  obtain ⟨t0,t1,rfl⟩:∃ t0 t1,ts=[t0,t1]:=by
   match ts,hts with
   | [t0,t1],_=>exact ⟨t0,t1,rfl⟩
  refine ⟨r,_,rfl,SqT.of g1,rfl,_,_,rfl,_,_,rfl,rfl,⟨[some (.ref ce),some (.int w_.2)],rfl,rfl⟩,?_⟩
  refine ⟨_,rfl,_,rfl,ce,cv,w_,rfl,g2,g3,by rw [(hok w_ (G8 ew)).len];lia,λr2 H2 t2 hr2 wc=>?_⟩
  have eD2:=t2 _ _ eD
  have hlz:zs.length<=200:=by
   have:=hz.1
   rw [List.length_take] at this
   lia
  refine bQ.mk hi eD2 (aD (by lia)) ⟨(sm.trans t2).upd hD,af,?_⟩
  rw [take_snoc ew]
  exact RL.updN (az.snoc (hz.same t2) (wc.wk λa h=>⟨sm.free h,λz=>by rw [z,eD] at h;cases h⟩)) Fr.out eD2
 ·obtain ⟨sm,eD,hz⟩:=h
  rw [hR.1,List.take_length] at hz
  refine ⟨_,rfl,x,_,dx,_,rfl,sm _ _ x10,bl.k_Table,bl.na_Table_rows,(by show 5 < 1000;decide),?_⟩
  have g11:upd H' x (.ins yX dx (bz (Str.ofString "rows") (V.ref D) [(Str.ofString "name",V.str nm),(Str.ofString "names",V.ref m1),(Str.ofString "domains",V.ref m2),(Str.ofString "outcome",V.ref ou),(Str.ofString "way",V.str wy)]))=upd H' x (.ins yX dx [(Str.ofString "name",V.str nm),(Str.ofString "names",V.ref m1),(Str.ofString "domains",V.ref m2),(Str.ofString "outcome",V.ref ou),(Str.ofString "way",V.str wy),(Str.ofString "rows",V.ref D)]):=by rw [pf5]
  rw [g11]
  have nDx:D ≠ x:=λz=>by rw [z,x10] at hD;cases hD
  refine q _ _ D zs (λb o hb e=>(av hb).trans (sm _ _ (k10 b o hb (s5 _ _ e)))) af rfl rfl rfl rfl ⟨m1,m2,s5.free (iE k6 x6 hm1),s5.free (iE k7 x7 hm2),rfl,rfl,(av m1x).trans (sm _ _ j10),(av m2x).trans (sm _ _ i10)⟩ (s5.free (iE k10 x10 hD)) ((av nDx).trans eD) ?_
  exact RL.same (RL.hideN (sm _ _ x10) (az.mono hz λ_ _ p=>p.wk λa h=>s5.free (iE k10 x10 h.1))) (kN λb o hb e=>(av hb).trans e)
theorem EI (F:Fun K "steps" "steps" Y79 f fd) (bl:Bl K mg yA yE yN yO yP yQ yR yS yT yU yV yW yX ae yY yZ) (nS:Callee P w K mg base 6 "judged_step" ["table", "columns"] (eL K yA yE yN yO yP yQ yR yS yT yU yV yW yX ae yY yZ)):aQ P w K mg base CX0 7 f fd ["tables", "codes"] (mW K yA yE yN yO yP yQ yR yS yT yU yV yW yX ae yY yZ):=by
 refine F.ok Z79 (λvs H Q E h=>?_) (λcdv A outer s H vs Q E hr h=>?_)
 ·obtain ⟨tl_,d,tv,zs,ds,ts,fN,cd,od,kvs,rfl,hd,etl,htv,ok,htd,wj,hk7,hkn,hF,hin,q⟩:=h
  rfl
 obtain ⟨tl_,d,tv,zs,ds,ts,fN,cd,od,kvs,rfl,hd,etl,htv,ok,htd,wj,hk7,hkn,hF,hin,q⟩:=h
 refine ⟨_,(aw (aL (i:=2) Z79.nd rfl (Or.inr rfl) (bD (jc rfl) rfl bl.dict_ PyProof.Rows.boot_dict (aa (fI (vH (pv 1)) (cS (N:=["fact", "code"]) (k:=2) rfl rfl (by decide +kernel) (by decide +kernel) (by decide +kernel)) rfl (λ_ _ _ _=>(ox (K:=K) (n:=2) rfl rfl (aN (aF (i:=0) (show (["fact", "code"]:List Str).Nodup by decide +kernel) rfl (Or.inl rfl) (Or.inr rfl)) (aN (aF (i:=1) (show (["fact", "code"]:List Str).Nodup by decide +kernel) rfl (Or.inl rfl) (Or.inr rfl)) bO)))) (λ_ _ _ _=>aU) (λ_ _ _ _=>(bc (aa (pv 0) (aa (bc (aa aT (aa (pv 1) ag))) ag))))) ag)))
  (aw (aL (i:=3) Z79.nd rfl (Or.inl rfl) (bK ag))
  (aw (bb PassesOwn.never rfl (aP (pv 0)) (aF (i:=4) Z79.nd rfl (Or.inl rfl))
  (aw (aL (i:=5) Z79.nd rfl (Or.inl rfl) (aW nS hr rfl (aa (pv 4) (aa (bt (aP (aY (pv 4) rfl)) (aX (N:=["column", "told"]) (fr:=[2]) (cl:=[("told",s.heap.objs.size+1)]) rfl rfl (by decide +kernel) (by decide +kernel) rfl (by decide +kernel) rfl rfl rfl (List.forall_mem_cons.mpr ⟨rfl,List.forall_mem_nil _⟩) rfl) rfl (λ_ _ _ _=>aU) (λ_ _ _ _=>(aE fJ (pv 1) (pv 0) (λ_ _=>rfl)))) ag))))
  (aC (lF hr (pv 2) (aY (pv 4) rfl) (aE aS (pv 5) aj (λ_ _=>rfl)) rfl)
  (ah (aV (dR PySem.F.plainAttrs_list PySem.F.slot_list_append PySem.F.type_list_append bW (pv 3) (aa (pv 5) ag)))))))
  (ah (aH (pv 3)))))),?_⟩
 have h7:=ok.n7
 have hl1:=ok.len
 have hl2:=ok.tab
 have hod:=htd.len
 have xP:∀ (k:Nat) (t:PT),ts[k]?=some t->∀ c ∈ t.cols,c < fN+k:=λk t et c hc=>(ok.tabs k t et).ok.lt c hc
 refine ⟨λσ' H'=>aq (hide H d) H'/\∃ (dt:Addr) (kv:List (Key × V)),hide H d dt=none/\H' dt=some (.dK kv)/\kv.length<=7/\TIv K H' zs ds ts fN cd kv (λc=>c < fN/\∀ z,zs[c]?=some z->z ∈ kvs.map (·.1))/\σ'=[some (.ref tl_),some (.ref d),some (.ref dt),none,none,none],?_,?_⟩
 ·refine ⟨_,rfl,d,kvT kvs,rfl,hd,λo=>?_⟩
  have s0:aq (hide H d) (upd H d (.frz o (.dK (kvT kvs)))):=kN λb u hb e=>(av hb).trans e
  have e0:upd H d (.frz o (.dK (kvT kvs))) d=some (.frz o (.dK (kvT kvs))):=af
  generalize upd H d (.frz o (.dK (kvT kvs)))=H1 at s0 e0 ⊢
  have hkl:(kvT kvs).length=kvs.length:=by unfold kvT;exact List.length_map _
  refine qW (kvs:=kvT kvs) (λD i ys H'=>aq H1 H'/\H' D=some (.lst ys)/\∃ ks:List (Str × V),TdA H' ys ks (kvs.take i)) (λD hD=>⟨ai hD _,af,[],⟨rfl,rfl,λj p e=>by simp at e⟩⟩) (λD i ys H' hD _ h=>h.1 _ _ e0) (λD i kv ys H' T hD ekv h hT ts' hts=>?_) (λD ys H' hD h=>?_)
  ·obtain ⟨sm,eD,ks,hks⟩:=h
   obtain ⟨pz,epz,rfl⟩:=tJ ekv
   obtain ⟨z,v⟩:=pz
   obtain ⟨f,hf,ef,ev⟩:=hF _ (G8 epz)
   have ev:v=.int (cd.getD f 0):=ev
   subst ev
   have hi:i < (kvT kvs).length:=(G7.mp ekv).1
   obtain ⟨t0,t1,rfl⟩:∃ t0 t1,ts'=[t0,t1]:=by
    match ts',hts with
    | [t0,t1],_=>exact ⟨t0,t1,rfl⟩
   have u1:=ai hT (.tup [kV (Sum.inr z),.int (cd.getD f 0)])
   have eT:upd H' T (.tup [kV (Sum.inr z),.int (cd.getD f 0)]) T=some (.tup [.str z,.int (cd.getD f 0)]):=af
   generalize upd H' T (.tup [kV (Sum.inr z),.int (cd.getD f 0)])=H2 at u1 eT ⊢
   refine ⟨T,_,rfl,SqT.of eT,rfl,_,_,rfl,_,_,rfl,rfl,⟨[some (.str z),some (.int (cd.getD f 0))],rfl,rfl⟩,?_⟩
   refine ⟨_,rfl,_,rfl,br,λS hS=>⟨br,λT2 hT2=>?_⟩⟩
   have u2:=ai hS (.tup [.str (Str.ofString "say"),.int (cd.getD f 0)])
   have eS:upd H2 S (.tup [.str (Str.ofString "say"),.int (cd.getD f 0)]) S=some (.tup (tp (say (cd.getD f 0)))):=af
   generalize upd H2 S (.tup [.str (Str.ofString "say"),.int (cd.getD f 0)])=H3 at u2 eS hT2 ⊢
   have u3:=ai hT2 (.tup [.str z,.ref S])
   have eT2:upd H3 T2 (.tup [.str z,.ref S]) T2=some (.tup [.str z,.ref S]):=af
   generalize upd H3 T2 (.tup [.str z,.ref S])=H4 at u3 eT2 ⊢
   have u13:=(u1.trans u2).trans u3
   have eD4:=u13 _ _ eD
   have hyl:ys.length<=7:=by
    have h1:=congrArg List.length hks.keys
    rw [List.length_map,List.length_map,List.length_take] at h1
    rw [hks.len]
    lia
   refine bQ.mk hi eD4 (aD (by lia)) ⟨(sm.trans u13).upd hD,af,ks ++ [(z,.ref S)],?_⟩
   rw [take_snoc epz]
   exact ((hks.tups u13.tups).snoc eT2 (u3 _ _ eS)).tups (oW eD4)
  ·obtain ⟨sm,eD,ks,hks⟩:=h
   rw [hkl,List.take_length] at hks
   have Cu:ks.length=kvs.length:=by have:=congrArg List.length hks.keys;simpa using this
   refine ⟨D,ys,ks,rfl,eD,hks.len,λj p_ ep=>?_,by rw [hks.keys];exact hkn,λdt hdt=>?_⟩
   ·obtain ⟨T,S,c,h1,h2,h3,_⟩:=hks.at_ j p_ ep
    exact ⟨T,h1,by rw [h3];exact h2⟩
   ·have u:=ai hdt (.dK (kvT ks))
    refine ⟨(s0.trans sm).trans u,dt,kvT ks,(s0.trans sm).free hdt,af,by unfold kvT;rw [List.length_map];lia,(hks.tups u.tups).tiv ok.nd hkn hF,rfl⟩
 rintro σ1 H1 ⟨s1,dt,kv0,ndt,edt,G4,EJ,rfl⟩
 refine ⟨λσ' H'=>aq H1 H'/\∃ tk:Addr,H1 tk=none/\H' tk=some (.lst [])/\σ'=[some (.ref tl_),some (.ref d),some (.ref dt),some (.ref tk),none,none],⟨Nat.zero_le _,λl hl=>⟨ai hl _,l,hl,af,rfl⟩⟩,?_⟩
 rintro σ2 H2 ⟨s2,tk,ntk,etk,rfl⟩
 have s12:=s1.trans s2
 have EK:=s1.free ntk
 have EL:=s2 _ _ edt
 have ndk:dt ≠ tk:=λz=>by rw [z,ntk] at edt;cases edt
 refine ⟨λσ' H'=>aq (hide H d) H'/\∃ xs:List V,H' tk=some (.lst xs)/\az xs od (StK NT K H' zs ds ts fN cd)/\∃ c4 c5:Option V,σ'=[some (.ref tl_),some (.ref d),some (.ref dt),some (.ref tk),c4,c5],?_,?_⟩
 ·refine ⟨_,rfl,tl_,rfl,⟨_,SqL.of (s12 _ _ etl)⟩,bf (xs:=tv) (λi σ H'=>aq (hide H d) H'/\∃ (kv:List (Key × V)) (xs:List V),H' dt=some (.dK kv)/\kv.length<=7+i/\TIv K H' zs ds ts fN cd kv (λc=>(c < fN/\∀ z,zs[c]?=some z->z ∈ kvs.map (·.1))\/(fN<=c/\c - fN ∈ od.take i))/\H' tk=some (.lst xs)/\az xs (od.take i) (StK (λx=>x ≠ tk) K H' zs ds ts fN cd)/\∃ c4 c5:Option V,σ=[some (.ref tl_),some (.ref d),some (.ref dt),some (.ref tk),c4,c5]) ⟨s12,kv0,[],EL,by lia,(λc z e p=>(EJ.same s2) c z e (by rcases p with p | ⟨_,p⟩;exact p;cases p)),etk,az.nil,_,_,rfl⟩ (λi σ H' _ h=>SqL.of (h.1 _ _ etl)) (λi y σ H' e h=>?_) (λσ H' h=>?_)⟩
  ·obtain ⟨sm,kv,xs,edk,hkl,hti,exk,hxs,c4,c5,rfl⟩:=h
   obtain ⟨a,j,rfl,ej,hT⟩:=az.get htv e
   have hi:i < od.length:=(G7.mp ej).1
   have hjt:=htd.lt j (G8 ej)
   have hT':=hT.same sm
   obtain ⟨t,nm,p,ou,dv,et,enm,ep,g4,g5,g6⟩:=id hT'
   obtain ⟨rl,dx,na,dl,fs,xs2,ht,f1,f2,f3,f4,f5,f6,ena,edl,erl,hR,fA⟩:=g4
   have tok:=ok.tabs j t et
   have pok:=ok.doms p (G8 ep)
   have hc3:t.cols.length<=3:=tok.ok.few
   have hlt:∀ k ∈ t.cols,k < zs.length:=λk hk=>by
    have:=tok.ok.lt k hk
    lia
   obtain ⟨hpl,hpg⟩:=cM hlt
   refine ⟨λσ' H''=>aq H' H''/\∃ r:Addr,StA (λx=>H' x=none) K H'' r nm t p (t.cols.map (cvo ts ds fN cd))/\σ'=[some (.ref tl_),some (.ref d),some (.ref dt),some (.ref tk),some (.ref a),some (.ref r)],?_,?_⟩
   ·refine ⟨_,rfl,_,rfl,a,_,_,_,_,rfl,ht,bl.k_Table,bl.na_Table_names,f5,na,rfl,⟨_,SqL.of ena⟩,aZ (xs:=(prm t.cols zs).map V.str) (λD m ys H''=>aq H' H''/\H'' D=some (.lst ys)/\az ys ((t.cols.take m).map (cvo ts ds fN cd)) (λr v=>SqT K H' r (tp v))) (λD hD=>⟨ai hD _,af,az.nil⟩) (λD m ys H'' hD _ h=>SqL.of (h.1 _ _ ena)) (λD m y ys H'' hD e h=>?_) (λD ys H'' hD h=>?_)⟩
    ·obtain ⟨sn,eD,hy⟩:=h
     obtain ⟨z,rfl,ez⟩:=cO e
     have hm:m < ((prm t.cols zs).map V.str).length:=(G7.mp e).1
     have hm2:m < t.cols.length:=by rw [List.length_map,hpl] at hm;exact hm
     have ecm:=G6 hm2
     generalize t.cols[m]=c at ecm
     have ezc:zs[c]?=some z:=by rw [← hpg m c ecm];exact ez
     have hcm:=G8 ecm
     obtain ⟨rr,v9,hrr⟩:=hti c z ezc (by
      by_cases hcf:c < fN
      ·exact .inl ⟨hcf,λz' ez'=>hin j (G8 ej) t et c hcm hcf z' ez'⟩
      ·refine .inr ⟨by lia,wj i j ej (c - fN) ?_⟩
       unfold akT
       rw [et]
       exact List.mem_map.mpr ⟨c,List.mem_filter.mpr ⟨hcm,decide_eq_true (by lia)⟩,rfl⟩)
     have hyl:ys.length<=3:=by
      have h1:=hy.1
      rw [List.length_map,List.length_take] at h1
      lia
     refine ⟨_,rfl,_,rfl,dt,kv,z,.ref rr,rfl,rfl,sn _ _ edk,v9,bQ.mk hm eD (aD (by lia)) ⟨sn.upd hD,af,?_⟩⟩
     rw [take_snoc ecm,List.map_append]
     exact az.snoc hy hrr
    ·obtain ⟨sn,eD,hy⟩:=h
     rw [List.length_map,hpl,List.take_length] at hy
     exact ⟨a,D,j,zs,ds,ts,fN,ys,_,t,p,nm,rfl,hT'.same sn,et,enm,ep,tok,pok,SqL.of eD,az.mono hy (λ_ _ h=>sn.seqT h),List.length_map _,λr H3 s3 hr3=>⟨sn.trans s3,r,hr3.wk (λx hx=>sn.free hx),rfl⟩⟩
   rintro σ3 H3 ⟨s3,r,hr3,rfl⟩
   obtain ⟨cv,mm,r3,er,EM,GP⟩:=id hr3
   have As:=s3 _ _ edk
   have EN:=s3 _ _ exk
   have ekn:dt ≠ tk:=ndk
   refine ⟨_,rfl,r,_,_,_,rfl,rfl,SqT.of er,rfl,_,rfl,_,rfl,a,_,_,_,_,rfl,s3 _ _ ht,bl.k_Table,bl.na_Table_name,f2,dt,kv,nm,rfl,rfl,As,Nat.lt_of_le_of_lt hkl (Nat.lt_of_le_of_lt (show 7+i<=100 by lia) (by decide)),?_⟩
   have e4k:upd H3 dt (.dK (putK kv (Sum.inr nm) (.ref r3))) tk=some (.lst xs):=(av ndk.symm).trans EN
   refine ⟨_,rfl,.inl ⟨rfl,_,SqL.of e4k⟩,_,rfl,tk,_,_,rfl,rfl,e4k,aD (by have:=hxs.1;rw [List.length_take] at this;lia),?_⟩
   have EO:TIv K H3 zs ds ts fN cd (putK kv (Sum.inr nm) (.ref r3)) (λc=>(c < fN/\∀ z,zs[c]?=some z->z ∈ kvs.map (·.1))\/(fN<=c/\c - fN ∈ od.take (i+1))):=by
    refine (hti.same s3).put ok.nd (c0:=fN+j) enm ?_ λc hc=>?_
    ·unfold cvo
     rw [if_neg (by lia),show fN+j - fN=j by lia,yD xP et ep]
     exact EM
    ·rcases hc with hc | ⟨h1,h2⟩
     ·exact .inr (.inl hc)
     ·rw [take_snoc ej] at h2
      rcases List.mem_append.mp h2 with h2 | h2
      ·exact .inr (.inr ⟨h1,h2⟩)
      ·have:=List.mem_singleton.mp h2
       exact .inl (by lia)
   have hx3:az xs (od.take i) (StK (λx=>x ≠ tk) K H3 zs ds ts fN cd):=az.mono hxs λ_ _ p=>p.same s3
   have qT:StK (λx=>x ≠ tk) K H3 zs ds ts fN cd r j:=⟨t,p,nm,et,ep,enm,hr3.wk λx hx z=>by rw [z,exk] at hx;cases hx⟩
   refine ⟨((sm.trans s3).upd ndt).upd EK,putK kv (Sum.inr nm) (.ref r3),xs ++ [.ref r],(av ndk).trans af,?_,(EO.updX As (λ_ z=>by cases z) (λ_ _ z=>by cases z)).updX e4k (λ_ z=>by cases z) (λ_ _ z=>by cases z),af,?_,_,_,rfl⟩
   ·have:=dS kv (Sum.inr nm:Key) (.ref r3)
    lia
   ·rw [take_snoc ej]
    exact az.mono (az.mono (az.snoc hx3 qT) λ_ _ p=>p.updD As) λ_ _ p=>p.updL e4k (λz=>z rfl)
  ·obtain ⟨sm,kv,xs,edk,hkl,hti,exk,hxs,c4,c5,rfl⟩:=h
   rw [htv.1,List.take_length] at hxs
   exact ⟨sm,xs,exk,az.mono hxs λ_ _ p=>p.wk λ_ _=>trivial,c4,c5,rfl⟩
 rintro σ3 H3 ⟨s3,xs,exk,hxs,c4,c5,rfl⟩
 exact ⟨_,rfl,q tk xs H3 s3 exk hxs⟩
theorem ER (F:Fun K "_law_table" "_law_table" Y62 f fd) (bl:Bl K mg yA yE yN yO yP yQ yR yS yT yU yV yW yX ae yY yZ) (k_Table:MkCallee CX0 P w K mg base 6 "Table" yX ["self", "name", "names", "domains", "outcome", "way", "rows"] (bJ K yA yE yN yO yP yQ yR yS yT yU yV yW yX ae yY yZ)) (eZ:Callee P w K mg base 7 "_law_made" ["domain"] (eX K yA yE yN yO yP yQ yR yS yT yU yV yW yX ae yY yZ)):aQ P w K mg base CX0 8 f fd ["plan", "k"] (gm K yA yE yN yO yP yQ yR yS yT yU yV yW yX ae yY yZ):=by
 refine F.ok Z62 (λvs H Q E h=>?_) (λcdv A outer s H vs Q E hr h=>?_)
 ·obtain ⟨r,k,zs,ds,ts,fN,t,nm,po,rfl,hPl,ok,et,enm,epo,q⟩:=h
  rfl
 obtain ⟨r,k,zs,ds,ts,fN,t,nm,po,rfl,hPl,ok,et,enm,epo,q⟩:=h
 refine ⟨_,(aw (i5 (pv 0) (dr rfl (aN (aF (i:=2) Z62.nd rfl (Or.inr rfl)) (aN (aF (i:=3) Z62.nd rfl (Or.inr rfl)) (aN (aF (i:=4) Z62.nd rfl (Or.inl rfl)) bO)))))
  (aw (aL (i:=5) Z62.nd rfl (Or.inl rfl) (aG bC (aG cH (au ar rfl bl.len_ PySem.boot_len (aa (pv 2) ag)) (au ar rfl bl.len_ PySem.boot_len (aa (pv 4) ag))) (pv 1)))
  (aw (aL (i:=6) Z62.nd rfl (Or.inl rfl) (aE aS (aE aK (pv 4) (pv 1) (λ_ _=>rfl)) aj (λ_ _=>rfl)))
  (aw (qS (i:=7) Z62.nd rfl (Or.inl rfl) (aP (aE aS (aE aK (pv 4) (pv 1) (λ_ _=>rfl)) aj (λ_ _=>rfl))) (cS (N:=["row"]) (k:=1) rfl rfl (by decide +kernel) (by decide +kernel) (by decide +kernel)) rfl (λ_ C1 _ _=>(aF (i:=0) (show (["row"]:List Str).Nodup by decide +kernel) rfl (Or.inl rfl) (Or.inr rfl))) (λ_ C1 _ _=>aU) (λ_ C1 _ _=>(bc (aa (fI (vz (K:=K) rfl (aE (dh (K:=K) rfl) (pv 0) aj (λ_ _=>rfl))) (cS (N:=["spans"]) (k:=1) rfl rfl (by decide +kernel) (by decide +kernel) (by decide +kernel)) rfl (λ_ C2 _ _=>(aF (i:=0) (show (["spans"]:List Str).Nodup by decide +kernel) rfl (Or.inl rfl) (Or.inr rfl))) (λ_ C2 _ _=>aU) (λ_ C2 _ _=>(bD (iY (K:=K) rfl) rfl bl.list_ PyProof.Rows.boot_list (aa (pv 0) ag)))) (aa (aE (dh (K:=K) rfl) (pv 0) aj (λ_ _=>rfl)) ag)))))
  (aw (d9 (i:=8) Z62.nd rfl (Or.inl rfl) (aP (pv 6)) (aX (N:=["j", "names"]) (fr:=[2]) (cl:=[("names",s.heap.objs.size+1)]) rfl rfl (by decide +kernel) (by decide +kernel) rfl (by decide +kernel) rfl rfl rfl (List.forall_mem_cons.mpr ⟨rfl,List.forall_mem_nil _⟩) rfl) rfl (λ_ _ _ _=>aU) (λ_ _ _ _=>(aE (dc (K:=K) rfl) (pv 1) (pv 0) (λ_ _=>rfl))))
  (aw (d9 (i:=9) Z62.nd rfl (Or.inl rfl) (aP (pv 6)) (aX (N:=["j", "domains"]) (fr:=[3]) (cl:=[("domains",s.heap.objs.size+1+1)]) rfl rfl (by decide +kernel) (by decide +kernel) rfl (by decide +kernel) rfl rfl rfl (List.forall_mem_cons.mpr ⟨rfl,List.forall_mem_nil _⟩) rfl) rfl (λ_ _ _ _=>aU) (λ_ _ _ _=>(aW eZ hr rfl (aa (aE (dc (K:=K) rfl) (pv 1) (pv 0) (λ_ _=>rfl)) ag))))
  (ah (aH (tI k_Table bL hr rfl (aa (aE aK (pv 2) (pv 5) (λ_ _=>rfl)) (aa (pv 8) (aa (pv 9) (aa (aW eZ hr rfl (aa (aE aK (pv 3) (pv 5) (λ_ _=>rfl)) ag)) (aa (aE aS (aE aK (pv 4) (pv 1) (λ_ _=>rfl)) aj (λ_ _=>rfl)) (aa (pv 7) ag))))))))))))))),?_⟩
 obtain ⟨nl,dl,tl_,dv,tv,er,enl,edl,hdv,etl,htv⟩:=id hPl
 obtain ⟨ta,eta,cl,rl,rx,g1,g2,g3,g4⟩:=htv.2 k t et
 have hzl:(zs.map V.str).length=zs.length:=List.length_map _
 have hl1:=ok.len
 have hl2:=ok.tab
 have htl:tv.length=ts.length:=htv.1
 have h7:=ok.n7
 have tok:=ok.tabs k t et
 have hlt:=ok.lt et
 have G5:=ok.own et
 have hc3:t.cols.length<=3:=tok.ok.few
 have hc1:1<=t.cols.length:=tok.ok.some_
 have yH:=tok.few
 have hvl:(vN t.cols).length=t.cols.length:=cZ _
 refine ⟨λσ' H'=>H'=H/\σ'=[some (.ref r),some (.int (k:Int)),some (.ref nl),some (.ref dl),some (.ref tl_),none,none,none,none,none],⟨_,rfl,r,_,rfl,SqT.of er,rfl,_,_,rfl,_,_,rfl,_,_,rfl,rfl,rfl,rfl⟩,?_⟩
 rintro σ1 H1 ⟨rfl,rfl⟩
 refine ⟨λσ' H'=>H'=H1/\σ'=[some (.ref r),some (.int (k:Int)),some (.ref nl),some (.ref dl),some (.ref tl_),some (.int ((fN+k:Nat):Int)),none,none,none,none],⟨_,rfl,nl,_,rfl,.inl (SqL.of enl),_,rfl,tl_,_,rfl,.inl (SqL.of etl),_,_,rfl,rfl,_,rfl,_,_,rfl,rfl,rfl,?_⟩,?_⟩
 ·rw [show ((fN+k:Nat):Int)=(((zs.map V.str).length:Nat):Int) - ((tv.length:Nat):Int)+(k:Int) by lia]
  rfl
 rintro σ2 H2 ⟨rfl,rfl⟩
 refine ⟨λσ' H'=>H'=H2/\σ'=[some (.ref r),some (.int (k:Int)),some (.ref nl),some (.ref dl),some (.ref tl_),some (.int ((fN+k:Nat):Int)),some (.ref cl),none,none,none],⟨_,rfl,_,rfl,tl_,_,_,_,rfl,rfl,SqL.of etl,aM eta,ta,_,_,_,rfl,rfl,SqT.of g1,rfl,rfl,rfl⟩,?_⟩
 rintro σ3 H3 ⟨rfl,rfl⟩
 refine ⟨λσ' H'=>aq H3 H'/\∃ (ro:Addr) (zx:List V),H' ro=some (.lst zx)/\RL NT H' zx t.rows/\σ'=[some (.ref r),some (.int (k:Int)),some (.ref nl),some (.ref dl),some (.ref tl_),some (.int ((fN+k:Nat):Int)),some (.ref cl),some (.ref ro),none,none],?_,?_⟩
 ·refine ⟨_,rfl,_,rfl,tl_,_,_,_,rfl,rfl,SqL.of etl,aM eta,ta,_,_,_,rfl,rfl,SqT.of g1,rfl,rl,rfl,⟨_,SqL.of g3⟩,dM (xs:=rx) (λD i ys H'=>aq H3 H'/\H' D=some (.lst ys)/\RL NT (hide H' D) ys (t.rows.take i)) (λD hD=>⟨ai hD _,af,az.nil⟩) (λD i ys H' hD _ h=>SqL.of (h.1 _ _ g3)) (λD i y ys H' hD e h ts_ hts=>?_) (λD ys H' hD h=>?_)⟩
  ·obtain ⟨sm,eD,hz⟩:=h
   obtain ⟨r0,w,rfl,ew,ce,cs,f1,_,f2,f3⟩:=az.get g4 e
   have hi:i < rx.length:=(G7.mp e).1
   have hrl:rx.length=t.rows.length:=g4.1
   obtain ⟨u0,rfl⟩:∃ u0,ts_=[u0]:=by
    match ts_,hts with
    | [u0],_=>exact ⟨u0,rfl⟩
   have fit:=tok.rows w (G8 ew)
   have Al:cs.length=w.1.length:=f3.1
   have hwl:=fit.len
   refine ⟨⟨[some (.ref r0)],rfl,rfl⟩,?_⟩
   refine ⟨_,rfl,r0,_,_,_,rfl,rfl,SqT.of (sm _ _ f1),rfl,ce,rfl,⟨_,SqL.of (sm _ _ f2)⟩,dM (xs:=cs) (λD2 j ws H4=>aq H' H4/\H4 D2=some (.lst ws)/\CL (Fr H' D2) H4 ws (w.1.take j)) (λD2 hD2=>⟨ai hD2 _,af,az.nil⟩) (λD2 j ws H4 hD2 _ h=>SqL.of (h.1 _ _ (sm _ _ f2))) (λD2 j y2 ws H4 hD2 e2 h ts2 ES=>?_) (λD2 ws H4 hD2 h=>?_)⟩
   ·obtain ⟨s4,eD2,hw⟩:=h
    obtain ⟨l,ps,rfl,eps,_,yl,el,hpl⟩:=az.get f3 e2
    have hj:j < cs.length:=(G7.mp e2).1
    obtain ⟨v0,rfl⟩:∃ v0,ts2=[v0]:=by
     match ts2,ES with
     | [v0],_=>exact ⟨v0,rfl⟩
    have sA:=sm.trans s4
    refine ⟨⟨[some (.ref l)],rfl,rfl⟩,_,rfl,l,_,rfl,.inl (SqL.of (sA _ _ el)),λp hp=>?_⟩
    have u1:=ai hp (.lst yl)
    have ep:upd H4 p (.lst yl) p=some (.lst yl):=af
    have nD2:p ≠ D2:=λz=>by rw [z,eD2] at hp;cases hp
    have hp' : H' p=none:=s4.free hp
    generalize upd H4 p (.lst yl)=H5 at u1 ep ⊢
    have eD5:=u1 _ _ eD2
    have hw2:CL (Fr H' D2) H5 (ws ++ [.ref p]) (w.1.take j ++ [ps]):=az.snoc (hw.same u1) ⟨⟨hp',nD2⟩,yl,ep,hpl.mono (sA.trans u1).tups⟩
    refine bQ.mk hj eD5 (aD (by have:=hw.1;rw [List.length_take] at this;lia)) ⟨(s4.trans u1).upd hD2,af,?_⟩
    rw [take_snoc eps]
    exact hw2.updN Fr.out eD5
   ·obtain ⟨s4,eD2,hw⟩:=h
    rw [Al,List.take_length] at hw
    have nD2:D2 ≠ D:=λz=>by rw [z,eD] at hD2;cases hD2
    refine ⟨_,rfl,r0,_,_,_,rfl,rfl,SqT.of ((sm.trans s4) _ _ f1),rfl,br,λtt_ htt=>?_⟩
    have u5:=ai htt (.tup [.ref D2,.int w.2])
    have eT:upd H4 tt_ (.tup [.ref D2,.int w.2]) tt_=some (.tup [.ref D2,.int w.2]):=af
    generalize upd H4 tt_ (.tup [.ref D2,.int w.2])=H5 at u5 eT ⊢
    have uA:=s4.trans u5
    have eD5:=uA _ _ eD
    have wc:fL NT (hide H5 D) tt_ w:=⟨D2,ws,oV eD5 _ _ eT,trivial,cX (u5 _ _ eD2) nD2,az.mono (hw.same u5) λl ps ⟨⟨n1,_⟩,yl,el,hpl⟩=>⟨trivial,yl,cX el (λz=>by rw [z,eD] at n1;cases n1),hpl.mono (oV eD5)⟩⟩
    refine bQ.mk hi eD5 (aD (by have:=hz.1;rw [List.length_take] at this;lia)) ⟨(sm.trans uA).upd hD,af,?_⟩
    rw [qZ,take_snoc ew]
    exact az.snoc (az.mono hz λ_ _ p=>p.same (oP uA)) wc
  ·obtain ⟨sm,eD,hz⟩:=h
   rw [g4.1,List.take_length] at hz
   exact ⟨sm,D,ys,eD,az.mono hz (λ_ _ p=>p.same (lG H' D)),rfl⟩
 rintro σ4 H4 ⟨s4,ro,zx,ero,hro,rfl⟩
 refine ⟨λσ' H'=>aq H4 H'/\∃ ha:Addr,H' ha=some (.lst ((prm t.cols zs).map V.str))/\σ'=[some (.ref r),some (.int (k:Int)),some (.ref nl),some (.ref dl),some (.ref tl_),some (.int ((fN+k:Nat):Int)),some (.ref cl),some (.ref ro),some (.ref ha),none],?_,?_⟩
 ·refine ⟨_,rfl,cl,rfl,⟨_,SqL.of (s4 _ _ g2)⟩,aZ (xs:=vN t.cols) (λD i ys H'=>aq H4 H'/\H' D=some (.lst ys)/\ys=(prm (t.cols.take i) zs).map V.str) (λD hD=>⟨ai hD _,af,rfl⟩) (λD i ys H' hD _ h=>SqL.of (h.1 _ _ (s4 _ _ g2))) (λD i y ys H' hD e h=>?_) (λD ys H' hD h=>?_)⟩
  ·obtain ⟨sm,eD,rfl⟩:=h
   obtain ⟨j,rfl,ej⟩:=oO e
   have hj:=hlt j (G8 ej)
   have ez:=G6 (l:=zs) (i:=j) (by lia)
   have hi:i < (vN t.cols).length:=(G7.mp e).1
   refine ⟨_,rfl,_,rfl,nl,_,_,_,rfl,rfl,SqL.of ((s4.trans sm) _ _ enl),aM (df ez),bQ.mk hi eD (aD ?_) ⟨sm.upd hD,af,?_⟩⟩
   ·rw [List.length_map,(cM (os:=t.cols.take i) (xs:=zs) λj hj=>by rw [hl1];exact hlt j (List.mem_of_mem_take hj)).1,List.length_take];lia
   ·rw [take_snoc ej,vM ez,List.map_append];rfl
  ·obtain ⟨sm,eD,rfl⟩:=h
   rw [hvl,List.take_length] at eD
   exact ⟨sm,D,eD,rfl⟩
 rintro σ5 H5 ⟨s5,ha,eha,rfl⟩
 have s35:=s4.trans s5
 refine ⟨λσ' H'=>aq H5 H'/\∃ (ka:Addr) (kv:List V),H' ka=some (.lst kv)/\az kv (prm t.cols (ds.map PD.k)) (gF (λa=>H5 a=none) yV yW H')/\σ'=[some (.ref r),some (.int (k:Int)),some (.ref nl),some (.ref dl),some (.ref tl_),some (.int ((fN+k:Nat):Int)),some (.ref cl),some (.ref ro),some (.ref ha),some (.ref ka)],?_,?_⟩
 ·refine ⟨_,rfl,cl,rfl,⟨_,SqL.of (s35 _ _ g2)⟩,aZ (xs:=vN t.cols) (λD i ys H'=>aq H5 H'/\H' D=some (.lst ys)/\az ys (prm (t.cols.take i) (ds.map PD.k)) (gF (Fr H5 D) yV yW H')) (λD hD=>⟨ai hD _,af,az.nil⟩) (λD i ys H' hD _ h=>SqL.of (h.1 _ _ (s35 _ _ g2))) (λD i y ys H' hD e h=>?_) (λD ys H' hD h=>?_)⟩
  ·obtain ⟨sm,eD,hz⟩:=h
   obtain ⟨j,rfl,ej⟩:=oO e
   have hj:=hlt j (G8 ej)
   have ed:=G6 (l:=ds) (i:=j) hj
   obtain ⟨da,e2,hpd⟩:=hdv.2 j _ ed
   have okd:=ok.doms _ (G8 ed)
   generalize ds[j]=p at ed hpd okd
   have hi:i < (vN t.cols).length:=(G7.mp e).1
   have sA:=s35.trans sm
   have ez:(ds.map PD.k)[j]?=some p.k:=by rw [List.getElem?_map,ed];rfl
   refine ⟨_,rfl,_,rfl,dl,_,_,_,rfl,rfl,SqL.of (sA _ _ edl),aM e2,da,p,rfl,hpd.same sA,okd,λx H6 s6 hx=>?_⟩
   have eD6:=s6 _ _ eD
   have hz2:az (ys ++ [.ref x]) (prm (t.cols.take i) (ds.map PD.k) ++ [p.k]) (gF (Fr H5 D) yV yW H6):=az.snoc (az.mono hz λ_ _ p=>p.same s6) (hx.wk λa h=>⟨sm.free h,λz=>by rw [z,eD] at h;cases h⟩)
   refine bQ.mk hi eD6 (aD ?_) ⟨(sm.trans s6).upd hD,af,?_⟩
   ·rw [hz.1,(cM (os:=t.cols.take i) (xs:=ds.map PD.k) λj hj=>by rw [List.length_map];exact hlt j (List.mem_of_mem_take hj)).1,List.length_take];lia
   ·rw [take_snoc ej,uH ez]
    exact az.mono hz2 λ_ _ p=>p.upd Fr.out eD6
  ·obtain ⟨sm,eD,hz⟩:=h
   rw [hvl,List.take_length] at hz
   exact ⟨sm,D,ys,eD,az.mono hz (λ_ _ p=>p.wk λa h=>h.1),rfl⟩
 rintro σ6 H6 ⟨s6,ka,kv,eka,hkv,rfl⟩
 have s36:=s35.trans s6
 obtain ⟨da,e2,hpd⟩:=hdv.2 (fN+k) po epo
 have okp:=ok.doms po (G8 epo)
 refine ⟨_,rfl,_,rfl,nl,_,_,_,rfl,rfl,SqL.of (s36 _ _ enl),aM (df enm),_,rfl,_,rfl,_,rfl,_,rfl,dl,_,_,_,rfl,rfl,SqL.of (s36 _ _ edl),aM e2,da,po,rfl,hpd.same s36,okp,λou H7 s7 hou=>?_⟩
 have s37:=s36.trans s7
 have ET:=hou
 have hou:=hou.dom
 refine ⟨_,rfl,_,rfl,tl_,_,_,_,rfl,rfl,SqL.of (s37 _ _ etl),aM eta,ta,_,_,_,rfl,rfl,SqT.of (s37 _ _ g1),rfl,_,rfl,λx dx hx hdx hne=>?_⟩
 have s8:aq H7 (upd (upd H7 dx (.own x)) x (.ins yX dx [])):=(ai hdx _).upd hx
 have s68:=s7.trans s8
 have ltz:∀ j ∈ t.cols,j < zs.length:=λj hj=>by rw [hl1];exact hlt j hj
 have gz:=cM (os:=t.cols) (xs:=zs) ltz
 have nzs:nm ∉ prm t.cols zs:=λhm=>by
  obtain ⟨j,ej⟩:=List.getElem?_of_mem hm
  have hj:j < t.cols.length:=by rw [← gz.1];exact (G7.mp ej).1
  have ec:=G6 hj
  rw [gz.2 j _ ec] at ej
  have:=d7 ok.nd ej enm
  have h9:=tok.ok.lt _ (G8 ec)
  lia
 refine ⟨x,dx,ha,ka,ou,ro,nm,t.way,prm t.cols zs,kv,zx,prm t.cols (ds.map λp=>(p.lo,p.hi)),(po.lo,po.hi),t.rows,rfl,af,s68 _ _ (s6 _ _ eha),?_,List.nodup_cons.mpr ⟨nzs,uF tok.ok.nd ok.nd ltz⟩,by rw [gz.1];exact hc1,by rw [gz.1];lia,tok.ok.way,λz=>?_,s68 _ _ eka,?_,?_,s68 _ _ ((s5.trans s6) _ _ ero),hro.same ((s5.trans s6).trans s68),by rw [hro.1];exact yH,?_,ok.rows et epo,λH' fs rl' xs' k1 k2 k3 k3a k3b k3c ⟨na',dl',fn,fd,k3d,k3e,k3f,k3g⟩ fr k4 k5=>?_⟩
 ·intro z hz
  rcases List.mem_cons.mp hz with rfl | hz
  ·exact ok.words _ (G8 enm)
  ·exact ok.words z (tU hz)
 ·have he:=tok.ok.sum z po epo
  rw [PD.k_none he] at hou
  obtain ⟨dx2,e⟩:=hou
  exact ⟨dx2,_,s8 _ _ e⟩
 ·have e:prm t.cols (ds.map λp=>(p.lo,p.hi))=(prm t.cols (ds.map PD.k)).map (·.2):=by
   rw [← xH,List.map_map]
   rfl
  rw [e]
  refine ⟨by rw [List.length_map];exact hkv.1,λj b eb=>?_⟩
  rw [List.getElem?_map] at eb
  cases ec:(prm t.cols (ds.map PD.k))[j]? with
  | none=>rw [ec] at eb;cases eb
  | some kk =>
   rw [ec] at eb
   cases eb
   obtain ⟨r1,e1,p1⟩:=hkv.2 j kk ec
   exact ⟨r1,e1,(p1.dom.same s68).dom⟩
 ·exact (hou.same s8).dom
 ·rw [(cM (os:=t.cols) (xs:=ds.map λp=>(p.lo,p.hi)) λj hj=>by rw [List.length_map];exact hlt j hj).1];lia
 ·have s9:aq H7 H':=λb u e=>k1 b u (bB e hx) (s8 _ _ e)
  have sF:∀ {a:Addr},upd (upd H7 dx (.own x)) x (.ins yX dx []) a=none->H3 a=none:=λh=>(s37.trans s8).free h
  exact ⟨rfl,q x H' (s37.trans s9) ⟨t,nm,po,ou,kv,rl',dx,na',dl',fs,xs',et,enm,epo,k2,k3,k3c,k3a,k3b,k3d,k3e,sF fn,sF fd,sF fr,k3f,k3g,k4,az.mono k5 (λ_ _ p=>p.wk λa h=>sF h),by rw [k5.1];exact yH,az.mono hkv (λ_ _ p=>(p.same (s7.trans s9)).wk λa h=>s35.free h),(ET.same s9).wk λa h=>s36.free h⟩⟩
theorem EU {k n:Nat} (F:Fun K "put_behind" "put_behind" Y70 f fd) (bl:Bl K mg yA yE yN yO yP yQ yR yS yT yU yV yW yX ae yY yZ) (Au:CalleeX P w K mg base k "asks" ["book", "name"] (pJ K yA yE yN yO yP yQ yR yS yT yU yV yW yX ae yY yZ)) (gs:CalleeX P w K mg base k "put_behind" ["book", "name", "order"] (cF K yA yE yN yO yP yQ yR yS yT yU yV yW yX ae yY yZ n)):aQ P w K mg base (CX1 P w) (k+1) f fd ["book", "name", "order"] (cF K yA yE yN yO yP yQ yR yS yT yU yV yW yX ae yY yZ (n+1)):=by
 refine F.okE Z70 (λvs H Q E h=>?_) (λcdv A outer s H vs Q E hr h=>?_)
 ·obtain ⟨b,o,nm,zs,ds,ts,fN,mv,L,told,k,rfl,hB,cy,ho,htd,hs,hsz,hn,hq⟩:=h
  rfl
 obtain ⟨b,o,nm,zs,ds,ts,fN,mv,L,told,k,rfl,hB,cy,ho,htd,hs,hsz,hn,hq⟩:=h
 refine ⟨_,(aw (bb (kG rfl rfl rfl) rfl (aP (fi Au oA hr rfl (aa (pv 0) (aa (pv 1) ag)))) (aF (i:=3) Z70.nd rfl (Or.inl rfl))
  (ah (aR (aJ jT (pv 3) (pv 2) (by with_unfolding_all rfl))
  (ah (aV (fi gs oA hr rfl (aa (pv 0) (aa (pv 3) (aa (pv 2) ag))))))
  aI)))
  (ah (aV (dR PySem.F.plainAttrs_list PySem.F.slot_list_append PySem.F.type_list_append bW (pv 2) (aa (pv 1) ag))))),?_⟩
 have hB0:=hB.same (lG H o)
 have ok:=hB.ok
 have h16:=ok.n7
 have hl2:=ok.tab
 have hak:=mO ok
 rcases hq with ⟨hk,hnm,hkt,q⟩ | ⟨hno,qE⟩
 ·have et:=G6 hk
  generalize ts[k]=t at et
  have eak:akT ts fN k=akc fN t.cols:=by unfold akT;rw [et]
  refine ⟨λσ' H'=>aq (hide H o) (hide H' o)/\H' o=some (.lst ((((akT ts fN k).foldl (λt j=>odr (akT ts fN) j t) told).map (tnm zs fN)).map V.str))/\∃ c3:Option V,σ'=[some (.ref b),some (.str nm),some (.ref o),c3],?_,?_⟩
  ·refine ⟨_,rfl,_,rfl,b,nm,zs,ds,ts,fN,mv,L,rfl,hB0,hs,λk2 t2 l H1 hk2 h2 et2 s1 nl el=>?_,λh=>absurd hnm (h k (cy k hk))⟩
   have:k2=k:=hB.one (hB.lt k2 hk2) hk (h2.trans hnm.symm)
   subst this
   rw [et] at et2
   cases et2
   rw [hB.aks cy et,← eak] at el
   have nlo:l ≠ o:=λz=>by rw [z,ho] at nl;cases nl
   have elh:=cX el nlo
   have Cv:∀ j ∈ akT ts fN k2,j < ts.length:=λj hj=>by have:=hak k2 j hj;lia
   refine ⟨l,rfl,⟨_,SqL.of el⟩,bf (xs:=((akT ts fN k2).map (tnm zs fN)).map V.str) (λi σ H'=>aq (hide H o) (hide H' o)/\hide H' o l=some (.lst (((akT ts fN k2).map (tnm zs fN)).map V.str))/\H' o=some (.lst (((((akT ts fN k2).take i).foldl (λt j=>odr (akT ts fN) j t) told).map (tnm zs fN)).map V.str))/\∃ c3:Option V,σ=[some (.ref b),some (.str nm),some (.ref o),c3]) ⟨oP s1,elh,s1 _ _ ho,_,rfl⟩ (λi σ H' _ h=>SqL.of (lG H' o _ _ h.2.1)) (λi y σ H' e h=>?_) (λσ H' h=>?_)⟩
   ·obtain ⟨s2,el2,eo2,c3,rfl⟩:=h
    obtain ⟨z,rfl,ez⟩:=cO e
    rw [List.getElem?_map] at ez
    cases ej:(akT ts fN k2)[i]? with
    | none=>rw [ej] at ez;cases ez
    | some j =>
     rw [ej] at ez
     cases ez
     have hjm:=G8 ej
     have hjk:=hak k2 j hjm
     have hjt:=Cv j hjm
     have wm:Tld ts.length (((akT ts fN k2).take i).foldl (λt j=>odr (akT ts fN) j t) told):=htd.fold hak λj hj=>Cv j (List.mem_of_mem_take hj)
     rw [take_snoc ej,List.foldl_append]
     show _
     generalize ((akT ts fN k2).take i).foldl (λt j=>odr (akT ts fN) j t) told=tl at eo2 wm ⊢
     have hin:((tl.map (tnm zs fN)).contains (tnm zs fN j))=tl.contains j:=hB.ins wm hjt
     refine ⟨_,rfl,_,rfl,o,_,rfl,.inl (SqL.of eo2),rfl,dn _,_,rfl,?_⟩
     rw [if_pos rfl,gW,hin]
     cases hc:tl.contains j with
     | true =>
      refine b8 ⟨s2,el2,?_,_,rfl⟩
      rw [eo2]
      show _=some (HO.lst (((odr (akT ts fN) j tl).map (tnm zs fN)).map V.str))
      rw [Ac hak hc]
     | false =>
      refine dJ ⟨_,rfl,_,rfl,_,rfl,b,o,tnm zs fN j,zs,ds,ts,fN,mv,L,tl,j,rfl,hB.same s2,cy,eo2,wm,?_,hsz,by lia,.inl ⟨hjt,rfl,λhm=>?_,λH3 s3 eo3=>⟨s2.trans s3,s3 _ _ el2,eo3,_,rfl⟩⟩⟩
      ·exact hsz _ (G8 (hB.nmz hjt))
      ·have:tl.contains j=true:=by simpa using hm
       rw [this] at hc
       cases hc
   ·obtain ⟨s2,el2,eo2,c3,rfl⟩:=h
    rw [List.length_map,List.length_map,List.take_length] at eo2
    exact ⟨s2,eo2,c3,rfl⟩
  rintro σ1 H1 ⟨s1,eo1,c3,rfl⟩
  have wm:Tld ts.length ((akT ts fN k).foldl (λt j=>odr (akT ts fN) j t) told):=htd.fold hak λj hj=>by have:=hak k j hj;lia
  have hlen:=wm.len
  refine ⟨_,rfl,.inl ⟨rfl,_,SqL.of eo1⟩,_,rfl,o,_,_,rfl,rfl,eo1,aD (by rw [List.length_map,List.length_map];lia),q _ (by rw [qZ];exact s1) ?_⟩
  rw [af,sy hak,if_neg (by simpa using hkt),List.map_append,List.map_append,← hnm]
  rfl
 ·refine ⟨λ_ _=>False,⟨_,rfl,_,rfl,b,nm,zs,ds,ts,fN,mv,L,rfl,hB0,hs,λk2 t2 l H1 hk2 h2=>absurd h2 (hno k2 hk2),λ_=>qE⟩,?_⟩
  rintro σ1 H1 h
  exact h.elim
theorem EV (F:Fun K "order_of" "order_of" Y68 f fd) (bl:Bl K mg yA yE yN yO yP yQ yR yS yT yU yV yW yX ae yY yZ) (gs:CalleeX P w K mg base 15 "put_behind" ["book", "name", "order"] (cF K yA yE yN yO yP yQ yR yS yT yU yV yW yX ae yY yZ 13)):aQ P w K mg base (CX1 P w) 16 f fd ["book", "name"] (eY K yA yE yN yO yP yQ yR yS yT yU yV yW yX ae yY yZ):=by
 refine F.okE Z68 (λvs H Q E h=>?_) (λcdv A outer s H vs Q E hr h=>?_)
 ·obtain ⟨b,nm,zs,ds,ts,fN,mv,L,k,rfl,hB,cy,hs,hsz,iO,hq⟩:=h
  rfl
 obtain ⟨b,nm,zs,ds,ts,fN,mv,L,k,rfl,hB,cy,hs,hsz,iO,hq⟩:=h
 refine ⟨_,(aC (aL (i:=2) Z68.nd rfl (Or.inl rfl) (bK ag))
  (aC (aV (fi gs oA hr rfl (aa (pv 0) (aa (pv 1) (aa (pv 2) ag)))))
  (ah (aH (pv 2))))),?_⟩
 refine ⟨Nat.zero_le _,λo ho=>?_⟩
 have s0:=ai ho (.lst [])
 have e0:upd H o (.lst []) o=some (.lst ((([]:List Nat).map (tnm zs fN)).map V.str)):=af
 have sh:aq H (hide (upd H o (.lst [])) o):=oQ s0 ho
 generalize upd H o (.lst [])=H0 at s0 e0 sh ⊢
 refine ⟨_,rfl,_,rfl,_,rfl,b,o,nm,zs,ds,ts,fN,mv,L,[],k,rfl,hB.same sh,cy,e0,Tld.nil,hs,hsz,by lia,?_⟩
 rcases hq with ⟨hk,hnm,q⟩ | ⟨hno,qE⟩
 ·exact .inl ⟨hk,hnm,by simp,λH1 s1 e1=>⟨_,rfl,q o H1 (λx u e=>lG _ _ _ _ ((sh.trans s1) _ _ e)) ho e1⟩⟩
 ·exact .inr ⟨hno,qE _ s0⟩
theorem EW (F:Fun K "tables_for" "tables_for" Y81 f fd) (bl:Bl K mg yA yE yN yO yP yQ yR yS yT yU yV yW yX ae yY yZ) (ji:CalleeX P w K mg base 16 "table_of" ["book", "name"] (eW K yA yE yN yO yP yQ yR yS yT yU yV yW yX ae yY yZ)) (ju:CalleeX P w K mg base 16 "order_of" ["book", "name"] (eY K yA yE yN yO yP yQ yR yS yT yU yV yW yX ae yY yZ)):aQ P w K mg base (CX1 P w) 17 f fd ["book", "name"] (dQ K yA yE yN yO yP yQ yR yS yT yU yV yW yX ae yY yZ):=by
 refine F.okE Z81 (λvs H Q E h=>?_) (λcdv A outer s H vs Q E hr h=>?_)
 ·obtain ⟨b,nm,zs,ds,ts,fN,mv,L,k,rfl,hB,cy,hs,hsz,iO,hq⟩:=h
  rfl
 obtain ⟨b,nm,zs,ds,ts,fN,mv,L,k,rfl,hB,cy,hs,hsz,iO,hq⟩:=h
 refine ⟨_,(ah (aH (bt (aP (fi ju oA hr rfl (aa (pv 0) (aa (pv 1) ag)))) (aX (N:=["needed", "book"]) (fr:=[0]) (cl:=[("book",s.heap.objs.size+1)]) rfl rfl (by decide +kernel) (by decide +kernel) rfl (by decide +kernel) rfl rfl rfl (List.forall_mem_cons.mpr ⟨rfl,List.forall_mem_nil _⟩) rfl) rfl (λ_ _ _ _=>aU) (λ_ _ _ _=>(fi ji tH hr rfl (aa (pv 1) (aa (pv 0) ag))))))),?_⟩
 have h16:=hB.ok.n7
 have hl2:=hB.ok.tab
 have hak:=mO hB.ok
 rcases hq with ⟨hk,hnm,q⟩ | ⟨hno,qE⟩
 ·have htd:Tld ts.length (odr (akT ts fN) k []):=Tld.odr hak Tld.nil hk
  have hlen:=htd.len
  refine ⟨_,rfl,_,rfl,b,nm,zs,ds,ts,fN,mv,L,k,rfl,hB,cy,hs,hsz,iO,.inl ⟨hk,hnm,λl H1 s1 nl el=>?_⟩⟩
  refine ⟨l,rfl,⟨_,SqL.of el⟩,aZ (xs:=((odr (akT ts fN) k []).map (tnm zs fN)).map V.str) (λD i ys H'=>aq H1 H'/\H' D=some (.lst ys)/\az ys ((odr (akT ts fN) k []).take i) (λr j=>∃ i:Nat,mv[i]?=some (.ref r)/\L[i]?=some j)) (λD hD=>⟨ai hD _,af,az.nil⟩) (λD i ys H' hD _ h=>SqL.of (h.1 _ _ el)) (λD i y ys H' hD e h=>?_) (λD ys H' hD h=>?_)⟩
  ·obtain ⟨sm,eD,hy⟩:=h
   obtain ⟨z,rfl,ez⟩:=cO e
   have hi:i < (((odr (akT ts fN) k []).map (tnm zs fN)).map V.str).length:=(G7.mp e).1
   rw [List.getElem?_map] at ez
   cases ej:(odr (akT ts fN) k [])[i]? with
   | none=>rw [ej] at ez;cases ez
   | some j =>
    rw [ej] at ez
    cases ez
    have hjt:=htd.lt j (G8 ej)
    have hyl:ys.length<=7:=by have:=hy.1;rw [List.length_take] at this;lia
    refine ⟨_,rfl,_,rfl,b,tnm zs fN j,zs,ds,ts,fN,mv,L,rfl,hB.same (s1.trans sm),hsz _ (G8 (hB.nmz hjt)),λa2 k2 i2 e1 e2 hk2 h2 _=>?_,λh=>absurd rfl (h j (cy j hjt))⟩
    have:k2=j:=hB.one (hB.lt k2 hk2) hjt h2
    subst this
    refine bQ.mk hi eD (aD (by lia)) ⟨sm.upd hD,af,?_⟩
    rw [take_snoc ej]
    exact az.snoc hy ⟨i2,e1,e2⟩
  ·obtain ⟨sm,eD,hy⟩:=h
   rw [List.length_map,List.length_map,List.take_length] at hy
   exact q D ys H' (s1.trans sm) (s1.free hD) eD hy
 ·exact ⟨_,rfl,_,rfl,b,nm,zs,ds,ts,fN,mv,L,k,rfl,hB,cy,hs,hsz,iO,.inr ⟨hno,qE⟩⟩
theorem EY (F:Fun K "needs" "needs" Y67 f fd) (bl:Bl K mg yA yE yN yO yP yQ yR yS yT yU yV yW yX ae yY yZ) (gu:CalleeX P w K mg base 17 "tables_for" ["book", "name"] (dQ K yA yE yN yO yP yQ yR yS yT yU yV yW yX ae yY yZ)):aQ P w K mg base (CX1 P w) 18 f fd ["book", "name"] (mX K yA yE yN yO yP yQ yR yS yT yU yV yW yX ae yY yZ):=by
 refine F.okE Z67 (λvs H Q E h=>?_) (λcdv A outer s H vs Q E hr h=>?_)
 ·obtain ⟨b,nm,zs,ds,ts,fN,mv,L,k,rfl,hB,cy,hs,hsz,iO,hq⟩:=h
  rfl
 obtain ⟨b,nm,zs,ds,ts,fN,mv,L,k,rfl,hB,cy,hs,hsz,iO,hq⟩:=h
 refine ⟨_,(aw (aL (i:=2) Z67.nd rfl (Or.inr rfl) (bK ag))
  (aw (bb (kG rfl rfl rfl) rfl (aP (fi gu oA hr rfl (aa (pv 0) (aa (pv 1) ag)))) (aF (i:=3) Z67.nd rfl (Or.inl rfl))
  (ah (aV (dR PySem.F.plainAttrs_list PySem.F.slot_list_extend PySem.F.type_list_extend kF (pv 2) (aa (aY (pv 3) rfl) ag)))))
  (ah (aH (fI (aP (aY (pv 0) rfl)) (ll (N:=["fact", "domain", "columns"]) (k:=2) (fr:=[2]) (cl:=[("columns",s.heap.objs.size+1)]) rfl rfl (by decide +kernel) (by decide +kernel) rfl rfl (List.forall_mem_cons.mpr ⟨rfl,List.forall_mem_nil _⟩) rfl) rfl (λ_ _ _ _=>(ox (K:=K) (n:=2) rfl rfl (aN (aF (i:=0) (show (["fact", "domain", "columns"]:List Str).Nodup by decide +kernel) rfl (Or.inl rfl) (Or.inr rfl)) (aN (aF (i:=1) (show (["fact", "domain", "columns"]:List Str).Nodup by decide +kernel) rfl (Or.inl rfl) (Or.inr rfl)) bO)))) (λ_ _ _ _=>(eQ (aJ (mF (K:=K) rfl) (pv 0) (pv 2) (by with_unfolding_all rfl)))) (λ_ _ _ _=>(pv 0))))))),?_⟩
 have h16:=hB.ok.n7
 have hl1:=hB.ok.len
 have hl2:=hB.ok.tab
 have hak:=mO hB.ok
 refine ⟨λσ' H'=>aq H H'/\∃ co:Addr,H co=none/\H' co=some (.lst ((([]:List Nat).flatMap (nmT ts zs)).map V.str))/\σ'=[some (.ref b),some (.str nm),some (.ref co),none],⟨Nat.zero_le _,λco hco=>⟨ai hco _,co,hco,af,rfl⟩⟩,?_⟩
 rintro σ1 H1 ⟨s1,co,nco,eco,rfl⟩
 rcases hq with ⟨hk,hnm,q⟩ | ⟨hno,qE⟩
 ·have htd:Tld ts.length (odr (akT ts fN) k []):=Tld.odr hak Tld.nil hk
  have hlen:=htd.len
  refine ⟨λσ' H'=>aq H H'/\H' co=some (.lst (((odr (akT ts fN) k []).flatMap (nmT ts zs)).map V.str))/\∃ c3:Option V,σ'=[some (.ref b),some (.str nm),some (.ref co),c3],?_,?_⟩
  ·refine ⟨_,rfl,_,rfl,b,nm,zs,ds,ts,fN,mv,L,k,rfl,hB.same s1,cy,hs,hsz,iO,.inl ⟨hk,hnm,λl xs H2 s2 nl el hxs=>?_⟩⟩
   have nlc:l ≠ co:=λz=>by rw [z,eco] at nl;cases nl
   refine ⟨l,rfl,⟨_,SqL.of el⟩,bf (xs:=xs) (λi σ H'=>aq H H'/\H' l=some (.lst xs)/\H' co=some (.lst ((((odr (akT ts fN) k []).take i).flatMap (nmT ts zs)).map V.str))/\∃ c3:Option V,σ=[some (.ref b),some (.str nm),some (.ref co),c3]) ⟨s1.trans s2,el,s2 _ _ eco,_,rfl⟩ (λi σ H' _ h=>SqL.of h.2.1) (λi y σ H' e h=>?_) (λσ H' h=>?_)⟩
   ·obtain ⟨sm,el2,sJ,c3,rfl⟩:=h
    obtain ⟨r,j,rfl,ej,i2,e1,e2⟩:=az.get hxs e
    obtain ⟨r',j',er,ej',hT⟩:=az.get hB.tabs e1
    cases er
    rw [e2] at ej'
    cases ej'
    obtain ⟨tt,nm2,po,ou,dv,g1,g2,g3,g4,g5,g6⟩:=hT
    obtain ⟨rl,dx,na,dl,fs,xs2,ht,f1,f2,f3,f4,f5,f6,ena,edl,erl,hR,fA⟩:=g4
    have enm:nmT ts zs j=prm tt.cols zs:=by unfold nmT;rw [g1]
    have h4:=hB.nm4 j
    have hfl:=mR hB.nm4 ((odr (akT ts fN) k []).take i)
    rw [List.length_take] at hfl
    refine ⟨_,rfl,.inl ⟨rfl,_,SqL.of sJ⟩,_,rfl,r,_,_,_,_,rfl,sm _ _ ht,bl.k_Table,bl.na_Table_names,f5,co,na,_,_,rfl,rfl,sJ,sm _ _ ena,Nat.le_of_lt (aD (by rw [← enm,List.length_map,List.length_map];lia)),sm.upd nco,(av nlc).trans el2,?_,_,rfl⟩
    rw [af,take_snoc ej,pI,enm,List.map_append]
   ·obtain ⟨sm,el2,sJ,c3,rfl⟩:=h
    rw [hxs.1,List.take_length] at sJ
    exact ⟨sm,sJ,c3,rfl⟩
  rintro σ2 H2 ⟨s2,sJ,c3,rfl⟩
  obtain ⟨dx,fs,ta,fb,gv,hb,ft,eta,ff,efb,hgv⟩:=hB.bk
  have hgl:gv.length=fN:=by rw [hgv.1,List.length_range]
  refine ⟨_,rfl,b,_,_,_,_,rfl,s2 _ _ hb,bl.k_Book,bl.na_Book_facts,ff,fb,rfl,⟨_,SqL.of (s2 _ _ efb)⟩,dM (xs:=gv) (λD i ys H'=>aq H2 H'/\H' D=some (.lst ys)/\ys=((zs.take i).filter (fO ts zs fN k)).map V.str) (λD hD=>⟨ai hD _,af,rfl⟩) (λD i ys H' hD _ h=>SqL.of ((s2.trans h.1) _ _ efb)) (λD i y ys H' hD e h ts_ hts=>?_) (λD ys H' hD h=>?_)⟩
  ·obtain ⟨sm,eD,rfl⟩:=h
   obtain ⟨r,j,rfl,ej,z,d,ez,_,er⟩:=az.get hgv e
   obtain ⟨rfl,hi⟩:=pF ej
   obtain ⟨t0,t1,rfl⟩:∃ t0 t1,ts_=[t0,t1]:=by
    match ts_,hts with
    | [t0,t1],_=>exact ⟨t0,t1,rfl⟩
   refine ⟨r,_,rfl,SqT.of ((s2.trans sm) _ _ er),rfl,_,_,rfl,_,_,rfl,rfl,⟨[some (.str z),some (.ref d)],rfl,rfl⟩,?_⟩
   refine ⟨_,rfl,_,rfl,co,_,rfl,.inl (SqL.of (sm _ _ sJ)),rfl,dn _,_,rfl,?_⟩
   rw [if_neg Bool.false_ne_true,gW,uJ]
   have hf:=List.length_filter_le (fO ts zs fN k) (zs.take j)
   rw [List.length_take] at hf
   cases hc:fO ts zs fN k z with
   | true =>
    refine dJ ⟨_,rfl,bQ.mk (by lia) eD (aD (by rw [List.length_map];lia)) ⟨sm.upd hD,af,?_⟩⟩
    rw [take_snoc ez,List.filter_append,List.filter_cons_of_pos hc,List.filter_nil,List.map_append]
    rfl
   | false =>
    refine b8 (d6.mk (zs:=((zs.take j).filter (fO ts zs fN k)).map V.str) (by lia) ⟨sm,eD,?_⟩)
    rw [take_snoc ez,List.filter_append,List.filter_cons_of_neg (by rw [hc];exact Bool.false_ne_true),List.filter_nil,List.append_nil]
  ·obtain ⟨sm,eD,rfl⟩:=h
   rw [hgl] at eD
   exact q D H' (s2.trans sm) (s2.free hD) eD
 ·refine ⟨λ_ _=>False,⟨_,rfl,_,rfl,b,nm,zs,ds,ts,fN,mv,L,k,rfl,hB.same s1,cy,hs,hsz,iO,.inr ⟨hno,λH' s'=>qE H' (s1.trans s')⟩⟩,?_⟩
  rintro σ2 H2 h
  exact h.elim
theorem EZ (F:Fun K "fact_codes" "fact_codes" Y41 f fd) (bl:Bl K mg yA yE yN yO yP yQ yR yS yT yU yV yW yX ae yY yZ) (xU:CalleeX P w K mg base 18 "needs" ["book", "name"] (mX K yA yE yN yO yP yQ yR yS yT yU yV yW yX ae yY yZ)) (gI:MCallee CX0 P w K mg base 18 yV "code" ["self", "value"] (cC K yA yE yN yO yP yQ yR yS yT yU yV yW yX ae yY yZ)) (iP:MCallee CX0 P w K mg base 18 yW "code" ["self", "value"] (cQ K yA yE yN yO yP yQ yR yS yT yU yV yW yX ae yY yZ)):aQ P w K mg base CX0 19 f fd ["book", "name", "facts"] (fz K yA yE yN yO yP yQ yR yS yT yU yV yW yX ae yY yZ):=by
 refine F.ok Z41 (λvs H Q E h=>?_) (λcdv A outer s H vs Q E hr h=>?_)
 ·obtain ⟨b,fd,nm,zs,ds,ts,fN,mv,L,k,fk,cd,rfl,hB,cy,hs,hsz,iO,hk,hnm,hfd,hFa,q⟩:=h
  rfl
 obtain ⟨b,fd,nm,zs,ds,ts,fN,mv,L,k,fk,cd,rfl,hB,cy,hs,hsz,iO,hk,hnm,hfd,hFa,q⟩:=h
 refine ⟨_,(aw (aL (i:=3) Z41.nd rfl (Or.inl rfl) (bD (jc rfl) rfl bl.dict_ PyProof.Rows.boot_dict (aa (aY (pv 0) rfl) ag)))
  (aw (aL (i:=4) Z41.nd rfl (Or.inl rfl) pk)
  (aw (bb PassesOwn.never rfl (aP (fi xU tH hr rfl (aa (pv 0) (aa (pv 1) ag)))) (aF (i:=5) Z41.nd rfl (Or.inl rfl))
  (aC (aR (aJ (uB hr) (pv 5) (pv 2) (by with_unfolding_all rfl))
  (ah ba)
  aI)
  (ah (lF hr (pv 4) (pv 5) (rX (nN gI bl.k_Numbers (nN iP bl.k_Words zI)) bL hr (aE fJ (pv 3) (pv 5) (λ_ _=>rfl)) (aa (aE fJ (pv 2) (pv 5) (λ_ _=>rfl)) ag)) rfl))))
  (ah (aH (pv 4)))))),?_⟩
 have h7:=hB.ok.n7
 have hl1:=hB.ok.len
 have hl2:=hB.ok.tab
 obtain ⟨dx,fs,ta,fb,gv,hb,ft,eta,ff,efb,hgv⟩:=id hB.bk
 have hgl:gv.length=fN:=by rw [hgv.1,List.length_range]
 obtain ⟨ks,hkl,hks⟩:=lE (P:=λj (a:Str × V)=>∃ (t d:Addr),gv[j]?=some (.ref t)/\H t=some (.tup [.str a.1,.ref d])/\a.2=.ref d/\zs[j]?=some a.1/\DmP yV yW H ds j d) fN λj hj=>by
  obtain ⟨r,er,nm,d,h1,h2,h3⟩:=hgv.2 j j (List.getElem?_range hj)
  exact ⟨(nm,.ref d),r,d,er,h3,rfl,h1,h2⟩
 have mE:ks.map (·.1)=zs.take fN:=by
  refine List.ext_getElem? λj=>?_
  rw [List.getElem?_map,List.getElem?_take]
  cases e:ks[j]? with
  | none =>
   have:ks.length<=j:=List.getElem?_eq_none_iff.mp e
   rw [if_neg (by lia)]
   rfl
  | some a =>
   obtain ⟨t,d,_,_,_,h4,_⟩:=hks j a e
   have:j < ks.length:=(G7.mp e).1
   rw [if_pos (by lia),h4]
   rfl
 have hkn:(ks.map (·.1)).Nodup:=by rw [mE];exact hB.ok.nd.sublist (List.take_sublist _ _)
 refine ⟨λσ' H'=>aq H H'/\∃ da:Addr,H' da=some (.dK (kvT ks))/\σ'=[some (.ref b),some (.str nm),some (.ref fd),some (.ref da),none,none],?_,?_⟩
 ·refine ⟨_,rfl,b,_,_,_,_,rfl,hb,bl.k_Book,bl.na_Book_facts,ff,fb,gv,ks,rfl,efb,by lia,λj p_ ep=>?_,hkn,λd hd=>⟨ai hd _,d,af,rfl⟩⟩
  obtain ⟨t,d,h1,h2,h3,_⟩:=hks j p_ ep
  exact ⟨t,h1,by rw [h3];exact h2⟩
 rintro σ1 H1 ⟨s1,da,eda,rfl⟩
 refine ⟨λσ' H'=>aq H1 H'/\∃ ca:Addr,H1 ca=none/\H' ca=some (.dK (kvT []))/\σ'=[some (.ref b),some (.str nm),some (.ref fd),some (.ref da),some (.ref ca),none],λc hc=>⟨ai hc _,c,hc,af,rfl⟩,?_⟩
 rintro σ2 H2 ⟨s2,ca,nca,eca,rfl⟩
 have s12:=s1.trans s2
 generalize hnl:(zs.take fN).filter (fO ts zs fN k)=nl at q
 have hnn:nl.Nodup:=by rw [← hnl];exact (hB.ok.nd.sublist (List.take_sublist _ _)).sublist List.filter_sublist
 have hn7:nl.length<=7:=by
  have:=List.length_filter_le (fO ts zs fN k) (zs.take fN)
  rw [hnl,List.length_take] at this
  lia
 refine ⟨λσ' H'=>aq H1 H'/\∃ kvs:List (Str × V),H' ca=some (.dK (kvT kvs))/\kvs.map (·.1)=nl/\FCd zs fN cd kvs/\∃ c5:Option V,σ'=[some (.ref b),some (.str nm),some (.ref fd),some (.ref da),some (.ref ca),c5],?_,?_⟩
 ·refine ⟨_,rfl,_,rfl,b,nm,zs,ds,ts,fN,mv,L,k,rfl,hB.same s12,cy,hs,hsz,iO,.inl ⟨hk,hnm,λl H3 s3 nl_ el=>?_⟩⟩
  rw [hnl] at el
  have nlc:l ≠ ca:=λz=>by rw [z,eca] at nl_;cases nl_
  refine ⟨l,rfl,⟨_,SqL.of el⟩,bf (xs:=nl.map V.str) (λi σ H'=>aq H1 H'/\H' l=some (.lst (nl.map V.str))/\∃ kvs:List (Str × V),H' ca=some (.dK (kvT kvs))/\kvs.map (·.1)=nl.take i/\FCd zs fN cd kvs/\∃ c5:Option V,σ=[some (.ref b),some (.str nm),some (.ref fd),some (.ref da),some (.ref ca),c5]) ⟨s2.trans s3,el,[],s3 _ _ eca,rfl,(λp hp=>by cases hp),_,rfl⟩ (λi σ H' _ h=>SqL.of h.2.1) (λi y σ H' e h=>?_) (λσ H' h=>?_)⟩
  ·obtain ⟨sm,el2,kvs,ek,hkk,hF,c5,rfl⟩:=h
   obtain ⟨z,rfl,ez⟩:=cO e
   have hi:i < nl.length:=(G7.mp ez).1
   have hz:z ∈ zs.take fN:=by
    have:=G8 ez
    rw [← hnl] at this
    exact (List.mem_filter.mp this).1
   obtain ⟨f,ef⟩:=List.getElem?_of_mem hz
   have hf:f < fN:=by
    have:=(G7.mp ef).1
    rw [List.length_take] at this
    lia
   rw [List.getElem?_take,if_pos hf] at ef
   have epo:=G6 (l:=ds) (i:=f) (by lia)
   generalize ds[f]=po at epo
   obtain ⟨hv,hlo,hhi⟩:=hFa f z po hf ef epo
   have sA:=s1.trans sm
   have Av:=sA _ _ hfd
   have Cw:=sm _ _ eda
   have ekf:=G6 (l:=ks) (i:=f) (by lia)
   generalize ks[f]=pf at ekf
   obtain ⟨t,d,_,_,hp2,hp1,po',Cy,hD⟩:=hks f pf ekf
   rw [epo] at Cy
   cases Cy
   rw [ef] at hp1
   have hp1:z=pf.1:=Option.some.inj hp1
   have yI:dD (kvT ks) (Sum.inr z)=some (.ref d):=by
    rw [mG]
    refine pG hkn (j:=f) ?_
    rw [ekf,hp1,← hp2]
   have qT:z ∉ kvs.map (·.1):=λhm=>by
    rw [hkk] at hm
    obtain ⟨j,ej⟩:=List.getElem?_of_mem hm
    have hj:j < i:=by
     have:=(G7.mp ej).1
     rw [List.length_take] at this
     lia
    rw [List.getElem?_take,if_pos hj] at ej
    have:=d7 hnn ej ez
    lia
   have Cu:kvs.length<=7:=by
    have h1:=congrArg List.length hkk
    rw [List.length_map,List.length_take] at h1
    lia
   have fin:∀ v:V,v=.int (cd.getD f 0)->aq H1 (upd H' ca (.dK (putK (kvT kvs) (Sum.inr z) v)))/\upd H' ca (.dK (putK (kvT kvs) (Sum.inr z) v)) l=some (.lst (nl.map V.str))/\∃ kvs:List (Str × V),upd H' ca (.dK (putK (kvT (kvs:List (Str × V))) (Sum.inr z) v)) ca=some (.dK (kvT (kvs ++ [(z,v)]))):=λv hv=>⟨sm.upd nca,(av nlc).trans el2,kvs,by rw [af,ub qT]⟩
   refine ⟨_,rfl,_,rfl,fd,fk,z,rfl,rfl,Av,_,rfl,?_⟩
   rw [hv]
   refine b8 ?_
   have hsm:(kvT kvs).length < sizeLine:=by unfold kvT;rw [List.length_map];exact Nat.lt_of_le_of_lt Cu (by decide)
   have done:∀ v:V,v=.int (cd.getD f 0)->(aq H1 (upd H' ca (.dK (putK (kvT kvs) (Sum.inr z) v)))/\upd H' ca (.dK (putK (kvT kvs) (Sum.inr z) v)) l=some (.lst (nl.map V.str))/\∃ sL : List (Str × V),upd H' ca (.dK (putK (kvT kvs) (Sum.inr z) v)) ca=some (.dK (kvT sL))/\sL.map (·.1)=nl.take (i+1)/\FCd zs fN cd sL):=λv hv=>by
    subst hv
    refine ⟨sm.upd nca,(av nlc).trans el2,kvs ++ [(z,.int (cd.getD f 0))],by rw [af,ub qT],?_,hF.snoc hf ef⟩
    rw [List.map_append,hkk,take_snoc ez]
    rfl
   unfold PD.k iI at hD
   unfold wvP at hv
   by_cases hw:po.ws=[]
   ·rw [if_pos hw] at hv
    rw [if_pos hw] at hD
    obtain ⟨dx2,hd2⟩:=hD
    have hd3:=sA _ _ hd2
    obtain ⟨d1,d2,sL,d3,d4,d5⟩:=done _ rfl
    exact ⟨_,rfl,_,rfl,da,kvT ks,z,_,rfl,rfl,Cw,yI,d,_,dx2,_,rfl,.head _,hd3,rfl,_,rfl,_,rfl,fd,fk,z,_,rfl,rfl,Av,hv,d,po.lo,po.hi,_,rfl,⟨dx2,hd3⟩,hlo,hhi,_,rfl,_,rfl,ca,kvT kvs,z,rfl,rfl,ek,hsm,d1,d2,sL,d3,d4,d5,_,rfl⟩
   ·rw [if_neg hw] at hv
    rw [if_neg hw] at hD
    obtain ⟨⟨dx2,l2,hd2,E3⟩,h0,h1,hg⟩:=hD
    have h0:po.lo=0:=h0
    have h1:po.hi=hiW po.ws:=h1
    unfold hiW at h1
    have hd3:=sA _ _ hd2
    have hl3:=sA _ _ E3
    have zE:0 < po.ws.length:=List.length_pos_iff.mpr hw
    have hcn:((cd.getD f 0).toNat:Int)=cd.getD f 0:=Int.toNat_of_nonneg (by lia)
    have ix:=G6 (l:=po.ws) (i:=(cd.getD f 0).toNat) (by lia)
    rw [List.getD_eq_getElem?_getD,ix] at hv
    obtain ⟨d1,d2,sL,d3,d4,d5⟩:=done (.int (((cd.getD f 0).toNat:Nat):Int)) (by rw [hcn])
    exact ⟨_,rfl,_,rfl,da,kvT ks,z,_,rfl,rfl,Cw,yI,d,_,dx2,_,rfl,.tail _ (.head _),hd3,rfl,_,rfl,_,rfl,fd,fk,z,_,rfl,rfl,Av,hv,d,po.ws,_,(cd.getD f 0).toNat,rfl,⟨dx2,l2,hd3,hl3⟩,hg.once,ix,_,rfl,_,rfl,ca,kvT kvs,z,rfl,rfl,ek,hsm,d1,d2,sL,d3,d4,d5,_,rfl⟩
  ·obtain ⟨sm,el2,kvs,ek,hkk,hF,c5,rfl⟩:=h
   rw [List.length_map,List.take_length] at hkk
   exact ⟨sm,kvs,ek,hkk,hF,c5,rfl⟩
 rintro σ3 H3 ⟨s3,kvs,ek,hkk,hF,c5,rfl⟩
 exact ⟨_,rfl,q ca kvs H3 (s1.trans s3) (s1.free nca) ek hkk hF⟩
theorem E4 (F:Fun K "trail" "trail" Y82 f fd) (bl:Bl K mg yA yE yN yO yP yQ yR yS yT yU yV yW yX ae yY yZ) (pP:Callee P w K mg base 19 "fact_codes" ["book", "name", "facts"] (fz K yA yE yN yO yP yQ yR yS yT yU yV yW yX ae yY yZ)) (xV:Callee P w K mg base 19 "steps" ["tables", "codes"] (mW K yA yE yN yO yP yQ yR yS yT yU yV yW yX ae yY yZ)) (gu:CalleeX P w K mg base 19 "tables_for" ["book", "name"] (dQ K yA yE yN yO yP yQ yR yS yT yU yV yW yX ae yY yZ)):aQ P w K mg base CX0 20 f fd ["book", "name", "facts"] (mY K yA yE yN yO yP yQ yR yS yT yU yV yW yX ae yY yZ):=by
 refine F.ok Z82 (λvs H Q E h=>?_) (λcdv A outer s H vs Q E hr h=>?_)
 ·obtain ⟨b,fd,nm,zs,ds,ts,fN,mv,L,k,fk,cd,rfl,hB,cy,hs,hsz,iO,hk,hnm,hfd,hFa,q⟩:=h
  rfl
 obtain ⟨b,fd,nm,zs,ds,ts,fN,mv,L,k,fk,cd,rfl,hB,cy,hs,hsz,iO,hk,hnm,hfd,hFa,q⟩:=h
 refine ⟨_,(aw (aL (i:=3) Z82.nd rfl (Or.inl rfl) (aW pP hr rfl (aa (pv 0) (aa (pv 1) (aa (pv 2) ag)))))
  (ah (aH (aW xV hr rfl (aa (fi gu tH hr rfl (aa (pv 0) (aa (pv 1) ag))) (aa (pv 3) ag)))))),?_⟩
 have h7:=hB.ok.n7
 have hl1:=hB.ok.len
 have hl2:=hB.ok.tab
 have hak:=mO hB.ok
 refine ⟨λσ' H'=>aq H H'/\∃ (d:Addr) (kvs:List (Str × V)),H d=none/\H' d=some (.dK (kvT kvs))/\kvs.map (·.1)=(zs.take fN).filter (fO ts zs fN k)/\FCd zs fN cd kvs/\σ'=[some (.ref b),some (.str nm),some (.ref fd),some (.ref d)],⟨_,rfl,_,rfl,_,rfl,b,fd,nm,zs,ds,ts,fN,mv,L,k,fk,cd,rfl,hB,cy,hs,hsz,iO,hk,hnm,hfd,hFa,λd kvs H' s nd ed hkk hF=>⟨s,d,kvs,nd,ed,hkk,hF,rfl⟩⟩,?_⟩
 rintro σ1 H1 ⟨s1,d,kvs,nd,ed,hkk,hF,rfl⟩
 refine ⟨_,rfl,_,rfl,b,nm,zs,ds,ts,fN,mv,L,k,rfl,hB.same s1,cy,hs,hsz,iO,.inl ⟨hk,hnm,λl xs H2 s2 nl el hxs=>?_⟩⟩
 have sH:aq H (hide H2 d):=oQ (s1.trans s2) nd
 have hnn:(kvs.map (·.1)).Nodup:=by rw [hkk];exact (hB.ok.nd.sublist (List.take_sublist _ _)).sublist List.filter_sublist
 have hk7:kvs.length<=7:=by
  have h1:=congrArg List.length hkk
  have h2:=List.length_filter_le (fO ts zs fN k) (zs.take fN)
  rw [List.length_take] at h2
  rw [List.length_map] at h1
  lia
 refine ⟨_,rfl,l,d,xs,zs,ds,ts,fN,cd,odr (akT ts fN) k [],kvs,rfl,s2 _ _ ed,cX el (λz=>by rw [z,ed] at nl;cases nl),az.mono hxs (λr j ⟨i,e1,e2⟩=>?_),hB.ok,Tld.odr hak Tld.nil hk,(tZ hak k [] ua).1,hk7,hnn,hF,λj hj t et c hc hcf z ez=>?_,λl' xs' H3 s3 el' hx=>q l' xs' H3 (sH.trans s3) el' hx⟩
 ·obtain ⟨r',j',er,ej,hT⟩:=az.get hB.tabs e1
  cases er
  rw [e2] at ej
  cases ej
  exact hT.same sH
 ·rw [hkk]
  refine List.mem_filter.mpr ⟨G8 (i:=c) (by rw [List.getElem?_take,if_pos hcf];exact ez),?_⟩
  unfold fO
  rw [List.any_eq_true]
  refine ⟨j,hj,?_⟩
  unfold nmT
  rw [et]
  have tok:=(hB.ok.tabs j t et).ok
  obtain ⟨m,em⟩:=List.getElem?_of_mem hc
  have hlt:∀ k ∈ t.cols,k < zs.length:=λk hk=>by
   have:=tok.lt k hk
   have:=(G7.mp et).1
   lia
  have:=(cM hlt).2 m c em
  rw [ez] at this
  simpa using G8 this
theorem E5 (F:Fun K "law" "law" Y48 f fd) (bl:Bl K mg yA yE yN yO yP yQ yR yS yT yU yV yW yX ae yY yZ) (rh:Callee P w K mg base 20 "_law_book" ["script"] (hU K yA yE yN yO yP yQ yR yS yT yU yV yW yX ae yY yZ)) (k_Book:MkCallee CX0 P w K mg base 19 "Book" ae ["self", "facts", "tables"] (bT K yA yE yN yO yP yQ yR yS yT yU yV yW yX ae yY yZ)) (pQ:Callee P w K mg base 20 "_law_table" ["plan", "k"] (gm K yA yE yN yO yP yQ yR yS yT yU yV yW yX ae yY yZ)) (pR:Callee P w K mg base 20 "_law_facts" ["plan"] (gj K yA yE yN yO yP yQ yR yS yT yU yV yW yX ae yY yZ)) (pS:Callee P w K mg base 20 "_law_point" ["plan", "cell"] (gh K yA yE yN yO yP yQ yR yS yT yU yV yW yX ae yY yZ)) (pT:Callee P w K mg base 20 "_law_worth" ["domain", "code"] (gi K yA yE yN yO yP yQ yR yS yT yU yV yW yX ae yY yZ)) (xW:Callee P w K mg base 20 "trail" ["book", "name", "facts"] (mY K yA yE yN yO yP yQ yR yS yT yU yV yW yX ae yY yZ)) (dq:Callee P w K mg base 20 "_law_at" ["script", "k"] (iF K yA yE yN yO yP yQ yR yS yT yU yV yW yX ae yY yZ)) (ju:CalleeX P w K mg base 20 "order_of" ["book", "name"] (eY K yA yE yN yO yP yQ yR yS yT yU yV yW yX ae yY yZ)) (rj:Callee P w K mg base 20 "_law_step" ["plan", "k", "part", "verdicts", "codes"] (gZ K yA yE yN yO yP yQ yR yS yT yU yV yW yX ae yY yZ)):aQ P w K mg base CX0 21 f fd ["script"] (J18 K):=by
 refine F.ok Z48 (λvs H Q E h=>?_) (λcdv A outer s H vs Q E hr h=>?_)
 ·obtain ⟨a,ns,rfl,hS,h63,q⟩:=h
  rfl
 obtain ⟨a,ns,rfl,hS,h63,q⟩:=h
 refine ⟨_,(aw (aL (i:=1) Z48.nd rfl (Or.inr rfl) (aW rh hr rfl (aa (pv 0) ag)))
  (aw (i5 (pv 1) (dr rfl (aN (aF (i:=2) Z48.nd rfl (Or.inl rfl)) (aN (aF (i:=3) Z48.nd rfl (Or.inl rfl)) (aN (aF (i:=4) Z48.nd rfl (Or.inl rfl)) bO)))))
  (aw (aL (i:=5) Z48.nd rfl (Or.inl rfl) (aG cH (au ar rfl bl.len_ PySem.boot_len (aa (pv 2) ag)) (au ar rfl bl.len_ PySem.boot_len (aa (pv 4) ag))))
  (aw (d9 (i:=6) Z48.nd rfl (Or.inl rfl) (bh rfl bl.range_ (aa (au ar rfl bl.len_ PySem.boot_len (aa (pv 4) ag)) ag)) (aX (N:=["k", "plan"]) (fr:=[1]) (cl:=[("plan",s.heap.objs.size+1)]) rfl rfl (by decide +kernel) (by decide +kernel) rfl (by decide +kernel) rfl rfl rfl (List.forall_mem_cons.mpr ⟨rfl,List.forall_mem_nil _⟩) rfl) rfl (λ_ _ _ _=>aU) (λ_ _ _ _=>(aW pQ hr rfl (aa (pv 1) (aa (pv 0) ag)))))
  (aw (aR (aJ bX (aG bj (aG bA (aW dq hr rfl (aa (pv 0) (aa aj ag))) aj) aj) aj (aO _))
  (ah (aV (zu PySem.F.plainAttrs_list PySem.F.slot_list_reverse PySem.F.type_list_reverse rU (pv 6))))
  aI)
  (aw (aL (i:=7) Z48.nd rfl (Or.inl rfl) (tI k_Book bL hr rfl (aa (aW pR hr rfl (aa (pv 1) ag)) (aa (pv 6) ag))))
  (aC (bb PassesOwn.never rfl (aP (aG mi (u4 xl (pv 0) (tw aj) (tw aj)) (bK (aa aj ag)))) (aF (i:=8) Z48.nd rfl (Or.inl rfl))
  (aw (aL (i:=9) Z48.nd rfl (Or.inl rfl) (aW pS hr rfl (aa (pv 1) (aa (pv 8) ag))))
  (aw (aL (i:=10) Z48.nd rfl (Or.inl rfl) pk)
  (aw (bb PassesOwn.never rfl (bh rfl bl.range_ (aa (pv 5) ag)) (aF (i:=11) Z48.nd rfl (Or.inl rfl))
  (ah (lF hr (pv 10) (aE aK (pv 2) (pv 11) (λ_ _=>rfl)) (aW pT hr rfl (aa (aE aK (pv 3) (pv 11) (λ_ _=>rfl)) (aa (aE aK (pv 9) (pv 11) (λ_ _=>rfl)) ag))) rfl)))
  (ah (bb PassesOwn.never rfl (kB rfl bl.range_ (aa (pv 5) (aa (au ar rfl bl.len_ PySem.boot_len (aa (pv 2) ag)) ag))) (aF (i:=12) Z48.nd rfl (Or.inl rfl))
  (aw (aL (i:=13) Z48.nd rfl (Or.inl rfl) (aW xW hr rfl (aa (pv 7) (aa (aE aK (pv 2) (pv 12) (λ_ _=>rfl)) (aa (bD si rfl bl.dict_ PyProof.Rows.boot_dict (aa (pv 10) ag)) ag)))))
  (aw (aR (PW.pt (nX (cw (cG (au cU rfl bl.isinstance_ PyProof.Rows.boot_isinstance (aa (pv 13) (aa (lB (v:=.ty "list") rfl bl.list_ PyProof.Rows.boot_list rfl) ag))))) (l5 (aJ (zA hr) (bt (aP (pv 13)) (bg rfl (by decide +kernel) (by decide +kernel) (by decide +kernel) rfl) rfl (λ_ _ _ _=>aU) (λ_ _ _ _=>(aE (dh (K:=K) rfl) (pv 0) aj (λ_ _=>rfl)))) (fi ju tH hr rfl (aa (pv 7) (aa (aE aK (pv 2) (pv 12) (λ_ _=>rfl)) ag))) (aO _)))))
  (ah (aH fE))
  aI)
  (aw (aL (i:=14) Z48.nd rfl (Or.inl rfl) pk)
  (ah (bb PassesOwn.never rfl (aP (pv 13)) (aF (i:=15) Z48.nd rfl (Or.inl rfl))
  (aC (aR (cw (cG (aW rj hr rfl (aa (pv 1) (aa (dR PySem.F.plainAttrs_list PySem.F.slot_list_index PySem.F.type_list_index qQ (pv 2) (aa (aE aS (pv 15) aj (λ_ _=>rfl)) ag)) (aa (pv 15) (aa (pv 14) (aa (pv 9) ag))))))))
  (ah (aH fE))
  aI)
  (ah (lF hr (pv 14) (aE aS (pv 15) aj (λ_ _=>rfl)) (aE aS (pv 15) aj (λ_ _=>rfl)) rfl))))))))))))))
  (ah (aH fE))))))))),?_⟩
 refine ⟨λσ' H'=>aq H H'/\∃ (r:Addr) (zs:List Str) (ds:List PD) (ts:List PT) (fN:Nat),PlA H' r zs ds ts/\gc zs ds ts fN/\(∀ t ∈ ts,t.rows.length<=32)/\ts.length<=4/\1<=fN/\(∀ z ∈ zs,SmB z)/\σ'=[some (.ref a),some (.ref r),none,none,none,none,none,none,none,none,none,none,none,none,none,none],⟨_,rfl,a,ns,rfl,hS,h63,λr zs ds ts fN H' s h1 h2 h3 h4 h5 h6 _ h7=>⟨s,r,zs,ds,ts,fN,h1,h2,h4,h5,h6,h7,rfl⟩⟩,?_⟩
 rintro σ1 H1 ⟨s1,r,zs,ds,ts,fN,hPl,ok,h32,ht4,hf1,hsm,rfl⟩
 obtain ⟨nl,dl,tl_,dv,tv,er,enl,edl,hdv,etl,htv⟩:=id hPl
 have htl:tv.length=ts.length:=htv.1
 have hzl:(zs.map V.str).length=zs.length:=List.length_map _
 have h7:=ok.n7
 have hl1:=ok.len
 have hl2:=ok.tab
 have hak:=mO ok
 have hS1:=s1.seq hS
 have xP:∀ (k:Nat) (t:PT),ts[k]?=some t->∀ c ∈ t.cols,c < fN+k:=λk t et c hc=>(ok.tabs k t et).ok.lt c hc
 refine ⟨λσ' H'=>H'=H1/\σ'=[some (.ref a),some (.ref r),some (.ref nl),some (.ref dl),some (.ref tl_),none,none,none,none,none,none,none,none,none,none,none],⟨_,rfl,r,_,rfl,SqT.of er,rfl,_,_,rfl,_,_,rfl,_,_,rfl,rfl,rfl,rfl⟩,?_⟩
 rintro σ2 H2 ⟨e2_,rfl⟩
 subst e2_
 refine ⟨λσ' H'=>H'=H2/\σ'=[some (.ref a),some (.ref r),some (.ref nl),some (.ref dl),some (.ref tl_),some (.int (fN:Int)),none,none,none,none,none,none,none,none,none,none],⟨_,rfl,nl,_,rfl,.inl (SqL.of enl),_,rfl,tl_,_,rfl,.inl (SqL.of etl),_,_,rfl,rfl,rfl,?_⟩,?_⟩
 ·rw [show (fN:Int)=(((zs.map V.str).length:Nat):Int) - ((tv.length:Nat):Int) by lia]
  rfl
 rintro σ3 H3 ⟨e3_,rfl⟩
 subst e3_
 refine ⟨λσ' H'=>aq H3 H'/\∃ (ma:Addr) (mv:List V),H3 ma=none/\H' ma=some (.lst mv)/\az mv (List.range ts.length) (TbN (Fr H3 ma) yX yV yW H' zs ds ts fN)/\σ'=[some (.ref a),some (.ref r),some (.ref nl),some (.ref dl),some (.ref tl_),some (.int (fN:Int)),some (.ref ma),none,none,none,none,none,none,none,none,none],?_,?_⟩
 ·refine ⟨_,rfl,tl_,_,rfl,.inl (SqL.of etl),_,rfl,(by lia),(by lia),bE (λD i ys H'=>aq H3 H'/\H' D=some (.lst ys)/\az ys (List.range i) (TbN (Fr H3 D) yX yV yW H' zs ds ts fN)) (λD hD=>⟨ai hD _,af,az.nil⟩) (λD i ys H' hD hi h=>?_) (λD ys H' hD h=>?_)⟩
  ·obtain ⟨sm,eD,hy⟩:=h
   rw [Int.toNat_natCast] at hi
   have et:=G6 (l:=ts) (i:=i) (by lia)
   generalize ts[i]=t at et
   have enm:=G6 (l:=zs) (i:=fN+i) (by lia)
   have epo:=G6 (l:=ds) (i:=fN+i) (by lia)
   refine ⟨_,rfl,_,rfl,r,i,zs,ds,ts,fN,t,_,_,(by rw [show (0:Int)+(i:Int)=(i:Int) by lia]),hPl.same sm,ok,et,enm,epo,λx H4 s4 hx=>?_⟩
   have eD4:=s4 _ _ eD
   refine bQ.mk (by lia) eD4 (aD (by rw [hy.1,List.length_range];lia)) ⟨(sm.trans s4).upd hD,af,?_⟩
   rw [List.range_succ]
   exact az.mono (az.snoc (az.mono hy λ_ _ p=>p.same s4) (hx.wk λb h=>⟨sm.free h,λz=>by rw [z,eD] at h;cases h⟩)) λ_ _ p=>p.upd Fr.out eD4
  ·obtain ⟨sm,eD,hy⟩:=h
   rw [Int.toNat_natCast,htl] at hy
   exact ⟨sm,D,ys,hD,eD,hy,rfl⟩
 rintro σ4 H4 ⟨s4,ma,mv,nma,ema,hmv,rfl⟩
 refine ⟨λσ' H'=>aq H3 H'/\∃ (mv:List V) (L:List Nat),H' ma=some (.lst mv)/\(L=List.range ts.length\/L=(List.range ts.length).reverse)/\az mv L (TbA yX yV yW H' zs ds ts fN)/\σ'=[some (.ref a),some (.ref r),some (.ref nl),some (.ref dl),some (.ref tl_),some (.int (fN:Int)),some (.ref ma),none,none,none,none,none,none,none,none,none],?_,?_⟩
 ·refine ⟨_,rfl,a,ns,0,rfl,s4.seq hS1,Int.le_refl _,λc=>⟨_,_,rfl,rfl,⟨by decide,by decide⟩,_,_,rfl,rfl,(by show (0:Int) < 2;decide),rfl,_,rfl,dj (λg=>?_) (λg=>?_)⟩⟩
  ·exact ⟨_,rfl,.inl ⟨rfl,_,SqL.of ema⟩,ma,_,rfl,rfl,ema,s4.upd nma,_,_,af,.inr rfl,az.mono hmv.rev (λ_ _ p=>(p.upd Fr.out ema).tb),rfl⟩
  ·exact ⟨s4,_,_,ema,.inl rfl,az.mono hmv (λ_ _ p=>p.tb),rfl⟩
 rintro σ5 H5 ⟨s5,mw,Lk,E6,hLk,hmw,rfl⟩
 have hlen:Lk.length=ts.length:=by
  rcases hLk with rfl | rfl
  ·exact List.length_range
  ·rw [List.length_reverse];exact List.length_range
 have rf:∀ k,k ∈ Lk↔k < ts.length:=by
  rcases hLk with rfl | rfl
  ·exact λk=>List.mem_range
  ·exact λk=>by rw [List.mem_reverse];exact List.mem_range
 have hnd:Lk.Nodup:=by
  rcases hLk with rfl | rfl
  ·exact List.nodup_range
  ·exact List.pairwise_reverse.mpr (List.Pairwise.imp (λh z=>h z.symm) List.nodup_range)
 have cy:∀ k,k < ts.length->k ∈ Lk:=λk hk=>(rf k).mpr hk
 refine ⟨λσ' H'=>aq H5 H'/\∃ bo:Addr,BkT yX yV yW ae H' bo zs ds ts fN mw Lk/\σ'=[some (.ref a),some (.ref r),some (.ref nl),some (.ref dl),some (.ref tl_),some (.int (fN:Int)),some (.ref ma),some (.ref bo),none,none,none,none,none,none,none,none],?_,?_⟩
 ·refine ⟨_,rfl,r,zs,ds,ts,fN,rfl,hPl.same s5,ok,λfa fv H6 s6 efa hfv=>⟨_,rfl,λx dx hx hdx hne=>?_⟩⟩
  have s8:aq H6 (upd (upd H6 dx (.own x)) x (.ins ae dx [])):=(ai hdx _).upd hx
  have s68:=s6.trans s8
  have hfP:az fv (List.range fN) (FcT (DmP yV yW H6 ds) H6 zs):=az.mono hfv λ_ _ p=>let ⟨nm,po,d,h1,h2,h3,h4⟩:=p;⟨nm,d,h1,⟨po,h2,h4⟩,h3⟩
  refine ⟨x,dx,fa,ma,fv,mw,zs,ds,ts,fN,Lk,DmP yV yW H6 ds,rfl,af,s8 _ _ efa,s68 _ _ E6,⟨ok,az.mono hfv (λ_ _ p=>p.same s8),az.mono hmw (λ_ _ p=>p.same s68),(λk hk=>(rf k).mp hk),hnd,hlen,(λk hk=>(rf k).mpr hk)⟩,az.mono hfP (λ_ _ p=>p.tups s8.tups),λH7 fs ta fb gv k1 k2 k3 k4 k5 k6 k7=>⟨rfl,?_⟩⟩
  have s9:aq H6 H7:=λb u e=>k1 b u (bB e hx) (s8 _ _ e)
  exact ⟨s6.trans s9,x,⟨⟨dx,fs,ta,fb,gv,k2,k3,k4,k5,k6,az.mono k7 λ_ _ p=>p.mono λ_ _ ⟨po,h1,h2⟩=>⟨po,h1,h2.same s9⟩⟩,ok,az.mono hmw (λ_ _ p=>p.same (s6.trans s9)),(λk hk=>(rf k).mp hk),by rw [hlen];lia⟩,rfl⟩
 rintro σ6 H6 ⟨s56,bo,hB,rfl⟩
 have s36:=s5.trans s56
 have uM:=s36 _ _ enl
 have E7:=s36 _ _ edl
 have Cz:=hPl.same s36
 have E8:az dv ds (PDA NT H6):=az.mono hdv λ_ _ p=>p.same s36
 refine ⟨_,rfl,_,rfl,_,rfl,a,_,rfl,s36.seq hS1,λp1 hp1=>⟨(by show 1<=sizeLine;decide),λp2 hp2=>?_⟩⟩
 have u1:=ai hp1 (.lst (lr (ns.map V.int) (some 2) (some 14)))
 have ep1:upd H6 p1 (.lst (lr (ns.map V.int) (some 2) (some 14))) p1=some (.lst (lr (ns.map V.int) (some 2) (some 14))):=af
 have hcl:(lr (ns.map V.int) (some 2) (some 14)).length<=63:=Nat.le_trans (lh _ _ _) (by rw [List.length_map];exact h63)
 have hci:∀ x ∈ lr (ns.map V.int) (some 2) (some 14) ++ [V.int 0],∃ i:Int,x=.int i:=λx hx=>by
  rcases List.mem_append.mp hx with hx | hx
  ·obtain ⟨i,_,rfl⟩:=List.mem_map.mp (vZ hx)
   exact ⟨i,rfl⟩
  ·exact ⟨0,List.mem_singleton.mp hx⟩
 generalize lr (ns.map V.int) (some 2) (some 14)=cv at u1 ep1 hcl hci hp2 ⊢
 generalize upd H6 p1 (.lst cv)=H7 at u1 ep1 hp2 ⊢
 have u2:=ai hp2 (.lst [V.int 0])
 have ep2:upd H7 p2 (.lst [V.int 0]) p2=some (.lst [V.int 0]):=af
 generalize upd H7 p2 (.lst [V.int 0])=H8 at u2 ep2 ⊢
 refine ⟨p1,p2,_,_,rfl,rfl,u2 _ _ ep1,ep2,(by show cv.length+1<=sizeLine;exact Nat.le_trans (show cv.length+1<=64 by lia) (by decide)),λp3 hp3=>?_⟩
 have u3:=ai hp3 (.lst (cv ++ [V.int 0]))
 have ep3:upd H8 p3 (.lst (cv ++ [V.int 0])) p3=some (.lst (cv ++ [V.int 0])):=af
 generalize upd H8 p3 (.lst (cv ++ [V.int 0]))=H9 at u3 ep3 ⊢
 have u69:=(u1.trans u2).trans u3
 refine ⟨p3,rfl,⟨_,SqL.of ep3⟩,bf (xs:=cv ++ [V.int 0]) (λi σ H'=>aq H9 H'/\∃ c8 c9 c10 c11 c12 c13 c14 c15:Option V,σ=[some (.ref a),some (.ref r),some (.ref nl),some (.ref dl),some (.ref tl_),some (.int (fN:Int)),some (.ref ma),some (.ref bo),c8,c9,c10,c11,c12,c13,c14,c15]) ⟨aq.refl _,_,_,_,_,_,_,_,_,rfl⟩ (λi σ H' _ h=>SqL.of (h.1 _ _ ep3)) (λi y σ H' e h=>?_) (λσ H' h=>?_)⟩
 ·obtain ⟨sm9,c8,c9,c10,c11,c12,c13,c14,c15,rfl⟩:=h
  obtain ⟨cell,rfl⟩:=hci y (G8 e)
  have sm:=u69.trans sm9
  refine ⟨λσ' H''=>aq H' H''/\∃ (ca:Addr) (cd:List Int),H'' ca=some (.lst (cd.map V.int))/\cd.length=fN/\(∀ (f:Nat) (p:PD),f < fN->ds[f]?=some p->p.lo<=cd.getD f 0/\cd.getD f 0<=p.hi)/\σ'=[some (.ref a),some (.ref r),some (.ref nl),some (.ref dl),some (.ref tl_),some (.int (fN:Int)),some (.ref ma),some (.ref bo),some (.int cell),some (.ref ca),c10,c11,c12,c13,c14,c15],⟨_,rfl,_,rfl,r,cell,zs,ds,ts,fN,rfl,Cz.same sm,ok,h32,ht4,λl cd H'' s nl' el hcl hcb=>⟨s,l,cd,el,hcl,hcb,rfl⟩⟩,?_⟩
  rintro σa Ha ⟨sa,ca,cd,eca,hcd,hcb,rfl⟩
  have s6a:=sm.trans sa
  refine ⟨λσ' H''=>aq Ha H''/\∃ fd:Addr,Ha fd=none/\H'' fd=some (.dK [])/\σ'=[some (.ref a),some (.ref r),some (.ref nl),some (.ref dl),some (.ref tl_),some (.int (fN:Int)),some (.ref ma),some (.ref bo),some (.int cell),some (.ref ca),some (.ref fd),c11,c12,c13,c14,c15],λd hd=>⟨ai hd _,d,hd,af,rfl⟩,?_⟩
  rintro σb Hb ⟨sb,fd,nfd,efd,rfl⟩
  refine ⟨λσ' H''=>aq Ha H''/\∃ fk:List (Key × V),H'' fd=some (.dK fk)/\FaD zs ds fN cd fk/\∃ c11:Option V,σ'=[some (.ref a),some (.ref r),some (.ref nl),some (.ref dl),some (.ref tl_),some (.int (fN:Int)),some (.ref ma),some (.ref bo),some (.int cell),some (.ref ca),some (.ref fd),c11,c12,c13,c14,c15],?_,?_⟩
  ·refine ⟨_,rfl,_,rfl,(by lia),(by lia),dm (λj σ H''=>aq Ha H''/\∃ fk:List (Key × V),H'' fd=some (.dK fk)/\fk.length<=j/\(∀ (f:Nat) (z:Str) (p:PD),f < j->zs[f]?=some z->ds[f]?=some p->dD fk (Sum.inr z)=some (wvP p (cd.getD f 0)))/\∃ c11:Option V,σ=[some (.ref a),some (.ref r),some (.ref nl),some (.ref dl),some (.ref tl_),some (.int (fN:Int)),some (.ref ma),some (.ref bo),some (.int cell),some (.ref ca),some (.ref fd),c11,c12,c13,c14,c15]) ⟨sb,[],efd,Nat.le_refl _,(λf z p hf=>by lia),_,rfl⟩ (λj σ H'' hj h=>?_) (λσ H'' h=>?_)⟩
   ·obtain ⟨sn,fk,efk,hfl,hfk,sM,rfl⟩:=h
    rw [Int.toNat_natCast] at hj
    rw [show (0:Int)+(j:Int)=(j:Int) by lia]
    have ep:=G6 (l:=ds) (i:=j) (by lia)
    generalize ds[j]=p at ep
    have ez:=G6 (l:=zs) (i:=j) (by lia)
    generalize zs[j]=z at ez
    have ec:=G6 (l:=cd) (i:=j) (by lia)
    have hgc:cd.getD j 0=cd[j]'(by lia):=by rw [List.getD_eq_getElem?_getD,ec];rfl
    obtain ⟨da,eda,hda⟩:=E8.2 j p ep
    have s6n:=s6a.trans sn
    obtain ⟨b1,b2⟩:=hcb j p hj ep
    rw [hgc] at b1 b2
    refine ⟨_,rfl,_,rfl,dl,_,_,_,rfl,rfl,SqL.of (s6n _ _ E7),aM eda,_,rfl,_,rfl,ca,_,_,_,rfl,rfl,SqL.of (sn _ _ eca),aM (get_map ec),da,p,_,rfl,hda.same s6n,ok.doms p (G8 ep),b1,b2,_,rfl,_,rfl,_,rfl,nl,_,_,_,rfl,rfl,SqL.of (s6n _ _ uM),aM (df ez),fd,fk,z,rfl,rfl,efk,Nat.lt_of_le_of_lt hfl (Nat.lt_of_le_of_lt (show j<=100 by lia) (by decide)),sn.upd nfd,_,af,?_,λf z' p' hf ez' ep'=>?_,_,rfl⟩
    ·have:=dS fk (Sum.inr z:Key) (wvP p (cd[j]'(by lia)))
     lia
    ·rw [qV]
     by_cases hz:z'=z
     ·subst hz
      have hfj:=d7 ok.nd ez' ez
      subst hfj
      rw [ep] at ep'
      cases ep'
      rw [if_pos rfl,hgc]
     ·rw [if_neg (λq=>hz (by injection q))]
      refine hfk f z' p' ?_ ez' ep'
      rcases Nat.lt_or_ge f j with h | h
      ·exact h
      ·have:f=j:=by lia
       subst this
       rw [ez] at ez'
       exact absurd (Option.some.inj ez').symm hz
   ·obtain ⟨sn,fk,efk,hfl,hfk,sM,rfl⟩:=h
    rw [Int.toNat_natCast] at hfk
    exact ⟨sn,fk,efk,λf z p hf ez ep=>⟨hfk f z p hf ez ep,hcb f p hf ep⟩,_,rfl⟩
  rintro σc Hc ⟨sc,fk,efk,hFa,sM,rfl⟩
  have s6c:=s6a.trans sc
  have E9:=sc _ _ eca
  refine ⟨_,rfl,_,rfl,nl,_,rfl,.inl (SqL.of (s6c _ _ uM)),_,_,rfl,⟨by lia,by lia,by lia,by lia⟩,dm (λk σ H''=>aq Hc H''/\∃ c12 c13 c14 c15:Option V,σ=[some (.ref a),some (.ref r),some (.ref nl),some (.ref dl),some (.ref tl_),some (.int (fN:Int)),some (.ref ma),some (.ref bo),some (.int cell),some (.ref ca),some (.ref fd),sM,c12,c13,c14,c15]) ⟨aq.refl _,_,_,_,_,rfl⟩ (λk σ H'' hk h=>?_) (λσ H'' h=>?_)⟩
  ·obtain ⟨sn,c12,c13,c14,c15,rfl⟩:=h
   have hk:k < ts.length:=by lia
   rw [show (fN:Int)+(k:Int)=((fN+k:Nat):Int) by lia]
   have enm:=G6 (l:=zs) (i:=fN+k) (by lia)
   generalize zs[fN+k]=nm at enm
   have hsn:=hsm nm (G8 enm)
   have htn:tnm zs fN k=nm:=dk enm
   have ixn:atI (zs.map V.str) ((fN+k:Nat):Int)=some (.str nm):=aM (df enm)
   have s6n:=s6c.trans sn
   have hod:=(Tld.odr hak (Tld.nil (m:=ts.length)) hk)
   have wj:=(tZ hak k [] ua).1
   have Fb:=hod.len
   refine ⟨λσ' H3'=>aq H'' H3'/\∃ (fo:Addr) (xs:List V),H3' fo=some (.lst xs)/\az xs (odr (akT ts fN) k []) (StK NT K H3' zs ds ts fN cd)/\σ'=[some (.ref a),some (.ref r),some (.ref nl),some (.ref dl),some (.ref tl_),some (.int (fN:Int)),some (.ref ma),some (.ref bo),some (.int cell),some (.ref ca),some (.ref fd),sM,some (.int ((fN+k:Nat):Int)),some (.ref fo),c14,c15],⟨_,rfl,_,rfl,_,rfl,nl,_,_,_,rfl,rfl,SqL.of (s6n _ _ uM),ixn,_,rfl,fd,fk,rfl,sn _ _ efk,λpd hpd=>⟨bo,pd,nm,zs,ds,ts,fN,mw,Lk,k,fk,cd,rfl,hB.same (s6n.trans (ai hpd _)),cy,hsn,hsm,by lia,hk,htn,af,hFa,λl xs H3' s el hxs=>⟨(ai hpd _).trans s,l,xs,el,hxs,rfl⟩⟩⟩,?_⟩
   rintro σd Hd ⟨sd,fo,xs,efo,hxs,rfl⟩
   have s6d:=s6n.trans sd
   have scd:=sn.trans sd
   generalize Fc:odr (akT ts fN) k []=od at hxs hod wj Fb
   have hxl:=hxs.1
   refine ⟨λσ' H3'=>aq Hd H3'/\σ'=[some (.ref a),some (.ref r),some (.ref nl),some (.ref dl),some (.ref tl_),some (.int (fN:Int)),some (.ref ma),some (.ref bo),some (.int cell),some (.ref ca),some (.ref fd),sM,some (.int ((fN+k:Nat):Int)),some (.ref fo),c14,c15],?_,?_⟩
   ·refine ⟨_,rfl,_,_,_,_,true,rfl,.ty _,.inl (.lst efo),(by first | rfl | with_unfolding_all rfl | decide +kernel),_,rfl,b8 ?_⟩
    refine ⟨_,rfl,fo,rfl,⟨_,SqL.of efo⟩,aZ (xs:=xs) (λD m ys H3'=>aq Hd H3'/\H3' D=some (.lst ys)/\ys=((od.take m).map (tnm zs fN)).map V.str) (λD hD=>⟨ai hD _,af,rfl⟩) (λD m ys H3' hD _ h=>SqL.of (h.1 _ _ efo)) (λD m y ys H3' hD e h=>?_) (λD ys H3' hD h=>?_)⟩
    ·obtain ⟨so,eD,rfl⟩:=h
     obtain ⟨rp,j,rfl,ej,t,p,nm',et,ep,wo,cv',m',r3,erp,_⟩:=az.get hxs e
     have hm:m < xs.length:=(G7.mp e).1
     refine ⟨_,rfl,rp,_,_,_,rfl,rfl,SqT.of (so _ _ erp),rfl,bQ.mk hm eD (aD (by rw [List.length_map,List.length_map,List.length_take];lia)) ⟨so.upd hD,af,?_⟩⟩
     rw [take_snoc ej,List.map_append,List.map_append,List.map_cons,List.map_cons,dk wo]
     rfl
    ·obtain ⟨so,eD,rfl⟩:=h
     rw [hxl,List.take_length] at eD
     have s6o:=s6d.trans so
     refine ⟨_,rfl,_,rfl,_,rfl,nl,_,_,_,rfl,rfl,SqL.of (s6o _ _ uM),ixn,bo,nm,zs,ds,ts,fN,mw,Lk,k,rfl,hB.same s6o,cy,hsn,hsm,by lia,.inl ⟨hk,htn,λl H4' s nl' el=>?_⟩⟩
     rw [Fc] at el
     exact vV (SqL.of (s _ _ eD)) (SqL.of el) (pH _) ⟨_,rfl,b8 ⟨so.trans s,rfl⟩⟩
   rintro σe He ⟨se,rfl⟩
   have s6e:=s6d.trans se
   refine ⟨λσ' H3'=>aq He H3'/\∃ ve:Addr,He ve=none/\H3' ve=some (.dK [])/\σ'=[some (.ref a),some (.ref r),some (.ref nl),some (.ref dl),some (.ref tl_),some (.int (fN:Int)),some (.ref ma),some (.ref bo),some (.int cell),some (.ref ca),some (.ref fd),sM,some (.int ((fN+k:Nat):Int)),some (.ref fo),some (.ref ve),c15],λd hd=>⟨ai hd _,d,hd,af,rfl⟩,?_⟩
   rintro σf Hf ⟨sf,ve,nve,eve,rfl⟩
   have Fd:=se _ _ efo
   refine ⟨_,rfl,fo,rfl,⟨_,SqL.of ((se.trans sf) _ _ efo)⟩,bf (xs:=xs) (λm σ H3'=>aq He H3'/\∃ vk:List (Key × V),H3' ve=some (.dK vk)/\vk.length<=m/\TIv K H3' zs ds ts fN cd vk (λc=>fN<=c/\c - fN ∈ od.take m)/\∃ c15:Option V,σ=[some (.ref a),some (.ref r),some (.ref nl),some (.ref dl),some (.ref tl_),some (.int (fN:Int)),some (.ref ma),some (.ref bo),some (.int cell),some (.ref ca),some (.ref fd),sM,some (.int ((fN+k:Nat):Int)),some (.ref fo),some (.ref ve),c15]) ⟨sf,[],eve,Nat.le_refl _,(λc z e p=>by cases p.2),_,rfl⟩ (λm σ H3' _ h=>SqL.of (h.1 _ _ Fd)) (λm y σ H3' e h=>?_) (λσ H3' h=>?_)⟩
   ·obtain ⟨so,vk,evk,hvl,hti,Fe,rfl⟩:=h
    obtain ⟨rp,j,rfl,ej,hSt⟩:=az.get hxs e
    have CA:=hSt.same (se.trans so)
    obtain ⟨t,p,nm',et,ep,wo,cv',m',r3,erp,hr3,_⟩:=id CA
    have hm:m < xs.length:=(G7.mp e).1
    have hj:=hod.lt j (G8 ej)
    have s6o:=s6e.trans so
    have Ff:=(scd.trans (se.trans so)) _ _ E9
    refine ⟨_,rfl,_,rfl,.inl ⟨rfl,_,SqL.of (s6o _ _ uM)⟩,_,rfl,rp,_,_,_,rfl,rfl,SqT.of erp,rfl,nl,_,_,.str nm',fN+j,rfl,rfl,SqL.of (s6o _ _ uM),rfl,dn zs,df wo,by simp [eqV],λm u hm hu=>?_,_,rfl,_,rfl,_,rfl,r,rp,ve,ca,j,zs,ds,ts,fN,cd,vk,rfl,Cz.same s6o,ok,hj,CA,evk,hti.wk (λc hc=>⟨hc.1,wj m j ej _ hc.2⟩),Ff,hcd,λH4' s=>⟨_,rfl,b8 ?_⟩⟩
    ·obtain ⟨y,rfl,e⟩:=cO hu
     have:y ≠ nm':=λw_=>by
      subst w_
      have:=d7 ok.nd e wo
      lia
     simp [eqV,this]
    have CB:=s _ _ evk
    refine ⟨_,rfl,rp,_,_,_,rfl,rfl,SqT.of (s _ _ erp),rfl,_,rfl,_,rfl,rp,_,_,_,rfl,rfl,SqT.of (s _ _ erp),rfl,ve,vk,nm',rfl,rfl,CB,Nat.lt_of_le_of_lt hvl (Nat.lt_of_le_of_lt (show m<=100 by lia) (by decide)),(so.trans s).upd nve,_,af,?_,?_,_,rfl⟩
    ·have:=dS vk (Sum.inr nm' : Key) (.ref r3)
     lia
    ·refine TIv.updX ((hti.same s).put ok.nd (c0:=fN+j) wo ?_ λc hc=>?_) CB (λ_ z=>by cases z) (λ_ _ z=>by cases z)
     ·unfold cvo
      rw [if_neg (by lia),show fN+j - fN=j by lia,yD xP et ep]
      exact s.seqT hr3
     ·rw [take_snoc ej] at hc
      rcases List.mem_append.mp hc.2 with h2 | h2
      ·exact .inr ⟨hc.1,h2⟩
      ·have:=List.mem_singleton.mp h2
       exact .inl (by lia)
   ·obtain ⟨so,vk,evk,hvl,hti,Fe,rfl⟩:=h
    exact ⟨(scd.trans se).trans so,_,_,_,_,rfl⟩
  ·obtain ⟨sn,c12,c13,c14,c15,rfl⟩:=h
   exact ⟨((sm9.trans sa).trans sc).trans sn,_,_,_,_,_,_,_,_,rfl⟩
 ·exact q H'
end
theorem ls0 {P:List Value->Prop} (h:P []):∀ us:List Value,us.length=0->P us:=λus e=>by
 cases us
 ·exact h
 ·cases e
theorem lsS {P:List Value->Prop} {n:Nat} (h:∀ a us,us.length=n->P (a :: us)):∀ us:List Value,us.length=n+1->P us:=λus e=>by
 cases us
 ·cases e
 ·exact h _ _ (Nat.succ.inj e)
theorem ls1 {P:List Value->Prop} (h:∀ a,P [a]):∀ us:List Value,us.length=1->P us:=lsS λa=>ls0 (P:=λv=>P (a :: v)) (h a)
theorem ls2 {P:List Value->Prop} (h:∀ a b,P [a,b]):∀ us:List Value,us.length=2->P us:=lsS λa=>ls1 (P:=λv=>P (a :: v)) (h a)
theorem ls3 {P:List Value->Prop} (h:∀ a b c,P [a,b,c]):∀ us:List Value,us.length=3->P us:=lsS λa=>ls2 (P:=λv=>P (a :: v)) (h a)
theorem ls4 {P:List Value->Prop} (h:∀ a b c d,P [a,b,c,d]):∀ us:List Value,us.length=4->P us:=lsS λa=>ls3 (P:=λv=>P (a :: v)) (h a)
theorem ls5 {P:List Value->Prop} (h:∀ a b c d e,P [a,b,c,d,e]):∀ us:List Value,us.length=5->P us:=lsS λa=>ls4 (P:=λv=>P (a :: v)) (h a)
theorem ls6 {P:List Value->Prop} (h:∀ a b c d e f,P [a,b,c,d,e,f]):∀ us:List Value,us.length=6->P us:=lsS λa=>ls5 (P:=λv=>P (a :: v)) (h a)
theorem ls7 {P:List Value->Prop} (h:∀ a b c d e f g,P [a,b,c,d,e,f,g]):∀ us:List Value,us.length=7->P us:=lsS λa=>ls6 (P:=λv=>P (a :: v)) (h a)
theorem lb1 {fd:FuncData} {ps:List Str} (h:∀ a,bindArgs fd ⟨[a],[]⟩=pure (ps.zip [a])):∀ us:List Value,us.length=1->bindArgs fd ⟨us,[]⟩=pure (ps.zip us):=ls1 (P:=λus=>bindArgs fd ⟨us,[]⟩=pure (ps.zip us)) h
theorem lb2 {fd:FuncData} {ps:List Str} (h:∀ a b,bindArgs fd ⟨[a,b],[]⟩=pure (ps.zip [a,b])):∀ us:List Value,us.length=2->bindArgs fd ⟨us,[]⟩=pure (ps.zip us):=ls2 (P:=λus=>bindArgs fd ⟨us,[]⟩=pure (ps.zip us)) h
theorem lb3 {fd:FuncData} {ps:List Str} (h:∀ a b c,bindArgs fd ⟨[a,b,c],[]⟩=pure (ps.zip [a,b,c])):∀ us:List Value,us.length=3->bindArgs fd ⟨us,[]⟩=pure (ps.zip us):=ls3 (P:=λus=>bindArgs fd ⟨us,[]⟩=pure (ps.zip us)) h
theorem lb4 {fd:FuncData} {ps:List Str} (h:∀ a b c d,bindArgs fd ⟨[a,b,c,d],[]⟩=pure (ps.zip [a,b,c,d])):∀ us:List Value,us.length=4->bindArgs fd ⟨us,[]⟩=pure (ps.zip us):=ls4 (P:=λus=>bindArgs fd ⟨us,[]⟩=pure (ps.zip us)) h
theorem lb5 {fd:FuncData} {ps:List Str} (h:∀ a b c d e,bindArgs fd ⟨[a,b,c,d,e],[]⟩=pure (ps.zip [a,b,c,d,e])):∀ us:List Value,us.length=5->bindArgs fd ⟨us,[]⟩=pure (ps.zip us):=ls5 (P:=λus=>bindArgs fd ⟨us,[]⟩=pure (ps.zip us)) h
theorem lb7 {fd:FuncData} {ps:List Str} (h:∀ a b c d e f g,bindArgs fd ⟨[a,b,c,d,e,f,g],[]⟩=pure (ps.zip [a,b,c,d,e,f,g])):∀ us:List Value,us.length=7->bindArgs fd ⟨us,[]⟩=pure (ps.zip us):=ls7 (P:=λus=>bindArgs fd ⟨us,[]⟩=pure (ps.zip us)) h
abbrev GIn (K:PySem.W.Frag) (x:Str) (f:Addr):Prop:=PySem.W.nsIn K mainGlobals x=some (some (.ref f))
section
variable {CX:CXT} {P:Program} {w:World} {K:PySem.W.Frag} {mg:Str->Option Value} {base:Heap} {j k:Nat} {C f:Addr} {fd:FuncData} {x m:Str} {ps:List Str} {sp:Sp}
theorem _root_.L2.Callee.up (c:Callee P w K mg base j x ps sp) (h:j<=k:=by decide):Callee P w K mg base k x ps sp:=c.mono h
theorem _root_.L2.CalleeX.up (c:CalleeX P w K mg base j x ps sp) (h:j<=k:=by decide):CalleeX P w K mg base k x ps sp:=c.mono h
theorem _root_.L2.MCallee.up (c:MCallee CX P w K mg base j C m ps sp) (h:j<=k:=by decide):MCallee CX P w K mg base k C m ps sp:=c.mono h
theorem _root_.L2.MkCallee.up (c:MkCallee CX P w K mg base j x C ps sp) (h:j<=k:=by decide):MkCallee CX P w K mg base k x C ps sp:=c.mono h
theorem _root_.L2.BCallee.up (c:BCallee CX P w K mg base j x m ps sp) (h:j<=k:=by decide):BCallee CX P w K mg base k x m ps sp:=c.mono h
theorem mkC {h:Heap} {q:Str} {st:Stmt} (X:K.In h) (G:h.Ns mainGlobals mg) (F:Fun K m q st f fd) (a:GIn K x f) (O:aQ P w K mg base CX0 k f fd ps sp) (b:Binds K fd ps []):Callee P w K mg base k x ps sp:=⟨_,_,O,b,F.kp,PySem.W.mg_of X G a⟩
theorem mkX {h:Heap} {q:Str} {st:Stmt} (X:K.In h) (G:h.Ns mainGlobals mg) (F:Fun K m q st f fd) (a:GIn K x f) (O:aQ P w K mg base (CX1 P w) k f fd ps sp) (b:Binds K fd ps []):CalleeX P w K mg base k x ps sp:=⟨_,_,O,b,F.kp,PySem.W.mg_of X G a⟩
theorem mkM {q:Str} {st:Stmt} (F:Fun K m q st f fd) (a:PySem.W.findIn K (.ref C) m=some (some (.ref f))) (i:PySem.W.isFn K (.ref f)=true) (O:aQ P w K mg base CX k f fd ps sp) (b:Binds K fd ps []):MCallee CX P w K mg base k C m ps sp:=⟨_,_,⟨a,i,F.kp⟩,O,b⟩
end
theorem all_mk {l:W.OpenLaw} {w:World} {K:W.Frag} {h:Heap} {mg:Str->Option Value} {fa f0 f1 f2 f3 f4 f5 f6 f7 f8 f9 f10 f11 f12 f13 f14 f15 f16 f17 f18 f19 f20 f21 f22 f23 f24 f25 f26 f27 f28 f29 f30 f31 f32 f33 f34 f35 f36 f37 f38 f39 f40 f41 f42 f43 f44 f45 f46 f47 f48 f49 f50 f51 f52 f53 f54 f55 f56 f57 f58 f59 f60 f61 f62 f63 f64 f65 f66 f67 f68 f69 f70 f71 f72 f73 f74 f75 f76 f77 f78 f79 f80 f81 f82 f83:Addr} (X:K.In h) (G:h.Ns mainGlobals mg) (hfa:mg "law" = some (.ref fa))
  {fd0 fd1 fd2 fd3 fd4 fd5 fd6 fd7 fd8 fd9 Fg Fh CC Fi Fj Fl Fm Fn Fo Fp Fq Fs Ft Fu Fv Fw Fx Fy Fz FA FC FD FE FF FG FH FI FJ FK FL FN FO FP FQ FR FT FU FV FW FX FY FZ Ga Gb Gd Ge Gf Gg Gh Gi Gj Gk Gm Gn Gp Gq Gr Gs Gu Gv Gw Gx Gy Gz GA GB GC GD GF GG GH GI GJ CD:FuncData}
  {yA yE yN yO yP yQ yR yS yT yU yV yW yX ae yY yZ:Addr}
  (dE:W.nsIn K mainGlobals "TableError" = some (some (.ref yA)))
  (fK:W.nsIn K mainGlobals "NoTable" = some (some (.ref yE)))
  (gR:W.nsIn K mainGlobals "Way" = some (some (.ref yN)))
  (iy:W.nsIn K mainGlobals "First" = some (some (.ref yO)))
  (kJ:W.nsIn K mainGlobals "Only" = some (some (.ref yP)))
  (kK:W.nsIn K mainGlobals "Like" = some (some (.ref yQ)))
  (oK:W.nsIn K mainGlobals "Low" = some (some (.ref yR)))
  (kL:W.nsIn K mainGlobals "High" = some (some (.ref yS)))
  (oM:W.nsIn K mainGlobals "Sum" = some (some (.ref yT)))
  (eB:W.nsIn K mainGlobals "Domain" = some (some (.ref yU)))
  (eA:W.nsIn K mainGlobals "Numbers" = some (some (.ref yV)))
  (iz:W.nsIn K mainGlobals "Words" = some (some (.ref yW)))
  (iA:W.nsIn K mainGlobals "Table" = some (some (.ref yX)))
  (kM:W.nsIn K mainGlobals "Book" = some (some (.ref ae)))
  {xX:Option Addr} {pU:Array Value} {xY:Nat} {xZ:Array (Option Value)} (sN:W.nsIn K mainGlobals "NONE" = some (some (.ref yY))) (pV:K.lookup yY=some ⟨.type "tuple",xX,.seq pU xY,xZ⟩) (pW:pU.size<=sizeLine) (pX:Vals [.str "none",.int (0)] pU.toList)
  {wq:Option Addr} {m7:Array Value} {wt:Nat} {wu:Array (Option Value)} (pY:W.nsIn K mainGlobals "CLASH" = some (some (.ref yZ))) (m8:K.lookup yZ=some ⟨.type "tuple",wq,.seq m7 wt,wu⟩) (m9:m7.size<=sizeLine) (nc:Vals [.str "clash",.int (0)] m7.toList)
  (a0:GIn K "all_among" f0) (F0:Fun K "all_among" "all_among" Y39 f0 fd0)
  (a1:GIn K "is_word" f1) (F1:Fun K "is_word" "is_word" Y45 f1 fd1)
  (a2:GIn K "is_whole" f2) (F2:Fun K "is_whole" "is_whole" Y44 f2 fd2)
  (a3:GIn K "alike" f3) (F3:Fun K "alike" "alike" Y38 f3 fd3)
  (a4:GIn K "refuse_counts_books" f4) (F4:Fun K "refuse_counts" "refuse_counts" Y71 f4 fd4)
  (a5:GIn K "refuse_names_books" f5) (F5:Fun K "refuse_names" "refuse_names" Y74 f5 fd5)
  (a6:GIn K "refuse_domains" f6) (F6:Fun K "refuse_domains" "refuse_domains" Y73 f6 fd6)
  (a7:GIn K "refuse_rings" f7) (F7:Fun K "refuse_rings" "refuse_rings" Y76 f7 fd7)
  (a8:GIn K "named_among" f8) (F8:Fun K "named_among" "named_among" Y66 f8 fd8)
  (a9:GIn K "table_of" f9) (F9:Fun K "table_of" "table_of" Y80 f9 fd9)
  (a10:GIn K "asks" f10) (F10:Fun K "asks" "asks" Y40 f10 Fg)
  (a11:GIn K "order_of" f11) (F11:Fun K "order_of" "order_of" Y68 f11 Fh)
  (a12:GIn K "put_behind" f12) (F12:Fun K "put_behind" "put_behind" Y70 f12 CC)
  (a13:GIn K "tables_for" f13) (F13:Fun K "tables_for" "tables_for" Y81 f13 Fi)
  (a14:GIn K "needs" f14) (F14:Fun K "needs" "needs" Y67 f14 Fj)
  (a15:GIn K "holds" f15) (F15:Fun K "holds" "holds" Y43 f15 Fl)
  (a16:GIn K "way_by" f16) (F16:Fun K "way_by" "way_by" Y83 f16 Fm)
  (a17:GIn K "refuse_names_tables" f17) (F17:Fun K "refuse_names" "refuse_names" Y75 f17 Fn)
  (a18:GIn K "refuse_counts_tables" f18) (F18:Fun K "refuse_counts" "refuse_counts" Y72 f18 Fo)
  (a19:GIn K "refuse_way" f19) (F19:Fun K "refuse_way" "refuse_way" Y78 f19 Fp)
  (a20:GIn K "refuse_row" f20) (F20:Fun K "refuse_row" "refuse_row" Y77 f20 Fq)
  (a21:GIn K "own_row" f21) (F21:Fun K "own_row" "own_row" Y69 f21 Fs)
  (a22:GIn K "fits" f22) (F22:Fun K "fits" "fits" Y42 f22 Ft)
  (a23:GIn K "mask" f23) (F23:Fun K "mask" "mask" Y65 f23 Fu)
  (a24:GIn K "judged" f24) (F24:Fun K "judged" "judged" Y46 f24 Fv)
  (a25:GIn K "fact_codes" f25) (F25:Fun K "fact_codes" "fact_codes" Y41 f25 Fw)
  (a26:GIn K "trail" f26) (F26:Fun K "trail" "trail" Y82 f26 Fx)
  (a27:GIn K "steps" f27) (F27:Fun K "steps" "steps" Y79 f27 Fy)
  (a28:GIn K "judged_step" f28) (F28:Fun K "judged_step" "judged_step" Y47 f28 Fz)
  (a29:GIn K "_law_at" f29) (F29:Fun K "_law_at" "_law_at" Y49 f29 FA)
  (a30:GIn K "_law_words" f30) (F30:Fun K "_law_words" "_law_words" Y63 f30 FC)
  (a31:GIn K "_law_domain" f31) (F31:Fun K "_law_domain" "_law_domain" Y51 f31 FD)
  (a32:GIn K "_law_pool" f32) (F32:Fun K "_law_pool" "_law_pool" Y58 f32 FE)
  (a33:GIn K "_law_spans" f33) (F33:Fun K "_law_spans" "_law_spans" Y60 f33 FF)
  (a34:GIn K "_law_row" f34) (F34:Fun K "_law_row" "_law_row" Y59 f34 FG)
  (a35:GIn K "_law_numbers" f35) (F35:Fun K "_law_numbers" "_law_numbers" Y56 f35 FH)
  (a36:GIn K "_law_book" f36) (F36:Fun K "_law_book" "_law_book" Y50 f36 FI)
  (a37:GIn K "_law_made" f37) (F37:Fun K "_law_made" "_law_made" Y55 f37 FJ)
  (a38:GIn K "_law_table" f38) (F38:Fun K "_law_table" "_law_table" Y62 f38 FK)
  (a39:GIn K "_law_facts" f39) (F39:Fun K "_law_facts" "_law_facts" Y53 f39 FL)
  (a40:GIn K "_law_held" f40) (F40:Fun K "_law_held" "_law_held" Y54 f40 FN)
  (a41:GIn K "_law_due" f41) (F41:Fun K "_law_due" "_law_due" Y52 f41 FO)
  (a42:GIn K "_law_point" f42) (F42:Fun K "_law_point" "_law_point" Y57 f42 FP)
  (a43:GIn K "_law_worth" f43) (F43:Fun K "_law_worth" "_law_worth" Y64 f43 FQ)
  (a44:GIn K "_law_step" f44) (F44:Fun K "_law_step" "_law_step" Y61 f44 FR)
  (i45:W.findIn K (.ref ae) "__init__" = some (some (.ref f45))) (Aw:W.isFn K (.ref f45)=true) (Ax:W.makesIn K ae=true) (Ay:W.keepIn K (.ref ae)=true) (F45:Fun K "__init__" "Book.__init__" Y0 f45 FT)
  (i46:W.findIn K (.ref yX) "__init__" = some (some (.ref f46))) (Az:W.isFn K (.ref f46)=true) (AA:W.makesIn K yX=true) (AB:W.keepIn K (.ref yX)=true) (F46:Fun K "__init__" "Table.__init__" Y22 f46 FU)
  (i47:W.findIn K (.ref yO) "__init__" = some (some (.ref f47))) (AD:W.isFn K (.ref f47)=true) (AE:W.makesIn K yO=true) (AF:W.keepIn K (.ref yO)=true) (F47:Fun K "__init__" "First.__init__" Y7 f47 FV)
  (wx:W.specialIn K (.ref yN) "__getattribute__" = some (some (.builtin "type.__getattribute__"))) (wz:W.readsIn K yN (.type "type")=true) (wA:W.findCls K (.ref yN) (.type "type") "__init__" = some (.val (.ref f48))) (F48:Fun K "__init__" "Way.__init__" Y23 f48 FW)
  (i49:W.findIn K (.ref yP) "__init__" = some (some (.ref f49))) (AG:W.isFn K (.ref f49)=true) (AH:W.makesIn K yP=true) (AI:W.keepIn K (.ref yP)=true) (F49:Fun K "__init__" "Only.__init__" Y18 f49 FX)
  (wB:W.specialIn K (.ref yN) "__getattribute__" = some (some (.builtin "type.__getattribute__"))) (wC:W.readsIn K yN (.type "type")=true) (wD:W.findCls K (.ref yN) (.type "type") "__init__" = some (.val (.ref f50))) (F50:Fun K "__init__" "Way.__init__" Y27 f50 FY)
  (i51:W.findIn K (.ref yQ) "__init__" = some (some (.ref f51))) (AJ:W.isFn K (.ref f51)=true) (AK:W.makesIn K yQ=true) (AL:W.keepIn K (.ref yQ)=true) (F51:Fun K "__init__" "Like.__init__" Y11 f51 FZ)
  (wF:W.specialIn K (.ref yN) "__getattribute__" = some (some (.builtin "type.__getattribute__"))) (wG:W.readsIn K yN (.type "type")=true) (wH:W.findCls K (.ref yN) (.type "type") "__init__" = some (.val (.ref f52))) (F52:Fun K "__init__" "Way.__init__" Y25 f52 Ga)
  (i53:W.findIn K (.ref yR) "__init__" = some (some (.ref f53))) (AM:W.isFn K (.ref f53)=true) (AN:W.makesIn K yR=true) (AO:W.keepIn K (.ref yR)=true) (F53:Fun K "__init__" "Low.__init__" Y13 f53 Gb)
  (wI:W.specialIn K (.ref yN) "__getattribute__" = some (some (.builtin "type.__getattribute__"))) (wJ:W.readsIn K yN (.type "type")=true) (wK:W.findCls K (.ref yN) (.type "type") "__init__" = some (.val (.ref f54))) (F54:Fun K "__init__" "Way.__init__" Y26 f54 Gd)
  (i55:W.findIn K (.ref yS) "__init__" = some (some (.ref f55))) (AQ:W.isFn K (.ref f55)=true) (AR:W.makesIn K yS=true) (AS:W.keepIn K (.ref yS)=true) (F55:Fun K "__init__" "High.__init__" Y9 f55 Ge)
  (wL:W.specialIn K (.ref yN) "__getattribute__" = some (some (.builtin "type.__getattribute__"))) (wM:W.readsIn K yN (.type "type")=true) (wN:W.findCls K (.ref yN) (.type "type") "__init__" = some (.val (.ref f56))) (F56:Fun K "__init__" "Way.__init__" Y24 f56 Gf)
  (i57:W.findIn K (.ref yT) "__init__" = some (some (.ref f57))) (AU:W.isFn K (.ref f57)=true) (AV:W.makesIn K yT=true) (AW:W.keepIn K (.ref yT)=true) (F57:Fun K "__init__" "Sum.__init__" Y20 f57 Gg)
  (wO:W.specialIn K (.ref yN) "__getattribute__" = some (some (.builtin "type.__getattribute__"))) (wQ:W.readsIn K yN (.type "type")=true) (wR:W.findCls K (.ref yN) (.type "type") "__init__" = some (.val (.ref f58))) (F58:Fun K "__init__" "Way.__init__" Y28 f58 Gh)
  (m59:W.findIn K (.ref yV) "has_code" = some (some (.ref f59))) (AX:W.isFn K (.ref f59)=true) (F59:Fun K "has_code" "Domain.has_code" Y5 f59 Gi)
  (m60:W.findIn K (.ref yW) "has_code" = some (some (.ref f60))) (AY:W.isFn K (.ref f60)=true) (F60:Fun K "has_code" "Domain.has_code" Y6 f60 Gj)
  (i61:W.findIn K (.ref yV) "__init__" = some (some (.ref f61))) (AZ:W.isFn K (.ref f61)=true) (A1:W.makesIn K yV=true) (A2:W.keepIn K (.ref yV)=true) (F61:Fun K "__init__" "Numbers.__init__" Y15 f61 Gk)
  (wU:W.specialIn K (.ref yU) "__getattribute__" = some (some (.builtin "type.__getattribute__"))) (wV:W.readsIn K yU (.type "type")=true) (wW:W.findCls K (.ref yU) (.type "type") "__init__" = some (.val (.ref f62))) (F62:Fun K "__init__" "Domain.__init__" Y1 f62 Gm)
  (i63:W.findIn K (.ref yW) "__init__" = some (some (.ref f63))) (A3:W.isFn K (.ref f63)=true) (A4:W.makesIn K yW=true) (A5:W.keepIn K (.ref yW)=true) (F63:Fun K "__init__" "Words.__init__" Y35 f63 Gn)
  (wX:W.specialIn K (.ref yU) "__getattribute__" = some (some (.builtin "type.__getattribute__"))) (wY:W.readsIn K yU (.type "type")=true) (wZ:W.findCls K (.ref yU) (.type "type") "__init__" = some (.val (.ref f64))) (F64:Fun K "__init__" "Domain.__init__" Y2 f64 Gp)
  (m65:W.findIn K (.ref yV) "code" = some (some (.ref f65))) (A6:W.isFn K (.ref f65)=true) (F65:Fun K "code" "Domain.code" Y3 f65 Gq)
  (m66:W.findIn K (.ref yV) "borne_code" = some (some (.ref f66))) (A7:W.isFn K (.ref f66)=true) (F66:Fun K "borne_code" "Numbers.borne_code" Y17 f66 Gr)
  (m67:W.findIn K (.ref yV) "bears" = some (some (.ref f67))) (A8:W.isFn K (.ref f67)=true) (F67:Fun K "bears" "Numbers.bears" Y16 f67 Gs)
  (m68:W.findIn K (.ref yW) "code" = some (some (.ref f68))) (A9:W.isFn K (.ref f68)=true) (F68:Fun K "code" "Domain.code" Y4 f68 Gu)
  (m69:W.findIn K (.ref yW) "borne_code" = some (some (.ref f69))) (Ba:W.isFn K (.ref f69)=true) (F69:Fun K "borne_code" "Words.borne_code" Y37 f69 Gv)
  (m70:W.findIn K (.ref yW) "bears" = some (some (.ref f70))) (Bb:W.isFn K (.ref f70)=true) (F70:Fun K "bears" "Words.bears" Y36 f70 Gw)
  (m71:W.findIn K (.ref yO) "verdict" = some (some (.ref f71))) (Bc:W.isFn K (.ref f71)=true) (F71:Fun K "verdict" "Way.verdict" Y29 f71 Gx)
  (m72:W.findIn K (.ref yO) "chosen" = some (some (.ref f72))) (Bd:W.isFn K (.ref f72)=true) (F72:Fun K "chosen" "First.chosen" Y8 f72 Gy)
  (m73:W.findIn K (.ref yP) "verdict" = some (some (.ref f73))) (Be:W.isFn K (.ref f73)=true) (F73:Fun K "verdict" "Way.verdict" Y33 f73 Gz)
  (m74:W.findIn K (.ref yP) "chosen" = some (some (.ref f74))) (Bf:W.isFn K (.ref f74)=true) (F74:Fun K "chosen" "Only.chosen" Y19 f74 GA)
  (m75:W.findIn K (.ref yQ) "verdict" = some (some (.ref f75))) (Bg:W.isFn K (.ref f75)=true) (F75:Fun K "verdict" "Way.verdict" Y31 f75 GB)
  (m76:W.findIn K (.ref yQ) "chosen" = some (some (.ref f76))) (Bh:W.isFn K (.ref f76)=true) (F76:Fun K "chosen" "Like.chosen" Y12 f76 GC)
  (m77:W.findIn K (.ref yR) "verdict" = some (some (.ref f77))) (Bi:W.isFn K (.ref f77)=true) (F77:Fun K "verdict" "Way.verdict" Y32 f77 GD)
  (m78:W.findIn K (.ref yR) "chosen" = some (some (.ref f78))) (Bj:W.isFn K (.ref f78)=true) (F78:Fun K "chosen" "Low.chosen" Y14 f78 GF)
  (m79:W.findIn K (.ref yS) "verdict" = some (some (.ref f79))) (Bk:W.isFn K (.ref f79)=true) (F79:Fun K "verdict" "Way.verdict" Y30 f79 GG)
  (m80:W.findIn K (.ref yS) "chosen" = some (some (.ref f80))) (Bm:W.isFn K (.ref f80)=true) (F80:Fun K "chosen" "High.chosen" Y10 f80 GH)
  (m81:W.findIn K (.ref yT) "verdict" = some (some (.ref f81))) (Bo:W.isFn K (.ref f81)=true) (F81:Fun K "verdict" "Way.verdict" Y34 f81 GI)
  (m82:W.findIn K (.ref yT) "chosen" = some (some (.ref f82))) (Bp:W.isFn K (.ref f82)=true) (F82:Fun K "chosen" "Sum.chosen" Y21 f82 GJ)
  (a83:GIn K "law" f83) (F83:Fun K "law" "law" Y48 f83 CD)
  (z0:W.nsIn K mainGlobals "len" = some none)
  (z1:W.nsIn K mainGlobals "isinstance" = some none)
  (z2:W.nsIn K mainGlobals "int" = some none)
  (z3:W.nsIn K mainGlobals "bool" = some none)
  (z4:W.nsIn K mainGlobals "set" = some none)
  (z5:W.nsIn K mainGlobals "dict" = some none)
  (z6:W.nsIn K mainGlobals "zip" = some none)
  (z7:W.nsIn K mainGlobals "list" = some none)
  (z8:W.nsIn K mainGlobals "sum" = some none)
  (z9:W.nsIn K mainGlobals "range" = some none)
  (z10:W.nsIn K mainGlobals "enumerate" = some none)
  (z11:W.nsIn K mainGlobals "min" = some none)
  (z12:W.nsIn K mainGlobals "max" = some none)
  (z13:W.nsIn K mainGlobals "tuple" = some none)
  {w0:Value} (y0:W.nsIn K mainGlobals "MOST_SIGNS" = some (some w0)) (x0:RelV (V.int 12) w0)
  {w1:Value} (y1:W.nsIn K mainGlobals "SMALL_LETTERS" = some (some w1)) (x1:RelV (V.str "abcdefghijklmnopqrstuvwxyz") w1)
  {w2:Value} (y2:W.nsIn K mainGlobals "MOST_FACTS" = some (some w2)) (x2:RelV (V.int 20) w2)
  {w3:Value} (y3:W.nsIn K mainGlobals "MOST_TABLES" = some (some w3)) (x3:RelV (V.int 30) w3)
  {w4:Value} (y4:W.nsIn K mainGlobals "MOST_ROWS" = some (some w4)) (x4:RelV (V.int 200) w4)
  {w5:Value} (y5:W.nsIn K mainGlobals "MOST_COLUMNS" = some (some w5)) (x5:RelV (V.int 4) w5)
  {w6:Value} (y6:W.nsIn K mainGlobals "MOST_WORDS" = some (some w6)) (x6:RelV (V.int 40) w6)
  (x_NoTable:W.excIn K yE [.type "ValueError",.type "Exception",.type "BaseException",.type "object"] "ValueError.__new__" = true)
  (jv:W.findIn K (.ref yE) "__getattribute__" = some (some (.builtin "BaseException.__getattribute__")))
  (jw:W.findIn K (.ref yE) "__getattr__" = some none)
  (jx:W.findIn K (.ref yE) "__class__" = some (some (.builtin "object.__class__")))
  (jy:W.specialIn K (.builtin "object.__class__") "__get__" = some (some (.builtin "getset_descriptor.__get__")))
  (jz:W.takesIn K (.builtin "object.__class__")=some true)
  (jA:W.mroIn K yE (.type "object")=some true)
  (jB:W.mroIn K yE (.type "BaseException")=some true)
  (jC:W.kitCls K (.ref yE) (.ref yE)=some true)
  (ke:W.plainGet K yO Str.empty=true) (kf:W.hasDictIn K yO=true) (kg:W.plainOver K yO=true) (kh:W.findIn K (.ref yO) "__setattr__" = some (some (.builtin "object.__setattr__")))
  (lK:W.plainGet K yP Str.empty=true) (lL:W.hasDictIn K yP=true) (lM:W.plainOver K yP=true) (lN:W.findIn K (.ref yP) "__setattr__" = some (some (.builtin "object.__setattr__")))
  (lO:W.plainGet K yQ Str.empty=true) (lP:W.hasDictIn K yQ=true) (lQ:W.plainOver K yQ=true) (lR:W.findIn K (.ref yQ) "__setattr__" = some (some (.builtin "object.__setattr__")))
  (pZ:W.plainGet K yR Str.empty=true) (p4:W.hasDictIn K yR=true) (p5:W.plainOver K yR=true) (p7:W.findIn K (.ref yR) "__setattr__" = some (some (.builtin "object.__setattr__")))
  (lS:W.plainGet K yS Str.empty=true) (lT:W.hasDictIn K yS=true) (lU:W.plainOver K yS=true) (lV:W.findIn K (.ref yS) "__setattr__" = some (some (.builtin "object.__setattr__")))
  (p8:W.plainGet K yT Str.empty=true) (p9:W.hasDictIn K yT=true) (qc:W.plainOver K yT=true) (qd:W.findIn K (.ref yT) "__setattr__" = some (some (.builtin "object.__setattr__")))
  (gw:W.plainGet K yV Str.empty=true) (gx:W.hasDictIn K yV=true) (gy:W.plainOver K yV=true) (gA:W.findIn K (.ref yV) "__setattr__" = some (some (.builtin "object.__setattr__")))
  (ki:W.plainGet K yW Str.empty=true) (kj:W.hasDictIn K yW=true) (kl:W.plainOver K yW=true) (km:W.findIn K (.ref yW) "__setattr__" = some (some (.builtin "object.__setattr__")))
  (kn:W.plainGet K yX Str.empty=true) (ko:W.hasDictIn K yX=true) (kq:W.plainOver K yX=true) (kr:W.findIn K (.ref yX) "__setattr__" = some (some (.builtin "object.__setattr__")))
  (lW:W.plainGet K ae Str.empty=true) (lX:W.hasDictIn K ae=true) (lY:W.plainOver K ae=true) (lZ:W.findIn K (.ref ae) "__setattr__" = some (some (.builtin "object.__setattr__")))
  (ng:W.findIn K (.ref yO) "__class__" = some (some (.builtin "object.__class__"))) (nh:W.specialIn K (.builtin "object.__class__") "__get__" = some (some (.builtin "getset_descriptor.__get__"))) (ni:W.takesIn K (.builtin "object.__class__")=some true) (nj:W.mroIn K yO (.type "object")=some true)
  (qe:W.findIn K (.ref yP) "__class__" = some (some (.builtin "object.__class__"))) (qf:W.specialIn K (.builtin "object.__class__") "__get__" = some (some (.builtin "getset_descriptor.__get__"))) (qg:W.takesIn K (.builtin "object.__class__")=some true) (qh:W.mroIn K yP (.type "object")=some true)
  (qi:W.findIn K (.ref yQ) "__class__" = some (some (.builtin "object.__class__"))) (qj:W.specialIn K (.builtin "object.__class__") "__get__" = some (some (.builtin "getset_descriptor.__get__"))) (qk:W.takesIn K (.builtin "object.__class__")=some true) (ql:W.mroIn K yQ (.type "object")=some true)
  (sO:W.findIn K (.ref yR) "__class__" = some (some (.builtin "object.__class__"))) (sP:W.specialIn K (.builtin "object.__class__") "__get__" = some (some (.builtin "getset_descriptor.__get__"))) (sQ:W.takesIn K (.builtin "object.__class__")=some true) (sR:W.mroIn K yR (.type "object")=some true)
  (qm:W.findIn K (.ref yS) "__class__" = some (some (.builtin "object.__class__"))) (qo:W.specialIn K (.builtin "object.__class__") "__get__" = some (some (.builtin "getset_descriptor.__get__"))) (qp:W.takesIn K (.builtin "object.__class__")=some true) (qq:W.mroIn K yS (.type "object")=some true)
  (sS:W.findIn K (.ref yT) "__class__" = some (some (.builtin "object.__class__"))) (sT:W.specialIn K (.builtin "object.__class__") "__get__" = some (some (.builtin "getset_descriptor.__get__"))) (sU:W.takesIn K (.builtin "object.__class__")=some true) (sV:W.mroIn K yT (.type "object")=some true)
  (jD:W.findIn K (.ref yV) "__class__" = some (some (.builtin "object.__class__"))) (jE:W.specialIn K (.builtin "object.__class__") "__get__" = some (some (.builtin "getset_descriptor.__get__"))) (jF:W.takesIn K (.builtin "object.__class__")=some true) (jG:W.mroIn K yV (.type "object")=some true)
  (nk:W.findIn K (.ref yW) "__class__" = some (some (.builtin "object.__class__"))) (nq:W.specialIn K (.builtin "object.__class__") "__get__" = some (some (.builtin "getset_descriptor.__get__"))) (nr:W.takesIn K (.builtin "object.__class__")=some true) (nt:W.mroIn K yW (.type "object")=some true)
  (nv:W.findIn K (.ref yX) "__class__" = some (some (.builtin "object.__class__"))) (nA:W.specialIn K (.builtin "object.__class__") "__get__" = some (some (.builtin "getset_descriptor.__get__"))) (nB:W.takesIn K (.builtin "object.__class__")=some true) (nC:W.mroIn K yX (.type "object")=some true)
  (qr:W.findIn K (.ref ae) "__class__" = some (some (.builtin "object.__class__"))) (qt:W.specialIn K (.builtin "object.__class__") "__get__" = some (some (.builtin "getset_descriptor.__get__"))) (qu:W.takesIn K (.builtin "object.__class__")=some true) (qv:W.mroIn K ae (.type "object")=some true)
  (na_First_called:W.findIn K (.ref yO) "called" = some none)
  (na_Only_called:W.findIn K (.ref yP) "called" = some none)
  (na_Like_called:W.findIn K (.ref yQ) "called" = some none)
  (na_Low_called:W.findIn K (.ref yR) "called" = some none)
  (na_High_called:W.findIn K (.ref yS) "called" = some none)
  (na_Sum_called:W.findIn K (.ref yT) "called" = some none)
  (na_Numbers_low:W.findIn K (.ref yV) "low" = some none)
  (na_Numbers_high:W.findIn K (.ref yV) "high" = some none)
  (cV:W.findIn K (.ref yV) "words" = some none)
  (na_Words_low:W.findIn K (.ref yW) "low" = some none)
  (na_Words_high:W.findIn K (.ref yW) "high" = some none)
  (na_Words_words:W.findIn K (.ref yW) "words" = some none)
  (na_Table_name:W.findIn K (.ref yX) "name" = some none)
  (na_Table_names:W.findIn K (.ref yX) "names" = some none)
  (na_Table_domains:W.findIn K (.ref yX) "domains" = some none)
  (na_Table_outcome:W.findIn K (.ref yX) "outcome" = some none)
  (na_Table_way:W.findIn K (.ref yX) "way" = some none)
  (na_Table_rows:W.findIn K (.ref yX) "rows" = some none)
  (na_Book_facts:W.findIn K (.ref ae) "facts" = some none)
  (na_Book_tables:W.findIn K (.ref ae) "tables" = some none)
  (f_nn:W.kitOne K (.ref yV) (.ref yV)=some true)
  (f_wn:W.kitOne K (.ref yW) (.ref yV)=some false)
  (f_ww:W.kitOne K (.ref yW) (.ref yW)=some true)
  (xD:W.kitOne K (.ref yX) (.ref yX)=some true)
  (f_nw:W.kitOne K (.ref yV) (.ref yW)=some false)
  (iB:W.exmOne K (.ref yE) (.ref yA)=some true)
  (fZ:W.exmOne K (.ref yE) (.ref yE)=some true)
  (iC:W.kitOne K (.ref yE) (.ref yA)=some true)
  (iD:W.kitOne K (.ref yE) (.ref yE)=some true)
  : ∃ fd:FuncData,(∀ (s:Shared) (v:Value),BindsTo s fd ⟨[v],[]⟩ [("script",v)])/\∀ base:Heap,K.In base->base.Ns mainGlobals mg->aQ l.prog w K mg base CX0 21 fa fd ["script"] (J18 K):=by
 have e:=hfa.symm.trans (W.mg_of X G a83)
 cases e
 have bl:Bl K mg yA yE yN yO yP yQ yR yS yT yU yV yW yX ae yY yZ:=⟨W.mg_of X G dE,dE,W.mg_of X G fK,fK,W.mg_of X G gR,gR,W.mg_of X G iy,iy,W.mg_of X G kJ,kJ,W.mg_of X G kK,kK,W.mg_of X G oK,oK,W.mg_of X G kL,kL,W.mg_of X G oM,oM,W.mg_of X G eB,eB,W.mg_of X G eA,eA,W.mg_of X G iz,iz,W.mg_of X G iA,iA,W.mg_of X G kM,kM,i7.value x_NoTable,⟨jv,jw,jx,jy,jz,jA,jB,jC⟩,⟨ke,kf,kg,kh⟩,⟨lK,lL,lM,lN⟩,⟨lO,lP,lQ,lR⟩,⟨pZ,p4,p5,p7⟩,⟨lS,lT,lU,lV⟩,⟨p8,p9,qc,qd⟩,⟨gw,gx,gy,gA⟩,⟨ki,kj,kl,km⟩,⟨kn,ko,kq,kr⟩,⟨lW,lX,lY,lZ⟩,⟨⟨ke,kf,kg,kh⟩,ng,nh,ni,nj⟩,⟨⟨lK,lL,lM,lN⟩,qe,qf,qg,qh⟩,⟨⟨lO,lP,lQ,lR⟩,qi,qj,qk,ql⟩,⟨⟨pZ,p4,p5,p7⟩,sO,sP,sQ,sR⟩,⟨⟨lS,lT,lU,lV⟩,qm,qo,qp,qq⟩,⟨⟨p8,p9,qc,qd⟩,sS,sT,sU,sV⟩,⟨⟨gw,gx,gy,gA⟩,jD,jE,jF,jG⟩,⟨⟨ki,kj,kl,km⟩,nk,nq,nr,nt⟩,⟨⟨kn,ko,kq,kr⟩,nv,nA,nB,nC⟩,⟨⟨lW,lX,lY,lZ⟩,qr,qt,qu,qv⟩,W.mg_of X G sN,ModT.mk pV pW pX,W.mg_of X G pY,ModT.mk m8 m9 nc,na_First_called,na_Only_called,na_Like_called,na_Low_called,na_High_called,na_Sum_called,na_Numbers_low,na_Numbers_high,cV,na_Words_low,na_Words_high,na_Words_words,na_Table_name,na_Table_names,na_Table_domains,na_Table_outcome,na_Table_way,na_Table_rows,na_Book_facts,na_Book_tables,f_nn,f_wn,f_ww,xD,f_nw,iB,fZ,iC,iD,W.mg_none_of X G z0,W.mg_none_of X G z1,W.mg_none_of X G z2,W.mg_none_of X G z3,W.mg_none_of X G z4,W.mg_none_of X G z5,W.mg_none_of X G z6,W.mg_none_of X G z7,W.mg_none_of X G z8,W.mg_none_of X G z9,W.mg_none_of X G z10,W.mg_none_of X G z11,W.mg_none_of X G z12,W.mg_none_of X G z13,⟨_,W.mg_of X G y0,x0⟩,⟨_,W.mg_of X G y1,x1⟩,⟨_,W.mg_of X G y2,x2⟩,⟨_,W.mg_of X G y3,x3⟩,⟨_,W.mg_of X G y4,x4⟩,⟨_,W.mg_of X G y5,x5⟩,⟨_,W.mg_of X G y6,x6⟩⟩
 refine ⟨CD,λs v=>by obtain ⟨_,_,_,_,_,_,_,_,_,e,_,_⟩:=F83.ex;rw [e];exact .of_eq rfl,λbase _ _=>?_⟩
 have O0:=Du (P:=l.prog) (w:=w) (base:=base) F0 bl
 have rm:=mkC X G F0 a0 O0 (F0.binds λ_ _ _ _ _ _=>lb2 λ_ _=>rfl)
 have O2:=Dv (P:=l.prog) (w:=w) (base:=base) F2 bl
 have nE:=mkC X G F2 a2 O2 (F2.binds λ_ _ _ _ _ _=>lb1 λ_=>rfl)
 have O3:=Dw (P:=l.prog) (w:=w) (base:=base) F3 bl
 have ya:=mkC X G F3 a3 O3 (F3.binds λ_ _ _ _ _ _=>lb2 λ_ _=>rfl)
 have O4:=Dx (P:=l.prog) (w:=w) (base:=base) F4 bl
 have gJ:=mkC X G F4 a4 O4 (F4.binds λ_ _ _ _ _ _=>lb2 λ_ _=>rfl)
 have O8:=Dy (P:=l.prog) (w:=w) (base:=base) F8 bl
 have iZ:=mkC X G F8 a8 O8 (F8.binds λ_ _ _ _ _ _=>lb2 λ_ _=>rfl)
 have O9:=Dz (P:=l.prog) (w:=w) (base:=base) F9 bl
 have nF:=mkX X G F9 a9 O9 (F9.binds λ_ _ _ _ _ _=>lb2 λ_ _=>rfl)
 have O15:=DA (P:=l.prog) (w:=w) (base:=base) F15 bl
 have yb:=mkC X G F15 a15 O15 (F15.binds λ_ _ _ _ _ _=>lb2 λ_ _=>rfl)
 have O18:=DB (P:=l.prog) (w:=w) (base:=base) F18 bl
 have gB:=mkC X G F18 a18 O18 (F18.binds λ_ _ _ _ _ _=>lb2 λ_ _=>rfl)
 have O21:=DC (P:=l.prog) (w:=w) (base:=base) F21 bl
 have uN:=mkC X G F21 a21 O21 (F21.binds λ_ _ _ _ _ _=>lb2 λ_ _=>rfl)
 have O29:=DD (P:=l.prog) (w:=w) (base:=base) F29 bl
 have rn:=mkC X G F29 a29 O29 (F29.binds λ_ _ _ _ _ _=>lb2 λ_ _=>rfl)
 have O30:=DE (P:=l.prog) (w:=w) (base:=base) F30 bl
 have lq:=mkC X G F30 a30 O30 (F30.binds λ_ _ _ _ _ _=>lb2 λ_ _=>rfl)
 have O32:=DF (P:=l.prog) (w:=w) (base:=base) F32 bl
 have sW:=mkC X G F32 a32 O32 (F32.binds λ_ _ _ _ _ _=>lb3 λ_ _ _=>rfl)
 have O33:=DG (P:=l.prog) (w:=w) (base:=base) F33 bl
 have rq:=mkC X G F33 a33 O33 (F33.binds λ_ _ _ _ _ _=>lb4 λ_ _ _ _=>rfl)
 have O35:=DH (P:=l.prog) (w:=w) (base:=base) F35 bl
 have nU:=mkC X G F35 a35 O35 (F35.binds λ_ _ _ _ _ _=>lb2 λ_ _=>rfl)
 have O40:=DI (P:=l.prog) (w:=w) (base:=base) F40 bl
 have sY:=mkC X G F40 a40 O40 (F40.binds λ_ _ _ _ _ _=>lb2 λ_ _=>rfl)
 have O41:=DJ (P:=l.prog) (w:=w) (base:=base) F41 bl
 have uO:=mkC X G F41 a41 O41 (F41.binds λ_ _ _ _ _ _=>lb3 λ_ _ _=>rfl)
 have O42:=DK (P:=l.prog) (w:=w) (base:=base) F42 bl
 have rz:=mkC X G F42 a42 O42 (F42.binds λ_ _ _ _ _ _=>lb2 λ_ _=>rfl)
 have O43:=DM (P:=l.prog) (w:=w) (base:=base) F43 bl
 have rA:=mkC X G F43 a43 O43 (F43.binds λ_ _ _ _ _ _=>lb2 λ_ _=>rfl)
 have O48:=DN (P:=l.prog) (w:=w) (base:=base) F48 bl
 have ib:BCallee CX0 l.prog w K mg base 1 "Way" "__init__" ["self", "called"] (bS K yA yE yN yO yP yQ yR yS yT yU yV yW yX ae yY yZ):=⟨_,_,_,⟨wx,wz,wA,F48.kp⟩,O48,(F48.binds λ_ _ _ _ _ _=>lb2 λ_ _=>rfl),W.mg_of X G gR⟩
 have O50:=DO (P:=l.prog) (w:=w) (base:=base) F50 bl
 have iQ:BCallee CX0 l.prog w K mg base 1 "Way" "__init__" ["self", "called"] (bY K yA yE yN yO yP yQ yR yS yT yU yV yW yX ae yY yZ):=⟨_,_,_,⟨wB,wC,wD,F50.kp⟩,O50,(F50.binds λ_ _ _ _ _ _=>lb2 λ_ _=>rfl),W.mg_of X G gR⟩
 have O52:=DP (P:=l.prog) (w:=w) (base:=base) F52 bl
 have iR:BCallee CX0 l.prog w K mg base 1 "Way" "__init__" ["self", "called"] (bZ K yA yE yN yO yP yQ yR yS yT yU yV yW yX ae yY yZ):=⟨_,_,_,⟨wF,wG,wH,F52.kp⟩,O52,(F52.binds λ_ _ _ _ _ _=>lb2 λ_ _=>rfl),W.mg_of X G gR⟩
 have O54:=DQ (P:=l.prog) (w:=w) (base:=base) F54 bl
 have jH:BCallee CX0 l.prog w K mg base 1 "Way" "__init__" ["self", "called"] (cc K yA yE yN yO yP yQ yR yS yT yU yV yW yX ae yY yZ):=⟨_,_,_,⟨wI,wJ,wK,F54.kp⟩,O54,(F54.binds λ_ _ _ _ _ _=>lb2 λ_ _=>rfl),W.mg_of X G gR⟩
 have O56:=DR (P:=l.prog) (w:=w) (base:=base) F56 bl
 have iS:BCallee CX0 l.prog w K mg base 1 "Way" "__init__" ["self", "called"] (b7 K yA yE yN yO yP yQ yR yS yT yU yV yW yX ae yY yZ):=⟨_,_,_,⟨wL,wM,wN,F56.kp⟩,O56,(F56.binds λ_ _ _ _ _ _=>lb2 λ_ _=>rfl),W.mg_of X G gR⟩
 have O58:=DS (P:=l.prog) (w:=w) (base:=base) F58 bl
 have jI:BCallee CX0 l.prog w K mg base 1 "Way" "__init__" ["self", "called"] (cg K yA yE yN yO yP yQ yR yS yT yU yV yW yX ae yY yZ):=⟨_,_,_,⟨wO,wQ,wR,F58.kp⟩,O58,(F58.binds λ_ _ _ _ _ _=>lb2 λ_ _=>rfl),W.mg_of X G gR⟩
 have O62:=O_1 (P:=l.prog) (w:=w) (base:=base) F62 bl
 have eP:BCallee CX0 l.prog w K mg base 1 "Domain" "__init__" ["self", "low", "high"] (bw K yA yE yN yO yP yQ yR yS yT yU yV yW yX ae yY yZ):=⟨_,_,_,⟨wU,wV,wW,F62.kp⟩,O62,(F62.binds λ_ _ _ _ _ _=>lb3 λ_ _ _=>rfl),W.mg_of X G eB⟩
 have O64:=O_2 (P:=l.prog) (w:=w) (base:=base) F64 bl
 have fT:BCallee CX0 l.prog w K mg base 1 "Domain" "__init__" ["self", "low", "high"] (bF K yA yE yN yO yP yQ yR yS yT yU yV yW yX ae yY yZ):=⟨_,_,_,⟨wX,wY,wZ,F64.kp⟩,O64,(F64.binds λ_ _ _ _ _ _=>lb3 λ_ _ _=>rfl),W.mg_of X G eB⟩
 have O66:=DT (P:=l.prog) (w:=w) (base:=base) F66 bl
 have dY:=mkM F66 m66 A7 O66 (F66.binds λ_ _ _ _ _ _=>lb2 λ_ _=>rfl)
 have O69:=DU (P:=l.prog) (w:=w) (base:=base) F69 bl
 have fD:=mkM F69 m69 Ba O69 (F69.binds λ_ _ _ _ _ _=>lb2 λ_ _=>rfl)
 have O70:=DV (P:=l.prog) (w:=w) (base:=base) F70 bl
 have iT:=mkM F70 m70 Bb O70 (F70.binds λ_ _ _ _ _ _=>lb2 λ_ _=>rfl)
 have O72:=O_8 (P:=l.prog) (w:=w) (base:=base) F72 bl
 have ie:=mkM F72 m72 Bd O72 (F72.binds λ_ _ _ _ _ _=>lb3 λ_ _ _=>rfl)
 have O74:=DW (P:=l.prog) (w:=w) (base:=base) F74 bl
 have jJ:=mkM F74 m74 Bf O74 (F74.binds λ_ _ _ _ _ _=>lb3 λ_ _ _=>rfl)
 have O76:=DX (P:=l.prog) (w:=w) (base:=base) F76 bl
 have jK:=mkM F76 m76 Bh O76 (F76.binds λ_ _ _ _ _ _=>lb3 λ_ _ _=>rfl)
 have O78:=DY (P:=l.prog) (w:=w) (base:=base) F78 bl
 have kU:=mkM F78 m78 Bj O78 (F78.binds λ_ _ _ _ _ _=>lb3 λ_ _ _=>rfl)
 have O80:=DZ (P:=l.prog) (w:=w) (base:=base) F80 bl
 have jL:=mkM F80 m80 Bm O80 (F80.binds λ_ _ _ _ _ _=>lb3 λ_ _ _=>rfl)
 have O82:=D1 (P:=l.prog) (w:=w) (base:=base) F82 bl
 have kW:=mkM F82 m82 Bp O82 (F82.binds λ_ _ _ _ _ _=>lb3 λ_ _ _=>rfl)
 have O1:=D3 (P:=l.prog) (w:=w) (base:=base) F1 bl rm.up
 have kX:=mkC X G F1 a1 O1 (F1.binds λ_ _ _ _ _ _=>lb1 λ_=>rfl)
 have O6:=D4 (P:=l.prog) (w:=w) (base:=base) F6 bl ya.up
 have kY:=mkC X G F6 a6 O6 (F6.binds λ_ _ _ _ _ _=>lb2 λ_ _=>rfl)
 have O7:=D6 (P:=l.prog) (w:=w) (base:=base) F7 bl iZ.up
 have nG:=mkC X G F7 a7 O7 (F7.binds λ_ _ _ _ _ _=>lb1 λ_=>rfl)
 have O10:=D7 (P:=l.prog) (w:=w) (base:=base) F10 bl iZ.up nF.up
 have Bq:=mkX X G F10 a10 O10 (F10.binds λ_ _ _ _ _ _=>lb2 λ_ _=>rfl)
 have O22:=D8 (P:=l.prog) (w:=w) (base:=base) F22 bl yb.up
 have Br:=mkC X G F22 a22 O22 (F22.binds λ_ _ _ _ _ _=>lb3 λ_ _ _=>rfl)
 have O31:=D9 (P:=l.prog) (w:=w) (base:=base) F31 bl lq.up
 have qw:=mkC X G F31 a31 O31 (F31.binds λ_ _ _ _ _ _=>lb1 λ_=>rfl)
 have O34:=Ea (P:=l.prog) (w:=w) (base:=base) F34 bl rq.up
 have uP:=mkC X G F34 a34 O34 (F34.binds λ_ _ _ _ _ _=>lb5 λ_ _ _ _ _=>rfl)
 have O44:=Eb (P:=l.prog) (w:=w) (base:=base) F44 bl uO.up sY.up
 have sZ:=mkC X G F44 a44 O44 (F44.binds λ_ _ _ _ _ _=>lb5 λ_ _ _ _ _=>rfl)
 have O47:=O_7 (P:=l.prog) (w:=w) (base:=base) F47 bl ib.up
 have gC:MkCallee CX0 l.prog w K mg base 2 "First" yO ["self"] (J0 K yO):=⟨_,_,⟨AE,i47,AD,AF⟩,O47,(F47.binds λ_ _ _ _ _ _=>lb1 λ_=>rfl),W.mg_of X G iy⟩
 have O49:=Ee (P:=l.prog) (w:=w) (base:=base) F49 bl iQ.up
 have ig:MkCallee CX0 l.prog w K mg base 2 "Only" yP ["self"] (J8 K yP):=⟨_,_,⟨AH,i49,AG,AI⟩,O49,(F49.binds λ_ _ _ _ _ _=>lb1 λ_=>rfl),W.mg_of X G kJ⟩
 have O51:=Ef (P:=l.prog) (w:=w) (base:=base) F51 bl iR.up
 have ij:MkCallee CX0 l.prog w K mg base 2 "Like" yQ ["self"] (J4 K yQ):=⟨_,_,⟨AK,i51,AJ,AL⟩,O51,(F51.binds λ_ _ _ _ _ _=>lb1 λ_=>rfl),W.mg_of X G kK⟩
 have O53:=Eg (P:=l.prog) (w:=w) (base:=base) F53 bl jH.up
 have jM:MkCallee CX0 l.prog w K mg base 2 "Low" yR ["self"] (J6 K yR):=⟨_,_,⟨AN,i53,AM,AO⟩,O53,(F53.binds λ_ _ _ _ _ _=>lb1 λ_=>rfl),W.mg_of X G oK⟩
 have O55:=O_9 (P:=l.prog) (w:=w) (base:=base) F55 bl iS.up
 have il:MkCallee CX0 l.prog w K mg base 2 "High" yS ["self"] (J2 K yS):=⟨_,_,⟨AR,i55,AQ,AS⟩,O55,(F55.binds λ_ _ _ _ _ _=>lb1 λ_=>rfl),W.mg_of X G kL⟩
 have O57:=Eh (P:=l.prog) (w:=w) (base:=base) F57 bl jI.up
 have jN:MkCallee CX0 l.prog w K mg base 2 "Sum" yT ["self"] (J10 K yT):=⟨_,_,⟨AV,i57,AU,AW⟩,O57,(F57.binds λ_ _ _ _ _ _=>lb1 λ_=>rfl),W.mg_of X G oM⟩
 have O59:=O_5 (P:=l.prog) (w:=w) (base:=base) F59 bl nE.up
 have cY:=mkM F59 m59 AX O59 (F59.binds λ_ _ _ _ _ _=>lb2 λ_ _=>rfl)
 have O60:=O_6 (P:=l.prog) (w:=w) (base:=base) F60 bl nE.up
 have fU:=mkM F60 m60 AY O60 (F60.binds λ_ _ _ _ _ _=>lb2 λ_ _=>rfl)
 have O61:=Ei (P:=l.prog) (w:=w) (base:=base) F61 bl eP.up
 have eM:MkCallee CX0 l.prog w K mg base 2 "Numbers" yV ["self", "low", "high"] (bu K yA yE yN yO yP yQ yR yS yT yU yV yW yX ae yY yZ):=⟨_,_,⟨A1,i61,AZ,A2⟩,O61,(F61.binds λ_ _ _ _ _ _=>lb3 λ_ _ _=>rfl),W.mg_of X G eA⟩
 have O68:=O_4 (P:=l.prog) (w:=w) (base:=base) F68 bl fD.up iT.up
 have iU:=mkM F68 m68 A9 O68 (F68.binds λ_ _ _ _ _ _=>lb2 λ_ _=>rfl)
 have O71:=Ej (P:=l.prog) (w:=w) (base:=base) F71 bl ie.up
 have iV:=mkM F71 m71 Bc O71 (F71.binds λ_ _ _ _ _ _=>lb3 λ_ _ _=>rfl)
 have O73:=Ek (P:=l.prog) (w:=w) (base:=base) F73 bl jJ.up
 have jO:=mkM F73 m73 Be O73 (F73.binds λ_ _ _ _ _ _=>lb3 λ_ _ _=>rfl)
 have O75:=El (P:=l.prog) (w:=w) (base:=base) F75 bl jK.up
 have jP:=mkM F75 m75 Bg O75 (F75.binds λ_ _ _ _ _ _=>lb3 λ_ _ _=>rfl)
 have O77:=Em (P:=l.prog) (w:=w) (base:=base) F77 bl kU.up
 have ku:=mkM F77 m77 Bi O77 (F77.binds λ_ _ _ _ _ _=>lb3 λ_ _ _=>rfl)
 have O79:=En (P:=l.prog) (w:=w) (base:=base) F79 bl jL.up
 have jQ:=mkM F79 m79 Bk O79 (F79.binds λ_ _ _ _ _ _=>lb3 λ_ _ _=>rfl)
 have O81:=Eo (P:=l.prog) (w:=w) (base:=base) F81 bl kW.up
 have kx:=mkM F81 m81 Bo O81 (F81.binds λ_ _ _ _ _ _=>lb3 λ_ _ _=>rfl)
 have O5:=Ep (P:=l.prog) (w:=w) (base:=base) F5 bl kX.up
 have ip:=mkC X G F5 a5 O5 (F5.binds λ_ _ _ _ _ _=>lb2 λ_ _=>rfl)
 have O17:=Es (P:=l.prog) (w:=w) (base:=base) F17 bl kX.up
 have gK:=mkC X G F17 a17 O17 (F17.binds λ_ _ _ _ _ _=>lb1 λ_=>rfl)
 have O20:=Et (P:=l.prog) (w:=w) (base:=base) F20 bl cY.up fU.up
 have qx:=mkC X G F20 a20 O20 (F20.binds λ_ _ _ _ _ _=>lb4 λ_ _ _ _=>rfl)
 have O23:=Eu (P:=l.prog) (w:=w) (base:=base) F23 bl Br.up
 have Bs:=mkC X G F23 a23 O23 (F23.binds λ_ _ _ _ _ _=>lb2 λ_ _=>rfl)
 have O36:=Ew (P:=l.prog) (w:=w) (base:=base) F36 bl nU.up qw.up sW.up rn.up lq.up uP.up
 have tf:=mkC X G F36 a36 O36 (F36.binds λ_ _ _ _ _ _=>lb1 λ_=>rfl)
 have O63:=Ey (P:=l.prog) (w:=w) (base:=base) F63 bl fT.up kX.up
 have gD:MkCallee CX0 l.prog w K mg base 3 "Words" yW ["self", "words"] (bI K yA yE yN yO yP yQ yR yS yT yU yV yW yX ae yY yZ):=⟨_,_,⟨A4,i63,A3,A5⟩,O63,(F63.binds λ_ _ _ _ _ _=>lb2 λ_ _=>rfl),W.mg_of X G iz⟩
 have O67:=Ez (P:=l.prog) (w:=w) (base:=base) F67 bl cY.up
 have fV:=mkM F67 m67 A8 O67 (F67.binds λ_ _ _ _ _ _=>lb2 λ_ _=>rfl)
 have O16:=EA (P:=l.prog) (w:=w) (base:=base) F16 bl gC.up ig.up ij.up jM.up il.up jN.up
 have rB:=mkC X G F16 a16 O16 (F16.binds λ_ _ _ _ _ _=>lb1 λ_=>rfl)
 have O45:=O_0 (P:=l.prog) (w:=w) (base:=base) F45 bl gJ.up ip.up kY.up nG.up
 have iq:MkCallee CX0 l.prog w K mg base 4 "Book" ae ["self", "facts", "tables"] (bT K yA yE yN yO yP yQ yR yS yT yU yV yW yX ae yY yZ):=⟨_,_,⟨Ax,i45,Aw,Ay⟩,O45,(F45.binds λ_ _ _ _ _ _=>lb3 λ_ _ _=>rfl),W.mg_of X G kM⟩
 have O65:=O_3 (P:=l.prog) (w:=w) (base:=base) F65 bl dY.up fV.up
 have gL:=mkM F65 m65 A6 O65 (F65.binds λ_ _ _ _ _ _=>lb2 λ_ _=>rfl)
 have O19:=EB (P:=l.prog) (w:=w) (base:=base) F19 bl rB.up
 have qy:=mkC X G F19 a19 O19 (F19.binds λ_ _ _ _ _ _=>lb2 λ_ _=>rfl)
 have O24:=EC (P:=l.prog) (w:=w) (base:=base) F24 bl iV.up jO.up jP.up ku.up jQ.up kx.up rB.up
 have xa:=mkC X G F24 a24 O24 (F24.binds λ_ _ _ _ _ _=>lb2 λ_ _=>rfl)
 have O37:=ED (P:=l.prog) (w:=w) (base:=base) F37 bl eM.up gD.up
 have nH:=mkC X G F37 a37 O37 (F37.binds λ_ _ _ _ _ _=>lb1 λ_=>rfl)
 have O28:=EE (P:=l.prog) (w:=w) (base:=base) F28 bl Bs.up xa.up
 have nV:=mkC X G F28 a28 O28 (F28.binds λ_ _ _ _ _ _=>lb2 λ_ _=>rfl)
 have O39:=EG (P:=l.prog) (w:=w) (base:=base) F39 bl nH.up
 have rC:=mkC X G F39 a39 O39 (F39.binds λ_ _ _ _ _ _=>lb1 λ_=>rfl)
 have O46:=EH (P:=l.prog) (w:=w) (base:=base) F46 bl gK.up gB.up qy.up qx.up uN.up
 have gE:MkCallee CX0 l.prog w K mg base 6 "Table" yX ["self", "name", "names", "domains", "outcome", "way", "rows"] (bJ K yA yE yN yO yP yQ yR yS yT yU yV yW yX ae yY yZ):=⟨_,_,⟨AA,i46,Az,AB⟩,O46,(F46.binds λ_ _ _ _ _ _=>lb7 λ_ _ _ _ _ _ _=>rfl),W.mg_of X G iA⟩
 have O27:=EI (P:=l.prog) (w:=w) (base:=base) F27 bl nV.up
 have yc:=mkC X G F27 a27 O27 (F27.binds λ_ _ _ _ _ _=>lb2 λ_ _=>rfl)
 have O38:=ER (P:=l.prog) (w:=w) (base:=base) F38 bl gE.up nH.up
 have rD:=mkC X G F38 a38 O38 (F38.binds λ_ _ _ _ _ _=>lb2 λ_ _=>rfl)
 have R12:∀ n:Nat,aQ l.prog w K mg base (CX1 l.prog w) (2+n) f12 CC ["book", "name", "order"] (cF K yA yE yN yO yP yQ yR yS yT yU yV yW yX ae yY yZ n):=λn=>by
  induction n with
  | zero=>exact aQ.no λvs H Q E h=>nP h
  | succ n ih=>exact EU (k:=2+n) (P:=l.prog) (w:=w) (base:=base) F12 bl (Bq.mono (by lia)) ⟨_,_,ih,(F12.binds λ_ _ _ _ _ _=>lb3 λ_ _ _=>rfl),F12.kp,W.mg_of X G a12⟩
 have O12:=R12 13
 have qz:=mkX X G F12 a12 O12 (F12.binds λ_ _ _ _ _ _=>lb3 λ_ _ _=>rfl)
 have O11:=EV (P:=l.prog) (w:=w) (base:=base) F11 bl qz.up
 have nI:=mkX X G F11 a11 O11 (F11.binds λ_ _ _ _ _ _=>lb2 λ_ _=>rfl)
 have O13:=EW (P:=l.prog) (w:=w) (base:=base) F13 bl nF.up nI.up
 have ky:=mkX X G F13 a13 O13 (F13.binds λ_ _ _ _ _ _=>lb2 λ_ _=>rfl)
 have O14:=EY (P:=l.prog) (w:=w) (base:=base) F14 bl ky.up
 have yd:=mkX X G F14 a14 O14 (F14.binds λ_ _ _ _ _ _=>lb2 λ_ _=>rfl)
 have O25:=EZ (P:=l.prog) (w:=w) (base:=base) F25 bl yd.up gL.up iU.up
 have qA:=mkC X G F25 a25 O25 (F25.binds λ_ _ _ _ _ _=>lb3 λ_ _ _=>rfl)
 have O26:=E4 (P:=l.prog) (w:=w) (base:=base) F26 bl qA.up yc.up ky.up
 have ye:=mkC X G F26 a26 O26 (F26.binds λ_ _ _ _ _ _=>lb3 λ_ _ _=>rfl)
 exact E5 F83 bl tf.up iq.up rD.up rC.up rz.up rA.up ye.up rn.up nI.up sZ.up
theorem walk {l:W.OpenLaw} {q:Program} {loose:List Str} {XP:(Str->Option Value)->Heap->Prop} {YP:World->Heap->Prop} {d:DefRec} {K:Params->W.Frag} (hn:l.most=some 63) (hdf:d.params.defaults=[])
  (hY:∀ (w:World) (h:Heap),YP w h->(K w.params).In h)
  (F:∀ (w:World) (mg:Str->Option Value) (fa:Addr) (h:Heap),(K w.params).In h->h.Ns mainGlobals mg->mg d.name=some (.ref fa) ->
   ∃ fd:FuncData,(∀ (s:Shared) (u:Value),BindsTo s fd ⟨[u],[]⟩ [("script",u)])/\∀ base:Heap,(K w.params).In base->base.Ns mainGlobals mg->aQ l.prog w (K w.params) mg base CX0 21 fa fd ["script"] (J18 (K w.params))) :
  W.WalkO q loose XP YP l.row.toRowW d [] (λf vs=>PySem.call f vs) :=
 L2.walk_of (n:=63) (k:=21) (x := "script") (CX:=λ_=>CX0) (sp:=λw=>J18 (K w.params)) hn (by decide) hdf ⟨rfl,by decide,by decide⟩ hY F (λ_ _ a ns hl _ hS=>⟨a,ns,rfl,hS,hl,λ_=>rfl⟩) λ_ _ _ _ _ z=>z
end My
set_option genSizeOf false in
set_option genInjectivity false in
structure PySem.W.Fast:Prop where (tw4204856601969395664 tw15282253093006053055 tw6895583081480416810 tw6090230802705105542 tw12355759400703413299 tw13522002627499933334 tw6398590012784061195 tw16383361470814617108 tw203528512717035481 tw2248346780203252016 tw13071045721667510348 tw1161536426945757300 tw6466158968079030249 tw741004360986846549 tw5732604010021996286 tw9825813482483841759 tw13802172447980343119 tw1328200692289014212 tw6712784769725652303 tw2721146693152346751 tw1696274109841467711 tw12098604928716688284 tw16807312596854975933 tw9056405342202887291 tw2307520922103844122 tw7912627061099648736 tw9627684829754245124 tw8354587474435653832 tw17281297500296651088 tw13413330455320466246 tw11423086946983371672 tw10837570956382919022 tw7523326402632384710 tw11636267103895100042 tw4612958598994295202 tw8440799363701113013 tw4412319043093122566 tw12540894398485421265 tw17542091976643941205 tw12755927712890994787 tw14283215527247665963 tw552747836203146717 tw14410195729196902019 tw11291917304823213555 tw14114360248687745543 tw2450373675559544710 tw18378775236273046094 tw808718825745100531 tw7406826584810955844 tw4080004157058454107 tw5018499561299562041 tw8415213789188940369 tw5440168880815856867 tw15714978419052284082 tw4099073357242310425 tw4519465007587657226 tw12120855837244630995 tw664057140743529099 tw10350048959052017292 tw1581803898787636733 tw1853861148913191995 tw1851327932964008629 tw907147826862119554 tw17497090447668754727 tw838698702930810945 tw6316854264526603872 tw7642086871508163305 tw11059942286730577898 tw1967247697484687535 tw13023458335162624948 tw2069326566298154253 tw9634069022372389543 tw11075513269065518585 tw14569002231942196418 tw7270079263037442870 tw1740953422885165319 tw12438175737553490198 tw10736149805168477263 tw11366340825639191008 tw16004119273521047991 tw13638574615576848015 tw12413604335943672276 tw15123022507797791593 tw14344313553385532045 tw6671853406288920064 tw7748659412964179125 tw2804837098251043328 tw6824169929082773927 tw16284728848045843614 tw17203837533565729054 tw12711064206322679568 tw8839051379760530490 tw9388316289023636966 tw16003278626753184346 tw5550478261146115292 tw9028591311445074811 tw11716528241444616127 tw16183145476865276260 tw18143149622184141616 tw10924763973029858995 tw13129233543508906953 tw8565373252767589651 tw9442109029177015661 tw6739117234769933201 tw13247488433424912243 tw16085111934883308769 tw7722739156571775529 tw7388802791596500062 tw10575096834895241134 tw8153847012924701881 tw18424625827980433418 tw7187786535979453588 tw10429471566870640828 tw10919810040532294441 tw11419758551540676827 tw7455425848574245600 tw9191046492284656512 tw15907858055863957899 tw18116428314188603408 tw11295014229735088450 tw5739094454034804197 tw508325690683840831 tw10840464913776047219 tw13431154394287899060 tw8437701487681242284 tw5311402215024090815 tw6334711950548652617 tw2653872382403971438 tw285878609548223876 tw13703607955797756005 tw14464910505598795503 tw7469159065959888967 tw16211313854947762837 tw14447457920790790961 tw16892278464545821780 tw8417288044509611277 tw5556359080326144961 tw3727620891176745045 tw7128406625160911603 tw11294044647629426895 tw3586535271011985715 tw17251986549884932155 tw5305879169555391269 tw11924869506501833309 tw14227031343665197799 tw9393888267564520542 tw657657641842383780 tw2135901968643681871 tw16957360225097205656 tw15154476103250501648 tw2154868925444862003 tw6996748478600756251 tw10781869919455879495 tw4455201241350989912 tw16087126382778554043 tw17422864098394003345 tw12641551203552619035 tw7093780732623795346 tw16255145037556245916 tw10528886346754635267 tw12258992649181052432 tw10541930466256746431 tw11878130969702228398 tw525130561625120420 tw15167690355166958780 tw6593545181797733972 tw3907801472604409769 tw10095164159430387476 tw15559534735509933211 tw11271505720722718037 tw11292670944141748260 tw3450829975585114954 tw9468257289416903622 tw13162209863066552162 tw2107195024743157604 tw7797022392067827486 tw7136815341687392304 tw3293261897613736618 tw9916857142986135646 tw1458184683815828334 tw5873950996217462940 tw3235867770146824180 tw12867940308161133711 tw7073073650790394509 tw7742600823870136218 tw15227061955804969921 tw10825656981540646858 tw7383820372445641498 tw1149056467419372168 tw2496850214621486674 tw10494008966699264575 tw2359418134836261300 tw17500031415324331476 tw5049698102024107834 tw4090516608027042158 tw3764384456427261733 tw9602351523583781242 tw11728260306257630542 tw125225256669062074 tw17650049167970956526 tw555641532976376183 tw14745304818636143034 tw5407156245550189116 tw7105079746747950185 tw4835825351188178665 tw16801024525789612355 tw17095276285934494305 tw9977282323708393094 tw12222585029026321137 tw12237761209841820913 tw15142118625548766673 tw8176470093955445138 tw13284090491115333064 tw12600684447726300160 tw6666490008590898474 tw426267814875655571 tw7712798841148539721 tw216491031351309653 tw7631703157208044392 tw12677213772770678553 tw7131069701247561966 tw14385983934939624997 tw18384049615645872186 tw7810518892601292338 tw4625805919759368266 tw11266678302045165003 tw12698387254602054582 tw2620198734026416407 tw8944908650987095771 tw4908634801856393696 tw9422330798311332675 tw2058750286690491857 tw14784025317590311706 tw4466551443696374749 tw1659218653798828072 tw16322868395180566715 tw8510261575929470109 tw10395254388522089236 tw10072499804730594129 tw11171441047726050710 tw5201908138916219678 tw2478643784851798051 tw1374597874482698509 tw2786041177168578957 tw8787509784377091929 tw16272308963650809641 tw6021733001084767049 tw17305405317812531192 tw15463270913401403357 tw8233112702978116974 tw18321123444378399786 tw13669195758976955968 tw9154731316158712905 tw6101509053343652531 tw6804022052453436117 tw17140614059824460301 tw17678190378746753507 tw1153836021067549968 tw18246091502828602342 tw8624934843203910051 tw888265402033564794 tw17254813154261940301 tw3660530607259776572 tw3373867191786267953 tw15622470112599162957 tw12370890278027979216 tw7000660580322748226 tw7403667805792330575 tw4714029107929692590 tw13865166802289448022 tw4818377055505593839 tw6376791474316853534 tw15333909158448309425 tw17614183958742498712 tw15411993745097342517 tw3558076578914651233 tw15353573048154428661 tw13032103029374399750 tw10896576907337972684 tw15259348800620367149 tw13340710821080660239 tw491841532685662968 tw16194838173987656540 tw429745025454241261 tw10145909210085460319 tw10791640992889548725 tw11914261159005768420 tw5021783756197615702 tw835346371361520460 tw93639771969562815 tw1917129061510325495 tw2022819266131211688 tw15976470434462133309 tw8847711824147843598 tw15348200688312046091 tw4269004085089447112 tw6369098391796368079 tw2201375466934969434 tw1788524308793196848 tw18083383929598848224 tw9178152784220807711 tw7523243198132954467 tw17145018531488633342 tw11634567196698147493 tw14444838857579633363 tw18236355736763188474 tw13068875475963119533 tw12596373438056990700 tw14561153006352772577 tw16262561602370844488 tw15483227634995492727 tw12948309605673330431 tw107991847978770424 tw16582986127476191188 tw7171935204425270680 tw15256092756811264398 tw8936890341699196889 tw9362349739269654836 tw5175937923847018073 tw15311351502366893333 tw9397748378432288536 tw13166003009483293748 tw8093766552945151992 tw7223728185068235015 tw10145254781257914955 tw17118187977283035734 tw14986549676665733395 tw6177304094114798851 tw5270163484092563368 tw2564640538850076878 tw748321875486110313 tw5959430331543984577 tw4347721798600837605 tw6069078673477703953 tw4257073688315652286 tw1201119234831823018 tw12029502370490585450 tw17539148821361053684 tw18050795674421919743 tw6297016547027782066 tw16928405382461229370 tw2090102599481671145 tw13368684452123757616 tw2519070203074103203 tw8545938769917048462 tw14372155893085244052 tw16157309513379785729 tw2698897563092334614 tw13554176320186074092 tw16010032844748775106 tw14149631060828468379 tw10271225673994158777 tw196432239054601622 tw1831812989342934280 tw1004773310585948553 tw2809255304700190134 tw5976963897794004841 tw4753501716772689634 tw5297235784574130709 tw4876436811152913732 tw10779737995875181826 tw17964998704484515661 tw7594349688102256880 tw3934335885615091861 tw1545874494235109791 tw14790259060418833292 tw8568581494514428187 tw5088980204513297203 tw263962314220221173 tw11138554889893388218 tw8449687739236754967 tw11468339239793979938 tw13354330252992505985 tw16177449036167044324 tw15265732717531776331 tw5529150967584374666 tw13324923584350256546 tw17013958507542942384 tw1522152894544465824 tw11591452833338859360 tw6181532962539255325 tw12881682709915545136 tw16641540558828058964 tw6260531466858721409 tw4547247047875781470 tw10308529408313973213 tw5772813028407260518 tw2801051809825612511 tw422092245164157139 tw924810235342859574 tw1990046681188651804 tw18419745633153393161 tw16481498559695460383 tw15019912346493804933 tw12480083126047936932 tw8182766424450436596 tw6658027637936270638 tw917658685584231891 tw13861502804379586296 tw5708461065470632253 tw12115426899069998181 tw7570075066769273292 tw5437597726095348257 tw13411873960886813641 tw16767260585187175710 tw1009829631169530775 tw8783937825952879648 tw13071100999912452030 tw10148752935688337326 tw4129575826480698319 tw2850134030216068862 tw8228793427475719781 tw11740761241819111579 tw3163992424574283388 tw13642213717147665131 tw10261415997479752151 tw1955605517438962537 tw11385852037397651015 tw14031477938394240693 tw11165831369874708329 tw6602010755573496259 tw4169912156781479819 tw5707195913587430291 tw12326186087031071407 tw10962970407173517455 tw13849370030080176507 tw6274620077022275826 tw5199331613789332649 tw8745255644216910905 tw11617187274286456208 tw5481620105317414625 tw5908343980058461331 tw9379703584412389161 tw4401761525206478298 tw11160436760470476091 tw6355160292843402976 tw12530247520203868938 tw10186801421092057543 tw7860513992569326364 tw14734499366823254205 tw13996207212547367495 tw3058327453683145281 tw8058959569941410050 tw13557343467915384312 tw3671863392264456889 tw5824041958312089529 tw15598538159392128363 tw8263852317097218581 tw17060688401515272502 tw7873762875457426933 tw9661198673048319659 tw16554098076894238592 tw12223471664464319080 tw7006725600649173593 tw7479762595512655481 tw12625645945937768718 tw9030877608781643132 tw2270770975285955558 tw2780893411448851549 tw6908422033629265488 tw18206100220255586134 tw1499889755048782623 tw17782965917924591127 tw12463947662837890590 tw16183807587746999894 tw7423798598933900962 tw4293650659502660918 tw14687424406453307716 tw2572251006871818862 tw8205600826452750441 tw9356368005039109233 tw6225706609701355013 tw6416454437658463672 tw14656284085850974881 tw8420699579643378219 tw9356108453701061781 tw10030577799306786386 tw14538014018746909828 tw12491962163576714069 tw3053590212916139158 tw509857188256020587 tw16218576499259850139 tw11995485049916418114 tw220448883421973635 tw4418111093983288787 tw15003583480034403071 tw15897636967457715078 tw5180557493594828146 tw7652854822207084877 tw15486634541314797380 tw7505340239947315834 tw1259802543696997821 tw13992453345850609612 tw5738931218724614943 tw11857902532833571752 tw14108220003401953715 tw263472625703647648 tw3123532345958744295 tw6042840298067341904 tw9655198585739014863 tw12278274513102194310 tw8403827090279793161 tw769021486710373611 tw2766506773288065366 tw6092519909745538638 tw18114394023136879553 tw18122135904148581129 tw10630435766534111359 tw2187390422465964961 tw12204695017905970543 tw2043106553706797111 tw10284449558229636555 tw10433079911469422545 tw1166466373883560326 tw16762427464193371568 tw8948694814285435533 tw6191697991566464116 tw13424161867330015799 tw12497242054738870006 tw5109036007845578662 tw109734100437876672 tw2855136553431626060 tw11699484887324077910 tw16944504071203784566 tw4993482699959916177 tw11962870218872153208 tw15852744495519525649 tw770673310999680064 tw10452065357028219964 tw13566760928780835756 tw5592599401115849158 tw9070625348360298964 tw4689119199359565322 tw1922565423874125204 tw14696011595045413565 tw14684630364108980151 tw6941971948157720980 tw12528263623863573605 tw4569559512561246610 tw3577453172567425463 tw8888361786008569027 tw1040600495810107497 tw10605844674011625892 tw17091904065550028092 tw15397383350403611507 tw4374256057020166129 tw1951392130108859423 tw14140978160579223652 tw3767126985847317877 tw17368643100099052288 tw5867386645408680144 tw12227098298900145574 tw15983691482914532736 tw7399981848072437101 tw13819462617758496028 tw60662828526863087 tw18365125470496102084 tw12101160169988747978 tw284669599973481738 tw4311982824040671578 tw8953933955892276577 tw11973021692058134402 tw3108312823233549658 tw288695781218593428 tw14102708620997841558 tw2067046869078003452 tw3464952328391754694 tw18356599728803967183 tw8209744970023315543 tw6730979773472926033 tw10575714867227815463 tw405606172150861314 tw552576622824313473 tw8317026319806916504 tw15577642128848454220 tw17773061297020753926 tw16703974010943524813 tw6262529999318500936 tw5020503488715016695 tw13792415200282788744 tw14181612655071207199 tw12469387835614318923 tw9246133390066693928 tw10541011048965839023 tw991719429469054654 tw8508680177193559272 tw9798484878879613737 tw17854528212964374646 tw1633438242350031016 tw14708839146360460218 tw1816076801097009910 tw6855539092171612100 tw4361209717509198938 tw5105658041620169590 tw4382357934815477709 tw7973641687524150853 tw8057045386019115706 tw11856141169727874064 tw14175352743563546325 tw237518453348780884 tw14866253971511470771 tw17378955421471446300 tw6201671513805624324 tw15441094408907073079 tw90671024798628585 tw1537344915494813755 tw5885550397833298391 tw10222251872943522340 tw3302351775982162237 tw4268567835410805824 tw11028716042252346356 tw271174720027758119 tw7973194994288007834 tw10723042961806078655 tw7179566575849804502 tw6601563494926159605 tw4928424283969500678 tw4675083447114092921 tw360585831645986877 tw10620518795515146916 tw10388359618896643891 tw4592365735123056694 tw10604394213511177440 tw17202890117761263817 tw12854572020773123181 tw16461956342182880253 tw12511274774631338720 tw5177274793713319704 tw1598423732337963086 tw12073298696145738090 tw16375228682814396389 tw8233201051973730214 tw2187803780762103819 tw11460783122354889880 tw2236769468750221669 tw11989101814878262873 tw7590762095737927824 tw797131003083176379 tw2337490370419584874 tw14107728283234906962 tw17645133085579617824 tw12920077933639028804 tw13048236214268341729 tw18317480929402337539 tw5862951887895697649 tw16234493298616700612 tw17785291730986320509 tw15941117249684593980 tw60088480470428633 tw8385176141340803049 tw6744636717013081177 tw898973414736104043 tw13347782521829268039 tw12832228256858215428 tw29837579152940700 tw13276939744355376875 tw8216212797247125159 tw13556427462005203433 tw2086975409226713145 tw13796367765775220724 tw12438284118277917537 tw2404573862862023583 tw2428494096982797001 tw2356246690971278388 tw12731576060868378615 tw4841173041509471260 tw8251841386162915905 tw3745168510779235656 tw12148827891131135744 tw18289536031051310928 tw15042018874599775572 tw1007954976146978672 tw8114828566093435700 tw9314158776285534506 tw8793603013118402681 tw18105800504767403939 tw9692974259218259284 tw17387554305018650985 tw9561641672074026904 tw9833792197393395973 tw4075500641519778282 tw8909597129907646763 tw1675326981897943016 tw2585600307212653159 tw4081037355014933314 tw1168919635491602773 tw1076247029543081129 tw12176074696249126458 tw10081472705744353506 tw5861654614035861647 tw9304913588299885737 tw17697536348570429031 tw16199846446189089850 tw2815667419818882104 tw16865465822335430566 tw16160262977126266335 tw9406932895854434448 tw5597251394739012223 tw2856213213583821129 tw8479779553326558215 tw8287141768756126238 tw5085199471751675994 tw5086711412364444863 tw14646069378981454503 tw3662865013580560265 tw5245871119344013268 tw13391604787737858052 tw16740642434074028259 tw7223419262737185572 tw3172443072556899219 tw4667474233856299031 tw11800177228594159993 tw9855672654511626735 tw15114372254859143025 tw11620018898843613441 tw7616101348750781856 tw2409914729488678228 tw13738423499966503352 tw14280228471617897810 tw3002168959139145953 tw3645283342512811706 tw12794647335678439772 tw5169120951883392376 tw18135884100753725952 tw6801363327465409012 tw11927033418386111347 tw17592598926182954394 tw7992655994681817840 tw7990499780356658912 tw13372649336735162289 tw10443534660965537362 tw244528964982487618 tw6219790679157087272 tw11579747185931997733 tw17001458669752110064 tw5156451500509441330 tw8353840388316328657 tw12358654236280828910 tw10924590384983210093 tw49730292314059856 tw1499444186588377040 tw9100888802527996706 tw18122547549471616879 tw4825622549042277765 tw5769534331933571558 tw5670696966375777840 tw12208641057614390497 tw1706016248406327708 tw3774973640121585670 tw4513503531988371383 tw14889245184004352534 tw9167389073935957092 tw11854747815551708904 tw6536338741580893001 tw15037237514105208122 tw17590257934666111605 tw10040540001260061329 tw11111746902123043096 tw5732742098698000834 tw9655004983346681805 tw16834834896537589788 tw17562045549925183812 tw3941495409416763966 tw1452903510671501548 tw10226858478349841747 tw3205647087506708130 tw18362286308844589016 tw13076067788546907489 tw15059579597468786574 tw8456619355937490316 tw16116017294584060138 tw15955800876710236599 tw245291103285056923 tw1715688608838503692 tw10089156514929098071 tw2398447834729636048 tw15084444422341051489 tw17671341286363532148 tw9552701312416946673 tw11199683335793589867 tw7255195617891908932 tw16714649989950840684 tw6477093100803328907 tw11398586584998124964 tw3067850465524916594 tw15338258127196793662 tw12478888052401422360 tw1452723303520147917 tw15496728996585518286 tw3843689926531269128 tw10799888170693340128 tw5534881933886598059 tw1537036506551982687 tw1857614547495174381 tw109340725039471266 tw5255676556148855436 tw8857515974640326759 tw13222463227308135073 tw17420546276781818304 tw3140239467918512815 tw7155231199161263400 tw10314635797498856588 tw10663858354115078991 tw4489650150577611857 tw17635550408257242711 tw6125500667664011496 tw10110412452894977972 tw16859679362769348782 tw837468926723962571 tw798827180866795145 tw9367469515569796644 tw12534839007252801215 tw17978095649611016449 tw10425317562514771069 tw12551141116298910289 tw16587841764277923433 tw726811997984931674 tw6672735639539191727 tw14785978175457353559 tw4758039419149008597 tw12764715253633918276 tw10771019812196064503 tw13918804280370480457 tw1330166164980792008 tw6851305682855094222 tw242754748027752053 tw7280857239439689329 tw4620930360772079766 tw15746769981246056139 tw6420105183001512719 tw17443406940107403633 tw12976647522217911778 tw12690903384353506989 tw16623573755364309867 tw14063134847340474009 tw7020779982939061271 tw16354391729112870521 tw3131861072899109100 tw5888745171133949443 tw15118899166715848782 tw14673800494583951442 tw10909261176764740694 tw6287408338106745545 tw11387331151097219111 tw8241560212258595343 tw11499006638311150992 tw10789541941434099590 tw10253961703722546441 tw2026163485346884306 tw17678400237440423002 tw4576352529760041643 tw4050178887790211051 tw13233000535039696715 tw7177316114204847448 tw2208223550425682572 tw10127611278230645475 tw8952844432680461644 tw8037396096430806440 tw13714947207873555174 tw7784055593483563663 tw6528432641625159513 tw12331039222737208277 tw7162933244463960383 tw16519347886754856201 tw11169526705668800072 tw14618120305695310147 tw10543988460111180264 tw1846594270592150573 tw6968545850241626855 tw14782544297629518734 tw10176794680621151223 tw15393437935849200359 tw3064535229303940841 tw4594659176029927818 tw6537383197102495769 tw15585675223529149116 tw11085597812608531446 tw1291088821439819743 tw9016941343977273682 tw2619051301946690007 tw12075804196611601184 tw15854793437808702329 tw5317524475891403405 tw5432944046322006810 tw7733219771657162466 tw2567444742695339670 tw4446129614632164965 tw10052378909355578840 tw18175477068945064762 tw10973209424756470867 tw10079325780934643480 tw4573633441078689289 tw4700630198135524692 tw5958156907243042027 tw3383316702242543974 tw2015644151731362446 tw6499829289422680295 tw14382332609612517328 tw11966841695561229055 tw8394227695678774505 tw13188276771745780191 tw1409006603038445883 tw8270778757039294178 tw11591336659298675579 tw2681085699671124897 tw8055688761900181530 tw11844365424379078630 tw5208009263789441909 tw14289822003678896196 tw518189639562261615 tw3343581706809563901 tw18214892240905099692 tw7638657746102960246 tw15182027097230785247 tw5250375689361515401 tw7052618549040556617 tw9922279913015883406 tw6899624698575103351 tw13091491054387029664 tw507521919515048210 tw5379728319693498726 tw164979222208530352 tw13338287820135917623 tw17569307788610733684 tw11852771630418603919 tw10203983419648472405 tw4384636702097911274 tw9660118168967540132 tw7276048752666526003 tw6502750763156819839 tw8984097647009141647 tw17859090644040295002 tw17304332024530711092 tw8317163396964856899 tw13250409083137592526 tw12981694178145922800 tw2215399452881024661 tw1816348643895831996 tw8540590286743850274 tw5315154748222550193 tw16431362081296027675 tw14038670547641396541 tw2406016026802684342 tw18318691200183405574 tw16566092296367715590 tw18315257238078897015 tw11722642436319554110 tw1697080201242067853 tw16037700645785572753 tw4541318671694098249 tw17445492034084705799 tw16908347320642581037 tw18400770165076299446 tw17877025828636648053 tw5818329962504454695 tw110830203686461880 tw15782863490304292152 tw12794987142906111974 tw10142103890253872581 tw4681412802305051534 tw1621627696133093276 tw11664076125142755818 tw14558158908102483574 tw7305756620289258082 tw7603595107210375785 tw4346094445997896325 tw16235356916323734725 tw7590566968525612620 tw8345905802984749569 tw11184624910976789106 tw3050745749545535146 tw12135003139285241579 tw5919447784521493184:True)
open PySem PySem.W PyProof.Rows
set_option maxRecDepth 100000 in
set_option maxHeartbeats 0 in
theorem PySem.Challenge.cw_rowjudge_k82_the_trail_holds : PySem.Challenge.rw_rowjudge_k82_the_trail.Holds := by
 w_on;o_law;k_head;(case hw=>w_witness2)
 k_fill
 refine My.walk (l:=PySem.Challenge.rw_rowjudge_k82_the_trail) rfl rfl (λw h Y=>PySem.W.kIn_of Y) ?F
 case F =>
  intro w mg fa h KX G hmg
  refine' My.all_mk KX G hmg ?dE ?fK ?gR ?iy ?kJ ?kK ?oK ?kL ?oM ?eB ?eA ?iz ?iA ?kM ?sN ?pV ?pW ?pX ?pY ?m8 ?m9 ?nc ?a0 ?F0 ?a1 ?F1 ?a2 ?F2 ?a3 ?F3 ?a4 ?F4 ?a5 ?F5 ?a6 ?F6 ?a7 ?F7 ?a8 ?F8 ?a9 ?F9 ?a10 ?F10 ?a11 ?F11 ?a12 ?F12 ?a13 ?F13 ?a14 ?F14 ?a15 ?F15 ?a16 ?F16 ?a17 ?F17 ?a18 ?F18 ?a19 ?F19 ?a20 ?F20 ?a21 ?F21 ?a22 ?F22 ?a23 ?F23 ?a24 ?F24 ?a25 ?F25 ?a26 ?F26 ?a27 ?F27 ?a28 ?F28 ?a29 ?F29 ?a30 ?F30 ?a31 ?F31 ?a32 ?F32 ?a33 ?F33 ?a34 ?F34 ?a35 ?F35 ?a36 ?F36 ?a37 ?F37 ?a38 ?F38 ?a39 ?F39 ?a40 ?F40 ?a41 ?F41 ?a42 ?F42 ?a43 ?F43 ?a44 ?F44 ?i45 ?Aw ?Ax ?Ay ?F45 ?i46 ?Az ?AA ?AB ?F46 ?i47 ?AD ?AE ?AF ?F47 ?wx ?wz ?wA ?F48 ?i49 ?AG ?AH ?AI ?F49 ?wB ?wC ?wD ?F50 ?i51 ?AJ ?AK ?AL ?F51 ?wF ?wG ?wH ?F52 ?i53 ?AM ?AN ?AO ?F53 ?wI ?wJ ?wK ?F54 ?i55 ?AQ ?AR ?AS ?F55 ?wL ?wM ?wN ?F56 ?i57 ?AU ?AV ?AW ?F57 ?wO ?wQ ?wR ?F58 ?m59 ?AX ?F59 ?m60 ?AY ?F60 ?i61 ?AZ ?A1 ?A2 ?F61 ?wU ?wV ?wW ?F62 ?i63 ?A3 ?A4 ?A5 ?F63 ?wX ?wY ?wZ ?F64 ?m65 ?A6 ?F65 ?m66 ?A7 ?F66 ?m67 ?A8 ?F67 ?m68 ?A9 ?F68 ?m69 ?Ba ?F69 ?m70 ?Bb ?F70 ?m71 ?Bc ?F71 ?m72 ?Bd ?F72 ?m73 ?Be ?F73 ?m74 ?Bf ?F74 ?m75 ?Bg ?F75 ?m76 ?Bh ?F76 ?m77 ?Bi ?F77 ?m78 ?Bj ?F78 ?m79 ?Bk ?F79 ?m80 ?Bm ?F80 ?m81 ?Bo ?F81 ?m82 ?Bp ?F82 ?a83 ?F83 ?z0 ?z1 ?z2 ?z3 ?z4 ?z5 ?z6 ?z7 ?z8 ?z9 ?z10 ?z11 ?z12 ?z13 ?y0 ?x0 ?y1 ?x1 ?y2 ?x2 ?y3 ?x3 ?y4 ?x4 ?y5 ?x5 ?y6 ?x6 ?x_NoTable ?jv ?jw ?jx ?jy ?jz ?jA ?jB ?jC ?ke ?kf ?kg ?kh ?lK ?lL ?lM ?lN ?lO ?lP ?lQ ?lR ?pZ ?p4 ?p5 ?p7 ?lS ?lT ?lU ?lV ?p8 ?p9 ?qc ?qd ?gw ?gx ?gy ?gA ?ki ?kj ?kl ?km ?kn ?ko ?kq ?kr ?lW ?lX ?lY ?lZ ?ng ?nh ?ni ?nj ?qe ?qf ?qg ?qh ?qi ?qj ?qk ?ql ?sO ?sP ?sQ ?sR ?qm ?qo ?qp ?qq ?sS ?sT ?sU ?sV ?jD ?jE ?jF ?jG ?nk ?nq ?nr ?nt ?nv ?nA ?nB ?nC ?qr ?qt ?qu ?qv ?na_First_called ?na_Only_called ?na_Like_called ?na_Low_called ?na_High_called ?na_Sum_called ?na_Numbers_low ?na_Numbers_high ?cV ?na_Words_low ?na_Words_high ?na_Words_words ?na_Table_name ?na_Table_names ?na_Table_domains ?na_Table_outcome ?na_Table_way ?na_Table_rows ?na_Book_facts ?na_Book_tables ?f_nn ?f_wn ?f_ww ?xD ?f_nw ?iB ?fZ ?iC ?iD
  (case dE | fK | gR | iy | kJ | kK | oK | kL | oM | eB | eA | iz | iA | kM | sN | pV=>k_is)
  (case pW=>decide)
  (case pX=>exact (.cons ⟨_,rfl⟩ (.cons ⟨_,rfl⟩ .nil)))
  (case pY | m8=>k_is)
  (case m9=>decide)
  (case nc=>exact (.cons ⟨_,rfl⟩ (.cons ⟨_,rfl⟩ .nil)))
  (case a0 | a1 | a2 | a3 | a4 | a5 | a6 | a7 | a8 | a9 | a10 | a11 | a12 | a13 | a14 | a15 | a16 | a17 | a18 | a19 | a20 | a21 | a22 | a23 | a24 | a25 | a26 | a27 | a28 | a29 | a30 | a31 | a32 | a33 | a34 | a35 | a36 | a37 | a38 | a39 | a40 | a41 | a42 | a43 | a44 | a83=>delta My.GIn;k_is)
  (case i45 | i46 | i47 | wA | i49 | wD | i51 | wH | i53 | wK | i55 | wN | i57 | wR | m59 | m60 | i61 | wW | i63 | wZ | m65 | m66 | m67 | m68 | m69 | m70 | m71 | m72 | m73 | m74 | m75 | m76 | m77 | m78 | m79 | m80 | m81 | m82=>k_is)
  (case F0 | F1 | F2 | F3 | F4 | F5 | F6 | F7 | F8 | F9 | F10 | F11 | F12 | F13 | F14 | F15 | F16 | F17 | F18 | F19 | F20 | F21 | F22 | F23 | F24 | F25 | F26 | F27 | F28 | F29 | F30 | F31 | F32 | F33 | F34 | F35 | F36 | F37 | F38 | F39 | F40 | F41 | F42 | F43 | F44 | F45 | F46 | F47 | F48 | F49 | F50 | F51 | F52 | F53 | F54 | F55 | F56 | F57 | F58 | F59 | F60 | F61 | F62 | F63 | F64 | F65 | F66 | F67 | F68 | F69 | F70 | F71 | F72 | F73 | F74 | F75 | F76 | F77 | F78 | F79 | F80 | F81 | F82 | F83=>refine' L2.fun_mk ?l ?c ?k;(case l=>k_is);(case c=>k_is);(case k=>k_is))
  (case Aw | Ax | Ay | Az | AA | AB | AD | AE | AF | wx | wz | AG | AH | AI | wB | wC | AJ | AK | AL | wF | wG | AM | AN | AO | wI | wJ | AQ | AR | AS | wL | wM | AU | AV | AW | wO | wQ | AX | AY | AZ | A1 | A2 | wU | wV | A3 | A4 | A5 | wX | wY | A6 | A7 | A8 | A9 | Ba | Bb | Bc | Bd | Be | Bf | Bg | Bh | Bi | Bj | Bk | Bm | Bo | Bp=>k_is)
  (case z0 | z1 | z2 | z3 | z4 | z5 | z6 | z7 | z8 | z9 | z10 | z11 | z12 | z13 | y0=>k_is)
  (case x0=>exact ⟨_,rfl⟩)
  (case y1=>k_is)
  (case x1=>exact ⟨_,rfl⟩)
  (case y2=>k_is)
  (case x2=>exact ⟨_,rfl⟩)
  (case y3=>k_is)
  (case x3=>exact ⟨_,rfl⟩)
  (case y4=>k_is)
  (case x4=>exact ⟨_,rfl⟩)
  (case y5=>k_is)
  (case x5=>exact ⟨_,rfl⟩)
  (case y6=>k_is)
  (case x6=>exact ⟨_,rfl⟩)
  (case ke | kf | kg | kh | lK | lL | lM | lN | lO | lP | lQ | lR | pZ | p4 | p5 | p7 | lS | lT | lU | lV | p8 | p9 | qc | qd | gw | gx | gy | gA | ki | kj | kl | km | kn | ko | kq | kr | lW | lX | lY | lZ | ng | nh | ni | nj | qe | qf | qg | qh | qi | qj | qk | ql | sO | sP | sQ | sR | qm | qo | qp | qq | sS | sT | sU | sV | jD | jE | jF | jG | nk | nq | nr | nt | nv | nA | nB | nC | qr | qt | qu | qv | na_First_called | na_Only_called | na_Like_called | na_Low_called | na_High_called | na_Sum_called | na_Numbers_low | na_Numbers_high | cV | na_Words_low | na_Words_high | na_Words_words | na_Table_name | na_Table_names | na_Table_domains | na_Table_outcome | na_Table_way | na_Table_rows | na_Book_facts | na_Book_tables=>first | k_is | rfl | with_unfolding_all rfl)
  (case x_NoTable=>first | rfl | with_unfolding_all rfl)
  (case jv | jw | jx | jy | jz | jA | jB | jC | f_nn | f_wn | f_ww | xD | f_nw | iB | fZ | iC | iD=>first | k_is | rfl | with_unfolding_all rfl)
