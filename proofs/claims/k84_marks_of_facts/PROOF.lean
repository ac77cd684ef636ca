import PyProof.Rows.All
import Wide.All
import OpenK.AllK
import Wide.FinOn
import Lean
import PyProof.EqAt
import PyProof.EqKinds
import PyProof.TupleCall
import KE.KIntText
import KE.KTryMore
import KE.KIsAll
import PyProof.ZipIter
import KE.KRevIter
import PyProof.AttrMissHeap
import KE.KDictOf
import PyProof.DictUpdate
import PyProof.DictList
import PySem.Challenge.RW_rowjudge_k84_marks_of_facts
set_option Elab.async false
set_option linter.all false
set_option maxRecDepth 100000
theorem E3 {α:Type _} {l:List α} {i:Nat} (h:i<l.length):l[i]?=some l[i]:=List.getElem?_eq_getElem h
theorem E4 {α:Type _} {a:α} {l:List α} {i:Nat}:l[i]?=some a ↔ ∃ h:i<l.length, l[i]=a:=List.getElem?_eq_some_iff
theorem E5 {α:Type _} {l:List α} {i:Nat} {a:α} (e:l[i]?=some a):a ∈ l:=List.mem_of_getElem? e
namespace L2
open PySem PySem.Spec PyProof.Rows
abbrev Key:=Sum Int Str
def pZ:Key->Value->Bool
 | .inl k,v=>Value.isInt k v
 | .inr x,v=>Value.isStrOf x v
def zS (w:World):Key->Int
 | .inl k=>hashInt k
 | .inr x=>hashStr w x
theorem bH:∀ {k:Key} {v:Value},pZ k v=true->(∃ i t,k=Sum.inl i/\v=Value.int i t)\/(∃ x t,k=Sum.inr x/\v=Value.str x t)
 | .inl i,v,h=>by
  obtain ⟨t,e⟩:=Value.isInt_shape (k:=i) (v:=v) h
  exact .inl ⟨i,t,rfl,e⟩
 | .inr x,v,h=>by
  obtain ⟨t,e⟩:=Value.isStrOf_shape (x:=x) (v:=v) h
  exact .inr ⟨x,t,rfl,e⟩
theorem qw (x:Str) (t:Tok):pZ (.inr x) (.str x t)=true:=by simp [pZ,Value.isStrOf]
theorem vq (a b:Int):decide ((Sum.inl a:Key)=Sum.inl b)=(a == b):=by
 by_cases e:a=b
 ·subst e;simp
 ·have h:¬ (Sum.inl a:Key)=Sum.inl b:=λq=>e (Sum.inl.inj q)
  rw [decide_eq_false h]
  exact (beq_eq_false_iff_ne.mpr e).symm
theorem vt (a b:Str):decide ((Sum.inr a:Key)=Sum.inr b)=decide (a=b):=by
 by_cases e:a=b
 ·subst e;simp
 ·have h:¬ (Sum.inr a:Key)=Sum.inr b:=λq=>e (Sum.inr.inj q)
  rw [decide_eq_false h,decide_eq_false e]
theorem vw (a:Int) (b:Str):decide ((Sum.inl a:Key)=Sum.inr b)=false:=decide_eq_false (λq=>nomatch q)
theorem vx (a:Str) (b:Int):decide ((Sum.inr a:Key)=Sum.inl b)=false:=decide_eq_false (λq=>nomatch q)
def hZ (prog:Program) (w:World):PySem.KeyKind prog w Key where
 is:=pZ
 hash:=zS w
 inj:=λv a b ha hb=>by
  rcases bH ha with ⟨i,t,rfl,rfl⟩ | ⟨x,t,rfl,rfl⟩
  ·rcases bH hb with ⟨j,u,rfl,e⟩ | ⟨y,u,rfl,e⟩
   ·injection e with e1 _;rw [e1]
   ·exact nomatch e
  ·rcases bH hb with ⟨j,u,rfl,e⟩ | ⟨y,u,rfl,e⟩
   ·exact nomatch e
   ·injection e with e1 _;rw [e1]
 byValue:=λk v h=>by
  rcases bH h with ⟨i,t,rfl,rfl⟩ | ⟨x,t,rfl,rfl⟩ <;> rfl
 pyHash:=λhv h=>by
  rcases bH hv with ⟨i,t,rfl,rfl⟩ | ⟨x,t,rfl,rfl⟩
  ·exact wpAny_pyHash_int h
  ·exact wpAny_pyHash_str h
 eqBool:=λhu hv h=>by
  rcases bH hu with ⟨i,t,rfl,rfl⟩ | ⟨x,t,rfl,rfl⟩
  ·rcases bH hv with ⟨j,u,rfl,rfl⟩ | ⟨y,u,rfl,rfl⟩
   ·rw [vq] at h;exact wpAny_eqBool_int h
   ·rw [vw] at h;exact SeqAt.EqAt.int_str i t y u _ _ _ _ h
  ·rcases bH hv with ⟨j,u,rfl,rfl⟩ | ⟨y,u,rfl,rfl⟩
   ·rw [vx] at h;exact SeqAt.EqAt.str_int x t j u _ _ _ _ h
   ·rw [vt] at h;exact wpAny_eqBool_str h
 «strs»:=λk x t v h=>by
  rcases bH h with ⟨i,u,rfl,e⟩ | ⟨y,u,rfl,e⟩
  ·exact nomatch e
  ·injection e with e1 _
   subst e1
   cases v <;> rfl
theorem jf (prog:Program) (w:World) (x:Str) (t:Tok):(hZ prog w).is (.inr x) (.str x t)=true:=qw x t
end L2
namespace L2
open PySem PySem.Spec PyProof.Rows
inductive V where
 | non | bl (b:Bool) | int (i:Int) | str (x:Str) | byt (b:Array UInt8) | flt (b:UInt64) | ref (a:Addr) | ty (n:String)
 deriving DecidableEq
def RelV:V->Value->Prop
 | .non,u=>u=Value.none
 | .bl b,u=>u=Value.bool b
 | .int i,u=>∃ t,u=Value.int i t
 | .str x,u=>∃ t,u=Value.str x t
 | .byt b,u=>∃ t,u=Value.bytes b t
 | .flt b,u=>∃ t,u=Value.float b t
 | .ref a,u=>u=Value.ref a
 | .ty n,u=>u=Value.type n
abbrev Vals:List V->List Value->Prop:=Paired RelV
theorem Vals.length {xs:List V} {us:List Value} (r:Vals xs us):xs.length=us.length:=Paired.length r
theorem Vals.get:∀ {xs:List V} {us:List Value} {i:Nat} {x:V},Vals xs us->xs[i]?=some x->∃ u,us[i]?=some u/\RelV x u
 | _,_,_,_,.nil,e=>by simp at e
 | _,_,0,_,.cons r _,e=>by simp at e;subst e;exact ⟨_,rfl,r⟩
 | _,_,i+1,x,.cons _ t,e=>by
  obtain ⟨u,h1,h2⟩:=Vals.get (i:=i) (x:=x) t (by simpa using e)
  exact ⟨u,by simpa using h1,h2⟩
theorem Vals.set {x:V} {u:Value} (r:RelV x u):∀ {xs:List V} {us:List Value} (i:Nat),Vals xs us->Vals (xs.set i x) (us.set i u)
 | _,_,_,.nil=>.nil
 | _,_,0,.cons _ t=>.cons r t
 | _,_,i+1,.cons q t=>.cons q (Vals.set r i t)
theorem Vals.append:∀ {xs ys:List V} {us ws:List Value},Vals xs us->Vals ys ws->Vals (xs ++ ys) (us ++ ws)
 | _,_,_,_,.nil,s=>s
 | _,_,_,_,.cons r t,s=>.cons r (Vals.append t s)
theorem Vals.take:∀ {xs:List V} {us:List Value} (n:Nat),Vals xs us->Vals (xs.take n) (us.take n)
 | _,_,0,_=>.nil
 | _,_,_+1,.nil=>.nil
 | _,_,n+1,.cons r t=>.cons r (Vals.take n t)
theorem Vals.drop:∀ {xs:List V} {us:List Value} (n:Nat),Vals xs us->Vals (xs.drop n) (us.drop n)
 | _,_,0,r=>r
 | _,_,_+1,.nil=>.nil
 | _,_,n+1,.cons _ t=>Vals.drop n t
def lj:Option V->Option Value->Prop
 | some v,some u=>RelV v u
 | none,none=>True
 | _,_=>False
def KV {κ:Type} : List (κ × V)->List (κ × Value)->Prop:=Paired λ(p:κ × V) (q:κ × Value)=>p.1=q.1/\RelV p.2 q.2
def kV:Key->V
 | .inl i=>.int i
 | .inr x=>.str x
inductive HO where
 | lst (xs:List V)
 | tup (xs:List V)
 | dK (kvs:List (Key × V)) | dT (kvs:List (List Key × V))
 | set (S:Int->Bool) (n:Nat)
 | ins (C dx:Addr) (fs:List (Str × V))
 | own (x:Addr)
 | xd (fs:List (Str × V))
 | met (f x:Addr)
 | rng (lo hi:Int)
 | frz (o:Obj) (u:HO)
 | tbl (ps:Array Value)
 | ext (φ:Heap->Prop)
abbrev Hp:=Addr->Option HO
def upd (H:Hp) (a:Addr) (o:HO):Hp:=λb=>if b=a then some o else H b
theorem ae {H:Hp} {a:Addr} {o:HO} : upd H a o a=some o:=by unfold upd;rw [if_pos rfl]
theorem au {H:Hp} {a b:Addr} {o:HO} (h:b ≠ a):upd H a o b=H b:=by unfold upd;rw [if_neg h]
theorem tY {H:Hp} {a:Addr} {o u:HO} : upd (upd H a o) a u=upd H a u:=by
 funext b;unfold upd;split <;> rfl
theorem bV {H:Hp} {a b:Addr} {o u:HO} (h:H a=some o) (h' : H b=some u) (d:o ≠ u):a ≠ b:=by
 intro e;subst e;rw [h] at h';exact d (Option.some.inj h')
theorem bq {H:Hp} {a b:Addr} {o:HO} (h:H a=some o) (h' : H b=none):a ≠ b:=by
 intro e;subst e;rw [h] at h';cases h'
section
variable (P:Program) (w:World)
def bW (H:Hp) (h:Heap) (a:Addr):HO->Prop
 | .lst xs=>xs.length<=sizeLine/\∃ (its:List Value) (n:Nat),Vals xs its/\h.get? a=some { cls:=.type "list",data:=.seq its.toArray n }
 | .tup xs=>xs.length<=sizeLine/\∃ its:List Value,Vals xs its/\IsTup h a its.toArray
 | .dK kvs=>kvs.length<=sizeLine/\(a == sysModules)=false/\∃ vs,KV kvs vs/\h.DictOf (hZ P w) a vs
 | .dT kvs=>kvs.length<=sizeLine/\(a == sysModules)=false/\∃ xs:List (List Key × Addr × Value),
   Paired (λ(p:List Key × V) (q:List Key × Addr × Value)=>p.1=q.1/\H q.2.1=some (.tup (p.1.map kV))/\RelV p.2 q.2.2) kvs xs /\
   ∃ o es ep,h.get? a=some o/\o.ExactDict/\o.data=.dict es ep/\es.toList=xs.map (entryOfKey (tupleKind (hZ P w)))/\(xs.map (·.1)).Nodup
 | .set S n=>h.SetOf (intKind P w) a S n
 | .ins C dx fs=>H dx=some (.own a)/\fs.length<=1000/\dx ≠ a/\h.get? a=some (PySem.W.instObj C dx) /\
   ∃ mA,h.Ns1 dx mA/\(∀ f,lj (fs.lookup f) (mA f))/\PySem.Within mA (fs.map (·.1))
 | .own _=>∃ o,h.get? a=some o
 | .xd fs=>∃ mA,h.Ns1 a mA/\∀ f,lj (fs.lookup f) (mA f)
 | .rng lo hi=>∃ t u v,h.get? a=some { cls:=.type "range",data:=.fields #[.int lo t,.int hi u,.int 1 v] }
 | .frz o u=>h.get? a=some o/\bW H h a u
 | .tbl ps=>h.get? a=some { cls:=.none,data:=.fields ps }
 | .met f x=>h.get? a=some (PySem.W.methodObj (.ref f) (.ref x))
 | .ext φ=>φ h/\(∃ o,h.get? a=some o)/\∀ h1 h2:Heap,φ h1->(∀ o,h1.get? a=some o->h2.get? a=some o)->φ h2
def HOk (H:Hp) (h:Heap):Prop:=∀ a o,H a=some o->bW P w H h a o
end
section
variable {P:Program} {w:World} {H H' : Hp} {h h' : Heap} {a:Addr} {o:HO}
theorem bW.lt (x:bW P w H h a o):a < h.objs.size:=by
 cases o with
 | lst xs=>obtain ⟨_,_,_,_,e⟩:=x;exact Heap.lt_size e
 | tup xs=>obtain ⟨_,_,_,p⟩:=x;exact p.lt
 | dK kvs=>obtain ⟨_,_,_,_,o,_,_,e,_⟩:=x;exact Heap.lt_size e
 | dT kvs=>obtain ⟨_,_,_,_,o,_,_,e,_⟩:=x;exact Heap.lt_size e
 | set S n=>obtain ⟨o,_,_,_,e,_⟩:=x;exact Heap.lt_size e
 | ins C dx fs=>obtain ⟨_,_,_,e,_⟩:=x;exact Heap.lt_size e
 | own y=>obtain ⟨_,e⟩:=x;exact Heap.lt_size e
 | xd fs=>obtain ⟨_,⟨_,_,_,e,_⟩,_⟩:=x;exact Heap.lt_size e
 | rng lo hi=>obtain ⟨_,_,_,e⟩:=x;exact Heap.lt_size e
 | frz ob u=>obtain ⟨e,_⟩:=x;exact Heap.lt_size e
 | tbl ps=>exact Heap.lt_size (show h.get? a=some _ from x)
 | met f y=>exact Heap.lt_size (show h.get? a=some _ from x)
 | ext φ=>obtain ⟨_,⟨_,e⟩,_⟩:=x;exact Heap.lt_size e
theorem Paired.mapP {α β:Type} {F G:α->β->Prop} : ∀ {l₁:List α} {l₂:List β},Paired F l₁ l₂->(∀ a b,F a b->G a b)->Paired G l₁ l₂
 | _,_,.nil,_=>.nil
 | _,_,.cons r t,f=>.cons (f _ _ r) (Paired.mapP t f)
theorem bW.stay (x:bW P w H h a o) (k:∀ b u,(b=a\/H b=some (.own a))->h.get? b=some u->h'.get? b=some u)
  (ho:∀ b,H b=some (.own a)->H' b=some (.own a)) (ht:∀ b xs,H b=some (.tup xs)->H' b=some (.tup xs)):bW P w H' h' a o:=by
 induction o with
 | lst xs=>obtain ⟨z,its,n,r,e⟩:=x;exact ⟨z,its,n,r,k _ _ (.inl rfl) e⟩
 | tup xs=>obtain ⟨z,its,r,ob,e,c⟩:=x;exact ⟨z,its,r,ob,k _ _ (.inl rfl) e,c⟩
 | dK kvs=>obtain ⟨z,y,vs,r,ob,es,ep,e,c⟩:=x;exact ⟨z,y,vs,r,ob,es,ep,k _ _ (.inl rfl) e,c⟩
 | dT kvs =>
  obtain ⟨z,y,xs,r,ob,es,ep,e,c⟩:=x
  exact ⟨z,y,xs,Paired.mapP r λp q z=>⟨z.1,ht _ _ z.2.1,z.2.2⟩,ob,es,ep,k _ _ (.inl rfl) e,c⟩
 | set S n=>obtain ⟨ob,es,ep,t,e,c⟩:=x;exact ⟨ob,es,ep,t,k _ _ (.inl rfl) e,c⟩
 | ins C dx fs =>
  obtain ⟨d,z,ne,e,mA,⟨od,es,ep,e2,c⟩,r⟩:=x
  exact ⟨ho _ d,z,ne,k _ _ (.inl rfl) e,mA,⟨od,es,ep,k _ _ (.inr d) e2,c⟩,r⟩
 | own y=>obtain ⟨ob,e⟩:=x;exact ⟨ob,k _ _ (.inl rfl) e⟩
 | xd fs=>obtain ⟨mA,⟨od,es,ep,e,c⟩,r⟩:=x;exact ⟨mA,⟨od,es,ep,k _ _ (.inl rfl) e,c⟩,r⟩
 | rng lo hi=>obtain ⟨t,u,v,e⟩:=x;exact ⟨t,u,v,k _ _ (.inl rfl) e⟩
 | frz ob u ih=>obtain ⟨e,q⟩:=x;exact ⟨k _ _ (.inl rfl) e,ih q⟩
 | tbl ps =>
  have e:h.get? a=some { cls:=.none,data:=.fields ps }:=x
  show h'.get? a=some { cls:=.none,data:=.fields ps }
  exact k a _ (.inl rfl) e
 | met f y =>
  have e:h.get? a=some (PySem.W.methodObj (.ref f) (.ref y)):=x
  show h'.get? a=some (PySem.W.methodObj (.ref f) (.ref y))
  exact k a _ (.inl rfl) e
 | ext φ=>obtain ⟨p,⟨o,e⟩,st⟩:=x;exact ⟨st _ _ p λo q=>k _ _ (.inl rfl) q,⟨o,k _ _ (.inl rfl) e⟩,st⟩
theorem HOk.lt (x:HOk P w H h) (e:H a=some o):a < h.objs.size:=(x a o e).lt
theorem HOk.fresh (x:HOk P w H h) (e:h.objs.size<=a):H a=none:=by
 cases q:H a with
 | none=>rfl
 | some u=>exact absurd (Nat.lt_of_lt_of_le (x.lt q) e) (Nat.lt_irrefl _)
theorem HOk.kept (x:HOk P w H h) (k:∀ b u,h.get? b=some u->h'.get? b=some u):HOk P w H h':=λa o e =>
 (x a o e).stay (λb u _ q=>k b u q) (λ_ q=>q) λ_ _ q=>q
theorem HOk.laid (x:HOk P w H h) (k:∀ b u,h.get? b=some u->h'.get? b=some u) (hp:h.objs.size<=a) (new:bW P w (upd H a o) h' a o):HOk P w (upd H a o) h':=λb u e=>by
 have hn:=x.fresh hp
 by_cases hb:b=a
 ·subst hb;rw [ae] at e;cases e;exact new
 ·rw [au hb] at e
  exact (x b u e).stay (λc v _ q=>k c v q) (λc q=>by rw [au (bq q hn)];exact q) λc xs q=>by rw [au (bq q hn)];exact q
end
def Rd (H:Hp) (a:Addr) (u:HO):Prop:=H a=some u\/∃ o,H a=some (.frz o u)
theorem Rd.ok {P:Program} {w:World} {H:Hp} {h:Heap} {a:Addr} {u:HO} (r:Rd H a u) (x:HOk P w H h):bW P w H h a u:=by
 rcases r with r | ⟨o,r⟩
 ·exact x a u r
 ·obtain ⟨_,q⟩:=x a _ r
  exact q
def Mut:Option HO->Prop
 | some (.lst _)=>True
 | some (.dK _)=>True
 | some (.dT _)=>True
 | some (.set _ _)=>True
 | some (.ins _ _ _)=>True
 | some (.ext _)=>True
 | _=>False
section
variable {P:Program} {w:World} {H:Hp} {h h' : Heap} {x e:Addr} {o' : HO}
theorem HOk.write (ok:HOk P w H h) (mu:Mut (H x)) (he:e=x\/H e=some (.own x)) (k:∀ b u,b ≠ e->h.get? b=some u->h'.get? b=some u) (heo:∃ u,h'.get? e=some u)
  (new:bW P w (upd H x o') h' x o'):HOk P w (upd H x o') h':=λb u q=>by
 have xP:∀ c y,H c=some (.own y)->c ≠ x:=λc y r z=>by subst z;rw [r] at mu;exact mu
 have zT:∀ c xs,H c=some (.tup xs)->c ≠ x:=λc xs r z=>by subst z;rw [r] at mu;exact mu
 by_cases hb:b=x
 ·subst hb;rw [ae] at q;cases q;exact new
 ·rw [au hb] at q
  by_cases hbe:b=e
  ·have q' : H b=some (.own x):=by
    rcases he with z | z
    ·exact absurd (hbe.trans z) hb
    ·rw [hbe];exact z
   rw [q] at q';cases q'
   obtain ⟨v,hv⟩:=heo
   exact ⟨v,by rw [hbe];exact hv⟩
  ·refine (ok b u q).stay (λc v hc r=>k c v ?_ r) (λc r=>by rw [au (xP c b r)];exact r) λc xs r=>by rw [au (zT c xs r)];exact r
   rcases hc with rfl | hc
   ·exact hbe
   ·rintro rfl
    rcases he with z | z
    ·exact xP c b hc z
    ·rw [hc] at z;cases z;exact hb rfl
end
structure Un (fs ex:List Addr) (H H' : Hp) (h h' : Heap):Prop where
 keep:∀ b o,h.get? b=some o->H b=none->b ∉ fs->b ∉ ex->h'.get? b=some o
 slot:∀ b o,h.get? b=some o->H b=none->b ∈ fs->b ∉ ex->∃ sl,h'.get? b=some { o with slots:=sl }
 free:∀ b o,h.get? b=some o->H b=none->b ∉ ex->H' b=none
 there:∀ b o,h.get? b=some o->b ∉ ex->∃ o',h'.get? b=some o'
 tups:∀ b xs,H b=some (.tup xs)->H' b=some (.tup xs)
 frzs:∀ b o u,H b=some (.frz o u)->H' b=some (.frz o u)
 tbls:∀ b ps,H b=some (.tbl ps)->∃ more,H' b=some (.tbl (ps ++ more))
section
variable {fs fs' ex ex' : List Addr} {H H1 H2:Hp} {h h1 h2 h' : Heap} {a x e:Addr} {o:HO}
theorem Un.any (u:Un fs ex H H1 h h1) {b:Addr} {ob:Obj} (q:h.get? b=some ob) (n:H b=none) (hx:b ∉ ex):∃ sl,h1.get? b=some { ob with slots:=sl }:=by
 by_cases hb:b ∈ fs
 ·exact u.slot b ob q n hb hx
 ·exact ⟨ob.slots,u.keep b ob q n hb hx⟩
theorem Un.kept (k:∀ b u,h.get? b=some u->h'.get? b=some u):Un fs ex H H h h' :=
 ⟨λb ob q _ _ _=>k b ob q,λb ob q _ _ _=>⟨ob.slots,k b ob q⟩,λ_ _ _ n _=>n,λb ob q _=>⟨ob,k b ob q⟩,λ_ _ q=>q,λ_ _ _ q=>q,λ_ ps q=>⟨#[],by rw [q];simp⟩⟩
theorem Un.refl:Un fs ex H H h h:=Un.kept λ_ _ q=>q
theorem Un.laid (k:∀ b u,h.get? b=some u->h'.get? b=some u) (hp:h.objs.size<=a) (hn:H a=none):Un fs ex H (upd H a o) h h' where
 keep:=λb u q _ _ _=>k b u q
 slot:=λb u q _ _ _=>⟨u.slots,k b u q⟩
 free:=λb u q n _=>by rw [au (Nat.ne_of_lt (Nat.lt_of_lt_of_le (Heap.lt_size q) hp))];exact n
 there:=λb u q _=>⟨u,k b u q⟩
 tups:=λb xs q=>by rw [au (bq q hn)];exact q
 frzs:=λb u xs q=>by rw [au (bq q hn)];exact q
 tbls:=λb ps q=>⟨#[],by rw [au (bq q hn),q];simp⟩
theorem Un.write (mu:Mut (H x)) (he:e=x\/H e=some (.own x)) (k:∀ b u,b ≠ e->h.get? b=some u->h'.get? b=some u) (heo:∃ u,h'.get? e=some u):Un fs ex H (upd H x o) h h':=by
 have hx:∀ b,H b=none->b ≠ x:=λb n z=>by subst z;rw [n] at mu;exact mu
 have hb:∀ b,H b=none->b ≠ e:=λb n z=>by
  subst z
  rcases he with r | r
  ·exact hx b n r
  ·rw [n] at r;cases r
 have hm:∀ b u,H b=some u->¬ Mut (some u)->b ≠ x:=λb u q nm z=>by subst z;rw [q] at mu;exact nm mu
 refine ⟨λb u q n _ _=>k b u (hb b n) q,λb u q n _ _=>⟨u.slots,k b u (hb b n) q⟩,λb u q n _=>by rw [au (hx b n)];exact n,λb u q _=>?_,
  λb xs q=>by rw [au (hm b _ q λz=>z)];exact q,λb u xs q=>by rw [au (hm b _ q λz=>z)];exact q,λb ps q=>⟨#[],by rw [au (hm b _ q λz=>z),q];simp⟩⟩
 by_cases hbe:b=e
 ·subst hbe;exact heo
 ·exact ⟨u,k b u hbe q⟩
end
def trk (h:Heap) (H:Hp):List Addr:=(List.range h.objs.size).filter λa=>(H a).isSome
def l9 (h:Heap) (H:Hp):Heap:=PySem.W.hideAll h (trk h H)
theorem qx (h:Heap) (H:Hp):(l9 h H).objs.size=h.objs.size:=PySem.W.hideAll_size _ _
theorem rz {h:Heap} {H:Hp} {b:Addr} {o:Obj} (e:h.get? b=some o) (n:H b=none):(l9 h H).get? b=some o :=
 PySem.W.hideAll_get _ e λhm=>by
  have q:(H b).isSome=true:=(List.mem_filter.mp hm).2
  rw [n] at q;simp at q
theorem tZ {h:Heap} {H:Hp} {b:Addr} {o:Obj} (e:(l9 h H).get? b=some o):h.get? b=some o/\H b=none:=by
 have e' : h.get? b=some o:=PySem.W.of_hideAll (trk h H) e
 refine ⟨e',?_⟩
 cases q:H b with
 | none=>rfl
 | some x =>
  have hm:b ∈ trk h H:=List.mem_filter.mpr ⟨List.mem_range.mpr (Heap.lt_size e'),by simp [q]⟩
  have z:(l9 h H).get? b=none:=PySem.W.hideAll_none (trk h H) hm
  rw [z] at e;cases e
def ua (g h:Heap) (L:Addr):List (Addr × Obj):=(List.range h.objs.size).filterMap λa=>if a=L\/(g.get? a).isSome=true then none else (h.get? a).map λo=>(a,o)
def rest (g h:Heap) (L d:Addr):List (Addr × Obj):=(ua g h L).filter λp=>decide (p.1 ≠ d)
end L2
namespace L2
open PySem PySem.Spec PyProof.Rows
structure Mod (K:PySem.W.Frag) (mg:Str->Option Value) (base:Heap):Prop where
 kin:K.In base
 glob:base.Ns mainGlobals mg
 blt:∃ mb,base.Ns builtinsNs mb/\∀ x:Str,x ≠ "__name__" -> mb x=bootBuiltins x
 nolimit:base.NoLimit
structure Cx where
 prog:Program
 w:World
 K:PySem.W.Frag
 mg:Str->Option Value
 base:Heap
 A:Around
 N:List Str
 s₀:Shared
 H₀:Hp
 env:Env
 outer:List Env
 stack:List Env
 ex:List Addr
 fn:Str->Bool
 calm:Bool
 pn:List (Addr × Obj)
 xe:Value->Shared->Prop
def frs (l:List Env):List Addr:=l.filterMap (·.frame)
abbrev Cx.fs (X:Cx):List Addr:=frs X.outer
def Vis (sc:Scope) (x:Str):Prop:=sc.names.lookup x=some .local\/sc.names.lookup x=some .cell\/sc.names.lookup x=some .free
def Loc (sc:Scope) (x:Str):Prop:=sc.names.lookup x=some .local\/sc.names.lookup x=some .cell
def Look (env:Env) (h:Heap) (m:Str->Option Value) (x:Str) (u:Value):Prop :=
 (env.kindOf x=some .local/\m x=some u)\/((env.kindOf x=some .cell\/env.kindOf x=some .free)/\∃ c,env.cells.lookup x=some c/\h.IsCell c (some u))
structure Cx.Ok (X:Cx):Prop where
 mod:Mod X.K X.mg X.base
 kind:X.env.scope.kind=.function
 glob:X.env.globals=mainGlobals
 blt:X.env.builtins=builtinsNs
 above:X.s₀.heap.objs.size<=X.env.locals
 inj:∀ x y c,X.env.cells.lookup x=some c->X.env.cells.lookup y=some c->x=y
 has:∀ x,(X.env.kindOf x=some .cell\/X.env.kindOf x=some .free)->∃ c,X.env.cells.lookup x=some c
 cab:∀ x c,X.fn x=true->X.env.cells.lookup x=some c->X.s₀.heap.objs.size<=c
 hd:X.calm=true->X.A.handled=none
 frames:X.A.frames=some X.stack
 stk:X.stack=X.outer\/(X.stack=X.env :: X.outer/\X.env.frame=some X.env.locals)
 exf:∀ b ∈ X.ex,b ≠ X.env.locals/\∀ x c,X.env.cells.lookup x=some c->c ≠ b
 bs:∀ b o,X.base.get? b=some o->X.s₀.heap.get? b=some o/\X.H₀ b=none
 bsz:X.base.objs.size<=X.s₀.heap.objs.size
 noex:∀ b o,X.base.get? b=some o->b ∉ X.ex
 exfs:∀ b ∈ X.ex,b ∉ X.fs
 funs:X.s₀.heap.FunFrames X.base X.outer
 frf:∀ b ∈ X.fs,X.H₀ b=none
structure Inv (X:Cx) (pins:List (Addr × Obj)) (σ:List (Option V)) (H:Hp) (s:Shared):Prop where
 ok:X.Ok
 os:s.os=X.s₀.os
 bare:AllBare s.gens
 base:Un X.fs X.ex X.H₀ H X.s₀.heap s.heap
 loc:∃ m,s.heap.Ns X.env.locals m/\∀ (i:Nat) (x:Str) (v:V),X.N[i]?=some x->σ[i]?=some (some v)->Vis X.env.scope x->∃ u,RelV v u/\Look X.env s.heap m x u
 cell:∀ x c,X.env.cells.lookup x=some c->∃ v,s.heap.IsCell c v
 free:H X.env.locals=none
 freeC:∀ x c,X.env.cells.lookup x=some c->H c=none
 pin:∀ p ∈ X.pn ++ pins,s.heap.get? p.1=some p.2/\H p.1=none/\p.1 ≠ X.env.locals/\p.1 ∉ X.fs/\∀ v,p.2.data ≠ .cell v
 hok:HOk X.prog X.w H s.heap
 len:σ.length=X.N.length
section
variable {X:Cx} {pins:List (Addr × Obj)} {σ:List (Option V)} {H H' : Hp} {s:Shared} {h' : Heap}
theorem Cx.Ok.nofr (ok:X.Ok) {b:Addr} {o:Obj} (e:X.base.get? b=some o):b ∉ X.fs:=λhb=>by
 have:=(ok.funs.mem hb).1
 rw [e] at this;cases this
theorem Inv.bs (I:Inv X pins σ H s):∀ b o,X.base.get? b=some o->s.heap.get? b=some o/\H b=none:=λb o e =>
 ⟨I.base.keep b o (I.ok.bs b o e).1 (I.ok.bs b o e).2 (I.ok.nofr e) (I.ok.noex b o e),I.base.free b o (I.ok.bs b o e).1 (I.ok.bs b o e).2 (I.ok.noex b o e)⟩
theorem Inv.bk (I:Inv X pins σ H s):∀ b o,X.base.get? b=some o->s.heap.get? b=some o:=λb o e=>(I.bs b o e).1
theorem Inv.mod (I:Inv X pins σ H s):Mod X.K X.mg X.base:=I.ok.mod
theorem Inv.kIn (I:Inv X pins σ H s):X.K.In s.heap:=I.ok.mod.kin.keeps I.bk
theorem Inv.lt (I:Inv X pins σ H s):X.env.locals < s.heap.objs.size:=by obtain ⟨_,hn,_⟩:=I.loc;exact hn.lt
theorem Inv.sz (I:Inv X pins σ H s):X.s₀.heap.objs.size<=s.heap.objs.size:=Nat.le_trans I.ok.above (Nat.le_of_lt I.lt)
theorem Inv.nofs (I:Inv X pins σ H s) {a:Addr} (h:s.heap.objs.size<=a):a ∉ X.fs:=λhb=>by
 obtain ⟨_,o,ho,_⟩:=I.ok.funs.mem hb
 exact absurd (Nat.lt_of_lt_of_le (Heap.lt_size ho) (Nat.le_trans I.sz h)) (Nat.lt_irrefl _)
theorem Inv.cne (I:Inv X pins σ H s):∀ x c,X.env.cells.lookup x=some c->c ≠ X.env.locals:=λx c e z=>by
 obtain ⟨v,o,ho,hd⟩:=I.cell x c e
 obtain ⟨m,⟨o',es,ep,ho',hd',_⟩,_⟩:=I.loc
 rw [z,ho'] at ho;cases ho;rw [hd'] at hd;cases hd
theorem Inv.funs (I:Inv X pins σ H s):s.heap.FunFrames X.base X.outer:=by
 have all:∀ (l:List Env),(∀ b ∈ frs l,b ∈ X.fs)->X.s₀.heap.FunFrames X.base l->s.heap.FunFrames X.base l:=by
  intro l
  induction l with
  | nil=>intro _ _;trivial
  | cons env r ih =>
   intro hs hl
   obtain ⟨hk,⟨L,o,hf,hn,ho,hd⟩,hr⟩:=hl
   have hL:L ∈ X.fs:=hs L (by unfold frs;rw [List.filterMap_cons,hf];exact List.mem_cons_self)
   obtain ⟨sl,e⟩:=I.base.slot L o ho (I.ok.frf L hL) hL λz=>I.ok.exfs L z hL
   exact ⟨hk,⟨L,_,hf,hn,e,hd⟩,ih (λb hb=>hs b (by unfold frs;rw [List.filterMap_cons,hf];exact List.mem_cons_of_mem _ hb)) hr⟩
 exact all X.outer (λ_ hb=>hb) I.ok.funs
theorem Inv.stack (I:Inv X pins σ H s):s.heap.FunFrames X.base X.stack:=by
 rcases I.ok.stk with e | ⟨e,hf⟩
 ·rw [e];exact I.funs
 ·rw [e]
  obtain ⟨m,hn,_⟩:=I.loc
  refine .cons (by rw [I.ok.kind];decide) hf hn ?_ I.funs
  exact Heap.get?_none_of_le (Nat.le_trans I.ok.bsz I.ok.above)
theorem Inv.stkSub (I:Inv X pins σ H s):∀ b ∈ frs X.stack,b ∈ X.env.locals :: X.fs:=λb hb=>by
 rcases I.ok.stk with e | ⟨e,hf⟩
 ·rw [e] at hb;exact List.mem_cons_of_mem _ hb
 ·rw [e] at hb
  unfold frs at hb
  rw [List.filterMap_cons,hf] at hb
  exact hb
theorem Inv.stkFree (I:Inv X pins σ H s):∀ b ∈ frs X.stack,H b=none:=λb hb=>by
 rcases List.mem_cons.mp (I.stkSub b hb) with e | hb
 ·rw [e];exact I.free
 ·obtain ⟨_,o,ho,_⟩:=I.ok.funs.mem hb
  exact I.base.free b o ho (I.ok.frf b hb) λz=>I.ok.exfs b z hb
theorem Inv.step {g' : Array GenState} {t' : Nat} {d' : Drawn} {ch:List Addr} (I:Inv X pins σ H s)
  (hch:∀ b ∈ ch,(b ∈ X.ex\/X.s₀.heap.objs.size<=b)/\b ≠ X.env.locals/\(∀ x c,X.env.cells.lookup x=some c->c ≠ b)/\∀ p ∈ X.pn ++ pins,p.1 ≠ b)
  (keep:∀ b o,b ≠ X.env.locals->b ∉ X.fs->b ∉ ch->s.heap.get? b=some o->H b=none->h'.get? b=some o)
  (slot:∀ b o,b ≠ X.env.locals->b ∈ X.fs->b ∉ ch->s.heap.get? b=some o->H b=none->∃ sl,h'.get? b=some { o with slots:=sl }) (free:∀ b o,b ∉ ch->s.heap.get? b=some o->H b=none->H' b=none)
  (there:∀ b o,b ∉ ch->s.heap.get? b=some o->∃ o',h'.get? b=some o')
  (tups:∀ b xs,H b=some (.tup xs)->H' b=some (.tup xs)) (frzs:∀ b o u,H b=some (.frz o u)->H' b=some (.frz o u)) (tbls:∀ b ps,H b=some (.tbl ps)->∃ more,H' b=some (.tbl (ps ++ more)))
  (ns:∀ m,s.heap.Ns X.env.locals m->h'.Ns X.env.locals m) (hok:HOk X.prog X.w H' h') (hg:AllBare g') :
  Inv X pins σ H' { s with heap:=h',gens:=g',drawn:=d',toks:=t' }:=by
 have neL:∀ b o,X.s₀.heap.get? b=some o->b ≠ X.env.locals:=λb o e=>Nat.ne_of_lt (Nat.lt_of_lt_of_le (Heap.lt_size e) I.ok.above)
 have neC:∀ b o,X.s₀.heap.get? b=some o->b ∉ X.ex->b ∉ ch:=λb o e hx hb=>by
  rcases (hch b hb).1 with z | z
  ·exact hx z
  ·exact absurd (Nat.lt_of_lt_of_le (Heap.lt_size e) z) (Nat.lt_irrefl _)
 have cellK:∀ x c,X.env.cells.lookup x=some c->∀ v,s.heap.IsCell c v->h'.IsCell c v:=λx c e v ⟨o,ho,hd⟩=>by
  have nch:c ∉ ch:=λz=>(hch c z).2.2.1 x c e rfl
  by_cases hc:c ∈ X.fs
  ·obtain ⟨sl,q⟩:=slot c o (I.cne x c e) hc nch ho (I.freeC x c e)
   exact ⟨_,q,hd⟩
  ·exact ⟨o,keep c o (I.cne x c e) hc nch ho (I.freeC x c e),hd⟩
 refine ⟨I.ok,I.os,hg,⟨λb o e n hb hx=>?_,λb o e n hb hx=>?_,λb o e n hx=>?_,λb o e hx=>?_,λb xs e=>tups b xs (I.base.tups b xs e),λb o xs e=>frzs b o xs (I.base.frzs b o xs e),λb ps e=>?_⟩,?_,λx c e=>?_,?_,λx c e=>?_,λp hp=>?_,hok,I.len⟩
 ·exact keep b o (neL b o e) hb (neC b o e hx) (I.base.keep b o e n hb hx) (I.base.free b o e n hx)
 ·obtain ⟨sl,e1⟩:=I.base.slot b o e n hb hx
  obtain ⟨sl',e2⟩:=slot b _ (neL b o e) hb (neC b o e hx) e1 (I.base.free b o e n hx)
  exact ⟨sl',e2⟩
 ·obtain ⟨o',e1⟩:=I.base.there b o e hx
  exact free b o' (neC b o e hx) e1 (I.base.free b o e n hx)
 ·obtain ⟨o',e1⟩:=I.base.there b o e hx
  exact there b o' (neC b o e hx) e1
 ·obtain ⟨m1,e1⟩:=I.base.tbls b ps e
  obtain ⟨m2,e2⟩:=tbls b _ e1
  exact ⟨m1 ++ m2,by rw [e2,Array.append_assoc]⟩
 ·obtain ⟨m,hn,hl⟩:=I.loc
  refine ⟨m,ns m hn,λi x v e1 e2 e3=>?_⟩
  obtain ⟨u,r,l⟩:=hl i x v e1 e2 e3
  refine ⟨u,r,?_⟩
  rcases l with l | ⟨k,c,e,z⟩
  ·exact .inl l
  ·exact .inr ⟨k,c,e,cellK x c e _ z⟩
 ·obtain ⟨v,z⟩:=I.cell x c e
  exact ⟨v,cellK x c e v z⟩
 ·obtain ⟨m,⟨o,_,_,ho,_⟩,_⟩:=I.loc
  exact free _ o (λz=>(hch _ z).2.1 rfl) ho I.free
 ·obtain ⟨v,o,ho,hd⟩:=I.cell x c e
  exact free c o (λz=>(hch c z).2.2.1 x c e rfl) ho (I.freeC x c e)
 ·obtain ⟨e,n,ne,nf,d⟩:=I.pin p hp
  have nch:p.1 ∉ ch:=λz=>(hch p.1 z).2.2.2 p hp rfl
  exact ⟨keep p.1 p.2 ne nf nch e n,free p.1 p.2 nch e n,ne,nf,d⟩
theorem Inv.un {t' : Nat} (I:Inv X pins σ H s) (u:Un X.fs [] H H' s.heap h') (hok:HOk X.prog X.w H' h'):Inv X pins σ H' { s with heap:=h',toks:=t' }:=by
 obtain ⟨m,⟨o,es,ep,ho,r⟩,_⟩:=id I.loc
 obtain ⟨sl,hL⟩:=u.any ho I.free (by simp)
 exact I.step (g':=s.gens) (d':=s.drawn) (ch:=[]) (λ_ z=>nomatch z) (λb o _ hb _ e n=>u.keep b o e n hb (by simp)) (λb o _ hb _ e n=>u.slot b o e n hb (by simp)) (λb o _ e n=>u.free b o e n (by simp)) (λb o _ e=>u.there b o e (by simp)) u.tups u.frzs u.tbls (λm' hm=>by
  obtain ⟨o',es',ep',ho',r'⟩:=hm
  rw [ho] at ho';cases ho'
  exact ⟨_,es',ep',hL,r'⟩) hok I.bare
theorem Inv.call {g' : Array GenState} {t' : Nat} {d' : Drawn} {ch:List Addr} (I:Inv X pins σ H s) (u:Un (frs X.stack) ch H H' s.heap h') (hok:HOk X.prog X.w H' h') (hg:AllBare g')
  (hch:∀ b ∈ ch,(b ∈ X.ex\/X.s₀.heap.objs.size<=b)/\b ≠ X.env.locals/\(∀ x c,X.env.cells.lookup x=some c->c ≠ b)/\∀ p ∈ X.pn ++ pins,p.1 ≠ b) :
  Inv X pins σ H' { s with heap:=h',gens:=g',drawn:=d',toks:=t' }:=by
 obtain ⟨m,⟨o,es,ep,ho,r⟩,_⟩:=id I.loc
 obtain ⟨sl,hL⟩:=u.any ho I.free λz=>(hch _ z).2.1 rfl
 exact I.step (ch:=ch) hch (λb o hL hb hc e n=>u.keep b o e n (λz=>(List.mem_cons.mp (I.stkSub b z)).elim hL hb) hc) (λb o _ _ hc e n=>u.any e n hc) (λb o hc e n=>u.free b o e n hc) (λb o hc e=>u.there b o e hc) u.tups u.frzs u.tbls (λm' hm=>by
  obtain ⟨o',es',ep',ho',r'⟩:=hm
  rw [ho] at ho';cases ho'
  exact ⟨_,es',ep',hL,r'⟩) hok hg
theorem Inv.turned {t' : Nat} {it:Addr} (I:Inv X pins σ H s) (k:∀ b o,b ≠ it->s.heap.get? b=some o->h'.get? b=some o) (hn:H it=none) (hL:it ≠ X.env.locals)
  (h1:it ∈ X.ex\/X.s₀.heap.objs.size<=it) (h2:∀ x c,X.env.cells.lookup x=some c->c ≠ it) (h3:∀ p ∈ X.pn ++ pins,p.1 ≠ it):Inv X pins σ H { s with heap:=h',toks:=t' }:=by
 have nit:∀ b u,H b=some u->b ≠ it:=λb u e z=>by rw [z,hn] at e;cases e
 refine I.step (g':=s.gens) (d':=s.drawn) (ch:=[it]) (λb hb=>?_) (λb o _ _ hc e _=>k b o (λz=>hc (by simp [z])) e) (λb o _ _ hc e _=>⟨o.slots,k b o (λz=>hc (by simp [z])) e⟩) (λ_ _ _ _ n=>n)
  (λb o hc e=>⟨o,k b o (λz=>hc (by simp [z])) e⟩) (λ_ _ e=>e) (λ_ _ _ e=>e) (λb ps e=>⟨#[],by rw [e];simp⟩) (λm hm=>?_) (λb u e=>?_) I.bare
 ·have e:b=it:=by simpa using hb
  subst e
  exact ⟨h1,hL,h2,h3⟩
 ·obtain ⟨o,es,ep,ho,r⟩:=hm
  exact ⟨o,es,ep,k _ o (Ne.symm hL) ho,r⟩
 ·refine (I.hok b u e).stay (λc v hc q=>k c v ?_ q) (λ_ q=>q) λ_ _ q=>q
  rcases hc with z | z
  ·rw [z];exact nit b u e
  ·exact nit c _ z
theorem Inv.tok (I:Inv X pins σ H s) (t:Nat):Inv X pins σ H { s with toks:=t }:=I.un (h':=s.heap) (t':=t) Un.refl I.hok
theorem Inv.kept {t' : Nat} (I:Inv X pins σ H s) (k:∀ b u,s.heap.get? b=some u->h'.get? b=some u):Inv X pins σ H { s with heap:=h',toks:=t' }:=I.un (Un.kept k) (I.hok.kept k)
theorem Inv.laid {a:Addr} {o:HO} {t' : Nat} (I:Inv X pins σ H s) (k:∀ b u,s.heap.get? b=some u->h'.get? b=some u) (hp:s.heap.objs.size<=a) (new:bW X.prog X.w (upd H a o) h' a o) :
  Inv X pins σ (upd H a o) { s with heap:=h',toks:=t' }:=I.un (Un.laid k hp (I.hok.fresh hp)) (I.hok.laid k hp new)
theorem Inv.write {x e:Addr} {o:HO} {t' : Nat} (I:Inv X pins σ H s) (mu:Mut (H x)) (he:e=x\/H e=some (.own x)) (k:∀ b u,b ≠ e->s.heap.get? b=some u->h'.get? b=some u) (heo:∃ u,h'.get? e=some u)
  (new:bW X.prog X.w (upd H x o) h' x o):Inv X pins σ (upd H x o) { s with heap:=h',toks:=t' }:=I.un (Un.write mu he k heo) (I.hok.write mu he k heo new)
theorem Inv.pins_of {uY : List (Addr × Obj)} (I:Inv X pins σ H s) (h:∀ p ∈ uY,s.heap.get? p.1=some p.2/\H p.1=none/\p.1 ≠ X.env.locals/\p.1 ∉ X.fs/\∀ v,p.2.data ≠ .cell v):Inv X uY σ H s :=
 ⟨I.ok,I.os,I.bare,I.base,I.loc,I.cell,I.free,I.freeC,λp hp=>(List.mem_append.mp hp).elim (λz=>I.pin p (List.mem_append_left _ z)) (h p),I.hok,I.len⟩
theorem nK {N:List Str} (hN:N.Nodup) {i j:Nat} {x:Str} (a:N[i]?=some x) (b:N[j]?=some x):i=j:=by
 obtain ⟨h1,e1⟩:=E4.mp a
 obtain ⟨h2,e2⟩:=E4.mp b
 exact (List.getElem_inj hN).mp (e1.trans e2.symm)
theorem iM {M:Model} {A:Around} {E:Value->Shared->Prop} {i:Nat} {x:Str} {v:V} {u:Value} {Q:Unit->Shared->Prop} (I:Inv X pins σ H s) (hN:X.N.Nodup) (hi:X.N[i]?=some x) (hx:Loc X.env.scope x) (r:RelV v u)
  (h:∀ s',Inv X pins (σ.set i (some v)) H s'->(∃ a,Heap.SameBut a s.heap s'.heap/\(a=X.env.locals\/X.env.cells.lookup x=some a))->Q () s') (hf:X.fn x=true\/X.env.scope.names.lookup x=some .local:=by first | exact .inl rfl | exact .inr rfl | assumption):wpAny M A (storeName X.env x u) Q E s:=by
 obtain ⟨m,hn,hl⟩:=id I.loc
 have zU:(X.env.scope.kind == .class || (X.env.scope.kind == .module && X.env.locals != X.env.globals))=false:=by rw [I.ok.kind];rfl
 have hiσ:i < σ.length:=by rw [I.len];exact (E4.mp hi).1
 have cne:=I.cne
 have tracked:∀ {a:Addr} {h' : Heap},(∃ o,s.heap.get? a=some o/\H a=none)->Heap.SameBut a s.heap h'->HOk X.prog X.w H h':=λ{a h'} ha hs b ob e=>by
  obtain ⟨_,_,uZ⟩:=ha
  refine (I.hok b ob e).stay (λc w' hc q=>(hs.2 c ?_).trans q) (λ_ q=>q) λ_ _ q=>q
  rintro rfl
  rcases hc with rfl | hc
  ·rw [uZ] at e;cases e
  ·rw [uZ] at hc;cases hc
 rcases hx with hk | hk
 ·refine wpAny_storeName_local hk hn (λh' hn' hs=>?_) zU
  obtain ⟨oL,_,_,hoL,_⟩:=id hn
  refine h _ ⟨I.ok,I.os,I.bare,⟨λb o e n hb hx=>?_,λb o e n hb hx=>?_,I.base.free,λb o e hx=>?_,I.base.tups,I.base.frzs,I.base.tbls⟩,⟨_,hn',λj y v' e1 e2 e3=>?_⟩,λy c e=>?_,I.free,I.freeC,λp hp=>?_,tracked ⟨oL,hoL,I.free⟩ hs,by simpa using I.len⟩ ⟨_,hs,.inl rfl⟩
  ·exact (hs.2 b (Nat.ne_of_lt (Nat.lt_of_lt_of_le (Heap.lt_size e) I.ok.above))).trans (I.base.keep b o e n hb hx)
  ·obtain ⟨sl,e1⟩:=I.base.slot b o e n hb hx
   exact ⟨sl,(hs.2 b (Nat.ne_of_lt (Nat.lt_of_lt_of_le (Heap.lt_size e) I.ok.above))).trans e1⟩
  ·obtain ⟨o',e1⟩:=I.base.there b o e hx
   exact ⟨o',(hs.2 b (Nat.ne_of_lt (Nat.lt_of_lt_of_le (Heap.lt_size e) I.ok.above))).trans e1⟩
  ·by_cases hj:j=i
   ·subst hj
    rw [hi] at e1;cases e1
    rw [List.getElem?_set_self hiσ] at e2
    cases e2
    exact ⟨u,r,.inl ⟨hk,by simp⟩⟩
   ·rw [List.getElem?_set_ne (Ne.symm hj)] at e2
    obtain ⟨u',r',q⟩:=hl j y v' e1 e2 e3
    refine ⟨u',r',?_⟩
    rcases q with ⟨k,e⟩ | ⟨k,c,e,z⟩
    ·refine .inl ⟨k,?_⟩
     have:y ≠ x:=λe=>hj (nK hN e1 (e ▸ hi))
     simp [this,e]
    ·exact .inr ⟨k,c,e,z.sameBut hs (cne y c e)⟩
  ·obtain ⟨w',z⟩:=I.cell y c e
   exact ⟨w',z.sameBut hs (cne y c e)⟩
  ·obtain ⟨e,n,ne,nf,d⟩:=I.pin p hp
   exact ⟨(hs.2 p.1 ne).trans e,n,ne,nf,d⟩
 ·have hfn:X.fn x=true:=by
   rcases hf with z | z
   ·exact z
   ·rw [z] at hk;cases hk
  obtain ⟨c,hc⟩:=I.ok.has x (.inl hk)
  obtain ⟨w',z⟩:=I.cell x c hc
  refine wpAny_storeName_cell I.ok.kind hk hc z (λh' hc' hs=>?_)
  obtain ⟨oc,hoc,zV⟩:=id z
  refine h { s with heap:=h' } ⟨I.ok,I.os,I.bare,⟨λb o e n hb hx=>?_,λb o e n hb hx=>?_,I.base.free,λb o e hx=>?_,I.base.tups,I.base.frzs,I.base.tbls⟩,⟨m,hn.sameBut hs (Ne.symm (cne x c hc)),λj y v' e1 e2 e3=>?_⟩,λy c' e=>?_,I.free,I.freeC,λp hp=>?_,tracked ⟨oc,hoc,I.freeC x c hc⟩ hs,by simpa using I.len⟩ ⟨c,hs,.inr hc⟩
  ·exact (hs.2 b (Nat.ne_of_lt (Nat.lt_of_lt_of_le (Heap.lt_size e) (I.ok.cab x c hfn hc)))).trans (I.base.keep b o e n hb hx)
  ·obtain ⟨sl,e1⟩:=I.base.slot b o e n hb hx
   exact ⟨sl,(hs.2 b (Nat.ne_of_lt (Nat.lt_of_lt_of_le (Heap.lt_size e) (I.ok.cab x c hfn hc)))).trans e1⟩
  ·obtain ⟨o',e1⟩:=I.base.there b o e hx
   exact ⟨o',(hs.2 b (Nat.ne_of_lt (Nat.lt_of_lt_of_le (Heap.lt_size e) (I.ok.cab x c hfn hc)))).trans e1⟩
  ·by_cases hj:j=i
   ·subst hj
    rw [hi] at e1;cases e1
    rw [List.getElem?_set_self hiσ] at e2
    cases e2
    exact ⟨u,r,.inr ⟨.inl hk,c,hc,hc'⟩⟩
   ·rw [List.getElem?_set_ne (Ne.symm hj)] at e2
    obtain ⟨u',r',q⟩:=hl j y v' e1 e2 e3
    refine ⟨u',r',?_⟩
    rcases q with q | ⟨k,c',e,z'⟩
    ·exact .inl q
    ·refine .inr ⟨k,c',e,z'.sameBut hs ?_⟩
     rintro rfl
     exact hj (nK hN e1 (I.ok.inj _ _ _ e hc ▸ hi))
  ·by_cases hcc:c'=c
   ·subst hcc;exact ⟨_,hc'⟩
   ·obtain ⟨w2,z2⟩:=I.cell y c' e
    exact ⟨w2,z2.sameBut hs hcc⟩
  ·obtain ⟨e,n,ne,nf,d⟩:=I.pin p hp
   refine ⟨(hs.2 p.1 ?_).trans e,n,ne,nf,d⟩
   intro q
   rw [q,hoc] at e
   have q' : oc=p.2:=Option.some.inj e
   exact d w' (by rw [← q'];exact zV)
theorem nM {M:Model} {A:Around} {E:Value->Shared->Prop} {i:Nat} {x:Str} {v:V} {u:Value} {Q:Unit->Shared->Prop} (I:Inv X pins σ H s) (hN:X.N.Nodup) (hi:X.N[i]?=some x) (hx:Loc X.env.scope x) (r:RelV v u)
  (h:∀ s',Inv X pins (σ.set i (some v)) H s'->Q () s') (hf:X.fn x=true\/X.env.scope.names.lookup x=some .local:=by first | exact .inl rfl | exact .inr rfl | assumption):wpAny M A (storeName X.env x u) Q E s :=
 iM I hN hi hx r (λs' I' _=>h s' I') hf
theorem Inv.call' {s' : Shared} {ch:List Addr} (I:Inv X pins σ H s) (ho:s'.os=s.os) (u:Un (frs X.stack) ch H H' s.heap s'.heap) (hok:HOk X.prog X.w H' s'.heap) (hg:AllBare s'.gens)
  (hch:∀ b ∈ ch,(b ∈ X.ex\/X.s₀.heap.objs.size<=b)/\b ≠ X.env.locals/\(∀ x c,X.env.cells.lookup x=some c->c ≠ b)/\∀ p ∈ X.pn ++ pins,p.1 ≠ b):Inv X pins σ H' s':=by
 obtain ⟨h',g',d',t',o'⟩:=s'
 have e:o'=s.os:=ho
 subst e
 exact I.call (g':=g') (t':=t') (d':=d') u hok hg hch
end
abbrev XK:=Value->Option Addr->Hp->Prop
abbrev St:=List (Option V)
abbrev VK:=V->Hp->Prop
abbrev TE:=St->Hp->VK->Prop
abbrev TT:=St->Hp->(Bool->Hp->Prop)->Prop
abbrev TA:=St->Hp->(List V->Hp->Prop)->Prop
structure Ends where
 nx:St->Hp->Prop
 rt:VK
 bk:St->Hp->Prop:=λ_ _=>False
 ct:St->Hp->Prop:=λ_ _=>False
abbrev TS:=Ends->St->Hp->Prop
def EP (X:Cx) (pins:List (Addr × Obj)) (σ:St) (Q:VK) (u:Value) (s' : Shared):Prop:=∃ v H',Inv X pins σ H' s'/\RelV v u/\Q v H'
def TP (X:Cx) (pins:List (Addr × Obj)) (σ:St) (Q:Bool->Hp->Prop) (b:Bool) (s' : Shared):Prop:=∃ H',Inv X pins σ H' s'/\Q b H'
def AP (X:Cx) (pins:List (Addr × Obj)) (σ:St) (Q:List V->Hp->Prop) (us:List Value) (s' : Shared):Prop:=∃ vs H',Inv X pins σ H' s'/\Vals vs us/\Q vs H'
def SP (X:Cx) (pins:List (Addr × Obj)) (D:Ends) (f:Flow) (s' : Shared):Prop :=
 match f with
 | .next=>∃ σ' H',Inv X pins σ' H' s'/\D.nx σ' H'
 | .brk=>∃ σ' H',Inv X pins σ' H' s'/\D.bk σ' H'
 | .cont=>∃ σ' H',Inv X pins σ' H' s'/\D.ct σ' H'
 | .ret u=>∃ v σ' H',Inv X pins σ' H' s'/\RelV v u/\D.rt v H'
def PE (X:Cx) (e:Expr) (t:TE):Prop :=
 ∀ (pins:List (Addr × Obj)) (s:Shared) (σ:St) (H:Hp) (Q:VK),Inv X pins σ H s->t σ H Q->wpAny (model X.prog X.w) X.A (eval e X.env) (EP X pins σ Q) X.xe s
def PT (X:Cx) (e:Expr) (t:TT):Prop :=
 ∀ (pins:List (Addr × Obj)) (s:Shared) (σ:St) (H:Hp) (Q:Bool->Hp->Prop),Inv X pins σ H s->t σ H Q->wpAny (model X.prog X.w) X.A (isTrue e X.env (eval e X.env)) (TP X pins σ Q) X.xe s
def PW (X:Cx) (e:Expr) (t:TT):Prop :=
 ∀ (whole:Sem Value) (pins:List (Addr × Obj)) (s:Shared) (σ:St) (H:Hp) (Q:Bool->Hp->Prop),Inv X pins σ H s->t σ H Q->wpAny (model X.prog X.w) X.A (isTrue e X.env whole) (TP X pins σ Q) X.xe s
theorem PW.pt {X:Cx} {e:Expr} {t:TT} (h:PW X e t):PT X e t:=h _
def PA (X:Cx) (es:List Expr) (t:TA):Prop :=
 ∀ (pos:Pos) (pins:List (Addr × Obj)) (s:Shared) (σ:St) (H:Hp) (Q:List V->Hp->Prop),Inv X pins σ H s->t σ H Q->wpAny (model X.prog X.w) X.A (spliced (backTo pos (starEach es X.env))) (AP X pins σ Q) X.xe s
def PS (X:Cx) (st:Stmt) (t:TS):Prop :=
 ∀ (pins:List (Addr × Obj)) (s:Shared) (σ:St) (H:Hp) (D:Ends),Inv X pins σ H s->t D σ H->wpAny (model X.prog X.w) X.A (exec st X.env) (SP X pins D) X.xe s
def PSs (X:Cx) (st:List Stmt) (t:TS):Prop :=
 ∀ (pins:List (Addr × Obj)) (s:Shared) (σ:St) (H:Hp) (D:Ends),Inv X pins σ H s->t D σ H->wpAny (model X.prog X.w) X.A (execs st X.env) (SP X pins D) X.xe s
theorem thn {α:Type} {t:Sem α} {Q Q' : α->Shared->Prop} {M:Model} {A:Around} {E:Value->Shared->Prop} {s:Shared} (h:wpAny M A t Q E s) (hQ:∀ a s,Q a s->Q' a s):wpAny M A t Q' E s:=wpAny_mono h hQ λ_ _ x=>x
end L2
namespace L2
open PySem PySem.Spec PyProof.Rows
section
variable {X:Cx}
def xQ (i:Nat):TE:=λσ H Q=>∃ v,σ[i]?=some (some v)/\Q v H
def tC (v:V):TE:=λ_ H Q=>Q v H
theorem vy {i:Nat} {x:Str} {pos:Pos} (hN:X.N[i]?=some x) (hv:Vis X.env.scope x) (hd:(x == ("__debug__" : Str))=false:=by decide) (hcd:(x == ("__classdict__" : Str))=false:=by decide):PE X (.Name x pos) (xQ i):=by
 intro pins s σ H Q I h
 obtain ⟨v,e,h⟩:=h
 obtain ⟨m,hn,hl⟩:=I.loc
 obtain ⟨u,r,l⟩:=hl i x v hN e hv
 have fin:EP X pins σ Q u s:=⟨v,H,I,r,h⟩
 rcases l with ⟨hk,hm⟩ | ⟨hk,c,hc,u4⟩
 ·exact wpAny_Name (wpAny_loadName_local I.ok.kind hk hn hm fin) hd
 ·rcases hk with hk | hk
  ·exact wpAny_Name (wpAny_loadName_cell I.ok.kind hk hc u4 fin) hd
  ·exact wpAny_Name (wpAny_loadName_free I.ok.kind hk hc u4 fin hcd) hd
theorem aj {i j pos} : PE X (.Constant (.int i) j pos) (tC (.int i)):=λ_ _ _ H _ I h=>wpAny_Constant_int ⟨.int i,H,I.tok _,⟨_,rfl⟩,h⟩
theorem ia {b j pos} : PE X (.Constant (.bool b) j pos) (tC (.bl b)):=λ_ _ _ H _ I h=>Constant_bool ⟨.bl b,H,I,rfl,h⟩
theorem bM {x j pos} : PE X (.Constant (.str x) j pos) (tC (.str x)):=λ_ _ _ H _ I h=>Calls.Constant_str ⟨.str x,H,I.tok _,⟨_,rfl⟩,h⟩
def Gl (X:Cx) (x:Str):Prop:=X.env.kindOf x=some .globalImplicit
theorem cV {E:Value->Shared->Prop} {pins:List (Addr × Obj)} {s:Shared} {σ:St} {H:Hp} {x:Str} {u:Value} {pos:Pos} {Q:Value->Shared->Prop} (I:Inv X pins σ H s) (hg:Gl X x) (hm:X.mg x=some u) (h:Q u s)
  (hd:(x == ("__debug__" : Str))=false:=by decide):wpAny (model X.prog X.w) X.A (eval (.Name x pos) X.env) Q E s :=
 Calls.Name_function_global I.ok.kind hg (Calls.loadGlobal_global (by rw [I.ok.glob];exact I.mod.glob.keeps I.bk) hm h) hd
theorem iN {E:Value->Shared->Prop} {pins:List (Addr × Obj)} {s:Shared} {σ:St} {H:Hp} {x:Str} {u:Value} {pos:Pos} {Q:Value->Shared->Prop} (I:Inv X pins σ H s) (hg:Gl X x) (hm:X.mg x=none) (hv:bootBuiltins x=some u) (h:Q u s)
  (hn:x ≠ "__name__" := by decide) (hd:(x == ("__debug__" : Str))=false:=by decide):wpAny (model X.prog X.w) X.A (eval (.Name x pos) X.env) Q E s:=by
 obtain ⟨mb,h1,h2⟩:=I.mod.blt
 exact Calls.Name_function_global I.ok.kind hg (Calls.loadGlobal_builtin (by rw [I.ok.glob];exact I.mod.glob.keeps I.bk) hm (by rw [I.ok.blt];exact h1.keeps I.bk) ((h2 x hn).trans hv) h) hd
theorem fG {x:Str} {v:V} {u:Value} {pos:Pos} (hg:Gl X x) (hm:X.mg x=some u) (r:RelV v u) (hd:(x == ("__debug__" : Str))=false:=by decide):PE X (.Name x pos) (tC v) :=
 λ_ _ _ H _ I h=>cV I hg hm ⟨v,H,I,r,h⟩ hd
theorem jq {x:Str} {v:V} {u:Value} {pos:Pos} (hg:Gl X x) (hm:X.mg x=none) (hv:bootBuiltins x=some u) (r:RelV v u) (hn:x ≠ "__name__" := by decide) (hd:(x == ("__debug__" : Str))=false:=by decide):PE X (.Name x pos) (tC v) :=
 λ_ _ _ H _ I h=>iN I hg hm hv ⟨v,H,I,r,h⟩ hn hd
def t2I (ta tb:TE) (k:Int->Int->Hp->Prop):St->Hp->Prop:=λσ H=>ta σ H λx H1=>tb σ H1 λy H2=>∃ i j,x=.int i/\y=.int j/\k i j H2
def DU (ta tb:TE):TE:=λσ H Q=>t2I ta tb (λi j H2=>Q (.int (i+j)) H2) σ H
def DV (ta tb:TE):TE:=λσ H Q=>t2I ta tb (λi j H2=>Q (.int (i - j)) H2) σ H
def DW (ta tb:TE):TE:=λσ H Q=>t2I ta tb (λi j H2=>(-(2 ^ 64) < i/\i < 2 ^ 64)/\Q (.int (i * j)) H2) σ H
variable {a b:Expr} {ta tb:TE} {pos:Pos}
def PC (X:Cx) (op:CmpOp) (a b:Expr) (t:TE):Prop :=
 ∀ (pins:List (Addr × Obj)) (s:Shared) (σ:St) (H:Hp) (Q:VK),Inv X pins σ H s->t σ H Q ->
  wpAny (model X.prog X.w) X.A (eval a X.env) (λv s₁=>wpAny (model X.prog X.w) X.A (eval b X.env) (λu s₂=>wpAny (model X.prog X.w) X.A (compareOp op v u) (EP X pins σ Q) X.xe s₂) X.xe s₁) X.xe s
def qy (p:Int->Int->Bool) (ta tb:TE):TE:=λσ H Q=>t2I ta tb (λi j H2=>Q (.bl (p i j)) H2) σ H
abbrev tLt:TE->TE->TE:=qy λi j=>decide (i < j)
abbrev tLe:TE->TE->TE:=qy λi j=>decide (i<=j)
abbrev tGt:TE->TE->TE:=qy λi j=>decide (j < i)
abbrev tGe:TE->TE->TE:=qy λi j=>decide (j<=i)
abbrev DX:TE->TE->TE:=qy λi j=>decide (i=j)
abbrev DY:TE->TE->TE:=qy λi j=>!decide (i=j)
def DZ (ta:TE):TE:=λσ H Q=>ta σ H λx H1=>Q (.bl (decide (x=.non))) H1
def Dv (ta:TE):TE:=λσ H Q=>ta σ H λx H1=>Q (.bl (!decide (x=.non))) H1
def tB (t:TE):TT:=λσ H Q=>t σ H λx H1=>∃ c,x=.bl c/\Q c H1
theorem cR {e:Expr} {t:TE} (h:PE X e t) (he:∀ whole,isTrue e X.env whole=(do let v ← whole;standAt e.pos;holding [v] (truthy v)):=by intro _;rfl):PT X e (tB t):=by
 intro pins s σ H Q I hw
 refine isTrue_plain (thn (h pins s σ H _ I hw) λv s1 ⟨x,H1,I1,r1,q1⟩=>?_) (he _)
 obtain ⟨d,rfl,q⟩:=q1
 cases r1
 exact wpAny_truthy_bool ⟨H1,I1,q⟩
variable {tA tB' : TT} {rest:List Expr}
def zW (t u:TT):TT:=λσ H Q=>t σ H λc H1=>if c=true then u σ H1 Q else Q false H1
def tOr (t u:TT):TT:=λσ H Q=>t σ H λc H1=>if c=true then Q true H1 else u σ H1 Q
def zX (t:TT):TT:=λσ H Q=>t σ H λc H1=>Q (!c) H1
theorem ib (ha:PT X a tA):PW X (.BoolOp .And [a] pos) tA:=by
 intro wh pins s σ H Q I h
 refine isTrue_and (thn (ha pins s σ H Q I h) λc s1 e=>?_)
 cases c with
 | true=>exact isTrue_and_nil e
 | false=>exact e
theorem md (ha:PT X a tA):PW X (.BoolOp .Or [a] pos) tA:=by
 intro wh pins s σ H Q I h
 refine isTrue_or (thn (ha pins s σ H Q I h) λc s1 e=>?_)
 cases c with
 | false=>exact isTrue_or_nil e
 | true=>exact e
theorem jT (ha:PT X a tA) (hb:PW X (.BoolOp .And (b :: rest) pos) tB'):PW X (.BoolOp .And (a :: b :: rest) pos) (zW tA tB'):=by
 intro wh pins s σ H Q I h
 refine isTrue_and (thn (ha pins s σ H _ I h) λc s1 ⟨H1,I1,q1⟩=>?_)
 cases c with
 | true=>exact hb wh pins s1 σ H1 Q I1 q1
 | false=>exact ⟨H1,I1,q1⟩
theorem p3 (ha:PT X a tA) (hb:PW X (.BoolOp .Or (b :: rest) pos) tB'):PW X (.BoolOp .Or (a :: b :: rest) pos) (tOr tA tB'):=by
 intro wh pins s σ H Q I h
 refine isTrue_or (thn (ha pins s σ H _ I h) λc s1 ⟨H1,I1,q1⟩=>?_)
 cases c with
 | true=>exact ⟨H1,I1,q1⟩
 | false=>exact hb wh pins s1 σ H1 Q I1 q1
theorem d8 (ha:PT X a tA):PT X (.UnaryOp .Not a pos) (zX tA):=by
 intro pins s σ H Q I h
 exact isTrue_not (ha pins s σ H (λc H1=>Q (!c) H1) I h)
def xR (ta tb:TE):TE:=λσ H Q=>ta σ H λx H1=>∃ c,x=.bl c/\if c=true then tb σ H1 Q else Q (.bl false) H1
def D1 (ta tb:TE):TE:=λσ H Q=>ta σ H λx H1=>∃ c,x=.bl c/\if c=true then Q (.bl true) H1 else tb σ H1 Q
def xS (ta:TE):TE:=λσ H Q=>ta σ H λx H1=>∃ c,x=.bl c/\Q (.bl (!c)) H1
theorem iO {op} {t:TE} (h:PE X a t):PE X (.BoolOp op [a] pos) t:=λpins s σ H Q I hw=>BoolOp_one (h pins s σ H Q I hw)
theorem gu (ha:PE X a ta) (hb:PE X (.BoolOp .And (b :: rest) pos) tb):PE X (.BoolOp .And (a :: b :: rest) pos) (xR ta tb):=by
 intro pins s σ H Q I h
 refine BoolOp_and (thn (ha pins s σ H _ I h) λv s1 ⟨x,H1,I1,r1,q1⟩=>?_)
 obtain ⟨c,rfl,q1⟩:=q1
 cases r1
 refine wpAny_truthy_bool ?_
 cases c with
 | true=>exact hb pins s1 σ H1 Q I1 q1
 | false=>exact ⟨.bl false,H1,I1,rfl,q1⟩
theorem vz (ha:PE X a ta):PE X (.UnaryOp .Not a pos) (xS ta):=by
 intro pins s σ H Q I h
 refine UnaryOp_ (thn (ha pins s σ H _ I h) λv s1 ⟨x,H1,I1,r1,q1⟩=>?_)
 obtain ⟨c,rfl,q1⟩:=q1
 cases r1
 exact not_of (wpAny_truthy_bool ⟨.bl (!c),H1,I1,rfl,q1⟩)
def tIf (t:TT) (ta tb:TE):TE:=λσ H Q=>t σ H λc H1=>if c=true then ta σ H1 Q else tb σ H1 Q
end
end L2
namespace L2
open PySem PySem.Spec PyProof.Rows
def SqL (K:PySem.W.Frag) (H:Hp) (a:Addr) (xs:List V):Prop :=
 Rd H a (.lst xs) \/
  ∃ (o:Obj) (its:Array Value) (n:Nat),K.lookup a=some o/\o.cls=.type "list" /\ o.dict=none/\o.data=.seq its n/\its.size<=sizeLine/\Vals xs its.toList
def SqT (K:PySem.W.Frag) (H:Hp) (a:Addr) (xs:List V):Prop :=
 Rd H a (.tup xs) \/
  ∃ (o:Obj) (its:Array Value) (n:Nat),K.lookup a=some o/\o.cls=.type "tuple" /\ o.data=.seq its n/\its.size<=sizeLine/\Vals xs its.toList
def zY:Value->Option V
 | .none=>some .non
 | .bool b=>some (.bl b)
 | .int i _=>some (.int i)
 | .str x _=>some (.str x)
 | .bytes b _=>some (.byt b)
 | .float b _=>some (.flt b)
 | .ref a=>some (.ref a)
 | .type n=>some (.ty n)
 | _=>none
theorem RelV.abs {x:V} {u:Value} (r:RelV x u):zY u=some x:=by
 cases x with
 | non=>cases r;rfl
 | bl _=>cases r;rfl
 | int _=>obtain ⟨t,rfl⟩:=r;rfl
 | str _=>obtain ⟨t,rfl⟩:=r;rfl
 | byt _=>obtain ⟨t,rfl⟩:=r;rfl
 | flt _=>obtain ⟨t,rfl⟩:=r;rfl
 | ref _=>cases r;rfl
 | ty _=>cases r;rfl
theorem RelV.inj {x y:V} {u:Value} (r:RelV x u) (q:RelV y u):x=y:=Option.some.inj (r.abs.symm.trans q.abs)
theorem Vals.inj:∀ {xs ys:List V} {us:List Value},Vals xs us->Vals ys us->xs=ys
 | _,_,_,.nil,.nil=>rfl
 | _,_,_,.cons r t,.cons r' t'=>by rw [r.inj r',Vals.inj t t']
section
variable {X:Cx} {pins:List (Addr × Obj)} {σ:St} {H:Hp} {s:Shared} {a:Addr} {xs ys:List V}
theorem SqL.of {K:PySem.W.Frag} (h:H a=some (.lst xs)):SqL K H a xs:=.inl (.inl h)
theorem SqT.of {K:PySem.W.Frag} (h:H a=some (.tup xs)):SqT K H a xs:=.inl (.inl h)
theorem Inv.list (I:Inv X pins σ H s) (h:SqL X.K H a xs):∃ its:List Value,Vals xs its/\PlainL s.heap a its.toArray/\xs.length<=sizeLine:=by
 rcases h with h | ⟨o,its,n,hk,hc,hd,hs,hz,r⟩
 ·obtain ⟨z,its,n,r,e⟩:=h.ok I.hok
  exact ⟨its,r,⟨_,n,e,rfl,rfl,rfl⟩,z⟩
 ·refine ⟨its.toList,r,⟨o,n,I.kIn a o hk,hc,hd,by simpa using hs⟩,?_⟩
  have e:=r.length
  simp only [Array.length_toList] at e
  omega
theorem Inv.tuple (I:Inv X pins σ H s) (h:SqT X.K H a xs):∃ its:List Value,Vals xs its/\IsTup s.heap a its.toArray/\xs.length<=sizeLine:=by
 rcases h with h | ⟨o,its,n,hk,hc,hs,hz,r⟩
 ·obtain ⟨z,its,r,p⟩:=h.ok I.hok
  exact ⟨its,r,p,z⟩
 ·refine ⟨its.toList,r,⟨o,I.kIn a o hk,hc,n,by simpa using hs⟩,?_⟩
  have e:=r.length
  simp only [Array.length_toList] at e
  omega
theorem Inv.list_inj (I:Inv X pins σ H s) (h:SqL X.K H a xs) (h' : SqL X.K H a ys):xs=ys:=by
 obtain ⟨its,r,⟨o,n,e,_,_,d⟩,_⟩:=I.list h
 obtain ⟨its',r',⟨o',n',e',_,_,d'⟩,_⟩:=I.list h'
 rw [e] at e';cases e'
 rw [d] at d'
 injection d' with d1 _
 have:its=its':=by simpa using congrArg Array.toList d1
 subst this
 exact r.inj r'
theorem Inv.tuple_inj (I:Inv X pins σ H s) (h:SqT X.K H a xs) (h' : SqT X.K H a ys):xs=ys:=by
 obtain ⟨its,r,⟨o,e,_,n,d⟩,_⟩:=I.tuple h
 obtain ⟨its',r',⟨o',e',_,n',d'⟩,_⟩:=I.tuple h'
 rw [e] at e';cases e'
 rw [d] at d'
 injection d' with d1 _
 have:its=its':=by simpa using congrArg Array.toList d1
 subst this
 exact r.inj r'
end
abbrev Cx.wish (X:Cx) (E:Value->Shared->Prop):Cx:={ X with xe:=E }
abbrev Cx.nox (X:Cx):Cx:=X.wish λ_ _=>False
theorem Cx.Ok.wish {X:Cx} (ok:X.Ok) (E:Value->Shared->Prop):(X.wish E).Ok :=
 ⟨ok.mod,ok.kind,ok.glob,ok.blt,ok.above,ok.inj,ok.has,ok.cab,ok.hd,ok.frames,ok.stk,ok.exf,ok.bs,ok.bsz,ok.noex,ok.exfs,ok.funs,ok.frf⟩
theorem Cx.Ok.unwish {X:Cx} {E:Value->Shared->Prop} (ok:(X.wish E).Ok):X.Ok :=
 ⟨ok.mod,ok.kind,ok.glob,ok.blt,ok.above,ok.inj,ok.has,ok.cab,ok.hd,ok.frames,ok.stk,ok.exf,ok.bs,ok.bsz,ok.noex,ok.exfs,ok.funs,ok.frf⟩
section
variable {X:Cx} {pins:List (Addr × Obj)} {σ:St} {H:Hp} {s:Shared} {E:Value->Shared->Prop}
theorem Inv.wish (I:Inv X pins σ H s) (E:Value->Shared->Prop):Inv (X.wish E) pins σ H s:=⟨I.ok.wish E,I.os,I.bare,I.base,I.loc,I.cell,I.free,I.freeC,I.pin,I.hok,I.len⟩
theorem Inv.unwish (I:Inv (X.wish E) pins σ H s):Inv X pins σ H s:=⟨I.ok.unwish,I.os,I.bare,I.base,I.loc,I.cell,I.free,I.freeC,I.pin,I.hok,I.len⟩
theorem SP.unwish {D:Ends} {f:Flow} {s' : Shared} (h:SP (X.wish E) pins D f s'):SP X pins D f s':=by
 cases f with
 | next=>obtain ⟨σ',H',I,q⟩:=h;exact ⟨σ',H',I.unwish,q⟩
 | brk=>obtain ⟨σ',H',I,q⟩:=h;exact ⟨σ',H',I.unwish,q⟩
 | cont=>obtain ⟨σ',H',I,q⟩:=h;exact ⟨σ',H',I.unwish,q⟩
 | ret u=>obtain ⟨v,σ',H',I,r,q⟩:=h;exact ⟨v,σ',H',I.unwish,r,q⟩
theorem PSs.nox {st:List Stmt} {t:TS} (h:PSs X.nox st t):PSs X st t:=λpins s σ H D I hw =>
 wpAny_mono (h pins s σ H D (I.wish _) hw) (λ_ _ q=>q.unwish) λ_ _ z=>False.elim z
end
section
variable {X:Cx} {st:Stmt} {rest:List Stmt} {t u:TS} {e:Expr} {te:TE} {pos:Pos}
def xT:TS:=λD σ H=>D.nx σ H
def zZ (t u:TS):TS:=λD σ H=>t { D with nx:=u D } σ H
theorem aM:PSs X [] xT:=λ_ _ σ H _ I h=>wpAny_execs_nil ⟨σ,H,I,h⟩
theorem az (h1:PS X st t) (h2:PSs X rest u):PSs X (st :: rest) (zZ t u):=by
 intro pins s σ H D I h
 refine wpAny_execs_cons (thn (h1 pins s σ H { D with nx:=u D } I h) λf s1 q=>?_)
 cases f with
 | next =>
  obtain ⟨σ',H',I',q⟩:=q
  exact h2 pins s1 σ' H' D I' q
 | ret v=>exact q
 | brk=>exact q
 | cont=>exact q
theorem ai (h1:PS X st t):PSs X [st] t:=by
 intro pins s σ H D I h
 refine wpAny_execs_cons (thn (h1 pins s σ H D I h) λf s1 q=>?_)
 cases f with
 | next=>exact wpAny_execs_nil q
 | ret v=>exact q
 | brk=>exact q
 | cont=>exact q
def Aa:TS:=λD σ H=>D.bk σ H
def Dw:TS:=λD σ H=>D.ct σ H
theorem Inv.quiet {pins:List (Addr × Obj)} {σ:St} {H:Hp} {s:Shared} (I:Inv X pins σ H s):interactive X.env=false:=by simp [interactive,I.ok.kind]
def xU (te:TE):TS:=λD σ H=>te σ H λ_ H1=>D.nx σ H1
theorem aT (he:PE X e te) (hs:swapsWith e none pos.line X.env=pure false:=by rfl):PS X (.Expr e pos) (xU te):=by
 intro pins s σ H D I h
 exact wpAny_Expr_any (thn (he pins s σ H _ I h) λv s1 ⟨x,H1,I1,r1,q1⟩=>⟨σ,H1,I1,q1⟩) I.quiet hs
def Ab (te:TE):TS:=λD σ H=>te σ H D.rt
theorem aP (he:PE X e te):PS X (.Return (some e) pos) (Ab te):=by
 intro pins s σ H D I h
 exact wpAny_Return_some (thn (he pins s σ H _ I h) λv s1 ⟨x,H1,I1,r1,q1⟩=>⟨x,σ,H1,I1,r1,q1⟩)
def Dx:TS:=λD _ H=>D.rt .non H
def Ac (c:TT) (t u:TS):TS:=λD σ H=>c σ H λb H1=>if b=true then t D σ H1 else u D σ H1
theorem ba {c:Expr} {a b:List Stmt} {tc:TT} (hc:PT X c tc) (ha:PSs X a t) (hb:PSs X b u):PS X (.If c a b pos) (Ac tc t u):=by
 intro pins s σ H D I h
 refine wpAny_If (thn (hc pins s σ H _ I h) λd s1 ⟨H1,I1,q1⟩=>?_)
 cases d with
 | true=>exact ha pins s1 σ H1 D I1 q1
 | false=>exact hb pins s1 σ H1 D I1 q1
def vA:TS:=λ_ _ _=>False
theorem bf:PS X st vA:=λ_ _ _ _ _ _ h=>h.elim
end
abbrev TG:=V->St->Hp->(St->Hp->Prop)->Prop
abbrev TGs:=List V->St->Hp->(St->Hp->Prop)->Prop
def PG (X:Cx) (target:Expr) (t:TG):Prop :=
 ∀ (pins:List (Addr × Obj)) (s:Shared) (σ:St) (H:Hp) (v:V) (u:Value) (Q:St->Hp->Prop),Inv X pins σ H s->RelV v u->t v σ H Q ->
  wpAny (model X.prog X.w) X.A (assign target X.env u) (λ_ s'=>∃ σ' H',Inv X pins σ' H' s'/\Q σ' H') X.xe s
def PGs (X:Cx) (ts:List Expr) (t:TGs):Prop :=
 ∀ (pins:List (Addr × Obj)) (s:Shared) (σ:St) (H:Hp) (vs:List V) (us:List Value) (Q:St->Hp->Prop),Inv X pins σ H s->Vals vs us->t vs σ H Q ->
  wpAny (model X.prog X.w) X.A (assignInOrder ((assignEach ts X.env).map (·.2)) us) (λ_ s'=>∃ σ' H',Inv X pins σ' H' s'/\Q σ' H') X.xe s
abbrev ub:=V->V->V->Hp->(Hp->Prop)->Prop
def xV (X:Cx) (t:ub):Prop :=
 ∀ (pins:List (Addr × Obj)) (s:Shared) (σ:St) (H:Hp) (o i v:V) (ov iv u:Value) (Q:Hp->Prop),Inv X pins σ H s->RelV o ov->RelV i iv->RelV v u->t o i v H Q ->
  wpAny (model X.prog X.w) X.A (setItem ov iv u) (λ_ s'=>∃ H',Inv X pins σ H' s'/\Q H') X.xe s
abbrev TIp:=V->V->Hp->VK->Prop
def PIp (X:Cx) (op:Operator) (t:TIp):Prop :=
 ∀ (pins:List (Addr × Obj)) (s:Shared) (σ:St) (H:Hp) (x y:V) (v u:Value) (Q:VK),Inv X pins σ H s->RelV x v->RelV y u->t x y H Q ->
  wpAny (model X.prog X.w) X.A (inplaceOp op v u) (EP X pins σ Q) X.xe s
section
variable {X:Cx} {pos:Pos}
def lA (i:Nat):TG:=λv σ H Q=>Q (σ.set i (some v)) H
theorem aE {i:Nat} {x:Str} (hN:X.N.Nodup) (hi:X.N[i]?=some x) (hx:Loc X.env.scope x) (hf:X.fn x=true\/X.env.scope.names.lookup x=some .local:=by first | exact .inl rfl | exact .inr rfl | assumption):PG X (.Name x pos) (lA i):=by
 intro pins s σ H v u Q I r h
 exact wpAny_assign_Name (nM I hN hi hx r (λs' I'=>⟨_,H,I',h⟩) hf)
def Ad:TGs:=λvs σ H Q=>vs=[]/\Q σ H
def xW (t:TG) (u:TGs):TGs:=λvs σ H Q=>∃ v r,vs=v :: r/\t v σ H λσ' H'=>u r σ' H' Q
theorem bA:PGs X [] Ad:=by
 intro pins s σ H vs us Q I r h
 obtain ⟨e,h⟩:=h
 subst e
 cases r
 exact assignInOrder_nil ⟨σ,H,I,h⟩
theorem aH {e:Expr} {es:List Expr} {t:TG} {u:TGs} (h1:PG X e t) (h2:PGs X es u)
  (hs:(assignEach (e :: es) X.env).map (·.2)=assign e X.env :: (assignEach es X.env).map (·.2):=by rfl):PGs X (e :: es) (xW t u):=by
 intro pins s σ H vs us Q I r h
 obtain ⟨v,vr,e1,h⟩:=h
 subst e1
 cases r with
 | cons r rr =>
  rw [hs]
  refine assignInOrder_cons (thn (h1 pins s σ H _ _ _ I r h) λ_ s1 ⟨σ1,H1,I1,q1⟩=>?_)
  exact h2 pins s1 σ1 H1 _ _ Q I1 rr q1
def xX (K:PySem.W.Frag) (n:Nat) (t:TGs):TG:=λv σ H Q=>∃ a xs,v=.ref a/\SqT K H a xs/\xs.length=n/\t xs σ H Q
theorem cA {es:List Expr} {k:Nat} {t:TGs} {n:Nat} (hc:X.calm=true) (h:PGs X es t)
  (hn:(assignEach es X.env).length=n:=by rfl) (hst:(assignEach es X.env).findIdx? (·.1)=none:=by rfl):PG X (.Tuple es k pos) (xX X.K n t):=by
 intro pins s σ H v u Q I r hw
 obtain ⟨a,xs,e1,hq,hl,hw⟩:=hw
 subst e1
 cases r
 obtain ⟨its,rv,ht,hz⟩:=I.tuple hq
 refine assign_Tuple_tuple (I.ok.hd hc) ht (by simp [hn,← hl,rv.length]) hst λh' hx=>?_
 have I1:Inv X pins σ H { s with heap:=h' }:=I.kept (t':=s.toks) λb o e=>hx b o (Nat.ne_of_lt (Heap.lt_size e)) e
 exact h pins _ σ H xs _ Q I1 (by simpa using rv) hw
def Ae (to ti:TE) (t:ub):TG:=λv σ H Q=>to σ H λo H1=>ti σ H1 λi H2=>t o i v H2 λH3=>Q σ H3
theorem vB {o i:Expr} {to ti:TE} {t:ub} (ho:PE X o to) (hi:PE X i ti) (hs:xV X t)
  (ha:∀ v,assign (.Subscript o i pos) X.env v=(do
   let ov ← holding [v] (eval o X.env)
   let iv ← holding [v,ov] (eval i X.env)
   standAt pos
   holding [v,ov,iv] (setItem ov iv v)
   release [v,ov,iv] []):=by intro _;rfl):PG X (.Subscript o i pos) (Ae to ti t):=by
 intro pins s σ H v u Q I r h
 rw [ha]
 refine wpAny_bind (wpAny_holding (thn (ho pins s σ H _ I h) λov s1 ⟨x,H1,I1,r1,q1⟩=>?_))
 refine wpAny_bind (wpAny_holding (thn (hi pins s1 σ H1 _ I1 q1) λiv s2 ⟨y,H2,I2,r2,q2⟩=>?_))
 refine wpAny_bind (wpAny_standAt (wpAny_bind (wpAny_holding (thn (hs pins s2 σ H2 x y v ov iv u _ I2 r1 r2 r q2) λ_ s3 ⟨H3,I3,q3⟩=>?_))))
 exact wpAny_release ⟨σ,H3,I3,q3⟩
def uc (te:TE) (g:TG):TS:=λD σ H=>te σ H λx H1=>g x σ H1 D.nx
theorem fg {tg e:Expr} {te:TE} {g:TG} (he:PE X e te) (hg:PG X tg g) (hs:swapsWithSole [tg] e pos.line X.env=pure false:=by rfl) (hw:swappedStores [tg] e X.env=pure none:=by rfl)
  (h1:(assignEach [tg] X.env).map (·.2)=[assign tg X.env]:=by rfl):PS X (.Assign [tg] e pos) (uc te g):=by
 intro pins s σ H D I h
 refine wpAny_Assign_stores (thn (he pins s σ H _ I h) λv s1 ⟨x,H1,I1,r1,q1⟩=>?_) hs hw
 rw [h1]
 exact thn (hg pins s1 σ H1 x v _ I1 r1 q1) λ_ s2 q=>q
theorem aI {i:Nat} {x:Str} {e:Expr} {te:TE} {pos' : Pos} (hN:X.N.Nodup) (hi:X.N[i]?=some x) (hx:Loc X.env.scope x) (he:PE X e te) (hs:swapsWith e (some (.Name x pos')) pos.line X.env=pure false:=by rfl) (hf:X.fn x=true\/X.env.scope.names.lookup x=some .local:=by first | exact .inl rfl | exact .inr rfl | assumption) :
  PS X (.Assign [.Name x pos'] e pos) (uc te (lA i)):=by
 intro pins s σ H D I h
 refine wpAny_Assign_Name (thn (he pins s σ H _ I h) λv s1 ⟨y,H1,I1,r1,q1⟩=>?_) hs
 exact nM I1 hN hi hx r1 (λs2 I2=>⟨_,H1,I2,q1⟩) hf
def D3 (i j:Nat) (ta:TA):TS:=λD σ H=>ta σ H λvs H1=>∃ v w,vs=[v,w]/\D.nx ((σ.set i (some v)).set j (some w)) H1
def D4 (i:Nat) (te:TE) (ti:TIp):TS:=λD σ H=>∃ x,σ[i]?=some (some x)/\te σ H λy H1=>ti x y H1 λz H2=>D.nx (σ.set i (some z)) H2
def Dy (to ti te:TE) (Af:V->V->Hp->VK->Prop) (tip:TIp) (Ag:ub):TS:=λD σ H=>to σ H λo H1=>ti σ H1 λi H2=>Af o i H2 λx H3=>te σ H3 λy H4=>tip x y H4 λz H5=>Ag o i z H5 λH6=>D.nx σ H6
def D5 (X:Cx) (t:V->V->Hp->VK->Prop):Prop :=
 ∀ (pins:List (Addr × Obj)) (s:Shared) (σ:St) (H:Hp) (o i:V) (ov iv:Value) (Q:VK),Inv X pins σ H s->RelV o ov->RelV i iv->t o i H Q ->
  wpAny (model X.prog X.w) X.A (getItem ov iv) (EP X pins σ Q) X.xe s
def ipI (f:Int->Int->Int):TIp:=λx y H Q=>∃ i j,x=.int i/\y=.int j/\Q (.int (f i j)) H
end
section
variable {X:Cx} {pos:Pos}
def vC (c:TT) (tb:TS):TS:=λD σ H=>∃ W:Nat->St->Hp->Prop,(∃ m,W m σ H)/\∀ m σ H,W m σ H ->
 c σ H λb H1=>if b=true then ∃ N:St->Hp->Prop,(∀ σ' H',N σ' H'->∃ m',m' < m/\W m' σ' H')/\tb { D with nx:=N,ct:=N,bk:=D.nx } σ H1 else D.nx σ H1
theorem rA {c:Expr} {body:List Stmt} {tc:TT} {tb:TS} (hp:PassesOwn (model X.prog X.w) X.A X.env X.xe) (hc:PT X c tc) (hb:PSs X body tb):PS X (.While c body [] pos) (vC tc tb):=by
 intro pins s σ H D I h
 obtain ⟨W,⟨m0,w0⟩,turn⟩:=h
 refine wpAny_While (codeAny_whileLoop (λn s'=>∃ σ' H',Inv X pins σ' H' s'/\W n σ' H') ?_ m0 ⟨σ,H,I,w0⟩)
 rintro n s1 ⟨σ1,H1,I1,w1⟩
 refine wpAny_passesOwn hp (thn (hc pins s1 σ1 H1 _ I1 (turn n σ1 H1 w1)) λb s2 ⟨H2,I2,q2⟩=>?_)
 cases b with
 | true =>
  obtain ⟨N,hN,q2⟩:=q2
  rw [if_pos rfl]
  refine wpAny_passesOwn hp (thn (hb pins s2 σ1 H2 _ I2 q2) λf s3 q3=>?_)
  cases f with
  | next =>
   obtain ⟨σ3,H3,I3,n3⟩:=q3
   obtain ⟨m',hm,w3⟩:=hN σ3 H3 n3
   exact ⟨m',hm,σ3,H3,I3,w3⟩
  | cont =>
   obtain ⟨σ3,H3,I3,n3⟩:=q3
   obtain ⟨m',hm,w3⟩:=hN σ3 H3 n3
   exact ⟨m',hm,σ3,H3,I3,w3⟩
  | brk=>exact q3
  | ret v=>exact q3
 | false =>
  rw [if_neg Bool.false_ne_true]
  exact wpAny_execs_nil ⟨σ1,H2,I2,q2⟩
end
structure It where
 go:Nat->Hp->Prop
 yld:Nat->Hp->V->Hp->Prop
 stop:Nat->Hp->Prop
def iP (X:Cx) (pins:List (Addr × Obj)) (H:Hp) (b:Addr):Prop :=
 H b=none/\b ≠ X.env.locals/\b ∉ X.fs/\(b ∈ X.ex\/X.s₀.heap.objs.size<=b)/\(∀ x c,X.env.cells.lookup x=some c->c ≠ b)/\∀ p ∈ X.pn ++ pins,p.1 ≠ b
theorem Inv.fpOk {X:Cx} {pins:List (Addr × Obj)} {σ:St} {H H' : Hp} {s:Shared} {b:Addr} (I:Inv X pins σ H s) (hb:s.heap.objs.size<=b) (hn:H' b=none):iP X pins H' b:=by
 refine ⟨hn,Nat.ne_of_gt (Nat.lt_of_lt_of_le I.lt hb),I.nofs hb,.inr (Nat.le_trans I.sz hb),λx c e z=>?_,λp hp z=>?_⟩
 ·obtain ⟨v,q⟩:=I.cell x c e
  exact absurd (Nat.lt_of_lt_of_le q.lt (by rw [z];exact hb)) (Nat.lt_irrefl _)
 ·exact absurd (Nat.lt_of_lt_of_le (Heap.lt_size (I.pin p hp).1) (by rw [z];exact hb)) (Nat.lt_irrefl _)
structure Turn (P:Program) (w:World) (K:PySem.W.Frag) (tg:Expr) (J:It) (fp:List Addr) (it:Addr) (tn:Nat->Heap->Prop):Prop where
 mem:it ∈ fp
 obj:∀ i h,tn i h->∀ b ∈ fp,∃ o,h.get? b=some o/\∀ v,o.data ≠ .cell v
 keep:∀ i h h',tn i h->(∀ b ∈ fp,∀ o,h.get? b=some o->h'.get? b=some o)->tn i h'
 item:∀ (X:Cx),X.prog=P->X.w=w->X.K=K->X.calm=true->∀ (i:Nat) (pins:List (Addr × Obj)) (s:Shared) (σ:St) (H:Hp) (E:Value->Shared->Prop),Inv X pins σ H s->(∀ b ∈ fp,iP X pins H b)->tn i s.heap->J.go i H ->
  wpAny (model P w) X.A (pyNext (.ref it)) (λr s1=>∃ u,r=some u /\
   wpAny (model P w) X.A (letOwnedTupleGo tg (.ref it) u) (λ_ s2=>∃ x H',Inv X pins σ H' s2/\RelV x u/\J.yld i H x H'/\tn (i+1) s2.heap/\∀ b ∈ fp,H' b=none) E s1) E s
 done:∀ (X:Cx),X.prog=P->X.w=w->X.K=K->X.calm=true->∀ (i:Nat) (pins:List (Addr × Obj)) (s:Shared) (σ:St) (H:Hp) (E:Value->Shared->Prop),Inv X pins σ H s->(∀ b ∈ fp,iP X pins H b)->tn i s.heap->J.stop i H ->
  wpAny (model P w) X.A (pyNext (.ref it)) (λr s1=>r=none/\Inv X pins σ H s1) E s
 self:∀ (A:Around) (i:Nat) (s:Shared) (Q:Value->Shared->Prop) (E:Value->Shared->Prop),tn i s.heap->Q (.ref it) s->wpAny (model P w) A (pyIter (.ref it)) Q E s
abbrev TI:=St->Hp->(It->Hp->Prop)->Prop
def PIE (X:Cx) (pins:List (Addr × Obj)) (σ:St) (tg:Expr) (R:It->Hp->Prop) (itv:Value) (s2:Shared):Prop :=
 ∃ (it:Addr) (fp:List Addr) (tn:Nat->Heap->Prop) (J:It) (H' : Hp),itv=.ref it/\Inv X pins σ H' s2/\Turn X.prog X.w X.K tg J fp it tn/\tn 0 s2.heap/\(∀ b ∈ fp,iP X pins H' b)/\R J H'
def PI (X:Cx) (tg iter:Expr) (wi:TI):Prop :=
 ∀ (pins:List (Addr × Obj)) (s:Shared) (σ:St) (H:Hp) (R:It->Hp->Prop),Inv X pins σ H s->wi σ H R ->
  wpAny (model X.prog X.w) X.A (eval iter X.env) (λv s1=>wpAny (model X.prog X.w) X.A (pyIter v) (PIE X pins σ tg R) X.xe s1) X.xe s
theorem p4 {M:Model} {A:Around} {E:Value->Shared->Prop} {s:Shared} {tg:Expr} {it:Addr} {u:Value} {o:Obj} {n:String} {vs:Array Value} {Q:Unit->Shared->Prop} (ho:s.heap.get? it=some o) (hc:o.cls=.type n) (hd:o.data=.fields vs)
  (hn:["enumerate", "zip", "dict_itemiterator", "dict_reverseitemiterator", "odict_iterator", "itertools.zip_longest", "itertools.pairwise"].contains n=false) (hQ:Q () s):wpAny M A (letOwnedTupleGo tg (.ref it) u) Q E s:=by
 unfold letOwnedTupleGo
 cases tg <;> first
  | exact wpAny_pure hQ
  | (cases u <;> first
    | exact wpAny_pure hQ
    | (refine wpAny_bind (wpAny_load ho ?_);rw [hc,hd];show wpAny M A (if (["enumerate", "zip", "dict_itemiterator", "dict_reverseitemiterator", "odict_iterator", "itertools.zip_longest", "itertools.pairwise"].contains n && vs[0]? == some (rawInt _))=true then _ else _) Q E s;rw [if_neg (by intro h;rw [hn,Bool.false_and] at h;cases h)];exact wpAny_pure hQ))
def Itl (K:PySem.W.Frag) (a:Addr):It :=
 ⟨λi H=>∃ xs x,SqL K H a xs/\xs[i]?=some x,λi H x H'=>H'=H/\∀ xs,SqL K H a xs->xs[i]?=some x,λi H=>∃ xs,SqL K H a xs/\xs.length<=i⟩
def Itt (K:PySem.W.Frag) (a:Addr):It :=
 ⟨λi H=>∃ xs x,SqT K H a xs/\xs[i]?=some x,λi H x H'=>H'=H/\∀ xs,SqT K H a xs->xs[i]?=some x,λi H=>∃ xs,SqT K H a xs/\xs.length<=i⟩
def Itr (lo:Int) (n:Nat):It:=⟨λi _=>i < n,λi H x H'=>H'=H/\x=.int (lo+i),λi _=>n<=i⟩
theorem qz {P:Program} {w:World} {K:PySem.W.Frag} {tg:Expr} (a it:Addr):Turn P w K tg (Itl K a) [it] it (λi h=>h.IsListIter it a i) where
 mem:=by simp
 obj:=λi h st b hb=>by
  have e:b=it:=by simpa using hb
  subst e
  obtain ⟨o,e,c,d⟩:=st
  exact ⟨o,e,λv z=>by rw [d] at z;cases z⟩
 keep:=λi h h' st k=>st.at λo e=>k it (by simp) o e
 item:=by
  intro X hP hw hK hc i pins s σ H E I hf st hg
  subst hP hw hK
  obtain ⟨xs,x,hq,hx⟩:=hg
  obtain ⟨its,rv,p,hz⟩:=I.list hq
  obtain ⟨u,hu,ru⟩:=rv.get hx
  obtain ⟨f0,f1,f2,f3,f4,f5⟩:=hf it (by simp)
  refine wpAny_pyNext_list_item st p.isList (x:=u) (by simpa using hu) λh' st' sb=>?_
  have I1:Inv X pins σ H { s with heap:=h' }:=I.turned (t':=s.toks) (λb o hb e=>(sb.2 b hb).trans e) f0 f1 f3 f4 f5
  obtain ⟨o,e,c,d⟩:=id st'
  exact ⟨u,rfl,p4 (s:={ s with heap:=h' }) e c d (by decide) ⟨x,H,I1,ru,⟨rfl,λys hy=>by rw [I.list_inj hy hq];exact hx⟩,st',λb hb=>(hf b hb).1⟩⟩
 done:=by
  intro X hP hw hK hc i pins s σ H E I hf st hg
  subst hP hw hK
  obtain ⟨xs,hq,hx⟩:=hg
  obtain ⟨its,rv,p,hz⟩:=I.list hq
  obtain ⟨f0,f1,f2,f3,f4,f5⟩:=hf it (by simp)
  have hl:=rv.length
  exact wpAny_pyNext_list_end (I.ok.hd hc) st p.isList (by simp;omega) λh' eb=>⟨rfl,I.turned (t':=s.toks) (λb o hb e=>eb b o hb e) f0 f1 f3 f4 f5⟩
 self:=λ_ _ _ _ _ st h=>wpAny_pyIter_listiter st h
theorem oQ {P:Program} {w:World} {K:PySem.W.Frag} {tg:Expr} (it:Addr) (lo:Int) (n:Nat):Turn P w K tg (Itr lo n) [it] it (λi h=>IsRangeIter h it (lo+(i:Nat) * 1) ((n:Int) - (i:Nat)) 1) where
 mem:=by simp
 obj:=λi h st b hb=>by
  have e:b=it:=by simpa using hb
  subst e
  exact ⟨_,st,λv z=>by
   have z' : Data.fields _=Data.cell v:=z
   cases z'⟩
 keep:=λi h h' st k=>k it (by simp) _ st
 item:=by
  intro X hP hw hK hc i pins s σ H E I hf st hg
  subst hP hw hK
  obtain ⟨f0,f1,f2,f3,f4,f5⟩:=hf it (by simp)
  have W:=Walks.range (prog:=X.prog) (w:=X.w) (I.ok.hd hc) it lo 1 n
  refine W.item i s _ _ hg st λv h' tk hv st' kk=>?_
  obtain ⟨t,rfl⟩:=hv
  have I1:Inv X pins σ H { s with heap:=h',toks:=tk }:=I.turned (λb o hb e=>kk b o (by simpa using hb) e) f0 f1 f3 f4 f5
  refine ⟨_,rfl,p4 (s:={ s with heap:=h',toks:=tk }) (n := "range_iterator") st' rfl rfl (by decide) ⟨.int (lo+i),H,I1,⟨t,?_⟩,⟨rfl,rfl⟩,st',λb hb=>(hf b hb).1⟩⟩
  rw [Int.mul_one]
 done:=by
  intro X hP hw hK hc i pins s σ H E I hf st hg
  subst hP hw hK
  obtain ⟨f0,f1,f2,f3,f4,f5⟩:=hf it (by simp)
  exact wpAny_pyNext_range_end (I.ok.hd hc) st (by have:n<=i:=hg;omega) λh' eb=>⟨rfl,I.turned (t':=s.toks) (λb o hb e=>eb b o hb e) f0 f1 f3 f4 f5⟩
 self:=λ_ _ _ _ _ st h=>wpAny_pyIter_rangeiter st h
end L2
namespace L2
open PySem PySem.Spec PyProof.Rows
section
variable {X:Cx} {tg:Expr}
def u6 (K:PySem.W.Frag) (tl:TE):TI:=λσ H R=>tl σ H λx H1=>∃ a,x=.ref a/\(∃ xs,SqL K H1 a xs)/\R (Itl K a) H1
def D6 (K:PySem.W.Frag) (tl:TE):TI:=λσ H R=>tl σ H λx H1=>∃ a,x=.ref a/\(∃ xs,SqT K H1 a xs)/\R (Itt K a) H1
theorem aK {l:Expr} {tl:TE} (hl:PE X l tl):PI X tg l (u6 X.K tl):=by
 intro pins s σ H R I h
 refine thn (hl pins s σ H _ I h) λv s1 ⟨x,H1,I1,r1,q1⟩=>?_
 obtain ⟨a,e,⟨xs,hq⟩,q⟩:=q1
 subst e
 cases r1
 obtain ⟨its,rv,p,hz⟩:=I1.list hq
 refine wpAny_pyIter_list p.isList ?_
 refine ⟨s1.heap.objs.size,[s1.heap.objs.size],_,_,H1,rfl,I1.kept (t':=s1.toks) λb o e=>Heap.get?_push_of_some _ e,qz a _,⟨_,Heap.get?_push_size _ rfl,rfl,rfl⟩,λb hb=>?_,q⟩
 have e:b=s1.heap.objs.size:=by simpa using hb
 subst e
 exact I1.fpOk (Nat.le_refl _) (I1.hok.fresh (Nat.le_refl _))
theorem nN {pins:List (Addr × Obj)} {σ:St} {H:Hp} {s:Shared} {R:It->Hp->Prop} {E:Value->Shared->Prop} {lo hi:Int} {t u v:Tok} {tk:Nat} (I:Inv X pins σ H s) (h1 : -(2 ^ 62)<=lo) (h2:lo < 2 ^ 62) (h3 : -(2 ^ 62)<=hi) (h4:hi < 2 ^ 62)
  (q:R (Itr lo (hi - lo).toNat) H):wpAny (model X.prog X.w) X.A (pyIter (.ref s.heap.objs.size)) (PIE X pins σ tg R) E { s with heap:=s.heap.push { cls:=.type "range",data:=.fields #[.int lo t,.int hi u,.int 1 v] },toks:=tk }:=by
 refine wpAny_pyIter_range (IsRange.new ..) (small_one h1 h2 h3 h4) ?_
 have I1:Inv X pins σ H { s with heap:=s.heap.push { cls:=.type "range",data:=.fields #[.int lo t,.int hi u,.int 1 v] },toks:=tk }:=I.kept λb o e=>Heap.get?_push_of_some _ e
 refine ⟨(s.heap.push { cls:=.type "range",data:=.fields #[.int lo t,.int hi u,.int 1 v] }).objs.size,[(s.heap.push { cls:=.type "range",data:=.fields #[.int lo t,.int hi u,.int 1 v] }).objs.size],_,_,H,rfl,
  I1.kept (t':=tk) λb o e=>Heap.get?_push_of_some _ e,oQ _ lo (hi - lo).toNat,?_,λb hb=>?_,q⟩
 ·have e1:lo+((0:Nat):Int) * 1=lo:=by simp
  have e2:(((hi - lo).toNat:Nat):Int) - ((0:Nat):Int)=Builtin.Range.rangeSize lo hi 1:=by rw [rangeSize_one];split <;> omega
  show IsRangeIter _ _ (lo+((0:Nat):Int) * 1) ((((hi - lo).toNat:Nat):Int) - ((0:Nat):Int)) 1
  rw [e1,e2]
  exact Heap.get?_push_size _ rfl
 ·have e:b=(s.heap.push { cls:=.type "range",data:=.fields #[.int lo t,.int hi u,.int 1 v] }).objs.size:=by simpa using hb
  subst e
  exact I1.fpOk (Nat.le_refl _) (I1.hok.fresh (Nat.le_refl _))
def xY (ta:TA):TI:=λσ H R=>ta σ H λvs H1=>∃ j:Int,vs=[.int j]/\-(2 ^ 62)<=j/\j < 2 ^ 62/\R (Itr 0 j.toNat) H1
def xZ (ta:TA):TI:=λσ H R=>ta σ H λvs H1=>∃ i j:Int,vs=[.int i,.int j]/\(-(2 ^ 62)<=i/\i < 2 ^ 62/\-(2 ^ 62)<=j/\j < 2 ^ 62)/\R (Itr i (j - i).toNat) H1
theorem bC {a:Expr} {ta:TA} {p pos:Pos} (hg:Gl X "range") (hm:X.mg "range" = none) (ha:PA X [a] ta) (hs:starEach [a] X.env=[(false,eval a X.env)]:=by rfl):PI X tg (.Call (.Name "range" p) [a] [] pos) (xY ta):=by
 intro pins s σ H R I h
 refine Call_ (iN I hg hm boot_range (PyProof.Rows.callWith_type1 (thn (ha pos pins s σ H _ I h) λus s1 ⟨vs,H1,I1,r1,q1⟩=>?_) hs rfl))
 obtain ⟨j,e,q1,q2,q⟩:=q1
 subst e
 cases r1 with
 | cons r rr =>
  cases rr
  obtain ⟨t,rfl⟩:=r
  exact call_range_1 (nN I1 (by omega) (by omega) q1 q2 (by simpa using q))
theorem iQ {a b:Expr} {ta:TA} {p pos:Pos} (hg:Gl X "range") (hm:X.mg "range" = none) (ha:PA X [a,b] ta) (hs:starEach [a,b] X.env=[(false,eval a X.env),(false,eval b X.env)]:=by rfl) (hs2:starEach [b] X.env=[(false,eval b X.env)]:=by rfl) :
  PI X tg (.Call (.Name "range" p) [a,b] [] pos) (xZ ta):=by
 intro pins s σ H R I h
 refine Call_ (iN I hg hm boot_range (PyProof.Rows.callWith_type1 (thn (ha pos pins s σ H _ I h) λus s1 ⟨vs,H1,I1,r1,q1⟩=>?_) (by rw [hs,hs2]) (by rw [hs2];rfl)))
 obtain ⟨i,j,e,⟨q1,q2,q3,q4⟩,q⟩:=q1
 subst e
 cases r1 with
 | cons r rr =>
  cases rr with
  | cons r' rr =>
   cases rr
   obtain ⟨t,rfl⟩:=r
   obtain ⟨t',rfl⟩:=r'
   exact call_range_2 (nN I1 q1 q2 q3 q4 q)
def Ah (wi:TI) (g:TG) (tb:TS):TS:=λD σ H=>wi σ H λJ H1=>∃ W:Nat->Nat->St->Hp->Prop,(∃ m,W 0 m σ H1)/\∀ i m σ H,W i m σ H ->
 (J.stop i H/\D.nx σ H)\/(J.go i H/\∃ N:St->Hp->Prop,(∀ σ' H',N σ' H'->∃ m',m' < m/\W (i+1) m' σ' H')/\∀ x H',J.yld i H x H'->g x σ H' λσ2 H2=>tb { D with nx:=N,ct:=N,bk:=D.nx } σ2 H2)
def iR (fp:List Addr) (h:Heap):List (Addr × Obj):=fp.filterMap λb=>(h.get? b).map λo=>(b,o)
theorem cJ {fp:List Addr} {h:Heap} {b:Addr} {o:Obj} (hb:b ∈ fp) (e:h.get? b=some o):(b,o) ∈ iR fp h:=List.mem_filterMap.mpr ⟨b,hb,by rw [e];rfl⟩
theorem qA {fp:List Addr} {h:Heap} {p:Addr × Obj} (hp:p ∈ iR fp h):p.1 ∈ fp/\h.get? p.1=some p.2:=by
 obtain ⟨b,hb,e⟩:=List.mem_filterMap.mp hp
 cases q:h.get? b with
 | none=>rw [q] at e;cases e
 | some o =>
  rw [q] at e
  have e' : (b,o)=p:=Option.some.inj e
  subst e'
  exact ⟨hb,q⟩
theorem Inv.pinned {pins:List (Addr × Obj)} {σ:St} {H:Hp} {s:Shared} {fp:List Addr} (I:Inv X pins σ H s) (hf:∀ b ∈ fp,iP X pins H b) (ho:∀ b ∈ fp,∃ o,s.heap.get? b=some o/\∀ v,o.data ≠ .cell v):Inv X (pins ++ iR fp s.heap) σ H s :=
 I.pins_of λp hp=>(List.mem_append.mp hp).elim (λz=>I.pin p (List.mem_append_right _ z)) λz=>by
  obtain ⟨hb,e⟩:=qA z
  obtain ⟨f0,f1,f2,_⟩:=hf p.1 hb
  obtain ⟨o,e',d⟩:=ho p.1 hb
  rw [e] at e';cases e'
  exact ⟨e,f0,f1,f2,d⟩
theorem Inv.unpinned {pins pl:List (Addr × Obj)} {σ:St} {H:Hp} {s:Shared} (I:Inv X (pins ++ pl) σ H s):Inv X pins σ H s:=I.pins_of λp hp=>I.pin p (List.mem_append_right _ (List.mem_append_left _ hp))
theorem bp {iter:Expr} {body:List Stmt} {wi:TI} {g:TG} {tb:TS} {pos:Pos} (hp:PassesOwn (model X.prog X.w) X.A X.env X.xe) (hc:X.calm=true) (hi:PI X tg iter wi) (hg:PG X tg g) (hb:PSs X body tb)
  (hs:∀ x,foldedSetIterable iter X.env x=pure x:=by intro _;rfl):PS X (.For tg iter body [] pos) (Ah wi g tb):=by
 intro pins s σ H D I h
 refine wpAny_For (thn (hi pins s σ H _ I h) λv s1 h1=>thn h1 λitv s2 h2=>?_) hs
 obtain ⟨it,fp,tn,J,H2,e,I2,T,st2,f2,W,⟨m0,w0⟩,turn⟩:=h2
 subst e
 have vD:∀ {H' : Hp},(∀ b ∈ fp,H' b=none)->∀ b ∈ fp,iP X pins H' b:=λhn b hb=>⟨hn b hb,(f2 b hb).2⟩
 refine codeAny_forLoop_any (λn s'=>∃ i σ' H',Inv X pins σ' H' s'/\tn i s'.heap/\(∀ b ∈ fp,H' b=none)/\W i n σ' H') ?_ m0 ⟨0,σ,H2,I2,st2,λb hb=>(f2 b hb).1,w0⟩
 rintro n s3 ⟨i,σ3,H3,I3,st3,fr3,w3⟩
 rcases turn i n σ3 H3 w3 with ⟨stop,qn⟩ | ⟨go,N,hN,step⟩
 ·refine wpAny_passesOwn hp (thn (T.done X rfl rfl rfl hc i pins s3 σ3 H3 X.xe I3 (vD fr3) st3 stop) λr s4 ⟨hr,I4⟩=>?_)
  subst hr
  exact wpAny_execs_nil ⟨σ3,H3,I4,qn⟩
 ·refine wpAny_passesOwn hp (thn (T.item X rfl rfl rfl hc i pins s3 σ3 H3 X.xe I3 (vD fr3) st3 go) λr s4 ⟨u,hr,h4⟩=>?_)
  subst hr
  refine wpAny_passesOwn hp (thn h4 λ_ s5 ⟨x,H5,I5,r5,y5,st5,fr5⟩=>?_)
  have I5':=I5.pinned (vD fr5) (T.obj _ _ st5)
  refine wpAny_passesOwn hp (thn (hg _ s5 σ3 H5 x u _ I5' r5 (step x H5 y5)) λ_ s6 ⟨σ6,H6,I6,q6⟩=>?_)
  refine wpAny_passesOwn hp (thn (hb _ s6 σ6 H6 _ I6 q6) λf s7 q7=>?_)
  have again:∀ {σ7:St} {H7:Hp},Inv X (pins ++ iR fp s5.heap) σ7 H7 s7->N σ7 H7->∃ m,m < n/\∃ i σ' H',Inv X pins σ' H' s7/\tn i s7.heap/\(∀ b ∈ fp,H' b=none)/\W i m σ' H':=λ{σ7 H7} I7 n7=>by
   obtain ⟨m',hm,w7⟩:=hN σ7 H7 n7
   refine ⟨m',hm,i+1,σ7,H7,I7.unpinned,T.keep _ _ _ st5 λb hb o e=>(I7.pin (b,o) (List.mem_append_right _ (List.mem_append_right _ (cJ hb e)))).1,λb hb=>?_,w7⟩
   obtain ⟨o,e,d⟩:=T.obj _ _ st5 b hb
   exact (I7.pin (b,o) (List.mem_append_right _ (List.mem_append_right _ (cJ hb e)))).2.1
  cases f with
  | next=>obtain ⟨σ7,H7,I7,n7⟩:=q7;exact again I7 n7
  | cont=>obtain ⟨σ7,H7,I7,n7⟩:=q7;exact again I7 n7
  | brk=>obtain ⟨σ7,H7,I7,q7⟩:=q7;exact ⟨σ7,H7,I7.unpinned,q7⟩
  | ret v=>obtain ⟨x7,σ7,H7,I7,r7,q7⟩:=q7;exact ⟨x7,σ7,H7,I7.unpinned,r7,q7⟩
end
theorem bg {K:PySem.W.Frag} {a:Addr} {xs:List V} {g:TG} {tb:TS} {D:Ends} {σ:St} {H:Hp} (Pv:Nat->St->Hp->Prop) (h0:Pv 0 σ H) (hl:∀ i σ H,i<=xs.length->Pv i σ H->SqL K H a xs)
  (hs:∀ i x σ H,xs[i]?=some x->Pv i σ H->g x σ H λσ2 H2=>tb { D with nx:=Pv (i+1),ct:=Pv (i+1),bk:=D.nx } σ2 H2) (hd:∀ σ H,Pv xs.length σ H->D.nx σ H) :
  ∃ W:Nat->Nat->St->Hp->Prop,(∃ m,W 0 m σ H)/\∀ i m σ H,W i m σ H ->
   ((Itl K a).stop i H/\D.nx σ H)\/((Itl K a).go i H/\∃ N:St->Hp->Prop,(∀ σ' H',N σ' H'->∃ m',m' < m/\W (i+1) m' σ' H')/\∀ x H',(Itl K a).yld i H x H'->g x σ H' λσ2 H2=>tb { D with nx:=N,ct:=N,bk:=D.nx } σ2 H2):=by
 refine ⟨λi m σ H=>m=xs.length - i/\i<=xs.length/\Pv i σ H,⟨xs.length,by simp,Nat.zero_le _,h0⟩,?_⟩
 rintro i m σ H ⟨rfl,hi,p⟩
 have q:=hl i σ H hi p
 by_cases hlt:i < xs.length
 ·refine .inr ⟨⟨xs,xs[i],q,by simp [hlt]⟩,Pv (i+1),λσ' H' p'=>⟨xs.length - (i+1),by omega,rfl,hlt,p'⟩,λx H' y=>?_⟩
  obtain ⟨e,y⟩:=y
  subst e
  exact hs i x σ _ (y xs q) p
 ·have e:i=xs.length:=by omega
  subst e
  exact .inl ⟨⟨xs,q,Nat.le_refl _⟩,hd σ H p⟩
theorem dN {lo:Int} {n:Nat} {g:TG} {tb:TS} {D:Ends} {σ:St} {H:Hp} (Pv:Nat->St->Hp->Prop) (h0:Pv 0 σ H)
  (hs:∀ i σ H,i < n->Pv i σ H->g (.int (lo+i)) σ H λσ2 H2=>tb { D with nx:=Pv (i+1),ct:=Pv (i+1),bk:=D.nx } σ2 H2) (hd:∀ σ H,Pv n σ H->D.nx σ H) :
  ∃ W:Nat->Nat->St->Hp->Prop,(∃ m,W 0 m σ H)/\∀ i m σ H,W i m σ H ->
   ((Itr lo n).stop i H/\D.nx σ H)\/((Itr lo n).go i H/\∃ N:St->Hp->Prop,(∀ σ' H',N σ' H'->∃ m',m' < m/\W (i+1) m' σ' H')/\∀ x H',(Itr lo n).yld i H x H'->g x σ H' λσ2 H2=>tb { D with nx:=N,ct:=N,bk:=D.nx } σ2 H2):=by
 refine ⟨λi m σ H=>m=n - i/\i<=n/\Pv i σ H,⟨n,by simp,Nat.zero_le _,h0⟩,?_⟩
 rintro i m σ H ⟨rfl,hi,p⟩
 by_cases hlt:i < n
 ·refine .inr ⟨hlt,Pv (i+1),λσ' H' p'=>⟨n - (i+1),by omega,rfl,hlt,p'⟩,λx H' y=>?_⟩
  obtain ⟨e,y⟩:=y
  subst e y
  exact hs i σ _ hlt p
 ·have e:i=n:=by omega
  subst e
  exact .inl ⟨Nat.le_refl _,hd σ H p⟩
end L2
namespace L2
open PySem PySem.Spec PyProof.Rows
abbrev R2:=V->V->Hp->VK->Prop
def OpR (X:Cx) (f:Value->Value->Sem Value) (r:R2):Prop :=
 ∀ (pins:List (Addr × Obj)) (s:Shared) (σ:St) (H:Hp) (x y:V) (v u:Value) (Q:VK),Inv X pins σ H s->RelV x v->RelV y u->r x y H Q ->
  wpAny (model X.prog X.w) X.A (f v u) (EP X pins σ Q) X.xe s
def UnR (X:Cx) (f:Value->Sem Value) (r:V->Hp->VK->Prop):Prop :=
 ∀ (pins:List (Addr × Obj)) (s:Shared) (σ:St) (H:Hp) (x:V) (v:Value) (Q:VK),Inv X pins σ H s->RelV x v->r x H Q ->
  wpAny (model X.prog X.w) X.A (f v) (EP X pins σ Q) X.xe s
def dz (X:Cx) (f:Value) (r:List V->Hp->VK->Prop):Prop :=
 ∀ (pins:List (Addr × Obj)) (s:Shared) (σ:St) (H:Hp) (xs:List V) (us:List Value) (Q:VK),Inv X pins σ H s->Vals xs us->r xs H Q ->
  wpAny (model X.prog X.w) X.A (call f us) (EP X pins σ Q) X.xe s
def Ai (X:Cx) (r:V->Hp->(Bool->Hp->Prop)->Prop):Prop :=
 ∀ (pins:List (Addr × Obj)) (s:Shared) (σ:St) (H:Hp) (x:V) (v:Value) (Q:Bool->Hp->Prop),Inv X pins σ H s->RelV x v->r x H Q ->
  wpAny (model X.prog X.w) X.A (truthy v) (TP X pins σ Q) X.xe s
def tOp (r:R2) (ta tb:TE):TE:=λσ H Q=>ta σ H λx H1=>tb σ H1 λy H2=>r x y H2 Q
def tUn (r:V->Hp->VK->Prop) (ta:TE):TE:=λσ H Q=>ta σ H λx H1=>r x H1 Q
def rI (C:Int->Int->Prop) (g:Int->Int->V):R2:=λx y H Q=>∃ i j,x=.int i/\y=.int j/\C i j/\Q (g i j) H
def rI0 (g:Int->Int->V):R2:=λx y H Q=>∃ i j,x=.int i/\y=.int j/\Q (g i j) H
def rU (g:Int->V):V->Hp->VK->Prop:=λx H Q=>∃ i,x=.int i/\Q (g i) H
section
variable {X:Cx} {a b c:Expr} {ta tb tc:TE} {pos:Pos}
theorem vE (ha:PE X a ta) (hb:PE X b tb) {pins:List (Addr × Obj)} {s:Shared} {σ:St} {H:Hp} {R:V->V->Hp->Prop} (I:Inv X pins σ H s)
  (h:ta σ H λx H1=>tb σ H1 λy H2=>R x y H2) {Q:Value->Shared->Prop} {f:Value->Value->Sem Value}
  (hf:∀ v u s2 x y H2,Inv X pins σ H2 s2->RelV x v->RelV y u->R x y H2->wpAny (model X.prog X.w) X.A (f v u) Q X.xe s2) :
  wpAny (model X.prog X.w) X.A (eval a X.env) (λv s₁=>wpAny (model X.prog X.w) X.A (eval b X.env) (λu s₂=>wpAny (model X.prog X.w) X.A (f v u) Q X.xe s₂) X.xe s₁) X.xe s:=by
 refine thn (ha pins s σ H _ I h) λv s1 ⟨x,H1,I1,r1,q1⟩=>?_
 refine thn (hb pins s1 σ H1 _ I1 q1) λu s2 ⟨y,H2,I2,r2,q2⟩=>?_
 exact hf v u s2 x y H2 I2 r1 r2 q2
theorem aG {op:Operator} {r:R2} (ho:OpR X (binaryOp op) r) (ha:PE X a ta) (hb:PE X b tb):PE X (.BinOp a op b pos) (tOp r ta tb):=by
 intro pins s σ H Q I h
 exact wpAny_BinOp (vE ha hb I h λv u s2 x y H2 I2 rx ry q=>ho pins s2 σ H2 x y v u Q I2 rx ry q)
theorem ya {op:UnaryOp} {r:V->Hp->VK->Prop} (ho:UnR X (unaryOp op) r) (ha:PE X a ta):PE X (.UnaryOp op a pos) (tUn r ta):=by
 intro pins s σ H Q I h
 exact UnaryOp_ (thn (ha pins s σ H _ I h) λv s1 ⟨x,H1,I1,r1,q1⟩=>ho pins s1 σ H1 x v Q I1 r1 q1)
theorem opI {f:Value->Value->Sem Value} {C:Int->Int->Prop} {g:Int->Int->Int}
  (rule:∀ (i j:Int) (t u:Tok) (s:Shared) (Q:Value->Shared->Prop) (E:Value->Shared->Prop),C i j->Q (.int (g i j) s.toks) { s with toks:=s.toks+1 }->wpAny (model X.prog X.w) X.A (f (.int i t) (.int j u)) Q E s) :
  OpR X f (rI C λi j=>.int (g i j)):=by
 intro pins s σ H x y v u Q I rx ry h
 obtain ⟨i,j,rfl,rfl,hc,q⟩:=h
 obtain ⟨t,rfl⟩:=rx
 obtain ⟨t',rfl⟩:=ry
 exact rule i j t t' s _ _ hc ⟨.int (g i j),H,I.tok _,⟨_,rfl⟩,q⟩
theorem yb {f:Value->Value->Sem Value} {g:Int->Int->Int}
  (rule:∀ (i j:Int) (t u:Tok) (s:Shared) (Q:Value->Shared->Prop) (E:Value->Shared->Prop),Q (.int (g i j) s.toks) { s with toks:=s.toks+1 }->wpAny (model X.prog X.w) X.A (f (.int i t) (.int j u)) Q E s) :
  OpR X f (rI0 λi j=>.int (g i j)):=by
 intro pins s σ H x y v u Q I rx ry h
 obtain ⟨i,j,rfl,rfl,q⟩:=h
 obtain ⟨t,rfl⟩:=rx
 obtain ⟨t',rfl⟩:=ry
 exact rule i j t t' s _ _ ⟨.int (g i j),H,I.tok _,⟨_,rfl⟩,q⟩
theorem ud {f:Value->Value->Sem Value} {g:Int->Int->Bool}
  (rule:∀ (i j:Int) (t u:Tok) (s:Shared) (Q:Value->Shared->Prop) (E:Value->Shared->Prop),Q (.bool (g i j)) s->wpAny (model X.prog X.w) X.A (f (.int i t) (.int j u)) Q E s) :
  OpR X f (rI0 λi j=>.bl (g i j)):=by
 intro pins s σ H x y v u Q I rx ry h
 obtain ⟨i,j,rfl,rfl,q⟩:=h
 obtain ⟨t,rfl⟩:=rx
 obtain ⟨t',rfl⟩:=ry
 exact rule i j t t' s _ _ ⟨.bl (g i j),H,I,rfl,q⟩
def yc (i j:Int):Prop:=0 < j/\j < 1073741824
def Dz (i j:Int):Prop:=j ≠ 0/\j.natAbs < 1073741824
def Aj (i j:Int):Prop:=0<=j/\j<=1000000/\i.natAbs < 2 ^ 64
def vF (i j:Int):Prop:=(-(2 ^ 64) < i/\i < 2 ^ 64)\/(-(2 ^ 64) < j/\j < 2 ^ 64)
theorem vF.ok {i j:Int} (h:vF i j):IntMulOk i j:=by
 rcases h with ⟨h1,h2⟩ | ⟨h1,h2⟩
 ·exact .of_left (intBits_le_64 h1 h2)
 ·exact .of_right (intBits_le_64 h1 h2)
theorem bB:OpR X (binaryOp .Add) (rI0 λi j=>.int (i+j)):=yb λ_ _ _ _ _ _ _ q=>add_int q
theorem bQ:OpR X (binaryOp .Sub) (rI0 λi j=>.int (i - j)):=yb λ_ _ _ _ _ _ _ q=>sub_int q
theorem fh:OpR X (binaryOp .Mult) (rI vF λi j=>.int (i * j)):=opI λ_ _ _ _ _ _ _ hc q=>mul_int q hc.ok
theorem bI:OpR X (binaryOp .FloorDiv) (rI yc λi j=>.int (i / j)):=opI λi j _ _ _ _ _ hc q=>by
 have h1:(0:Int) < j:=hc.1
 have h2:j < 1073741824:=hc.2
 exact floordiv_int (by omega) (by rw [Int.fdiv_eq_ediv_of_nonneg i (by omega)];exact q) (.inl (PyProof.noPylong_small (by omega)))
theorem br:OpR X (binaryOp .Mod) (rI (λ_ j=>0 < j) λi j=>.int (i % j)):=opI λi j _ _ _ _ _ hc q=>by
 have h1:(0:Int) < j:=hc
 exact mod_int' (by omega) (by rw [Int.fmod_eq_emod_of_nonneg i (by omega)];exact q)
theorem jU:OpR X (binaryOp .Pow) (rI Aj λi j=>.int (i ^ j.toNat)):=opI λ_ _ _ _ _ _ _ hc q=>pow_int_small hc.1 hc.2.1 hc.2.2 q
theorem unI {f:Value->Sem Value} {g:Int->Int}
  (rule:∀ (i:Int) (t:Tok) (s:Shared) (Q:Value->Shared->Prop) (E:Value->Shared->Prop),Q (.int (g i) s.toks) { s with toks:=s.toks+1 }->wpAny (model X.prog X.w) X.A (f (.int i t)) Q E s) :
  UnR X f (rU λi=>.int (g i)):=by
 intro pins s σ H x v Q I rx h
 obtain ⟨i,rfl,q⟩:=h
 obtain ⟨t,rfl⟩:=rx
 exact rule i t s _ _ ⟨.int (g i),H,I.tok _,⟨_,rfl⟩,q⟩
theorem vG:UnR X (unaryOp .USub) (rU λi=>.int (-i)):=unI λ_ _ _ _ _ q=>neg_int q
end
def yd:V->V->Bool
 | .non,.non=>true | .non,.int _=>true | .int _,.non=>true | .non,.bl _=>true | .bl _,.non=>true | .non,.str _=>true | .str _,.non=>true
 | .int _,.int _=>true | .bl _,.bl _=>true | .str _,.str _=>true | .byt _,.byt _=>true
 | .int _,.str _=>true | .str _,.int _=>true | .bl _,.str _=>true | .str _,.bl _=>true
 | _,_=>false
def rEq:R2:=λx y H Q=>yd x y=true/\Q (.bl (decide (x=y))) H
def rNe:R2:=λx y H Q=>yd x y=true/\Q (.bl (!decide (x=y))) H
theorem p5 {i j:Int} : decide (V.int i=V.int j)=(i == j):=by
 rw [Bool.eq_iff_iff]
 simp
theorem rB {i j:Bool} : decide (V.bl i=V.bl j)=(i == j):=by
 rw [Bool.eq_iff_iff]
 simp
theorem p7 {i j:Str} : decide (V.str i=V.str j)=(i == j):=by
 rw [Bool.eq_iff_iff]
 simp
theorem p8 {i j:Array UInt8} : decide (V.byt i=V.byt j)=(i.toList == j.toList):=by
 rw [Bool.eq_iff_iff]
 cases i
 cases j
 simp
section
variable {X:Cx} {a b c:Expr} {ta tb tc:TE} {pos:Pos}
theorem bc {pins:List (Addr × Obj)} {σ:St} {H:Hp} {s:Shared} {Q:VK} {k k' : Bool} (I:Inv X pins σ H s) (q:Q (.bl k) H) (e:k=k'):EP X pins σ Q (.bool k') s:=by
 subst e
 exact ⟨.bl k,H,I,rfl,q⟩
theorem cO:OpR X (compareOp .Eq) rEq:=by
 intro pins s σ H x y v u Q I rx ry h
 obtain ⟨hs,q⟩:=h
 cases x with
 | non =>
  cases rx
  cases y with
  | non=>cases ry;exact PySem.EqNone.eq_none_none (bc I q (by simp))
  | bl j=>cases ry;exact PySem.EqNone.eq_none_bool (bc I q (by simp))
  | int j=>obtain ⟨t',rfl⟩:=ry;exact PySem.EqNone.eq_none_int (bc I q (by simp))
  | str j=>obtain ⟨t',rfl⟩:=ry;exact PySem.EqNone.eq_none_str (bc I q (by simp))
  | _=>exact absurd (show false=true from hs) Bool.false_ne_true
 | bl i =>
  cases rx
  cases y with
  | non=>cases ry;exact PySem.EqNone.eq_bool_none (bc I q (by simp))
  | bl j=>cases ry;exact eq_bool (bc I q rB)
  | str j=>obtain ⟨t',rfl⟩:=ry;exact PySem.EqMixed.eq_bool_str (bc I q (by simp))
  | _=>exact absurd (show false=true from hs) Bool.false_ne_true
 | int i =>
  obtain ⟨t,rfl⟩:=rx
  cases y with
  | non=>cases ry;exact PySem.EqNone.eq_int_none (bc I q (by simp))
  | int j=>obtain ⟨t',rfl⟩:=ry;exact eq_int (bc I q p5)
  | str j=>obtain ⟨t',rfl⟩:=ry;exact PySem.EqMixed.eq_int_str (bc I q (by simp))
  | _=>exact absurd (show false=true from hs) Bool.false_ne_true
 | str i =>
  obtain ⟨t,rfl⟩:=rx
  cases y with
  | non=>cases ry;exact PySem.EqNone.eq_str_none (bc I q (by simp))
  | bl j=>cases ry;exact PySem.EqMixed.eq_str_bool (bc I q (by simp))
  | int j=>obtain ⟨t',rfl⟩:=ry;exact PySem.EqMixed.eq_str_int (bc I q (by simp))
  | str j=>obtain ⟨t',rfl⟩:=ry;exact eq_str (bc I q p7)
  | _=>exact absurd (show false=true from hs) Bool.false_ne_true
 | byt i =>
  obtain ⟨t,rfl⟩:=rx
  cases y with
  | byt j=>obtain ⟨t',rfl⟩:=ry;exact PySem.W.eq_bytes (bc I q p8)
  | _=>exact absurd (show false=true from hs) Bool.false_ne_true
 | _=>cases y <;> exact absurd (show false=true from hs) Bool.false_ne_true
theorem u9:OpR X (compareOp .NotEq) rNe:=by
 intro pins s σ H x y v u Q I rx ry h
 obtain ⟨hs,q⟩:=h
 cases x with
 | non =>
  cases rx
  cases y with
  | non=>cases ry;exact PySem.EqNone.ne_none_none (bc I q (by simp))
  | bl j=>cases ry;exact PySem.EqNone.ne_none_bool (bc I q (by simp))
  | int j=>obtain ⟨t',rfl⟩:=ry;exact PySem.EqNone.ne_none_int (bc I q (by simp))
  | str j=>obtain ⟨t',rfl⟩:=ry;exact PySem.EqNone.ne_none_str (bc I q (by simp))
  | _=>exact absurd (show false=true from hs) Bool.false_ne_true
 | bl i =>
  cases rx
  cases y with
  | non=>cases ry;exact PySem.EqNone.ne_bool_none (bc I q (by simp))
  | bl j=>cases ry;exact ne_bool (bc I q (congrArg not rB))
  | str j=>obtain ⟨t',rfl⟩:=ry;exact PySem.EqMixed.ne_bool_str (bc I q (by simp))
  | _=>exact absurd (show false=true from hs) Bool.false_ne_true
 | int i =>
  obtain ⟨t,rfl⟩:=rx
  cases y with
  | non=>cases ry;exact PySem.EqNone.ne_int_none (bc I q (by simp))
  | int j=>obtain ⟨t',rfl⟩:=ry;exact ne_int (bc I q (congrArg not p5))
  | str j=>obtain ⟨t',rfl⟩:=ry;exact PySem.EqMixed.ne_int_str (bc I q (by simp))
  | _=>exact absurd (show false=true from hs) Bool.false_ne_true
 | str i =>
  obtain ⟨t,rfl⟩:=rx
  cases y with
  | non=>cases ry;exact PySem.EqNone.ne_str_none (bc I q (by simp))
  | bl j=>cases ry;exact PySem.EqMixed.ne_str_bool (bc I q (by simp))
  | int j=>obtain ⟨t',rfl⟩:=ry;exact PySem.EqMixed.ne_str_int (bc I q (by simp))
  | str j=>obtain ⟨t',rfl⟩:=ry;exact ne_str (bc I q (congrArg not p7))
  | _=>exact absurd (show false=true from hs) Bool.false_ne_true
 | byt i =>
  obtain ⟨t,rfl⟩:=rx
  cases y with
  | byt j=>obtain ⟨t',rfl⟩:=ry;exact PySem.W.ne_bytes (bc I q (congrArg not p8))
  | _=>exact absurd (show false=true from hs) Bool.false_ne_true
 | _=>cases y <;> exact absurd (show false=true from hs) Bool.false_ne_true
theorem gh:OpR X (compareOp .Lt) (rI0 λi j=>.bl (decide (i < j))):=ud λ_ _ _ _ _ _ _ q=>lt_int q
theorem dO:OpR X (compareOp .LtE) (rI0 λi j=>.bl (decide (i<=j))):=ud λ_ _ _ _ _ _ _ q=>le_int q
theorem jV:OpR X (compareOp .Gt) (rI0 λi j=>.bl (decide (j < i))):=ud λ_ _ _ _ _ _ _ q=>gt_int q
theorem ye:OpR X (compareOp .GtE) (rI0 λi j=>.bl (decide (j<=i))):=ud λ_ _ _ _ _ _ _ q=>ge_int q
theorem mf:OpR X (compareOp .NotIn) (λx y H Q=>∃ i j,x=.str i/\y=.str j/\Q (.bl (!(!(Builtin.Str.occurrences j i 0 j.length 1).isEmpty))) H):=by
 intro pins s σ H x y v u Q I rx ry h
 obtain ⟨i,j,rfl,rfl,q⟩:=h
 obtain ⟨t,rfl⟩:=rx
 obtain ⟨t',rfl⟩:=ry
 exact notIn_str (bc I q rfl)
def isObj:HO->Bool
 | .lst _=>true
 | .ins _ _ _=>true
 | _=>false
theorem aS (b:Expr) {op:CmpOp} (h:op ≠ .In:=by decide) (h2:op ≠ .NotIn:=by decide):behindInMarks op b=false:=by
 have e1:(op == CmpOp.In)=false:=by cases op <;> first | rfl | exact absurd rfl h
 have e2:(op == CmpOp.NotIn)=false:=by cases op <;> first | rfl | exact absurd rfl h2
 cases b <;> simp [behindInMarks,e1,e2]
theorem jr {op:CmpOp} {r:R2} (ho:OpR X (compareOp op) r) (ha:PE X a ta) (hb:PE X b tb) (hm:behindInMarks op b=false):PE X (.Compare a [op] [b] pos) (tOp r ta tb):=by
 intro pins s σ H Q I h
 exact wpAny_Compare1 (vE ha hb I h λv u s2 x y H2 I2 rx ry q=>ho pins s2 σ H2 x y v u Q I2 rx ry q) hm
def va (t:TE):TT:=λσ H Q=>t σ H λx H'=>∃ k,x=.bl k/\Q k H'
theorem aL {op:CmpOp} {r:R2} (ho:OpR X (compareOp op) r) (ha:PE X a ta) (hb:PE X b tb) (hm:behindInMarks op b=false):PT X (.Compare a [op] [b] pos) (va (tOp r ta tb)):=by
 intro pins s σ H Q I h
 refine wpAny_isTrue_Compare1 (thn (ha pins s σ H _ I h) λv s1 ⟨x,H1,I1,r1,q1⟩=>thn (hb pins s1 σ H1 _ I1 q1) λu s2 ⟨y,H2,I2,r2,q2⟩ =>
  thn (ho pins s2 σ H2 x y v u _ I2 r1 r2 q2) λc s3 ⟨z,H3,I3,r3,k,e,q3⟩=>?_) hm
 subst e
 cases r3
 exact wpAny_truthy_bool ⟨H3,I3,q3⟩
def rC (r r' : R2) (ta tb tc:TE):TE:=λσ H Q=>ta σ H λx H1=>tb σ H1 λy H2=>r x y H2 λz H3=>∃ k,z=.bl k /\
 (if k=true then tc σ H3 λw' H4=>r' y w' H4 Q else Q (.bl false) H3)
theorem jW {op op' : CmpOp} {r r' : R2} (ho:OpR X (compareOp op) r) (ho' : OpR X (compareOp op') r') (ha:PE X a ta) (hb:PE X b tb) (hc:PE X c tc)
  (hm:lastMarks [op,op'] [b,c]=false:=by with_unfolding_all rfl):PE X (.Compare a [op,op'] [b,c] pos) (rC r r' ta tb tc):=by
 intro pins s σ H Q I h
 refine Compare_chain (thn (ha pins s σ H _ I h) λv s1 ⟨x,H1,I1,r1,q1⟩=>chain_link (thn (hb pins s1 σ H1 _ I1 q1) λu s2 ⟨y,H2,I2,r2,q2⟩ =>
  thn (ho pins s2 σ H2 x y v u _ I2 r1 r2 q2) λd s3 ⟨z,H3,I3,r3,k,e,q3⟩=>?_)) hm
 subst e
 cases r3
 refine wpAny_truthy_bool ?_
 cases k with
 | false=>exact ite_ff ⟨.bl false,H3,I3,rfl,q3⟩
 | true=>exact ite_tt (chain_last (thn (hc pins s3 σ H3 _ I3 q3) λw' s4 ⟨z',H4,I4,r4,q4⟩=>ho' pins s4 σ H4 y z' u w' Q I4 r2 r4 q4))
theorem jX {op op' : CmpOp} {r r' : R2} (ho:OpR X (compareOp op) r) (ho' : OpR X (compareOp op') r') (ha:PE X a ta) (hb:PE X b tb) (hc:PE X c tc)
  (hm:lastMarks [op,op'] [b,c]=false:=by with_unfolding_all rfl):PT X (.Compare a [op,op'] [b,c] pos) (va (rC r r' ta tb tc)):=by
 intro pins s σ H Q I h
 refine isTrue_chain (thn (ha pins s σ H _ I h) λv s1 ⟨x,H1,I1,r1,q1⟩=>test_link (thn (hb pins s1 σ H1 _ I1 q1) λu s2 ⟨y,H2,I2,r2,q2⟩ =>
  thn (ho pins s2 σ H2 x y v u _ I2 r1 r2 q2) λd s3 ⟨z,H3,I3,r3,k,e,q3⟩=>?_)) hm
 subst e
 cases r3
 refine wpAny_truthy_bool ?_
 cases k with
 | false =>
  obtain ⟨k',e',q'⟩:=q3
  cases e'
  exact ite_ff ⟨H3,I3,q'⟩
 | true =>
  refine ite_tt (test_last (thn (hc pins s3 σ H3 _ I3 q3) λw' s4 ⟨z',H4,I4,r4,q4⟩=>thn (ho' pins s4 σ H4 y z' u w' _ I4 r2 r4 q4) λd' s5 ⟨z2,H5,I5,r5,k2,e2,q5⟩=>?_))
  subst e2
  cases r5
  exact wpAny_truthy_bool ⟨H5,I5,q5⟩
def vH (K:PySem.W.Frag) (x:V) (H:Hp) (k:Bool):Prop :=
 match x with
 | .non=>k=false
 | .bl b=>k=b
 | .int i=>k=(i != 0)
 | .str y=>y.length<=sizeLine/\k=((y.length:Int) != 0)
 | .byt y=>y.size<=sizeLine/\k=((y.size:Int) != 0)
 | .ref p=>(∃ xs,SqL K H p xs/\k = !xs.isEmpty)\/(∃ xs,SqT K H p xs/\k = !xs.isEmpty)\/∃ kvs,H p=some (.dK kvs)/\k = !kvs.isEmpty
 | _=>False
theorem oR {κ:Type} {kvs:List (κ × V)} {vs:List (κ × Value)} (r:KV kvs vs):(!vs.isEmpty) = !kvs.isEmpty:=by
 cases r <;> rfl
theorem jY {xs:List V} {its:List Value} (r:Vals xs its):(!its.toArray.isEmpty) = !xs.isEmpty:=by
 cases r <;> simp
theorem gw:(sizeLine:Nat) < 2 ^ 63:=by rw [sizeLine_eq];decide
theorem vI:Ai X (λx H Q=>∃ k,vH X.K x H k/\Q k H):=by
 intro pins s σ H x v Q I rx h
 obtain ⟨k,e,q⟩:=h
 have hl:=gw
 have hs:sizeLine=16777216:=sizeLine_eq
 cases x with
 | non =>
  cases rx
  have e' : k=false:=e
  subst e'
  exact truthy_none ⟨H,I,q⟩
 | bl b =>
  cases rx
  have e' : k=b:=e
  subst e'
  exact wpAny_truthy_bool ⟨H,I,q⟩
 | int i =>
  obtain ⟨t,rfl⟩:=rx
  have e' : k=(i != 0):=e
  subst e'
  exact PySem.P.truthy_int ⟨H,I,q⟩
 | str y =>
  obtain ⟨t,rfl⟩:=rx
  obtain ⟨hy,e'⟩:y.length<=sizeLine/\k=((y.length:Int) != 0):=e
  subst e'
  exact PySem.P.truthy_str (by omega) ⟨H,I.tok _,q⟩
 | byt y =>
  obtain ⟨t,rfl⟩:=rx
  obtain ⟨hy,e'⟩:y.size<=sizeLine/\k=((y.size:Int) != 0):=e
  subst e'
  exact PySem.W.truthy_bytes (by omega) ⟨H,I.tok _,q⟩
 | ref p =>
  cases rx
  have e' : (∃ xs,SqL X.K H p xs/\k = !xs.isEmpty)\/(∃ xs,SqT X.K H p xs/\k = !xs.isEmpty)\/∃ kvs,H p=some (.dK kvs)/\k = !kvs.isEmpty:=e
  rcases e' with ⟨xs,hx,e'⟩ | ⟨xs,hx,e'⟩ | ⟨kvs,hx,e'⟩
  ·subst e'
   obtain ⟨its,r,pl,hz⟩:=I.list hx
   have hlen:=r.length
   exact wpAny_truthy_list pl.isList (by simp only [List.size_toArray];omega) ⟨H,I.tok _,by rw [jY r];exact q⟩
  ·subst e'
   obtain ⟨its,r,pl,hz⟩:=I.tuple hx
   have hlen:=r.length
   exact truthy_tuple pl (by simp only [List.size_toArray];omega) ⟨H,I.tok _,by rw [jY r];exact q⟩
  ·subst e'
   obtain ⟨hz,hS,vs,r,m⟩:kvs.length<=sizeLine/\(p == sysModules)=false/\∃ vs,KV kvs vs/\s.heap.DictOf (hZ X.prog X.w) p vs:=I.hok p _ hx
   have hlen:kvs.length=vs.length:=Paired.length r
   exact wpAny_truthy_dict hS m (by omega) ⟨H,I.tok _,by rw [oR r];exact q⟩
 | _=>exact (show False from e).elim
theorem nO (ha:PE X a ta) (he:∀ whole,isTrue a X.env whole=(do let v ← whole;standAt a.pos;holding [v] (truthy v))) :
  PT X a (λσ H Q=>ta σ H λx H'=>∃ k,vH X.K x H' k/\Q k H'):=by
 intro pins s σ H Q I h
 exact isTrue_plain (thn (ha pins s σ H _ I h) λv s1 ⟨x,H1,I1,r1,q1⟩=>vI pins s1 σ H1 x v Q I1 r1 q1) (he _)
theorem jZ:OpR X (binaryOp .Add) (λx y H Q=>∃ i j,x=.str i/\y=.str j/\i.length+j.length<=sizeLine/\Q (.str (i ++ j)) H):=by
 intro pins s σ H x y v u Q I rx ry h
 obtain ⟨i,j,rfl,rfl,hz,q⟩:=h
 obtain ⟨t,rfl⟩:=rx
 obtain ⟨t',rfl⟩:=ry
 exact add_str (λt' tk=>⟨.str (i ++ j),H,I.tok _,⟨_,rfl⟩,q⟩) hz
theorem vJ:OpR X (binaryOp .Add) (λx y H Q=>∃ i j,x=.byt i/\y=.byt j/\i.size+j.size<=16777216/\Q (.byt (i ++ j)) H):=by
 intro pins s σ H x y v u Q I rx ry h
 obtain ⟨i,j,rfl,rfl,hz,q⟩:=h
 obtain ⟨t,rfl⟩:=rx
 obtain ⟨t',rfl⟩:=ry
 exact PySem.W.KBy.add_bytes hz (λt' tk=>⟨.byt (i ++ j),H,I.tok _,⟨_,rfl⟩,q⟩)
def yf (b:Expr):Prop:=∀ o i,subscripted b false o i=operate [o,i] (getItem o i)
theorem vals1 {x:V} {us:List Value} (r:Vals [x] us):∃ u,us=[u]/\RelV x u:=by
 cases r with
 | cons r1 r2=>cases r2;exact ⟨_,rfl,r1⟩
theorem vals2 {x y:V} {us:List Value} (r:Vals [x,y] us):∃ u w',us=[u,w']/\RelV x u/\RelV y w':=by
 cases r with
 | cons r1 r2 =>
  cases r2 with
  | cons r3 r4=>cases r4;exact ⟨_,_,rfl,r1,r3⟩
theorem qB (hc:X.calm=true):dz X (.builtin "max") (λxs H Q=>∃ i j,xs=[.int i,.int j]/\Q (.int (if j > i then j else i)) H):=by
 intro pins s σ H xs us Q I r h
 obtain ⟨i,j,rfl,q⟩:=h
 obtain ⟨u,w',rfl,⟨t,rfl⟩,⟨t',rfl⟩⟩:=vals2 r
 refine max_two_ints (I.ok.hd hc) λh' tk k=>⟨_,H,I.kept k,?_,q⟩
 by_cases hj:j > i
 ·rw [if_pos hj,if_pos hj];exact ⟨_,rfl⟩
 ·rw [if_neg hj,if_neg hj];exact ⟨_,rfl⟩
theorem lB (hc:X.calm=true):dz X (.builtin "min") (λxs H Q=>∃ i j,xs=[.int i,.int j]/\Q (.int (if j < i then j else i)) H):=by
 intro pins s σ H xs us Q I r h
 obtain ⟨i,j,rfl,q⟩:=h
 obtain ⟨u,w',rfl,⟨t,rfl⟩,⟨t',rfl⟩⟩:=vals2 r
 refine min_two_ints (I.ok.hd hc) λh' tk k=>⟨_,H,I.kept k,?_,q⟩
 by_cases hj:j < i
 ·rw [if_pos hj,if_pos hj];exact ⟨_,rfl⟩
 ·rw [if_neg hj,if_neg hj];exact ⟨_,rfl⟩
def D7 (K:PySem.W.Frag) (x:V) (H:Hp) (n:Nat):Prop :=
 match x with
 | .str y=>y.length<=sizeLine/\n=y.length
 | .byt y=>y.size<=sizeLine/\n=y.size
 | .ref p=>(∃ xs,SqL K H p xs/\n=xs.length)\/∃ xs,SqT K H p xs/\n=xs.length
 | _=>False
end
end L2
namespace L2
open PySem PySem.Spec PyProof.Rows
structure oS (h:Heap) (x dx C:Addr) (mA:Str->Option Value):Prop where
 obj:h.get? x=some (PySem.W.instObj C dx)
 ns:h.Ns1 dx mA
 ne:dx ≠ x
theorem qC {h:Heap} {dx:Addr} {mA:Str->Option Value} (n:h.Ns1 dx mA):∃ od,h.get? dx=some od/\∀ name,PySem.W.lookIn name od=some (mA name):=by
 obtain ⟨o,es,ep,ho,hd,hk,_,hm⟩:=n
 refine ⟨o,ho,λname=>?_⟩
 have e:=hm name
 unfold nsFind findBy at e
 rw [← Array.find?_toList] at e
 unfold PySem.W.lookIn
 rw [hd]
 dsimp only
 split
 ·rename_i y q
  rw [q] at e
  exact congrArg some e
 ·rename_i q
  rw [q] at e
  have a:es.toList.any (·.refKey)=false:=by
   rw [List.any_eq_false]
   intro y hy
   obtain ⟨z,t,vK⟩:=hk y (Array.mem_toList_iff.mp hy)
   simp [DictEntry.refKey,vK]
  have a' : ¬ es.toList.any (·.refKey)=true:=by rw [a];exact Bool.false_ne_true
  rw [if_neg a']
  exact congrArg some e
theorem oS.look {h:Heap} {x dx C:Addr} {mA:Str->Option Value} (I:oS h x dx C mA):∃ od,PySem.W.InstAt h x (PySem.W.instObj C dx) C (some od)/\∀ name,PySem.W.lookIn name od=some (mA name):=by
 obtain ⟨od,ho,hl⟩:=qC I.ns
 exact ⟨od,⟨I.obj,rfl,rfl,ho⟩,hl⟩
section
variable {prog:Program} {w:World} {A:Around} {E:Value->Shared->Prop} {s:Shared} {K:PySem.W.Frag} {x dx C f:Addr} {mA:Str->Option Value} {name:Str} {v:Value}
theorem get_map {expr:Bool} {Q:Value->Shared->Prop} (X:K.In s.heap) (I:oS s.heap x dx C mA) (hg:PySem.W.plainGet K C name=true) (hh:PySem.W.hasDictIn K C=true)
  (ha:PySem.W.findIn K (.ref C) name=some none) (hv:mA name=some v) (hv' : PySem.W.handedIn v=true) (h:Q v { s with toks:=s.toks+1 }) :
  wpAny (model prog w) A (getAttr (.ref x) name expr) Q E s:=by
 obtain ⟨od,J,hl⟩:=I.look
 exact PySem.W.get_value X J (PySem.W.plainGet_of hg).1 (PySem.W.findObj_own hh ha rfl (by rw [hl,hv])) hv' h
theorem rD {pl:Sem Bool} {Q:Value × List Value->Shared->Prop} (X:K.In s.heap) (I:oS s.heap x dx C mA) (hg:PySem.W.plainGet K C name=true)
  (hf:PySem.W.findIn K (.ref C) name=some (some (.ref f))) (ht:PySem.W.isFn K (.ref f)=true) (hv:mA name=none) (h:Q (.ref f,[.ref x]) s) :
  wpAny (model prog w) A (getMethod (.ref x) name pl) Q E s:=by
 obtain ⟨od,J,hl⟩:=I.look
 exact PySem.W.method_fn X J (PySem.W.plainGet_of hg).1 (PySem.W.plainGet_of hg).2 hf (beq_iff_eq.mp ht) (by show (PySem.W.lookIn name od).map (·.isSome)=some false;rw [hl,hv];rfl) h
theorem ue {ns:List Str} {Q:Unit->Shared->Prop} (X:K.In s.heap) (I:oS s.heap x dx C mA)
  (hs:PySem.W.findIn K (.ref C) "__setattr__" = some (some (.builtin "object.__setattr__"))) (hp:PySem.W.plainOver K C=true) (ht:PySem.W.takerIn K C name=some none) (hh:PySem.W.hasDictIn K C=true)
  (hw:PySem.Within mA ns) (hsz:ns.length<=sizeLine)
  (h:∀ h',oS h' x dx C (λy=>if y=name then some v else mA y)->Heap.SameBut dx s.heap h'->Q () { s with heap:=h',toks:=s.toks+2 }) :
  wpAny (model prog w) A (setAttr (.ref x) name v) Q E s:=by
 obtain ⟨od,J,hl⟩:=I.look
 refine PySem.W.set_plain X J hs (PySem.W.osa_open (s:={ s with toks:=s.toks+1 }) (r:=none) X J hp ht λb=>?_)
 obtain ⟨cd,hc,hd'⟩:=PySem.W.any_some hh
 have hx:s.heap.get? x=some ⟨.ref C,some dx,.plain,#[]⟩:=I.obj
 refine wpAny_bind (wpAny_pure (wpAny_bind (wpAny_bind (wpAny_loadPart hx (wpAny_bind (PySem.W.Looks.here (s:={ s with toks:=s.toks+1 }) (PySem.W.looks_clsIn X hc) ?_))))))
 rw [hd']
 refine wpAny_pure (a:=some dx) (wpAny_bind (wpAny_pure (wpAny_bind ?_)))
 refine wpAny_nsSet1 (s:={ s with toks:=s.toks+1 }) I.ns λh' hn2 hs2=>?_
 obtain ⟨oD,esD,epD,hoD,hdD,hcD⟩:=hn2.count (PySem.Within.cons name v hw)
 refine wpAny_bind (wpAny_lookBehind hoD (by rw [hdD];exact pastItsLine_dict (Nat.le_trans hcD (by rw [List.length_cons];omega))) ?_)
 exact wpAny_pure (h _ ⟨(hs2.2 _ (Ne.symm I.ne)).trans I.obj,hn2,I.ne⟩ hs2)
theorem rE {R:Result->Shared->Prop} {vs:List Value} {kw:List (Str × Value)} (X:K.In s.heap) (hm:PySem.W.makesIn K C=true)
  (hi:PySem.W.findIn K (.ref C) "__init__" = some (some (.ref f))) (hf:PySem.W.typeIn K (.ref f)=some (.type "function"))
  (h:codeAny (model prog w) (A.under (.builtin "type.__call__" ⟨.ref C :: vs,kw⟩)) (.call (.ref f) ⟨.ref (s.heap.objs.size+1) :: vs,kw⟩) (PySem.W.InitBack (s.heap.objs.size+1) R)
   { s with heap:=(s.heap.push PySem.W.emptyDict).push (PySem.W.instObj C s.heap.objs.size) }) :
  codeAny (model prog w) A (.call (.ref C) ⟨vs,kw⟩) R s:=by
 obtain ⟨hh,g,d,t,os⟩:=s
 exact PySem.W.make_core (PySem.W.makes_of X hm) (PySem.W.looks_findIn X hi) (λself=>PySem.W.bind_fn X self hf) (.inl rfl) h
end
def bj (f:Str) (v:V):List (Str × V)->List (Str × V)
 | []=>[(f,v)]
 | (g,x) :: r=>if g=f then (g,v) :: r else (g,x) :: bj f v r
theorem jg (f g:Str) (v:V):∀ fs:List (Str × V),(bj f v fs).lookup g=if g=f then some v else fs.lookup g
 | []=>by
  show List.lookup g [(f,v)]=_
  by_cases h:g=f
  ·have hb:(g == f)=true:=beq_iff_eq.mpr h
   simp only [List.lookup,hb,if_pos h]
  ·have hb:(g == f)=false:=beq_eq_false_iff_ne.mpr h
   simp only [List.lookup,hb,if_neg h]
 | (k,x) :: r=>by
  have ih:=jg f g v r
  rw [show bj f v ((k,x) :: r)=(if k=f then (k,v) :: r else (k,x) :: bj f v r) from rfl]
  by_cases hk:k=f
  ·rw [if_pos hk]
   by_cases h:g=k
   ·have hb:(g == k)=true:=beq_iff_eq.mpr h
    simp only [List.lookup,hb,if_pos (h.trans hk)]
   ·have hb:(g == k)=false:=beq_eq_false_iff_ne.mpr h
    simp only [List.lookup,hb,if_neg (λe:g=f=>h (e.trans hk.symm))]
  ·rw [if_neg hk]
   by_cases h:g=k
   ·have hb:(g == k)=true:=beq_iff_eq.mpr h
    simp only [List.lookup,hb,if_neg (λe:g=f=>hk (h.symm.trans e))]
   ·have hb:(g == k)=false:=beq_eq_false_iff_ne.mpr h
    simp only [List.lookup,hb]
    exact ih
theorem iS (f:Str) (v:V):∀ fs:List (Str × V),f ∈ (bj f v fs).map (·.1)/\∀ g,g ∈ fs.map (·.1)->g ∈ (bj f v fs).map (·.1)
 | []=>⟨by simp [bj],λg h=>by simp at h⟩
 | (k,x) :: r=>by
  obtain ⟨i1,i2⟩:=iS f v r
  rw [show bj f v ((k,x) :: r)=(if k=f then (k,v) :: r else (k,x) :: bj f v r) from rfl]
  by_cases hk:k=f
  ·rw [if_pos hk]
   subst hk
   exact ⟨by simp,λg h=>by simpa using h⟩
  ·rw [if_neg hk]
   refine ⟨?_,λg h=>?_⟩
   ·rw [List.map_cons]
    exact List.mem_cons_of_mem _ i1
   ·rw [List.map_cons] at h ⊢
    rcases List.mem_cons.mp h with e | e
    ·exact List.mem_cons.mpr (.inl e)
    ·exact List.mem_cons_of_mem _ (i2 g e)
theorem jh (f:Str) (v:V):∀ fs:List (Str × V),(bj f v fs).length<=fs.length+1
 | []=>by simp [bj]
 | (k,x) :: r=>by
  have ih:=jh f v r
  rw [show bj f v ((k,x) :: r)=(if k=f then (k,v) :: r else (k,x) :: bj f v r) from rfl]
  by_cases hk:k=f
  ·rw [if_pos hk,List.length_cons,List.length_cons];omega
  ·rw [if_neg hk,List.length_cons,List.length_cons];omega
theorem lj.some_of {v:V} {o:Option Value} (r:lj (some v) o):∃ u,o=some u/\RelV v u:=by
 cases o with
 | none=>exact (show False from r).elim
 | some u=>exact ⟨u,rfl,r⟩
theorem lj.none_of {o:Option Value} (r:lj none o):o=none:=by
 cases o with
 | none=>rfl
 | some u=>exact (show False from r).elim
theorem lC {v:V} {u:Value} (r:RelV v u):PySem.W.handedIn u=true:=by
 cases v with
 | non=>cases (show u=Value.none from r);rfl
 | bl b=>cases (show u=Value.bool b from r);rfl
 | int i=>obtain ⟨t,e⟩:=(show ∃ t,u=Value.int i t from r);cases e;rfl
 | str x=>obtain ⟨t,e⟩:=(show ∃ t,u=Value.str x t from r);cases e;rfl
 | byt b=>obtain ⟨t,e⟩:=(show ∃ t,u=Value.bytes b t from r);cases e;rfl
 | flt b=>obtain ⟨t,e⟩:=(show ∃ t,u=Value.float b t from r);cases e;rfl
 | ref a=>cases (show u=Value.ref a from r);rfl
 | ty n=>cases (show u=Value.type n from r);rfl
section
variable {P:Program} {w:World} {H H' : Hp} {h h' : Heap} {a C dx:Addr} {fs fs' : List (Str × V)}
theorem jt (hok:HOk P w H h) (e:H a=some (.ins C dx fs)):∃ mA,oS h a dx C mA/\(∀ f,lj (fs.lookup f) (mA f))/\PySem.Within mA (fs.map (·.1))/\fs.length<=1000/\H dx=some (.own a):=by
 obtain ⟨d,z,ne,ob,mA,n,r,q⟩:=(show bW P w H h a (.ins C dx fs) from hok a _ e)
 exact ⟨mA,⟨ob,n,ne⟩,r,q,z,d⟩
end
structure Cls (K:PySem.W.Frag) (C:Addr):Prop where
 pg:PySem.W.plainGet K C Str.empty=true
 hd:PySem.W.hasDictIn K C=true
 po:PySem.W.plainOver K C=true
 sa:PySem.W.findIn K (.ref C) "__setattr__" = some (some (.builtin "object.__setattr__"))
theorem Cls.get {K:PySem.W.Frag} {C:Addr} (c:Cls K C) (f:Str):PySem.W.plainGet K C f=true:=c.pg
def aY (K:PySem.W.Frag) (C:Addr) (f:Str):Prop:=PySem.W.findIn K (.ref C) f=some none
theorem aY.taker {K:PySem.W.Frag} {C:Addr} {f:Str} (n:aY K C f):PySem.W.takerIn K C f=some none:=by
 unfold PySem.W.takerIn
 rw [show PySem.W.findIn K (.ref C) f=some none from n]
 rfl
structure Con (K:PySem.W.Frag) (C:Addr) (f:Str) (v:V) (u:Value):Prop where
 at_:PySem.W.findIn K (.ref C) f=some (some u)
 rel:RelV v u
 get:PySem.W.specialIn K u "__get__" = some none
 cp:PySem.W.copiedNames.contains f=false
structure Meth (K:PySem.W.Frag) (C:Addr) (m:Str) (f:Addr):Prop where
 at_:PySem.W.findIn K (.ref C) m=some (some (.ref f))
 fn:PySem.W.isFn K (.ref f)=true
 kp:PySem.W.keepIn K (.ref f)=true
section
variable {X:Cx} {pins:List (Addr × Obj)} {σ:St} {H:Hp} {s:Shared} {a C dx:Addr} {fs:List (Str × V)} {f:Str} {v:V} {A:Around} {E:Value->Shared->Prop}
theorem oU {b:Bool} {Q:Value->Shared->Prop} (I:Inv X pins σ H s) (e:H a=some (.ins C dx fs)) (c:Cls X.K C) (n:aY X.K C f) (l:fs.lookup f=some v)
  (h:∀ u s',Inv X pins σ H s'->RelV v u->Q u s'):wpAny (model X.prog X.w) A (getAttr (.ref a) f b) Q E s:=by
 obtain ⟨mA,O,r,_,_,_⟩:=jt I.hok e
 obtain ⟨u,hu,ru⟩:=lj.some_of (v:=v) (o:=mA f) (by rw [← l];exact r f)
 exact get_map I.kIn O (c.get f) c.hd n hu (lC ru) (h u _ (I.tok _) ru)
theorem oV {m:Str} {g:Addr} {pl:Sem Bool} {Q:Value × List Value->Shared->Prop} (I:Inv X pins σ H s) (e:H a=some (.ins C dx fs)) (c:Cls X.K C) (k:Meth X.K C m g) (l:fs.lookup m=none)
  (h:Q (.ref g,[.ref a]) s):wpAny (model X.prog X.w) A (getMethod (.ref a) m pl) Q E s:=by
 obtain ⟨mA,O,r,_,_,_⟩:=jt I.hok e
 have hn:mA m=none:=lj.none_of (by rw [← l];exact r m)
 exact rD I.kIn O (c.get m) k.at_ k.fn hn h
theorem oW {y:V} {u:Value} {Q:Unit->Shared->Prop} (I:Inv X pins σ H s) (e:H a=some (.ins C dx fs)) (c:Cls X.K C) (n:aY X.K C f) (hl:fs.length < 1000) (ry:RelV y u)
  (h:∀ s',Inv X pins σ (upd H a (.ins C dx (bj f y fs))) s'->Q () s'):wpAny (model X.prog X.w) A (setAttr (.ref a) f u) Q E s:=by
 obtain ⟨mA,O,r,wi,_,ho⟩:=jt I.hok e
 have hz:(fs.map (·.1)).length<=sizeLine:=by rw [List.length_map,sizeLine_eq];omega
 refine ue I.kIn O c.sa c.po n.taker c.hd wi hz λh' O' sb=>h _ ?_
 have hd:∃ o,h'.get? dx=some o:=let ⟨o,_,_,e',_⟩:=O'.ns;⟨o,e'⟩
 refine I.write (x:=a) (e:=dx) (by rw [e];exact True.intro) (.inr ho) (λb q hb z=>(sb.2 b hb).trans z) hd ?_
 refine ⟨by rw [au O.ne];exact ho,?_,O.ne,O'.obj,_,O'.ns,λg=>?_,λg hg=>?_⟩
 ·have:=jh f y fs;omega
 ·show lj ((bj f y fs).lookup g) (if g=f then some u else mA g)
  rw [jg]
  by_cases q:g=f
  ·rw [if_pos q,if_pos q];exact ry
  ·rw [if_neg q,if_neg q];exact r g
 ·by_cases q:g=f
  ·rw [q];exact (iS f y fs).1
  ·refine (iS f y fs).2 g (wi g λz=>hg ?_)
   show (if g=f then some u else mA g)=none
   rw [if_neg q];exact z
theorem Inv.made (I:Inv X pins σ H s):Inv X pins σ (upd (upd H s.heap.objs.size (.own (s.heap.objs.size+1))) (s.heap.objs.size+1) (.ins C s.heap.objs.size []))
  { s with heap:=(s.heap.push PySem.W.emptyDict).push (PySem.W.instObj C s.heap.objs.size) }:=by
 have e1:(s.heap.push PySem.W.emptyDict).get? s.heap.objs.size=some PySem.W.emptyDict:=Heap.get?_push_size s.heap rfl
 have e2:((s.heap.push PySem.W.emptyDict).push (PySem.W.instObj C s.heap.objs.size)).get? (s.heap.objs.size+1)=some (PySem.W.instObj C s.heap.objs.size):=by
  have:=Heap.get?_push_size (s.heap.push PySem.W.emptyDict) (o:=PySem.W.instObj C s.heap.objs.size) rfl
  rwa [Heap.size_push] at this
 have e3:(s.heap.push PySem.W.emptyDict).Ns s.heap.objs.size (λ_=>none):=⟨PySem.W.emptyDict,#[],_,e1,rfl,(λe he=>absurd he (by simp)),λ_=>rfl⟩
 have I1:=I.laid (a:=s.heap.objs.size) (o:=.own (s.heap.objs.size+1)) (h':=s.heap.push PySem.W.emptyDict) (t':=s.toks) (λb u q=>Heap.get?_push_of_some _ q) (Nat.le_refl _) ⟨_,e1⟩
 refine I1.laid (a:=s.heap.objs.size+1) (o:=.ins C s.heap.objs.size []) (t':=s.toks) (λb u q=>Heap.get?_push_of_some _ q) (Nat.le_of_eq (Heap.size_push _ _)) ?_
 have ne:s.heap.objs.size ≠ s.heap.objs.size+1:=Nat.ne_of_lt (Nat.lt_succ_self _)
 refine ⟨by rw [au ne,ae],Nat.zero_le _,ne,e2,λ_=>none,(Heap.Ns1.of_empty e3).at λo q=>Heap.get?_push_of_some _ q,λ_=>True.intro,λy hy=>absurd rfl hy⟩
theorem uf {prog:Program} {w:World} {env:Env} {e:Expr} {f:Str} {pos:Pos} {s:Shared} {Q:Value->Shared->Prop} (hb:attributeBase e f env (eval e env)=eval e env)
  (h:wpAny (model prog w) A (eval e env) (λo s₁=>wpAny (model prog w) A (getAttr o f true) Q E s₁) E s):wpAny (model prog w) A (eval (.Attribute e f pos) env) Q E s :=
 Attribute_any_ h (by rw [arm_eval_Attribute,hb])
end
def yg (K:PySem.W.Frag) (ta:TE) (f:Str):TE:=λσ H Q=>ta σ H λx H1=>∃ a C dx fs v,x=.ref a/\H1 a=some (.ins C dx fs)/\Cls K C/\aY K C f/\fs.lookup f=some v/\Q v H1
def D8 (K:PySem.W.Frag) (ta:TE) (f:Str):TE:=λσ H Q=>ta σ H λx H1=>∃ a C dx fs v u,x=.ref a/\H1 a=some (.ins C dx fs)/\Cls K C/\Con K C f v u/\fs.lookup f=none/\Q v H1
def Ak (K:PySem.W.Frag) (ta tv:TE) (f:Str):TS:=λD σ H=>tv σ H λy H1=>ta σ H1 λx H2=>∃ a C dx fs,x=.ref a/\H2 a=some (.ins C dx fs)/\Cls K C/\aY K C f/\fs.length < 1000 /\
 D.nx σ (upd H2 a (.ins C dx (bj f y fs)))
def D9 (X:Cx) (op:Operator) (rd:V->V->Hp->VK->Prop):Prop :=
 ∀ (pins:List (Addr × Obj)) (s:Shared) (σ:St) (H:Hp) (x y:V) (u v:Value) (Q:VK),Inv X pins σ H s->RelV x u->RelV y v->rd x y H Q->wpAny (model X.prog X.w) X.A (inplaceOp op u v) (EP X pins σ Q) X.xe s
def zP (K:PySem.W.Frag) (ta tv:TE) (rd:V->V->Hp->VK->Prop) (f:Str):TS:=λD σ H=>ta σ H λx H1=>∃ a C dx fs v,x=.ref a/\H1 a=some (.ins C dx fs)/\Cls K C/\aY K C f/\fs.lookup f=some v /\
 tv σ H1 λy H2=>rd v y H2 λz H3=>∃ dx' fs',H3 a=some (.ins C dx' fs')/\fs'.length < 1000/\D.nx σ (upd H3 a (.ins C dx' (bj f z fs')))
section
variable {X:Cx} {o e value:Expr} {f:Str} {pos pos' Ea:Pos} {ta tv:TE}
theorem bu (he:PE X e ta) (hb:attributeBase e f X.env (eval e X.env)=eval e X.env):PE X (.Attribute e f pos) (yg X.K ta f):=by
 intro pins s σ H Q I h
 refine uf hb (thn (he pins s σ H _ I h) λu s1 ⟨x,H1,I1,rx,a,C,dx,fs,v,ex,ea,c,n,l,q⟩=>?_)
 subst ex
 obtain rfl:u=Value.ref a:=rx
 exact oU I1 ea c n l λu' s2 I2 ru=>⟨v,H1,I2,ru,q⟩
theorem bR (ha:PE X o ta) (hv:PE X value tv) (hs:swapsWith value (some (.Attribute o f pos')) pos.line X.env=pure false):PS X (.Assign [.Attribute o f pos'] value pos) (Ak X.K ta tv f):=by
 intro pins s σ H D I h
 refine plainObj_wpAny_Assign_Attribute (thn (hv pins s σ H _ I h) λu s1 ⟨y,H1,I1,ry,q⟩=>thn (ha pins s1 σ H1 _ I1 q) λov s2 ⟨x,H2,I2,rx,a,C,dx,fs,ex,ea,c,n,l,q2⟩=>?_) hs
 subst ex
 obtain rfl:ov=Value.ref a:=rx
 exact oW I2 ea c n l ry λs3 I3=>⟨σ,_,I3,q2⟩
def Eb:V->V->Hp->VK->Prop:=λx y H Q=>∃ i j,x=.int i/\y=.int j/\Q (.int (i+j)) H
def Ec:V->V->Hp->VK->Prop:=λx y H Q=>∃ i j,x=.int i/\y=.int j/\Q (.int (i - j)) H
end
section
variable {X:Cx} {pins:List (Addr × Obj)} {σ:St} {H:Hp} {s:Shared} {A:Around} {E:Value->Shared->Prop} {Q:Value->Shared->Prop} {c:Value} {b:Bool}
inductive iT (K:PySem.W.Frag) (H:Hp):V->Value->Prop where
 | non:iT K H .non (.type "NoneType")
 | bl (x:Bool):iT K H (.bl x) (.type "bool")
 | int (i:Int):iT K H (.int i) (.type "int")
 | str (x:Str):iT K H (.str x) (.type "str")
 | flt (x:UInt64):iT K H (.flt x) (.type "float")
 | lst {a:Addr} {xs:List V} (e:H a=some (.lst xs)):iT K H (.ref a) (.type "list")
 | frz {a:Addr} {o:Obj} {xs:List V} (e:H a=some (.frz o (.lst xs))):iT K H (.ref a) (.type "list")
 | tup {a:Addr} {xs:List V} (e:H a=some (.tup xs)):iT K H (.ref a) (.type "tuple")
 | dK {a:Addr} {kvs:List (Key × V)} (e:H a=some (.dK kvs)):iT K H (.ref a) (.type "dict")
 | dT {a:Addr} {kvs:List (List Key × V)} (e:H a=some (.dT kvs)):iT K H (.ref a) (.type "dict")
 | ins {a C dx:Addr} {fs:List (Str × V)} (e:H a=some (.ins C dx fs)) (cl:Cls K C) (ha:PySem.W.findIn K (.ref C) "__class__" = some (some (.builtin "object.__class__")))
   (hn:PySem.W.specialIn K (.builtin "object.__class__") "__get__" = some (some (.builtin "getset_descriptor.__get__"))) (htk:PySem.W.takesIn K (.builtin "object.__class__")=some true)
   (hm:PySem.W.mroIn K C (.type "object")=some true):iT K H (.ref a) (.ref C)
theorem qD {x:V} {u t:Value} (I:Inv X pins σ H s) (rx:RelV x u) (ty:iT X.K H x t) (e:PySem.W.kitOne X.K t c=some b) (h:∀ tk,Q (.bool b) { s with toks:=tk }) :
  wpAny (model X.prog X.w) A (call (.builtin "isinstance") [u,c]) Q E s:=by
 cases ty with
 | non=>cases (show u=Value.none from rx);exact PySem.W.kia_one PySem.W.kitx_none I.kIn True.intro e (λz=>nomatch z) h
 | bl y=>cases (show u=Value.bool y from rx);exact PySem.W.kia_one PySem.W.kitx_bool I.kIn True.intro e (λz=>nomatch z) h
 | int i=>obtain ⟨t,q⟩:=(show ∃ t,u=Value.int i t from rx);cases q;exact PySem.W.kia_one PySem.W.kitx_int I.kIn True.intro e (λz=>nomatch z) h
 | str y=>obtain ⟨t,q⟩:=(show ∃ t,u=Value.str y t from rx);cases q;exact PySem.W.kia_one PySem.W.kitx_str I.kIn True.intro e (λz=>nomatch z) h
 | flt y=>obtain ⟨t,q⟩:=(show ∃ t,u=Value.float y t from rx);cases q;exact PySem.W.kia_one PySem.W.kitx_float I.kIn True.intro e (λz=>nomatch z) h
 | @lst a xs ea =>
  cases (show u=Value.ref a from rx)
  obtain ⟨_,_,n,_,h1⟩:=(show bW X.prog X.w H s.heap a (.lst xs) from I.hok a _ ea)
  exact PySem.W.kia_one PySem.W.kitx_list I.kIn ⟨_,h1,rfl⟩ e (λz=>nomatch z) h
 | @frz a ob xs ea =>
  cases (show u=Value.ref a from rx)
  obtain ⟨_,_,_,n,_,h1⟩:=(show bW X.prog X.w H s.heap a (.frz ob (.lst xs)) from I.hok a _ ea)
  exact PySem.W.kia_one PySem.W.kitx_list I.kIn ⟨_,h1,rfl⟩ e (λz=>nomatch z) h
 | @tup a xs ea =>
  cases (show u=Value.ref a from rx)
  obtain ⟨_,_,_,p⟩:=(show bW X.prog X.w H s.heap a (.tup xs) from I.hok a _ ea)
  obtain ⟨o,h1,h2,_⟩:=p
  exact PySem.W.kia_one PySem.W.kitx_tuple I.kIn ⟨o,h1,h2⟩ e (λz=>nomatch z) h
 | @dK a kvs ea =>
  cases (show u=Value.ref a from rx)
  obtain ⟨_,_,vs,_,p⟩:=(show bW X.prog X.w H s.heap a (.dK kvs) from I.hok a _ ea)
  obtain ⟨o,es,ep,h1,h2,_⟩:=p
  exact PySem.W.kia_one PySem.W.kitx_dict I.kIn ⟨o,h1,h2.1⟩ e (λz=>nomatch z) h
 | @dT a kvs ea =>
  cases (show u=Value.ref a from rx)
  obtain ⟨_,_,xs,_,o,es,ep,h1,h2,_⟩:=(show bW X.prog X.w H s.heap a (.dT kvs) from I.hok a _ ea)
  exact PySem.W.kia_one PySem.W.kitx_dict I.kIn ⟨o,h1,h2.1⟩ e (λz=>nomatch z) h
 | @ins a C dx fs ea cl ha hn htk hm =>
  cases (show u=Value.ref a from rx)
  obtain ⟨mA,O,_⟩:=jt I.hok ea
  obtain ⟨od,J,_⟩:=O.look
  exact PySem.W.kia_one (PySem.W.kitx_own (cl.get _) cl.hd ha hn htk hm) I.kIn J e (λz=>nomatch z) h
end
end L2
namespace L2
open PySem PySem.Spec PyProof.Rows
structure bY (k:Nat) (A:Around):Prop where
 hd:A.handled=none
 dp:A.depth+3 * k+5 < recursionLimit
 un:A.units+16 * k+200 < cLine
theorem bY.mono {j k:Nat} {A:Around} (r:bY k A) (h:j<=k):bY j A:=⟨r.hd,by have:=r.dp;omega,by have:=r.un;omega⟩
theorem bY.deeper {k:Nat} {A:Around} (r:bY (k+1) A) (env:Env):bY k (A.deeper env) :=
 ⟨r.hd,by have:=r.dp;show A.depth+1+3 * k+5 < _;omega,by have:=r.un;show A.units+3+16 * k+200 < _;omega⟩
theorem oX {A:Around} {C:Addr} {us:List Value} {kw:List (Str × Value)} : (A.under (.builtin "type.__call__" ⟨.ref C :: us,kw⟩)).depth=A.depth+1:=by
 first | rfl | simp [Around.under,Code.weight,Code.isCreation,Code.isGuard,Code.isCaller,Code.frames,Code.isFrame,guardIds]
theorem oY {A:Around} {C:Addr} {us:List Value} {kw:List (Str × Value)} : (A.under (.builtin "type.__call__" ⟨.ref C :: us,kw⟩)).units=A.units+1:=by
 first | rfl | simp [Around.under,Code.cUnits,Code.frames,Code.isFrame]
theorem bY.make {k:Nat} {A:Around} (r:bY (k+1) A) (C:Addr) (us:List Value) (kw:List (Str × Value)):bY k (A.under (.builtin "type.__call__" ⟨.ref C :: us,kw⟩)) :=
 ⟨r.hd,by have:=r.dp;rw [oX];omega,by have:=r.un;rw [oY];omega⟩
theorem bY.depth {k:Nat} {A:Around} (r:bY k A):A.depth < recursionLimit:=by have:=r.dp;omega
theorem bY.units {k:Nat} {A:Around} (r:bY k A):A.units+64 < cLine:=by have:=r.un;omega
def vL:TA:=λ_ H Q=>Q [] H
def yh (ta:TE) (tr:TA):TA:=λσ H Q=>ta σ H λx H1=>tr σ H1 λxs H2=>Q (x :: xs) H2
section
variable {X:Cx} {e:Expr} {es:List Expr} {te:TE} {t:TA} {pos:Pos}
theorem ag:PA X [] vL:=λ_ _ _ _ H Q I h=>Calls.spliced_nil ⟨[],H,I,.nil,h⟩
theorem aa (ha:PE X e te) (hr:PA X es t) (hs:starEach (e :: es) X.env=(false,eval e X.env) :: starEach es X.env:=by rfl):PA X (e :: es) (yh te t):=by
 intro pos pins s σ H Q I h
 rw [hs]
 show wpAny _ _ (spliced ((false,eval e X.env) :: backTo pos (starEach es X.env))) _ _ s
 refine Calls.spliced_cons (thn (ha pins s σ H _ I h) λu s1 ⟨x,H1,I1,r1,q1⟩=>?_)
 exact thn (hr pos pins s1 σ H1 _ I1 q1) λus s2 ⟨xs,H2,I2,r2,q2⟩=>⟨x :: xs,H2,I2,.cons r1 r2,q2⟩
def Al (t:TA):TE:=λσ H Q=>t σ H λxs H1=>xs.length<=sizeLine/\∀ p,H1 p=none->Q (.ref p) (upd H1 p (.tup xs))
def Am (t:TA):TE:=λσ H Q=>t σ H λxs H1=>xs.length<=sizeLine/\∀ p,H1 p=none->Q (.ref p) (upd H1 p (.lst xs))
theorem bN {x1} (h:PA X es t):PE X (.Tuple es x1 pos) (Al t):=by
 intro pins s σ H Q I hq
 refine wpAny_Tuple_spliced (thn (h pos pins s σ H _ I hq) λus s1 ⟨xs,H1,I1,r,z,q⟩=>⟨by rw [← r.length];exact z,?_⟩)
 have hf:H1 s1.heap.objs.size=none:=I1.hok.fresh (Nat.le_refl _)
 refine ⟨.ref s1.heap.objs.size,upd H1 s1.heap.objs.size (.tup xs),I1.laid (t':=s1.toks) (λb u e=>Heap.get?_push_of_some _ e) (Nat.le_refl _) ?_,rfl,q _ hf⟩
 exact ⟨z,us,r,⟨_,Heap.get?_push_size _ rfl,rfl,_,rfl⟩⟩
theorem bz (h:PA X es t):PE X (.List es pos) (Am t):=by
 intro pins s σ H Q I hq
 refine wpAny_List_spliced (thn (h pos pins s σ H _ I hq) λus s1 ⟨xs,H1,I1,r,z,q⟩=>⟨by rw [← r.length];exact z,?_⟩)
 have hf:H1 s1.heap.objs.size=none:=I1.hok.fresh (Nat.le_refl _)
 refine ⟨.ref s1.heap.objs.size,upd H1 s1.heap.objs.size (.lst xs),I1.laid (t':=s1.toks) (λb u e=>Heap.get?_push_of_some _ e) (Nat.le_refl _) ?_,rfl,q _ hf⟩
 exact ⟨z,us,0,r,Heap.get?_push_size _ rfl⟩
end
abbrev Sp:=List V->Hp->VK->XK->Prop
abbrev CXT:=List Env->Hp->Shared->XK->Value->Shared->Prop
structure oZ (P:Program) (w:World) (K:PySem.W.Frag) (mg:Str->Option Value) (base:Heap) (A:Around) (outer:List Env) (s:Shared) (H:Hp):Prop where
 frames:A.frames=some outer
 mod:Mod K mg base
 bs:∀ b o,base.get? b=some o->s.heap.get? b=some o/\H b=none
 bsz:base.objs.size<=s.heap.objs.size
 funs:s.heap.FunFrames base outer
 frf:∀ b ∈ frs outer,H b=none
 hok:HOk P w H s.heap
 bare:AllBare s.gens
def CE (outer:List Env) (P:Program) (w:World) (H:Hp) (s:Shared) (Q:VK) (u:Value) (s' : Shared):Prop :=
 ∃ v H',s'.os=s.os/\AllBare s'.gens/\Un (frs outer) [] H H' s.heap s'.heap/\HOk P w H' s'.heap/\RelV v u/\Q v H'
def CR (CX:CXT) (outer:List Env) (P:Program) (w:World) (H:Hp) (s:Shared) (Q:VK) (E:XK) (r:Result) (s' : Shared):Prop :=
 match r with
 | .ok (.ret u)=>CE outer P w H s Q u s'
 | .ok _=>False
 | .error e=>CX outer H s E e s'
structure aQ (P:Program) (w:World) (K:PySem.W.Frag) (mg:Str->Option Value) (base:Heap) (CX:CXT) (k:Nat) (f:Addr) (fd:FuncData) (ps:List Str) (sp:Sp):Prop where
 len:∀ vs H Q E,sp vs H Q E->vs.length=ps.length
 run:∀ (A:Around) (outer:List Env) (s:Shared) (H:Hp) (args:Args) (us:List Value) (vs:List V) (Q:VK) (E:XK),bY k A->oZ P w K mg base A outer s H->BindsTo s fd args (ps.zip us)->Vals vs us->sp vs H Q E ->
  codeAny (model P w) A (.call (.ref f) args) (CR CX outer P w H s Q E) s
theorem aQ.mono {P:Program} {w:World} {K:PySem.W.Frag} {mg:Str->Option Value} {base:Heap} {CX:CXT} {j k:Nat} {f:Addr} {fd:FuncData} {ps:List Str} {sp:Sp} (F:aQ P w K mg base CX j f fd ps sp) (h:j<=k) :
  aQ P w K mg base CX k f fd ps sp:=⟨F.len,λA outer s H args us vs Q E hr=>F.run A outer s H args us vs Q E (hr.mono h)⟩
theorem oZ.make {P:Program} {w:World} {K:PySem.W.Frag} {mg:Str->Option Value} {base:Heap} {A:Around} {outer:List Env} {s:Shared} {H:Hp} (e:oZ P w K mg base A outer s H) (C:Addr) (us:List Value) (kw:List (Str × Value)) :
  oZ P w K mg base (A.under (.builtin "type.__call__" ⟨.ref C :: us,kw⟩)) outer s H:=⟨by first | exact e.frames | (simpa [Around.under,Code.envs,Code.isFrame,pushEnvs] using e.frames),e.mod,e.bs,e.bsz,e.funs,e.frf,e.hok,e.bare⟩
section
variable {X:Cx} {pins:List (Addr × Obj)} {σ:St} {H:Hp} {s s' : Shared}
theorem Inv.env0 (I:Inv X pins σ H s):oZ X.prog X.w X.K X.mg X.base X.A X.stack s H :=
 ⟨I.ok.frames,I.ok.mod,I.bs,Nat.le_trans I.ok.bsz I.sz,I.stack,I.stkFree,I.hok,I.bare⟩
theorem Inv.after {Q:VK} {u:Value} (I:Inv X pins σ H s) (h:CE X.stack X.prog X.w H s Q u s'):EP X pins σ Q u s':=by
 obtain ⟨v,H',os,bare,un,hok,r,q⟩:=h
 obtain ⟨hh,g,d,t,os'⟩:=s'
 obtain rfl:os'=s.os:=os
 exact ⟨v,H',I.call (h':=hh) (g':=g) (d':=d) (t':=t) (ch:=[]) un hok bare (λb z=>absurd z (by simp)),r,q⟩
end
def yi (sp:Sp) (dvs:List V) (E:XK) (t:TA):TE:=λσ H Q=>t σ H λvs H1=>sp (vs ++ dvs) H1 Q E
def DA (C:Addr) (m:Str) (sp:Sp) (dvs:List V) (E:XK) (ta:TE) (t:TA):TE:=λσ H Q=>ta σ H λx H1=>∃ a dx fs,x=.ref a/\H1 a=some (.ins C dx fs)/\fs.lookup m=none /\
 t σ H1 λvs H2=>sp (x :: (vs ++ dvs)) H2 Q E
def vb (C:Addr) (sp:Sp) (dvs:List V) (E:XK) (t:TA):TE:=λσ H Q=>t σ H λvs H1=>∀ x dx,H1 x=none->H1 dx=none->dx ≠ x ->
 sp (.ref x :: (vs ++ dvs)) (upd (upd H1 dx (.own x)) x (.ins C dx [])) (λv H2=>v=.non/\Q (.ref x) H2) E
def Binds (K:PySem.W.Frag) (fd:FuncData) (ps:List Str) (ds:List Value):Prop :=
 ∀ (s:Shared) (us:List Value),K.In s.heap->(us ++ ds).length=ps.length->BindsTo s fd ⟨us,[]⟩ (ps.zip (us ++ ds))
theorem Binds.all {K:PySem.W.Frag} {fd:FuncData} {ps:List Str} (h:∀ us:List Value,us.length=ps.length->bindArgs fd ⟨us,[]⟩=pure (ps.zip us)):Binds K fd ps []:=λs us _ hl=>by
 rw [List.append_nil] at hl ⊢
 exact .of_eq (h us hl)
def Passes (CX:CXT) (X:Cx) (E:XK):Prop:=∀ (pins:List (Addr × Obj)) (σ:St) (H:Hp) (s:Shared) (e:Value) (s' : Shared),Inv X pins σ H s->CX X.stack H s E e s'->X.xe e s'
section
variable {X:Cx} {CX:CXT} {k:Nat} {f C:Addr} {fd:FuncData} {ps:List Str} {sp:Sp} {dvs:List V} {ds:List Value} {E:XK} {x m:Str} {p pos apos:Pos} {e o:Expr} {es:List Expr} {ta:TE} {t:TA}
theorem rF {pins:List (Addr × Obj)} {σ:St} {H:Hp} {s:Shared} {Q:VK} {us:List Value} {vs:List V} (F:aQ X.prog X.w X.K X.mg X.base CX k f fd ps sp) (hr:bY k X.A) (hb:Binds X.K fd ps ds) (hd:Vals dvs ds) (hx:Passes CX X E)
  (I:Inv X pins σ H s) (r:Vals vs us) (h:sp (vs ++ dvs) H Q E):wpAny (model X.prog X.w) X.A (call (.ref f) us) (EP X pins σ Q) X.xe s:=by
 have r2:Vals (vs ++ dvs) (us ++ ds):=r.append hd
 have hl:(us ++ ds).length=ps.length:=by rw [← r2.length];exact F.len _ _ _ _ h
 refine wpAny_call (codeAny_mono (F.run X.A X.stack s H ⟨us,[]⟩ (us ++ ds) (vs ++ dvs) Q E hr I.env0 (hb s us I.kIn hl) r2 h) λr s' hq=>?_)
 cases r with
 | error e=>exact hx pins σ H s e s' I hq
 | ok fl =>
  cases fl with
  | ret u=>exact I.after hq
  | next=>exact False.elim hq
  | brk=>exact False.elim hq
  | cont=>exact False.elim hq
theorem ug (F:aQ X.prog X.w X.K X.mg X.base CX k f fd ps sp) (hr:bY k X.A) (hg:Gl X x) (hm:X.mg x=some (.ref f)) (hk:PySem.W.keepIn X.K (.ref f)=true) (hb:Binds X.K fd ps ds) (hd:Vals dvs ds) (hx:Passes CX X E)
  (ha:PA X (e :: es) t) (hdb:(x == ("__debug__" : Str))=false:=by decide) (he:starEach (e :: es) X.env=(false,eval e X.env) :: starEach es X.env:=by rfl) (hpl:(backTo pos (starEach es X.env)).any (·.1)=false:=by rfl) :
  PE X (.Call (.Name x p) (e :: es) [] pos) (yi sp dvs E t):=by
 intro pins s σ H Q I h
 refine wpAny_Call_Name_kw (cV I hg hm ?_ hdb)
 refine PySem.W.callWith_K (h₀:=X.base) I.ok.mod.kin hk (thn (ha pos pins s σ H _ I h) λus s1 ⟨vs,H1,I1,r,q⟩=>⟨I1.kIn,?_⟩) he hpl
 exact rF F hr hb hd hx I1 r q
structure Mk (K:PySem.W.Frag) (C f:Addr):Prop where
 makes:PySem.W.makesIn K C=true
 init:PySem.W.findIn K (.ref C) "__init__" = some (some (.ref f))
 fn:PySem.W.isFn K (.ref f)=true
 kp:PySem.W.keepIn K (.ref C)=true
theorem nP {pins:List (Addr × Obj)} {σ:St} {H:Hp} {s:Shared} {Q:VK} {us:List Value} {vs:List V} (M:Mk X.K C f) (F:aQ X.prog X.w X.K X.mg X.base CX k f fd ps sp) (hr:bY (k+1) X.A) (hb:Binds X.K fd ps ds) (hd:Vals dvs ds)
  (hx:Passes CX X E) (I:Inv X pins σ H s) (r:Vals vs us)
  (h:∀ x dx,H x=none->H dx=none->dx ≠ x->sp (.ref x :: (vs ++ dvs)) (upd (upd H dx (.own x)) x (.ins C dx [])) (λv H2=>v=.non/\Q (.ref x) H2) E) :
  wpAny (model X.prog X.w) X.A (call (.ref C) us) (EP X pins σ Q) X.xe s:=by
 have hq:=h (s.heap.objs.size+1) s.heap.objs.size (I.hok.fresh (Nat.le_succ _)) (I.hok.fresh (Nat.le_refl _)) (Nat.ne_of_lt (Nat.lt_succ_self _))
 have I2:=Inv.made (C:=C) I
 have r2:Vals (V.ref (s.heap.objs.size+1) :: (vs ++ dvs)) (Value.ref (s.heap.objs.size+1) :: (us ++ ds)):=.cons rfl (r.append hd)
 have hl:(Value.ref (s.heap.objs.size+1) :: us ++ ds).length=ps.length:=by
  have e:=r2.length
  rw [F.len _ _ _ _ hq] at e
  exact e.symm
 refine wpAny_call (rE (f:=f) I.kIn M.makes M.init (beq_iff_eq.mp M.fn) (codeAny_mono (F.run _ X.stack _ _ ⟨Value.ref (s.heap.objs.size+1) :: us,[]⟩ (Value.ref (s.heap.objs.size+1) :: (us ++ ds)) _ _ E (hr.make C us [])
  (I2.env0.make C us []) (hb _ (Value.ref (s.heap.objs.size+1) :: us) I2.kIn hl) r2 hq) λr s' hq'=>?_))
 cases r with
 | error e=>exact hx pins σ _ _ e s' I2 hq'
 | ok fl =>
  cases fl with
  | ret u =>
   obtain ⟨v,H',I3,rv,ev,q3⟩:=I2.after hq'
   subst ev
   exact ⟨rv,⟨V.ref (s.heap.objs.size+1),H',I3,rfl,q3⟩⟩
  | next=>exact False.elim hq'
  | brk=>exact False.elim hq'
  | cont=>exact False.elim hq'
theorem uh (M:Mk X.K C f) (F:aQ X.prog X.w X.K X.mg X.base CX k f fd ps sp) (hr:bY (k+1) X.A) (hg:Gl X x) (hm:X.mg x=some (.ref C)) (hb:Binds X.K fd ps ds) (hd:Vals dvs ds) (hx:Passes CX X E)
  (ha:PA X (e :: es) t) (hdb:(x == ("__debug__" : Str))=false:=by decide) (he:starEach (e :: es) X.env=(false,eval e X.env) :: starEach es X.env:=by rfl) (hpl:(backTo pos (starEach es X.env)).any (·.1)=false:=by rfl) :
  PE X (.Call (.Name x p) (e :: es) [] pos) (vb C sp dvs E t):=by
 intro pins s σ H Q I h
 refine wpAny_Call_Name_kw (cV I hg hm ?_ hdb)
 refine PySem.W.callWith_K (h₀:=X.base) I.ok.mod.kin M.kp (thn (ha pos pins s σ H _ I h) λus s1 ⟨vs,H1,I1,r,q⟩=>⟨I1.kIn,?_⟩) he hpl
 exact nP M F hr hb hd hx I1 r q
theorem rG (M:Mk X.K C f) (F:aQ X.prog X.w X.K X.mg X.base CX k f fd ps sp) (hr:bY (k+1) X.A) (hg:Gl X x) (hm:X.mg x=some (.ref C)) (hb:Binds X.K fd ps ds) (hd:Vals dvs ds) (hx:Passes CX X E)
  (hdb:(x == ("__debug__" : Str))=false:=by decide):PE X (.Call (.Name x p) [] [] pos) (vb C sp dvs E vL):=by
 intro pins s σ H Q I h
 refine wpAny_Call_Name_kw (cV I hg hm ?_ hdb)
 exact PySem.W.callWith_K0 I.kIn M.kp (nP (us:=[]) M F hr hb hd hx I .nil h)
end
def PK (X:Cx) (kws:List Keyword) (t:TA):Prop :=
 ∀ (pos:Pos) (pins:List (Addr × Obj)) (s:Shared) (σ:St) (H:Hp) (Q:List V->Hp->Prop),Inv X pins σ H s->t σ H Q->wpAny (model X.prog X.w) X.A (evalAll ((backToKw pos (keywordEach kws X.env)).map (·.2))) (AP X pins σ Q) X.xe s
section
variable {X:Cx} {CX:CXT} {k:Nat} {f C:Addr} {fd:FuncData} {ps ks:List Str} {sp:Sp} {E:XK} {x m:Str} {p pos apos Ed:Pos} {e o:Expr} {es:List Expr} {kws:List Keyword} {te ta:TE} {t tk:TA} {nm:Option Str}
structure An (K:PySem.W.Frag) (fd:FuncData) (ps ks:List Str) (g:List Value->List Value->List Value) (gV:List V->List V->List V):Prop where
 to:∀ (s:Shared) (us ws:List Value),K.In s.heap->(g us ws).length=ps.length->BindsTo s fd ⟨us,ks.zip ws⟩ (ps.zip (g us ws))
 rel:∀ {vs:List V} {us:List Value} {zs:List V} {ws:List Value},Vals vs us->Vals zs ws->Vals (gV vs zs) (g us ws)
def Ao (sp:Sp) (gV:List V->List V->List V) (E:XK) (t tk:TA):TE:=λσ H Q=>t σ H λvs H1=>tk σ H1 λzs H2=>sp (gV vs zs) H2 Q E
variable {g:List Value->List Value->List Value} {gV:List V->List V->List V}
end
structure aF (N P:List Str) (sc:Scope):Prop where
 kind:sc.kind=.function
 co:sc.isCoroutine=false
 gen:sc.isGenerator=false
 nd:N.Nodup
 pre:N.take P.length=P
 par:∀ x ∈ P,sc.names.lookup x=some .local\/sc.names.lookup x=some .cell
 nofree:∀ y ∈ sc.names,y.2 ≠ .free
theorem lD {kindOf:Str->Option NameKind} {x:Str} : ∀ {binds:List (Str × Value)} {m:Str->Option Value},(∀ v,(x,v) ∉ binds)->bindL kindOf binds m x=m x
 | [],_,_=>rfl
 | (n,v) :: r,m,h=>by
  unfold bindL
  rw [lD λw hw=>h w (List.mem_cons_of_mem _ hw)]
  split
  ·have:x ≠ n:=by rintro rfl;exact h v List.mem_cons_self
   simp [this]
  ·rfl
theorem lE {kindOf:Str->Option NameKind} {x:Str} : ∀ {binds:List (Str × Value)} {m:Str->Option Value},(∀ v,(x,v) ∉ binds)->bindC kindOf binds m x=m x
 | [],_,_=>rfl
 | (n,v) :: r,m,h=>by
  unfold bindC
  rw [lE λw hw=>h w (List.mem_cons_of_mem _ hw)]
  split
  ·rfl
  ·have:x ≠ n:=by rintro rfl;exact h v List.mem_cons_self
   simp [this]
theorem lF {kindOf:Str->Option NameKind} {x:Str} {v:Value} : ∀ {P:List Str} {vs:List Value} {i:Nat} {m:Str->Option Value},P.Nodup->P[i]?=some x->vs[i]?=some v->kindOf x=some .local ->
  bindL kindOf (P.zip vs) m x=some v
 | [],_,_,_,_,h,_,_=>by simp at h
 | _ :: _,[],_,_,_,_,h,_=>by simp at h
 | p :: P,w :: vs,0,m,nd,h1,h2,hk=>by
  simp at h1 h2;subst h1;subst h2
  show bindL kindOf ((p,w) :: P.zip vs) m p=_
  unfold bindL
  rw [lD λv hv=>(List.nodup_cons.mp nd).1 (List.of_mem_zip hv).1,if_pos hk]
  simp
 | p :: P,w :: vs,i+1,m,nd,h1,h2,hk=>by
  show bindL kindOf ((p,w) :: P.zip vs) m x=_
  unfold bindL
  exact lF (i:=i) (List.nodup_cons.mp nd).2 (by simpa using h1) (by simpa using h2) hk
theorem lG {kindOf:Str->Option NameKind} {x:Str} {v:Value} : ∀ {P:List Str} {vs:List Value} {i:Nat} {m:Str->Option Value},P.Nodup->P[i]?=some x->vs[i]?=some v->kindOf x ≠ some .local ->
  bindC kindOf (P.zip vs) m x=some v
 | [],_,_,_,_,h,_,_=>by simp at h
 | _ :: _,[],_,_,_,_,h,_=>by simp at h
 | p :: P,w :: vs,0,m,nd,h1,h2,hk=>by
  simp at h1 h2;subst h1;subst h2
  show bindC kindOf ((p,w) :: P.zip vs) m p=_
  unfold bindC
  rw [lE λv hv=>(List.nodup_cons.mp nd).1 (List.of_mem_zip hv).1,if_neg hk]
  simp
 | p :: P,w :: vs,i+1,m,nd,h1,h2,hk=>by
  show bindC kindOf ((p,w) :: P.zip vs) m x=_
  unfold bindC
  exact lG (i:=i) (List.nodup_cons.mp nd).2 (by simpa using h1) (by simpa using h2) hk
def start (N:List Str) (vs:List V):St:=vs.map some ++ List.replicate (N.length - vs.length) none
def ie (CX:CXT) (P:Program) (w:World) (K:PySem.W.Frag) (mg:Str->Option Value) (base:Heap) (N:List Str) (qual:Str) (scope:Scope) (f:Addr) (cd:Value) (A:Around) (outer:List Env) (s:Shared) (H:Hp) (E:XK):Cx where
 prog:=P
 w:=w
 K:=K
 mg:=mg
 base:=base
 A:=A.deeper (envOfC qual scope s.heap.objs.size f cd)
 N:=N
 s₀:=s
 H₀:=H
 env:=envOfC qual scope s.heap.objs.size f cd
 outer:=outer
 stack:=envOfC qual scope s.heap.objs.size f cd :: outer
 ex:=[]
 calm:=true
 fn:=λ_=>true
 pn:=[]
 xe:=λe s'=>wpAny (model P w) (A.deeper (envOfC qual scope s.heap.objs.size f cd)) (leaving (envOfC qual scope s.heap.objs.size f cd) e) (λ_ s''=>CX outer H s E e s'') (λe' s''=>CX outer H s E e' s'') s'
theorem nQ {sc:Scope} {n:Nat} {x:Str} (h:sc.names.lookup x=some .cell):∃ c,(cellsFrom n sc.names []).lookup x=some c:=by
 have q:=PySem.W.cellsFrom_some sc.names n [] (.inl h)
 exact Option.isSome_iff_exists.mp q
theorem qF {CX:CXT} {P:Program} {w:World} {K:PySem.W.Frag} {mg:Str->Option Value} {base:Heap} {N ps:List Str} {qual:Str} {scope:Scope} {f:Addr} {cd:Value} {A:Around} {outer:List Env} {s s1:Shared} {H:Hp} {E:XK} {us:List Value} {vs:List V}
  (S:aF N ps scope) (hd:A.handled=none) (e0:oZ P w K mg base A outer s H) (hl:vs.length=ps.length) (r:Vals vs us)
  (x:InCallC s s.heap.objs.size (bindL (envOfC qual scope s.heap.objs.size f cd).kindOf (ps.zip us) λ_=>none) (cellsFrom (s.heap.objs.size+1) scope.names []) (bindC (envOfC qual scope s.heap.objs.size f cd).kindOf (ps.zip us) λ_=>none) s1) :
  Inv (ie CX P w K mg base N qual scope f cd A outer s H E) [] (start N vs) H s1:=by
 have hpl:ps.length<=N.length:=by have:=congrArg List.length S.pre;rw [List.length_take] at this;omega
 obtain ⟨h1,tk,rfl,hk⟩:=x.done
 have noA:∀ b:Addr,b ∉ (ie CX P w K mg base N qual scope f cd A outer s H E).ex:=λb z=>absurd (show b ∈ ([]:List Addr) from z) (by simp)
 refine ⟨⟨e0.mod,S.kind,rfl,rfl,Nat.le_refl _,λy z c h1 h2=>?_,λy hy=>?_,λy c _ h=>?_,λ_=>hd,Around.frames_deeper e0.frames,.inr ⟨rfl,rfl⟩,λb z=>absurd z (noA b),e0.bs,e0.bsz,λb _ _=>noA b,λb z=>absurd z (noA b),e0.funs,e0.frf⟩,
  rfl,e0.bare,Un.kept hk,⟨_,x.toInCall.ns,λi y v h1 h2 h3=>?_⟩,λy c h=>⟨_,x.cell y c h⟩,e0.hok.fresh (Nat.le_refl _),λy c h=>?_,λp hp=>absurd (show p ∈ ([]:List (Addr × Obj)) from hp) (by simp),e0.hok.kept hk,?_⟩
 ·exact name_of_addr x.apart (PySem.mem_of_lookup h1) (PySem.mem_of_lookup h2)
 ·have hy:scope.names.lookup y=some .cell\/scope.names.lookup y=some .free:=hy
  rcases hy with hy | hy
  ·exact nQ hy
  ·exact absurd rfl (S.nofree _ (PySem.mem_of_lookup hy))
 ·exact Nat.le_of_lt (x.above y c (PySem.mem_of_lookup h))
 ·have hi:i < vs.length:=by
   unfold start at h2
   by_cases hi:i < vs.length
   ·exact hi
   ·rw [List.getElem?_append_right (by simpa using hi)] at h2
    rw [List.getElem?_replicate] at h2
    split at h2 <;> cases h2
  have ha:vs[i]?=some v:=by
   unfold start at h2
   rw [List.getElem?_append_left (by simpa using hi),List.getElem?_map] at h2
   cases e:vs[i]? with
   | none=>rw [e] at h2;cases h2
   | some a=>rw [e] at h2;cases h2;rfl
  obtain ⟨u,hu,rv⟩:=r.get ha
  have hp:ps[i]?=some y:=by
   rw [← S.pre,List.getElem?_take_of_lt (by omega)];exact h1
  have ndP:ps.Nodup:=by rw [← S.pre];exact S.nd.sublist (List.take_sublist _ _)
  refine ⟨u,rv,?_⟩
  rcases S.par y (E5 hp) with k | k
  ·exact .inl ⟨k,lF ndP hp hu k⟩
  ·obtain ⟨c,e⟩:=nQ (n:=s.heap.objs.size+1) k
   refine .inr ⟨.inl k,c,e,?_⟩
   have q:=x.cell y c e
   rw [lG ndP hp hu (by show scope.names.lookup y ≠ _;rw [k];decide)] at q
   exact q
 ·exact e0.hok.fresh (Nat.le_of_lt (x.above y c (PySem.mem_of_lookup h)))
 ·unfold start
  show _=N.length
  rw [List.length_append,List.length_map,List.length_replicate]
  omega
theorem vc {CX:CXT} {P:Program} {w:World} {K:PySem.W.Frag} {mg:Str->Option Value} {base:Heap} {k:Nat} {f:Addr} {name qual:Str} {params:Arguments} {body:List Stmt} {scope:Scope} {dV kV doc pm cdv ct oc:Value} {an od:Option Addr}
  {osl:Array (Option Value)} {N ps:List Str} {sp:Sp} (lk:K.lookup f=some ⟨oc,od,.func (PySem.W.fnOf name qual params body scope dV kV doc pm an cdv ct),osl⟩) (hcd:PySem.W.codeIn K cdv qual=true) (S:aF N ps scope)
  (len:∀ vs H Q E,sp vs H Q E->vs.length=ps.length)
  (nR:∀ (A:Around) (outer:List Env) (s:Shared) (H:Hp) (vs:List V) (Q:VK) (E:XK),bY k (A.deeper (envOfC qual scope s.heap.objs.size f cdv))->sp vs H Q E ->
   ∃ t,PSs (ie CX P w K mg base N qual scope f cdv A outer s H E) body t/\t { nx:=λ_ H'=>Q .non H',rt:=Q } (start N vs) H) :
  aQ P w K mg base CX (k+1) f (PySem.W.fnOf name qual params body scope dV kV doc pm an cdv ct) ps sp:=by
 refine ⟨len,λA outer s H args us vs Q E hr e0 hb r hsp=>?_⟩
 have hl:=len _ _ _ _ hsp
 have KX:K.In s.heap:=e0.mod.kin.keeps λb o e=>(e0.bs b o e).1
 have lim:s.heap.NoLimit:=e0.mod.nolimit.keeps λb o e=>(e0.bs b o e).1
 have yj:∀ y ∈ ps.zip us,scope.names.lookup y.1=some .local\/(scope.names.lookup y.1=some .cell/\((cellsFrom (s.heap.objs.size+1) scope.names []).lookup y.1).isSome=true):=λ⟨n,v⟩ hy=>by
  rcases S.par n (List.of_mem_zip hy).1 with q | q
  ·exact .inl q
  ·exact .inr ⟨q,PySem.W.cellsFrom_some _ _ _ (.inl q)⟩
 refine codeAny_call_function hr.depth (KX _ _ lk) rfl S.co S.gen rfl (PySem.W.codeRec_of KX hcd) (hb _ _ _ _ ?_)
 refine wpAny_newFunctionEnv_cells S.kind yj λenv he s1 x=>?_
 subst he
 refine ⟨lim.keeps x.toInCall.keep,codeAny_func ?_⟩
 obtain ⟨t,ht,hq⟩:=nR A outer s H vs Q E (hr.deeper _) hsp
 have I:Inv (ie CX P w K mg base N qual scope f cdv A outer s H E) [] (start N vs) H s1:=qF S hr.hd e0 hl r x
 refine wpAny_mono (ht [] s1 (start N vs) H _ I hq) (λfl s' hs=>?_) λe s' hs=>hs
 have fin:∀ {σ' : St} {H' : Hp} {v:V} {u:Value},Inv (ie CX P w K mg base N qual scope f cdv A outer s H E) [] σ' H' s'->RelV v u->Q v H'->CE outer P w H s Q u s' :=
  λ{σ' H' v u} J rv q=>⟨v,H',J.os,J.bare,J.base,J.hok,rv,q⟩
 cases fl with
 | ret u =>
  obtain ⟨v,σ',H',J,rv,q⟩:=hs
  exact fin J rv q
 | next =>
  obtain ⟨σ',H',J,q⟩:=hs
  exact fin (v:=V.non) (u:=Value.none) J rfl q
 | brk =>
  obtain ⟨_,_,_,q⟩:=hs
  exact False.elim q
 | cont =>
  obtain ⟨_,_,_,q⟩:=hs
  exact False.elim q
end L2
namespace L2
open PySem PySem.Spec PyProof.Rows
section
variable {X:Cx} {x:Str} {p pos:Pos} {e:Expr} {es:List Expr} {t:TA} {id T:String} {r:List V->Hp->VK->Prop}
def tCB (r:List V->Hp->VK->Prop) (t:TA):TE:=λσ H Q=>t σ H λvs H1=>r vs H1 Q
theorem aC (hc:dz X (.builtin id) r) (hg:Gl X x) (hm:X.mg x=none) (hv:bootBuiltins x=some (.builtin id)) (ha:PA X (e :: es) t) (hn:x ≠ "__name__" := by decide) (hdb:(x == ("__debug__" : Str))=false:=by decide)
  (he:starEach (e :: es) X.env=(false,eval e X.env) :: starEach es X.env:=by rfl) (hpl:(backTo pos (starEach es X.env)).any (·.1)=false:=by rfl):PE X (.Call (.Name x p) (e :: es) [] pos) (tCB r t):=by
 intro pins s σ H Q I h
 refine wpAny_Call_Name_kw (iN I hg hm hv ?_ hn hdb)
 exact PyProof.Rows.callWith_builtin1 (thn (ha pos pins s σ H _ I h) λus s1 ⟨vs,H1,I1,r1,q1⟩=>hc pins s1 σ H1 vs us Q I1 r1 q1) he hpl
theorem bw (hc:dz X (.type T) r) (hg:Gl X x) (hm:X.mg x=none) (hv:bootBuiltins x=some (.type T)) (ha:PA X (e :: es) t) (hn:x ≠ "__name__" := by decide) (hdb:(x == ("__debug__" : Str))=false:=by decide)
  (he:starEach (e :: es) X.env=(false,eval e X.env) :: starEach es X.env:=by rfl) (hpl:(backTo pos (starEach es X.env)).any (·.1)=false:=by rfl):PE X (.Call (.Name x p) (e :: es) [] pos) (tCB r t):=by
 intro pins s σ H Q I h
 refine wpAny_Call_Name_kw (iN I hg hm hv ?_ hn hdb)
 exact PyProof.Rows.callWith_type1 (thn (ha pos pins s σ H _ I h) λus s1 ⟨vs,H1,I1,r1,q1⟩=>hc pins s1 σ H1 vs us Q I1 r1 q1) he hpl
end
end L2
namespace HT
open PySem PyProof.Rows
def lexLt:List Int->List Int->Bool
 | [],[]=>false
 | [],_ :: _=>true
 | _ :: _,[]=>false
 | x :: xs,y :: ys=>if x=y then lexLt xs ys else decide (x < y)
section
open PySem.SeqAt
open PySem.AutoSeq1 (wpAny_loadPart')
open PySem.MeetsSeq PySem.MeetsSeq2 PySem.MeetsSeq3
end
section
variable {prog:Program} {w:World} {A:Around} {E:Value->Shared->Prop} {s:Shared}
def sIx (n d:Nat):Option Int->Nat
 | none=>d
 | some v=>if v < 0 then (v+(n:Int)).toNat else min v.toNat n
end
end HT
namespace L2
open PySem PySem.Spec PyProof.Rows
abbrev TO:=St->Hp->(Option Int->Hp->Prop)->Prop
def PO (X:Cx) (e:Option Expr) (t:TO):Prop :=
 ∀ (pins:List (Addr × Obj)) (s:Shared) (σ:St) (H:Hp) (Q:Option Int->Hp->Prop),Inv X pins σ H s->t σ H Q ->
  wpAny (model X.prog X.w) X.A (evalPart e X.env) (λu s'=>∃ o H',Inv X pins σ H' s'/\IsPart u o/\Q o H') X.xe s
def ui:TO:=λ_ H Q=>Q none H
def yk (t:TE):TO:=λσ H Q=>t σ H λx H1=>∃ i,x=.int i/\Q (some i) H1
section
variable {X:Cx} {e:Expr} {te:TE} {lo hi:Option Expr} {tl th:TO} {pos p2:Pos}
theorem uj:PO X none ui:=by
 intro pins s σ H Q I h
 rw [evalPart_none]
 exact wpAny_pure ⟨none,H,I,.none,h⟩
theorem uk (h:PE X e te):PO X (some e) (yk te):=by
 intro pins s σ H Q I hw
 rw [evalPart_some]
 refine thn (h pins s σ H _ I hw) λu s1 ⟨x,H1,I1,r1,q1⟩=>?_
 obtain ⟨i,rfl,q⟩:=q1
 obtain ⟨t,rfl⟩:=r1
 exact ⟨some i,H1,I1,.int i t,q⟩
def SlR (X:Cx) (r:V->Option Int->Option Int->Hp->VK->Prop):Prop :=
 ∀ (pins:List (Addr × Obj)) (s:Shared) (σ:St) (H:Hp) (x:V) (v vl vu:Value) (lo hi:Option Int) (sl:Addr) (Q:VK),Inv X pins σ H s->RelV x v->s.heap.IsSliceOf sl vl vu .none->IsPart vl lo->IsPart vu hi->r x lo hi H Q ->
  ∃ T id,typeLookup (.type T) "__getitem__" = pure (some (.builtin id))/\s.TypeIs v T/\wpAny (model X.prog X.w) X.A (getItem v (.ref sl)) (EP X pins σ Q) X.xe s
def tSl (r:V->Option Int->Option Int->Hp->VK->Prop) (te:TE) (tl th:TO):TE:=λσ H Q=>te σ H λx H1=>tl σ H1 λl H2=>th σ H2 λu H3=>r x l u H3 Q
theorem rH {r:V->Option Int->Option Int->Hp->VK->Prop} (hr:SlR X r) (he:PE X e te) (hl:PO X lo tl) (hu:PO X hi th):PE X (.Subscript e (.Slice lo hi none p2) pos) (tSl r te tl th):=by
 intro pins s σ H Q I h
 refine Subscript_ (thn (he pins s σ H _ I h) λv s1 ⟨x,H1,I1,r1,q1⟩=>?_)
 refine wpAny_Slice (thn (hl pins s1 σ H1 _ I1 q1) λvl s2 ⟨l,H2,I2,pl,q2⟩=>thn (hu pins s2 σ H2 _ I2 q2) λvu s3 ⟨u,H3,I3,pu,q3⟩=>?_)
 rw [evalPart_none]
 refine wpAny_pure ?_
 have I4:Inv X pins σ H3 { s3 with heap:=s3.heap.push { cls:=.type "slice",data:=.fields #[vl,vu,.none] } }:=I3.kept (t':=s3.toks) λb ob q=>Heap.get?_push_of_some _ q
 obtain ⟨T,id,hT,ht,hg⟩:=hr pins { s3 with heap:=s3.heap.push { cls:=.type "slice",data:=.fields #[vl,vu,.none] } } σ H3 x v vl vu l u s3.heap.objs.size Q I4 r1 (Heap.IsSliceOf.new ..) pl pu q3
 show wpAny (model X.prog X.w) X.A (subscriptTail e (.Slice lo hi none p2) v (.ref s3.heap.objs.size)) (EP X pins σ Q) X.xe { s3 with heap:=s3.heap.push { cls:=.type "slice",data:=.fields #[vl,vu,.none] } }
 exact tail_any (ops:=[.ref s3.heap.objs.size,v]) ht hT hg (by with_unfolding_all rfl)
def ll (xs:List V) (lo hi:Option Int):List V:=(xs.drop (HT.sIx xs.length 0 lo)).take (HT.sIx xs.length xs.length hi - HT.sIx xs.length 0 lo)
theorem nS (xs:List V) (lo hi:Option Int):(ll xs lo hi).length<=xs.length:=by
 unfold ll
 rw [List.length_take,List.length_drop]
 omega
def Ee (K:PySem.W.Frag):V->Option Int->Option Int->Hp->VK->Prop:=λx lo hi H Q=>∃ a xs,x=.ref a/\SqT K H a xs /\
 ¬ (HT.sIx xs.length 0 lo=0/\HT.sIx xs.length xs.length hi=xs.length)/\∀ p,H p=none->Q (.ref p) (upd H p (.tup (ll xs lo hi)))
def Ef (K:PySem.W.Frag):R2:=λx y H Q=>∃ a b ns ms,x=.ref a/\y=.ref b/\SqT K H a (ns.map V.int)/\SqT K H b (ms.map V.int)/\Q (.bl (HT.lexLt ns ms)) H
def DB (K:PySem.W.Frag):R2:=λx y H Q=>∃ a b xs ys,x=.ref a/\y=.ref b/\SqT K H a xs/\SqT K H b ys/\xs ≠ []/\xs.length+ys.length<=sizeLine /\
 (ys=[]->Q (.ref a) H)/\(ys ≠ []->∀ p,H p=none->Q (.ref p) (upd H p (.tup (xs ++ ys))))
end
end L2
namespace L2
open PySem PySem.Spec PyProof.Rows
def ixN (n:Nat) (i:Int):Option Nat:=if 0<=i then (if i < n then some i.toNat else none) else if -(n:Int)<=i then some (i+n).toNat else none
def atI {α:Type} (xs:List α) (i:Int):Option α:=(ixN xs.length i).bind λj=>xs[j]?
theorem p9 {n:Nat} {i:Int} {j:Nat} (h:ixN n i=some j):seqIndex? i n=some j/\j < n/\-(n:Int)<=i/\i < n:=by
 unfold ixN at h
 by_cases h0:0<=i
 ·rw [if_pos h0] at h
  by_cases h1:i < n
  ·rw [if_pos h1] at h
   have e:i.toNat=j:=Option.some.inj h
   exact ⟨by rw [seqIndex_of h0 h1,e],by omega,by omega,h1⟩
  ·rw [if_neg h1] at h;cases h
 ·rw [if_neg h0] at h
  by_cases h1 : -(n:Int)<=i
  ·rw [if_pos h1] at h
   have e:(i+n).toNat=j:=Option.some.inj h
   exact ⟨by rw [seqIndex_neg (by omega) h1,e],by omega,h1,by omega⟩
  ·rw [if_neg h1] at h;cases h
theorem mh {α:Type} {xs:List α} {i:Int} {v:α} (h:atI xs i=some v):∃ j,seqIndex? i xs.length=some j/\xs[j]?=some v/\j < xs.length/\-(xs.length:Int)<=i/\i < xs.length:=by
 unfold atI at h
 cases e:ixN xs.length i with
 | none=>rw [e] at h;cases h
 | some j =>
  rw [e] at h
  obtain ⟨h1,h2,h3,h4⟩:=p9 e
  exact ⟨j,h1,h,h2,h3,h4⟩
theorem aN {α:Type} {xs:List α} {j:Nat} {v:α} (h:xs[j]?=some v):atI xs (j:Int)=some v:=by
 have hj:j < xs.length:=(E4.mp h).1
 have e:ixN xs.length (j:Int)=some j:=by
  unfold ixN
  rw [if_pos (by omega),if_pos (by omega)];simp
 unfold atI;rw [e];exact h
def um (b:Expr):Prop:=∀ o i,subscripted b false o i=operate [o,i] (getItem o i)
def IxR (X:Cx) (r:R2):Prop :=
 ∀ (value slice:Expr) (pins:List (Addr × Obj)) (s:Shared) (σ:St) (H:Hp) (x y:V) (v u:Value) (Q:VK),Inv X pins σ H s->RelV x v->RelV y u->r x y H Q ->
  subscripted slice false v u=operate [v,u] (getItem v u)->wpAny (model X.prog X.w) X.A (subscriptTail value slice v u) (EP X pins σ Q) X.xe s
def MtR (X:Cx) (id:String) (r:V->List V->Hp->VK->Prop):Prop :=
 ∀ (pins:List (Addr × Obj)) (s:Shared) (σ:St) (H:Hp) (x:V) (xs:List V) (v:Value) (us:List Value) (Q:VK),Inv X pins σ H s->RelV x v->Vals xs us->r x xs H Q ->
  wpAny (model X.prog X.w) X.A (call (.builtin id) (v :: us)) (EP X pins σ Q) X.xe s
section
variable {X:Cx} {a b:Expr} {ta tb:TE} {pos:Pos}
theorem aJ {r:R2} (hr:IxR X r) (ha:PE X a ta) (hb:PE X b tb) (hs:um b):PE X (.Subscript a b pos) (tOp r ta tb):=by
 intro pins s σ H Q I h
 exact Subscript_ (vE ha hb I h λv u s2 x y H2 I2 rx ry q=>hr a b pins s2 σ H2 x y v u Q I2 rx ry q (hs _ _))
def vM (K:PySem.W.Frag):R2:=λx y H Q=>∃ p xs i v,x=.ref p/\y=.int i/\SqL K H p xs/\atI xs i=some v/\Q v H
def vO (K:PySem.W.Frag):R2:=λx y H Q=>∃ p xs i v,x=.ref p/\y=.int i/\SqT K H p xs/\atI xs i=some v/\Q v H
def ym:R2:=λx y H Q=>∃ z i c,x=.str z/\y=.int i/\z.length<=sizeLine/\atI z.cps.toList i=some c/\Q (.str ⟨#[c]⟩) H
theorem aO:IxR X (vM X.K):=by
 intro value slice pins s σ H x y v u Q I rx ry h hs
 obtain ⟨p,xs,i,z,rfl,rfl,hq,he,q⟩:=h
 cases rx
 obtain ⟨t,rfl⟩:=ry
 obtain ⟨its,r,pl,hz⟩:=I.list hq
 obtain ⟨j,h1,h2,h3,h4,h5⟩:=mh he
 obtain ⟨w,ew,rw'⟩:=r.get h2
 have hl:=r.length
 have hn:=gw
 have fin:EP X pins σ Q w s:=⟨z,H,I,rw',q⟩
 by_cases h0:0<=i
 ·have hj:i.toNat=j:=by
   rw [seqIndex_of h0 h5] at h1
   exact Option.some.inj h1
  exact item_listR pl.isList h0 (by omega) (by rw [hj];simpa using ew) fin hs
 ·have hj:(i+(its.toArray.size:Int)).toNat=j:=by
   rw [seqIndex_neg (by omega) h4] at h1
   rw [List.size_toArray,← hl]
   exact Option.some.inj h1
  exact subscriptTail_builtinR (x:=w) pl.isList.typeIs slot_list_getitem.lookup
   (wpAny_getItem_list_neg (Q:=λr s'=>r=w/\EP X pins σ Q r s') pl.isList (by omega) (by rw [List.size_toArray] <;> omega) (by omega) (by rw [hj];simpa using ew) ⟨rfl,fin⟩) hs
theorem bD:IxR X (vO X.K):=by
 intro value slice pins s σ H x y v u Q I rx ry h hs
 obtain ⟨p,xs,i,z,rfl,rfl,hq,he,q⟩:=h
 cases rx
 obtain ⟨t,rfl⟩:=ry
 obtain ⟨its,r,pl,hz⟩:=I.tuple hq
 obtain ⟨j,h1,h2,h3,h4,h5⟩:=mh he
 obtain ⟨w,ew,rw'⟩:=r.get h2
 have hl:=r.length
 have hn:=gw
 have fin:EP X pins σ Q w s:=⟨z,H,I,rw',q⟩
 exact subscriptTail_builtinR (x:=w) pl.typeIs slot_tuple_getitem.lookup
  (getItem_tuple (j:=j) (Q:=λr s'=>r=w/\EP X pins σ Q r s') pl (by omega) (by omega) (by rw [List.size_toArray,← hl];exact h1) (by simpa using ew) ⟨rfl,fin⟩) hs
theorem o6:IxR X ym:=by
 intro value slice pins s σ H x y v u Q I rx ry h hs
 obtain ⟨z,i,c,rfl,rfl,hz,he,q⟩:=h
 obtain ⟨t,rfl⟩:=rx
 obtain ⟨t',rfl⟩:=ry
 obtain ⟨j,h1,h2,h3,h4,h5⟩:=mh he
 have hl:z.cps.toList.length=z.length:=by simp [Str.length]
 rw [hl] at h1 h4 h5
 have hn:=gw
 exact tail_any (typeIs_str s z t) slot_str_getitem.lookup (getItem_str (c:=c) (by
  have e1:decide (i < -(2 ^ 63:Int))=false:=decide_eq_false (by omega)
  have e2:decide (i ≥ 2 ^ 63)=false:=decide_eq_false (by omega)
  rw [e1,e2,Bool.or_false]) (by rw [h1];simpa using h2) ⟨.str ⟨#[c]⟩,H,I.tok _,⟨_,rfl⟩,q⟩) hs
def rIx (K:PySem.W.Frag):R2:=λx y H Q=>vM K x y H Q\/vO K x y H Q\/ym x y H Q
theorem o7 (its:List Value) (n j:Nat) (u:Value):Obj.mapSeq (·.setIfInBounds j u) { cls:=.type "list",data:=.seq its.toArray n } = { cls:=.type "list",data:=.seq (its.set j u).toArray n }:=by
 simp [Obj.mapSeq]
theorem Inv.lst {pins:List (Addr × Obj)} {σ:St} {H:Hp} {s:Shared} {p:Addr} {xs:List V} (I:Inv X pins σ H s) (h:H p=some (.lst xs)) :
  ∃ (its:List Value) (n:Nat),Vals xs its/\s.heap.get? p=some { cls:=.type "list",data:=.seq its.toArray n }/\xs.length<=sizeLine:=by
 obtain ⟨z,its,n,r,e⟩:=I.hok p _ h
 exact ⟨its,n,r,e,z⟩
theorem Inv.lstUpd {pins:List (Addr × Obj)} {σ:St} {H:Hp} {s:Shared} {p:Addr} {xs ys:List V} {its its' : List Value} {n n' : Nat} {f:Obj->Obj} (I:Inv X pins σ H s) (h:H p=some (.lst xs))
  (ho:s.heap.get? p=some { cls:=.type "list",data:=.seq its.toArray n }) (hf:f { cls:=.type "list",data:=.seq its.toArray n } = { cls:=.type "list",data:=.seq its'.toArray n' }) (r:Vals ys its') (hz:ys.length<=sizeLine) (t:Nat) :
  Inv X pins σ (upd H p (.lst ys)) { s with heap:=s.heap.update p f,toks:=t }:=by
 have e:(s.heap.update p f).get? p=some { cls:=.type "list",data:=.seq its'.toArray n' }:=by
  rw [Heap.get?_update_self f ho (by rw [hf] <;> rfl),hf]
 refine I.write (x:=p) (e:=p) (by rw [h];trivial) (.inl rfl) (λb u hb q=>(Heap.get?_update_other _ _ (Ne.symm hb)).trans q) ⟨_,e⟩ ?_
 exact ⟨hz,its',n',r,e⟩
def yn:V->V->V->Hp->(Hp->Prop)->Prop:=λo i v H Q=>∃ p xs k j,o=.ref p/\i=.int k/\H p=some (.lst xs)/\ixN xs.length k=some j/\Q (upd H p (.lst (xs.set j v)))
theorem set_list:xV X yn:=by
 intro pins s σ H o i v ov iv u Q I ro ri rv h
 obtain ⟨p,xs,k,j,rfl,rfl,hp,hj,q⟩:=h
 cases ro
 obtain ⟨t,rfl⟩:=ri
 obtain ⟨its,n,r,ho,hz⟩:=I.lst hp
 obtain ⟨h1,h2,h3,h4⟩:=p9 hj
 have hl:=r.length
 have hn:=gw
 have I' : Inv X pins σ (upd H p (.lst (xs.set j v))) { s with heap:=s.heap.update p (Obj.mapSeq (·.setIfInBounds j u)) } :=
  I.lstUpd hp ho (o7 its n j u) (r.set rv j) (by rw [List.length_set];exact hz) s.toks
 by_cases h0:0<=k
 ·have hk:k.toNat=j:=by
   rw [seqIndex_of h0 h4] at h1
   exact Option.some.inj h1
  exact PySem.W.ki_setAt ho h0 (by omega) (by rw [List.size_toArray,← hl];exact h4) (by rw [hk];exact ⟨_,I',q⟩)
 ·have hk:(k+(its.toArray.size:Int)).toNat=j:=by
   rw [seqIndex_neg (by omega) h3] at h1
   rw [List.size_toArray,← hl]
   exact Option.some.inj h1
  exact PySem.W.ki_setBack ho (by omega) (by rw [List.size_toArray,← hl];exact h3) (by omega) (by rw [hk];exact ⟨_,I',q⟩)
theorem mi (lo hi:Option Int) (n:Nat):(sliceBounds lo hi none n).1=((HT.sIx n 0 lo:Nat):Int)/\(sliceBounds lo hi none n).2.1=((HT.sIx n n hi:Nat):Int)/\(sliceBounds lo hi none n).2.2=1:=by
 refine ⟨?_,?_,rfl⟩
 ·cases lo with
  | none=>simp [sliceBounds,HT.sIx]
  | some i =>
   simp only [sliceBounds,HT.sIx,Option.getD_none,show (1:Int) > 0 by decide,if_true]
   by_cases h:i < 0
   ·simp only [h,if_true] <;> omega
   ·simp only [h,if_false] <;> omega
 ·cases hi with
  | none=>simp [sliceBounds,HT.sIx]
  | some i =>
   simp only [sliceBounds,HT.sIx,Option.getD_none,show (1:Int) > 0 by decide,if_true]
   by_cases h:i < 0
   ·simp only [h,if_true] <;> omega
   ·simp only [h,if_false] <;> omega
theorem lp (its:List Value) (lo hi:Option Int):slicePick its.toArray lo hi none=((its.drop (HT.sIx its.length 0 lo)).take (HT.sIx its.length its.length hi - HT.sIx its.length 0 lo)).toArray:=by
 obtain ⟨h1,h2,h3⟩:=mi lo hi its.toArray.size
 unfold slicePick
 rw [h1,h2,h3]
 simp only [sliceRange_one,pick_run,List.size_toArray] <;> rfl
def Ap (K:PySem.W.Frag):V->Option Int->Option Int->Hp->VK->Prop:=λx lo hi H Q=>∃ a xs,x=.ref a/\SqL K H a xs/\∀ p,H p=none->Q (.ref p) (upd H p (.lst (ll xs lo hi)))
theorem uo:SlR X (Ap X.K):=by
 intro pins s σ H x v vl vu lo hi sl Q I rx hs pl pu h
 obtain ⟨a,xs,rfl,hx,q⟩:=h
 cases rx
 obtain ⟨its,r,ht,hz⟩:=I.list hx
 have hlen:=r.length
 refine ⟨"list",_,slot_list_getitem.lookup,ht.isList.typeIs,?_⟩
 refine wpAny_getItem_list_slice ht.isList hs pl pu .none (by simp) ?_ (by rw [List.size_toArray] <;> omega)
 rw [lp,← hlen]
 refine ⟨.ref s.heap.objs.size,_,I.laid (t':=s.toks) (o:=.lst (ll xs lo hi)) (λb ob q=>Heap.get?_push_of_some _ q) (Nat.le_refl _) ?_,rfl,q _ (I.hok.fresh (Nat.le_refl _))⟩
 exact ⟨Nat.le_trans (nS xs lo hi) hz,_,0,(r.drop (HT.sIx xs.length 0 lo)).take (HT.sIx xs.length xs.length hi - HT.sIx xs.length 0 lo),Heap.get?_push_size _ rfl⟩
def bT:V->Bool
 | .non=>true
 | .bl _=>true
 | .int _=>true
 | .str _=>true
 | _=>false
def eqV:V->V->Bool
 | .non,.non=>true
 | .bl a,.bl b=>a == b
 | .bl a,.int b=>(if a then 1 else 0) == b
 | .int a,.bl b=>a == (if b then 1 else 0)
 | .int a,.int b=>a == b
 | .str a,.str b=>a == b
 | _,_=>false
theorem mj {A:Around} {s:Shared} {y x:V} {u v:Value} (ry:RelV y u) (rx:RelV x v) (fy:bT y=true) (fx:bT x=true):SeqAt.EqAt A s u v (eqV y x):=by
 cases y with
 | non =>
  cases ry
  cases x with
  | non=>cases rx;exact SeqAt.EqAt.same _
  | bl b=>cases rx;exact SeqAt.EqAt.none_bool b
  | int b=>obtain ⟨t,rfl⟩:=rx;exact SeqAt.EqAt.none_int b t
  | str b=>obtain ⟨t,rfl⟩:=rx;exact SeqAt.EqAt.none_str b t
  | _=>exact absurd (show false=true from fx) Bool.false_ne_true
 | bl a =>
  cases ry
  cases x with
  | non=>cases rx;exact SeqAt.EqAt.bool_none a
  | bl b=>cases rx;exact SeqAt.EqAt.bool_bool a b
  | int b=>obtain ⟨t,rfl⟩:=rx;exact SeqAt.EqAt.bool_int a b t
  | str b=>obtain ⟨t,rfl⟩:=rx;exact SeqAt.EqAt.bool_str a b t
  | _=>exact absurd (show false=true from fx) Bool.false_ne_true
 | int a =>
  obtain ⟨t',rfl⟩:=ry
  cases x with
  | non=>cases rx;exact SeqAt.EqAt.int_none a t'
  | bl b=>cases rx;exact SeqAt.EqAt.int_bool a t' b
  | int b=>obtain ⟨t,rfl⟩:=rx;exact SeqAt.EqAt.int_int a t' b t
  | str b=>obtain ⟨t,rfl⟩:=rx;exact SeqAt.EqAt.int_str a t' b t
  | _=>exact absurd (show false=true from fx) Bool.false_ne_true
 | str a =>
  obtain ⟨t',rfl⟩:=ry
  cases x with
  | non=>cases rx;exact SeqAt.EqAt.str_none a t'
  | bl b=>cases rx;exact SeqAt.EqAt.str_bool a t' b
  | int b=>obtain ⟨t,rfl⟩:=rx;exact SeqAt.EqAt.str_int a t' b t
  | str b=>obtain ⟨t,rfl⟩:=rx;exact SeqAt.EqAt.str_str a t' b t
  | _=>exact absurd (show false=true from fx) Bool.false_ne_true
 | _=>exact absurd (show false=true from fy) Bool.false_ne_true
def eqU (x:V) (u:Value):Bool:=match u with
 | .none=>eqV .non x
 | .bool b=>eqV (.bl b) x
 | .int i _=>eqV (.int i) x
 | .str z _=>eqV (.str z) x
 | _=>false
theorem o8 {x y:V} {u:Value} (r:RelV y u) (f:bT y=true):eqU x u=eqV y x:=by
 cases y with
 | non=>cases r;rfl
 | bl b=>cases r;rfl
 | int i=>obtain ⟨t,rfl⟩:=r;rfl
 | str z=>obtain ⟨t,rfl⟩:=r;rfl
 | _=>exact absurd (show false=true from f) Bool.false_ne_true
theorem ig {x:V} : ∀ {xs:List V} {us:List Value},Vals xs us->xs.all bT=true->us.any (eqU x)=xs.any λy=>eqV y x
 | _,_,.nil,_=>rfl
 | y :: xs,u :: us,.cons r t,f=>by
  rw [List.all_cons,Bool.and_eq_true] at f
  rw [List.any_cons,List.any_cons,o8 r f.1,ig t f.2]
theorem dP {A:Around} {s:Shared} {x:V} {v:Value} (rx:RelV x v) (fx:bT x=true):∀ {xs:List V} {us:List Value},Vals xs us->xs.all bT=true->∀ u ∈ us,SeqAt.EqAt A s u v (eqU x u)
 | _,_,.nil,_=>λu hu=>by cases hu
 | y :: xs,u :: us,.cons r t,f=>λu' hu=>by
  rw [List.all_cons,Bool.and_eq_true] at f
  rcases List.mem_cons.mp hu with rfl | hu
  ·rw [o8 r f.1];exact mj r rx f.1 fx
  ·exact dP rx fx t f.2 u' hu
def inV (x:V) (xs:List V):Bool:=xs.any λy=>eqV y x
def rIn (K:PySem.W.Frag) (neg:Bool):R2:=λx y H Q=>∃ p xs,y=.ref p/\(SqL K H p xs\/SqT K H p xs)/\bT x=true/\xs.all bT=true/\Q (.bl (if neg then !inV x xs else inV x xs)) H
theorem qG:OpR X (compareOp .In) (rIn X.K false):=by
 intro pins s σ H x y v u Q I rx ry h
 obtain ⟨p,xs,rfl,hq,fx,fs,q⟩:=h
 cases ry
 rcases hq with hq | hq
 ·obtain ⟨its,r,pl,hz⟩:=I.list hq
  refine SeqAt.in_listAt (eqU x) pl.isList (λw hw=>dP rx fx r fs w (by simpa using hw)) ⟨.bl _,H,I,rfl,?_⟩
  rw [show its.toArray.any (eqU x)=its.any (eqU x) by simp,ig r fs]
  exact q
 ·obtain ⟨its,r,pl,hz⟩:=I.tuple hq
  refine SeqAt.in_tupleAt (eqU x) pl (λw hw=>dP rx fx r fs w (by simpa using hw)) ⟨.bl _,H,I,rfl,?_⟩
  rw [show its.toArray.any (eqU x)=its.any (eqU x) by simp,ig r fs]
  exact q
theorem ij:OpR X (compareOp .NotIn) (rIn X.K true):=by
 intro pins s σ H x y v u Q I rx ry h
 obtain ⟨p,xs,rfl,hq,fx,fs,q⟩:=h
 cases ry
 rcases hq with hq | hq
 ·obtain ⟨its,r,pl,hz⟩:=I.list hq
  refine SeqAt.notIn_listAt (eqU x) pl.isList (λw hw=>dP rx fx r fs w (by simpa using hw)) ⟨.bl _,H,I,rfl,?_⟩
  rw [show its.toArray.any (eqU x)=its.any (eqU x) by simp,ig r fs]
  exact q
 ·obtain ⟨its,r,pl,hz⟩:=I.tuple hq
  refine SeqAt.notIn_tupleAt (eqU x) pl (λw hw=>dP rx fx r fs w (by simpa using hw)) ⟨.bl _,H,I,rfl,?_⟩
  rw [show its.toArray.any (eqU x)=its.any (eqU x) by simp,ig r fs]
  exact q
theorem aw:dz X (.builtin "len") (λxs H Q=>∃ p ys,xs=[.ref p]/\(SqL X.K H p ys\/SqT X.K H p ys)/\Q (.int ys.length) H):=by
 intro pins s σ H xs us Q I r h
 obtain ⟨p,ys,rfl,hq,q⟩:=h
 obtain ⟨u,rfl,rx⟩:=vals1 r
 cases rx
 have hn:=gw
 rcases hq with hq | hq
 ·obtain ⟨its,r',pl,hz⟩:=I.list hq
  have hlen:=r'.length
  exact Calls.call_len_list pl.isList (by simp only [List.size_toArray] <;> omega) ⟨.int ys.length,H,I.tok _,⟨s.toks+1,by rw [List.size_toArray,hlen]⟩,q⟩
 ·obtain ⟨its,r',pl,hz⟩:=I.tuple hq
  have hlen:=r'.length
  exact len_tuple pl (by simp only [List.size_toArray] <;> omega) ⟨.int ys.length,H,I.tok _,⟨s.toks+1,by rw [List.size_toArray,hlen]⟩,q⟩
theorem ml:dz X (.builtin "len") (λxs H Q=>∃ z,xs=[.str z]/\z.length<=sizeLine/\Q (.int z.length) H):=by
 intro pins s σ H xs us Q I r h
 obtain ⟨z,rfl,hz,q⟩:=h
 obtain ⟨u,rfl,t,rfl⟩:=vals1 r
 have hn:=gw
 exact len_str (by omega) ⟨.int z.length,H,I.tok _,⟨_,rfl⟩,q⟩
theorem bZ:dz X (.type "list") (λxs H Q=>∃ p ys,xs=[.ref p]/\(SqL X.K H p ys\/SqT X.K H p ys)/\∀ l,H l=none->Q (.ref l) (upd H l (.lst ys))):=by
 intro pins s σ H xs us Q I r h
 obtain ⟨p,ys,rfl,hq,q⟩:=h
 obtain ⟨u,rfl,rx⟩:=vals1 r
 cases rx
 have fin:∀ (its:List Value),Vals ys its->ys.length<=sizeLine->∀ (h' : Heap) (c' : Nat),(∀ b o',s.heap.get? b=some o'->h'.get? b=some o') ->
   h'.get? s.heap.objs.size=some { cls:=.type "list",dict:=none,data:=.seq its.toArray c',slots:=#[] }->EP X pins σ Q (.ref s.heap.objs.size) { s with heap:=h' }:=λits r' hz h' c' kp e =>
  ⟨.ref s.heap.objs.size,_,I.laid (t':=s.toks) kp (Nat.le_refl _) (show bW X.prog X.w _ h' _ (.lst ys) from ⟨hz,its,c',r',e⟩),rfl,q _ (I.hok.fresh (Nat.le_refl _))⟩
 rcases hq with hq | hq
 ·obtain ⟨its,r',pl,hz⟩:=I.list hq
  have hlen:=r'.length
  obtain ⟨o,ho,hc,n,hd⟩:=pl.isList
  exact call_list_seq p (.inl rfl) ho hc hd (λh' c' kp e=>fin its r' hz h' c' kp e) (by simp only [List.size_toArray] <;> omega)
 ·obtain ⟨its,r',pl,hz⟩:=I.tuple hq
  have hlen:=r'.length
  obtain ⟨o,ho,hc,n,hd⟩:=pl
  exact call_list_seq p (.inr rfl) ho hc hd (λh' c' kp e=>fin its r' hz h' c' kp e) (by simp only [List.size_toArray] <;> omega)
def tyV (K:PySem.W.Frag) (T:String) (x:V) (H:Hp):Prop:=match x with
 | .str _=>T = "str"
 | .int _=>T = "int"
 | .ref p=>(T = "list" /\ ∃ xs,SqL K H p xs)\/(T = "tuple" /\ ∃ o,K.lookup p=some o/\o.cls=.type "tuple" /\ o.dict=none) \/
   (T = "dict" /\ ((∃ kvs,H p=some (.dK kvs))\/∃ kvs,H p=some (.dT kvs)))\/(T = "set" /\ ∃ S n,H p=some (.set S n))
 | _=>False
theorem vP {pins:List (Addr × Obj)} {σ:St} {H:Hp} {s:Shared} {T:String} {x:V} {v:Value} (I:Inv X pins σ H s) (r:RelV x v) (ty:tyV X.K T x H) :
  s.TypeIs v T/\∀ a,v=.ref a->∃ ob,s.heap.get? a=some ob/\ob.dict=none:=by
 cases x with
 | str z =>
  obtain ⟨t,rfl⟩:=r
  cases (show T = "str" from ty)
  exact ⟨typeIs_str s z t,λ_ e=>nomatch e⟩
 | int i =>
  obtain ⟨t,rfl⟩:=r
  cases (show T = "int" from ty)
  exact ⟨typeIs_int s i t,λ_ e=>nomatch e⟩
 | ref p =>
  cases r
  rcases ty with ⟨rfl,xs,hq⟩ | ⟨rfl,o,hk,hc,hd⟩ | ⟨rfl,hk⟩ | ⟨rfl,S,n,hk⟩
  ·obtain ⟨its,_,pl,_⟩:=I.list hq
   refine ⟨pl.isList.typeIs,λa e=>?_⟩
   cases e
   obtain ⟨o,n,e,c,hd,_⟩:=pl
   exact ⟨o,e,hd⟩
  ·refine ⟨⟨o,I.kIn p o hk,hc⟩,λa e=>?_⟩
   cases e
   exact ⟨o,I.kIn _ o hk,hd⟩
  ·have z:∃ o,s.heap.get? p=some o/\o.ExactDict:=by
    rcases hk with ⟨kvs,hk⟩ | ⟨kvs,hk⟩
    ·obtain ⟨_,_,_,_,o,_,_,e,ex,_⟩:=I.hok p _ hk
     exact ⟨o,e,ex⟩
    ·obtain ⟨_,_,_,_,o,_,_,e,ex,_⟩:=I.hok p _ hk
     exact ⟨o,e,ex⟩
   obtain ⟨o,e,ex⟩:=z
   refine ⟨⟨o,e,ex.1⟩,λa e2=>?_⟩
   cases e2
   exact ⟨o,e,ex.2.1⟩
  ·obtain ⟨o,_,_,_,e,ex,_⟩:=I.hok p _ hk
   refine ⟨⟨o,e,ex.1⟩,λa e2=>?_⟩
   cases e2
   exact ⟨o,e,ex.2.1⟩
 | _=>exact False.elim ty
def Eg (K:PySem.W.Frag) (T:String) (r:V->List V->Hp->VK->Prop) (to:TE):TE:=λσ H Q=>to σ H λx H1=>tyV K T x H1/\r x [] H1 Q
def tBM (K:PySem.W.Frag) (T:String) (r:V->List V->Hp->VK->Prop) (to:TE) (t:TA):TE:=λσ H Q=>to σ H λx H1=>tyV K T x H1/\t σ H1 λxs H2=>r x xs H2 Q
variable {o e:Expr} {es:List Expr} {to:TE} {t:TA} {name:Str} {apos dF:Pos} {T id:String} {r:V->List V->Hp->VK->Prop}
theorem cS (pa:PlainAttrs T) (slot:Slot T name id) (hty:typeOf (.builtin id)=pure (.type "method_descriptor")) (hm:MtR X id r) (ho:PE X o to) (ha:PA X (e :: es) t)
  (rJ:attributeBase o name X.env (eval o X.env)=eval o X.env:=by rfl)
  (mm:((backTo dF (starEach (e :: es) X.env)).all (λx=>!x.1) && (backToKw dF (keywordEach [] X.env)).all (λx=>x.1.isSome)
   && decide ((e :: es).length+([]:List Keyword).length+(if ([]:List Keyword).isEmpty then 0 else 1) < 30))=true:=by rfl)
  (rK:(apos.endLine == dF.line)=true:=by rfl) (hs:starEach (e :: es) X.env=(false,eval e X.env) :: starEach es X.env:=by rfl) (o9:(backTo dF (starEach es X.env)).any (·.1)=false:=by rfl) :
  PE X (.Call (.Attribute o name apos) (e :: es) [] dF) (tBM X.K T r to t):=by
 intro pins s σ H Q I h
 refine wpAny_Call_method_late rJ mm rK rfl (thn (ho pins s σ H _ I h) λv s1 ⟨x,H1,I1,r1,ty,q1⟩=>?_)
 obtain ⟨h1,h2⟩:=vP I1 r1 ty
 refine ⟨T,id,pa,slot,hty,h1,h2,?_⟩
 have hA:=ha dF pins s1 σ H1 _ I1 q1
 rw [hs] at hA ⊢
 refine Calls.callWith_builtin (by show (false || (backTo dF (starEach es X.env)).any (·.1))=false;rw [o9] <;> rfl) (Calls.evalArgs_plain ?_)
 exact thn hA λus s2 ⟨vs,H2,I2,r2,q2⟩=>hm pins s2 σ H2 x vs v us Q I2 r1 r2 q2
end
end L2
namespace L2
open PySem PySem.Spec PyProof.Rows
def MtM (X:Cx) (id:String) (r:V->List V->Hp->VK->Prop):Prop :=
 ∀ (pins:List (Addr × Obj)) (s:Shared) (σ:St) (H:Hp) (x:V) (xs:List V) (v:Value) (us:List Value) (Q:VK),Inv X pins σ H s->RelV x v->Vals xs us->r x xs H Q ->
  wpAny (model X.prog X.w) X.A (call (.builtin id) (v :: us)) (EP X pins σ Q) X.xe s
theorem Vals.one:∀ {x:V} {us:List Value},Vals [x] us->∃ u,us=[u]/\RelV x u
 | _,_,.cons r .nil=>⟨_,rfl,r⟩
theorem Vals.two:∀ {x y:V} {us:List Value},Vals [x,y] us->∃ u v,us=[u,v]/\RelV x u/\RelV y v
 | _,_,_,.cons r (.cons q .nil)=>⟨_,_,rfl,r,q⟩
section
variable {X:Cx} {pins:List (Addr × Obj)} {σ:St} {H:Hp} {s:Shared} {l b:Addr} {xs ys zs:List V}
theorem Inv.lset {its its' : List Value} {n:Nat} {f:Array Value->Array Value} {t' : Nat} (I:Inv X pins σ H s) (hH:H l=some (.lst xs))
  (e:s.heap.get? l=some { cls:=.type "list",data:=.seq its.toArray n }) (hf:f its.toArray=its'.toArray) (hv:Vals ys its') (hz:ys.length<=sizeLine) :
  Inv X pins σ (upd H l (.lst ys)) { s with heap:=s.heap.update l (Obj.mapSeq f),toks:=t' }:=by
 have q:=PySem.IsL.update e f
 rw [hf] at q
 refine I.write (x:=l) (e:=l) (by rw [hH];exact trivial) (.inl rfl) (λb' u hb hu=>(Heap.get?_update_other s.heap (Obj.mapSeq f) (Ne.symm hb)).trans hu) ⟨_,q⟩ ?_
 exact ⟨hz,its',_,hv,q⟩
theorem Inv.lnew {its:List Value} {t' : Nat} (I:Inv X pins σ H s) (hv:Vals ys its) (hz:ys.length<=sizeLine) :
  Inv X pins σ (upd H s.heap.objs.size (.lst ys)) { s with heap:=s.heap.push { cls:=.type "list",data:=.seq its.toArray },toks:=t' } :=
 I.laid (λ_ _ q=>Heap.get?_push_of_some _ q) (Nat.le_refl _) ⟨hz,its,0,hv,Heap.get?_push_size _ rfl⟩
theorem Inv.fresh (I:Inv X pins σ H s):H s.heap.objs.size=none:=I.hok.fresh (Nat.le_refl _)
theorem Inv.lstM (I:Inv X pins σ H s) (hH:H l=some (.lst xs)):xs.length<=sizeLine/\∃ (its:List Value) (n:Nat),Vals xs its/\xs.length=its.length/\s.heap.get? l=some { cls:=.type "list",data:=.seq its.toArray n }:=by
 obtain ⟨z,its,n,r,e⟩:=I.hok l _ hH
 exact ⟨z,its,n,r,r.length,e⟩
theorem rL {n:Nat} (h:n<=sizeLine):Builtin.List.listTooLong n=false:=by
 unfold Builtin.List.listTooLong
 exact decide_eq_false (by omega)
end
section
variable {X:Cx}
def uq:V->List V->Hp->VK->Prop:=λx vs H Q=>∃ l xs y,x=.ref l/\vs=[y]/\H l=some (.lst xs)/\xs.length < sizeLine/\Q .non (upd H l (.lst (xs ++ [y])))
theorem bO:MtM X "list.append" uq:=by
 intro pins s σ H x vs v us Q I rx rv h
 obtain ⟨l,xs,y,rfl,rfl,hH,hz,q⟩:=h
 cases rx
 obtain ⟨u,rfl,ru⟩:=rv.one
 obtain ⟨z,its,n,r,hl,e⟩:=I.lstM hH
 refine call_meets F.slot_list_append ⟨_,e,rfl⟩ F.entry_list_append (F.args_list_append_2 _ _) (PySem.list_append l its.toArray n u (by rw [List.size_toArray];omega)) ⟨e,?_⟩
 refine ⟨.non,_,I.lset (its':=its ++ [u]) hH e (by simp) (r.append (.cons ru .nil)) ?_,rfl,q⟩
 rw [List.length_append,List.length_singleton]
 omega
def ur:V->List V->Hp->VK->Prop:=λx vs H Q=>∃ l b xs zs,x=.ref l/\vs=[.ref b]/\H l=some (.lst xs)/\H b=some (.lst zs)/\xs.length+zs.length<=sizeLine/\Q .non (upd H l (.lst (xs ++ zs)))
theorem fH:MtM X "list.extend" ur:=by
 intro pins s σ H x vs v us Q I rx rv h
 obtain ⟨l,b,xs,zs,rfl,rfl,hH,hB,hz,q⟩:=h
 cases rx
 obtain ⟨u,rfl,ru⟩:=rv.one
 cases ru
 obtain ⟨z,its,n,r,hl,e⟩:=I.lstM hH
 obtain ⟨z2,pb,n2,r2,hl2,e2⟩:=I.lstM hB
 have hsz:its.toArray.size+pb.toArray.size<=sizeLine:=by rw [List.size_toArray,List.size_toArray];omega
 have yo:¬ (!its.toArray.isEmpty && Builtin.List.listTooLong (its.toArray.size+pb.toArray.size))=true:=by
  rw [rL hsz,Bool.and_false]
  exact Bool.false_ne_true
 refine call_meets F.slot_list_extend ⟨_,e,rfl⟩ F.entry_list_extend (F.args_list_extend_2 _ _)
  (AutoSeq1.list_extend_list_list_0 l its.toArray n b pb.toArray n2 yo (by rw [List.size_toArray];omega) (by omega)) ⟨e,e2,?_⟩
 refine ⟨.non,_,I.lset (its':=its ++ pb) hH e (by simp) (r.append r2) ?_,rfl,q⟩
 rw [List.length_append]
 omega
def Eh:V->List V->Hp->VK->Prop:=λx vs H Q=>∃ l xs y,x=.ref l/\vs=[]/\H l=some (.lst xs)/\xs[xs.length - 1]?=some y/\Q y (upd H l (.lst xs.dropLast))
def Aq:V->List V->Hp->VK->Prop:=λx vs H Q=>∃ l xs i k y,x=.ref l/\vs=[.int i]/\H l=some (.lst xs)/\-(2 ^ 63)<=i/\i < 2 ^ 63/\seqIndex? i xs.length=some k/\xs[k]?=some y/\Q y (upd H l (.lst (xs.eraseIdx k)))
def yp:V->List V->Hp->VK->Prop:=λx vs H Q=>∃ l xs,x=.ref l/\vs=[]/\H l=some (.lst xs)/\Q .non (upd H l (.lst xs.reverse))
def Ar:V->List V->Hp->VK->Prop:=λx vs H Q=>∃ l xs,x=.ref l/\vs=[]/\H l=some (.lst xs)/\Q .non (upd H l (.lst []))
def As:R2:=λx y H Q=>∃ l b xs zs,x=.ref l/\y=.ref b/\H l=some (.lst xs)/\H b=some (.lst zs)/\xs.length+zs.length<=sizeLine/\∀ p,H p=none->Q (.ref p) (upd H p (.lst (xs ++ zs)))
theorem iU:OpR X (binaryOp .Add) As:=by
 intro pins s σ H x y v u Q I rx ry h
 obtain ⟨l,b,xs,zs,rfl,rfl,hH,hB,hz,q⟩:=h
 cases rx
 cases ry
 obtain ⟨z,its,n,r,hl,e⟩:=I.lstM hH
 obtain ⟨z2,pb,n2,r2,hl2,e2⟩:=I.lstM hB
 refine PySem.P.add_list e e2 ?_ (by rw [List.size_toArray,List.size_toArray];omega)
 have ea:its.toArray ++ pb.toArray=(its ++ pb).toArray:=by simp
 rw [ea]
 exact ⟨.ref _,_,I.lnew (t':=s.toks) (r.append r2) (by rw [List.length_append];omega),rfl,q _ I.fresh⟩
def Ei:R2:=λx y H Q=>∃ l k xs,x=.ref l/\y=.int k/\H l=some (.lst xs)/\-(2 ^ 63)<=k/\k < 2 ^ 63/\xs.length * k.toNat<=sizeLine /\
 ∀ p,H p=none->Q (.ref p) (upd H p (.lst (List.replicate k.toNat xs).flatten))
end
section
variable {prog:Program} {w:World} {A:Around} {E:Value->Shared->Prop} {s:Shared}
end
section
variable {X:Cx}
end
end L2
namespace Att
open PySem PySem.W PySem.Calls PyProof.Rows
theorem jk {P:Params} {h:Heap} : ∀ (ns:List Int) (vs:List Value),WellAll P h vs (ns.map WData.int)->IntsAre vs ns:=by
 intro ns
 induction ns with
 | nil =>
  intro vs w
  rw [List.map_nil] at w
  cases w
  exact .nil
 | cons n ns ih =>
  intro vs w
  rw [List.map_cons] at w
  cases w with
  | cons a b =>
   cases a
   exact .cons _ _ (ih _ b)
theorem qH {l:OpenLaw} {n:Nat} (hn:l.most=some n) {P:Params} {h:Heap} {args:List WData} {vals:List Value}
  (uu:l.row.toRowW.claim.pre args=true) (hwl:WellAll P h vals args) :
  ∃ a vs ns,vals=[Value.ref a]/\args=[WData.list (ns.map WData.int)]/\h.get? a=some { cls:=.type "list",data:=.seq vs.toArray }/\IntsAre vs ns/\ns.length<=n:=by
 have hsh:WShape.hasAll [] args [.list .int]=true:=(pre_splitW uu).1
 have hc:l.pre.holds [] { args:=args } = true:=(pre_splitW uu).2
 obtain ⟨d,r,rfl,h1,h2⟩:=hasAllW_cons hsh
 obtain rfl:=hasAllW_nil h2
 obtain ⟨xs,rfl,h3⟩:=hasW_list h1
 obtain ⟨ns,rfl⟩:=items_int h3
 have hlen:ns.length<=n:=by
  unfold OpenLaw.pre at hc
  have h4:(WTm.not (.lt (.lit (.int (n:Int))) (.len (.arg 0)))).holds [] { args:=[.list (ns.map .int)] } = true:=by
   have h4:=(holds_andW hc).1
   rw [hn] at h4
   exact h4
  have h5:=condW_of h4 (w_not (w_lt w_lit (w_len_list (w_arg rfl))))
  rw [List.length_map] at h5
  refine Nat.le_of_not_lt λq=>?_
  have q' : (n:Int) < ((ns.length:Nat):Int):=by omega
  first
   | (rw [decide_eq_true q'] at h5;exact absurd h5 (by decide))
   | (simp at h5;omega)
 cases hwl with
 | cons w1 w2 =>
  cases w2
  cases w1 with
  | list ho bJ=>exact ⟨_,_,ns,rfl,rfl,ho,jk ns _ bJ,hlen⟩
theorem qI (l:OpenLaw) (args:List WData):l.row.toRowW.claim.post args (.bool true) args=true :=
 postW_of (r:=l.row.toRowW) (X:=(true == true))
  (show WShape.has [] (.bool true) .bool=true by first | rfl | decide | simp [WShape.has,WShape.arms,WShape.armsAll])
  (show (WTm.eq .res (.lit (.bool true))).value [] { args:=args,res:=some (.bool true),after:=args } = some (.bool (true == true)) from w_eq_bool (w_res rfl) w_lit) rfl
theorem attach_call {l:OpenLaw} {n:Nat} {q:Program} {loose:List Str} {XP:(Str->Option Value)->Heap->Prop} {YP:World->Heap->Prop} {d:DefRec}
  (hn:l.most=some n) (hdf:d.params.defaults=[])
  (call:∀ (w:World) (s₀ s₁:Shared) (mg mb:Str->Option Value) (fa:Addr) (o:Obj) (pm cd doc:Value) (a:Addr) (vs:List Value) (ns:List Int),
   Ground q loose [] XP w s₀ mg mb s₁.heap->YP w s₁.heap ->
   s₁.heap.get? fa=some o->o.data=.func (docDef d.name d.params d.body d.scope pm cd doc)->s₁.heap.CodeRec cd d.name->mg d.name=some (.ref fa) ->
   s₁.heap.get? a=some { cls:=.type "list",data:=.seq vs.toArray }->IntsAre vs ns->ns.length<=n->s₁.gens = #[] ->
   codeAny (model l.prog w) callerA (.call (.ref fa) ⟨[.ref a],[]⟩) (λr s'=>r=.ok (.ret (.bool true))/\OldK s₁.heap s'.heap/\s'.os=s₁.os/\AllBare s'.gens) s₁) :
  WalkO q loose XP YP l.row.toRowW d [] (λf vs=>PySem.call f vs):=by
 intro w s₀ s₁ mg mb G Y fa o pm cd doc dV kV ho hd hcd hD hmg hg args vals as uu Ej hrd hwl hlo
 obtain rfl:dV=.none:=Dflts.none hD hdf
 obtain rfl:kV=.none:=Dflts.noKw hD
 obtain ⟨a,vs,ns,rfl,rfl,vQ,hints,hlen⟩:=qH hn uu hwl
 refine enter_call (codeAny_mono (call w s₀ s₁ mg mb fa o pm cd doc a vs ns G Y ho (fd_plain hd) hcd hmg vQ hints hlen hg) λr s' hq=>?_)
 obtain ⟨rfl,h2,h3,h4⟩:=hq
 exact ⟨.inl ⟨.bool true,.bool true,[],rfl,λ_=>rfl,.bool true,qI l _,λ_=>⟨List.Pairwise.nil,λ_ hm=>(nomatch hm)⟩⟩,h2,h3,h4⟩
section
variable {prog:Program} {w:World} {A:Around} {E:Value->Shared->Prop} {s:Shared} {K:Frag}
def Au (h:Heap):Heap:={ h with objs:=#[] }
def ledger (h:Heap) (L d:Addr):List (Addr × Obj):=(List.range h.objs.size).filterMap λa=>if a=L\/a=d then none else (h.get? a).map λo=>(a,o)
end
end Att
namespace L2
open PySem PySem.Spec PyProof.Rows
theorem lH:∀ {vs:List Value} {ns:List Int},IntsAre vs ns->Vals (ns.map V.int) vs
 | _,_,.nil=>.nil
 | _,_,.cons n t h=>.cons ⟨t,rfl⟩ (lH h)
def vR (H:Hp):Prop:=∀ b,H b=none\/∃ o xs,H b=some (.frz o (.lst xs))
theorem rM {P:Program} {w:World} {K:PySem.W.Frag} {mg mb:Str->Option Value} {CX:CXT} {k:Nat} {fa a:Addr} {fd:FuncData} {x:Str} {sp:Sp} {s₁:Shared} {vs:List Value} {ns:List Int}
  (KX:K.In s₁.heap) (hns:s₁.heap.Ns mainGlobals mg) (hb:s₁.heap.Ns builtinsNs mb) (hbb:∀ x:Str,x ≠ "__name__" -> mb x=bootBuiltins x) (Av:s₁.heap.NoLimit) (hg:s₁.gens = #[])
  (ha:s₁.heap.get? a=some { cls:=.type "list",data:=.seq vs.toArray }) (hi:IntsAre vs ns) (hl:ns.length<=sizeLine) (hr:bY k callerA)
  (F:∀ base:Heap,K.In base->base.Ns mainGlobals mg->aQ P w K mg base CX k fa fd [x] sp) (yq:∀ (s:Shared) (u:Value),BindsTo s fd ⟨[u],[]⟩ [(x,u)])
  (hsp:∀ H:Hp,vR H->SqL K H a (ns.map V.int)->sp [.ref a] H (λv _=>v=.bl true) λ_ _ _=>False)
  (hCX:∀ H e s',CX [] H s₁ (λ_ _ _=>False) e s'->False) :
  codeAny (model P w) callerA (.call (.ref fa) ⟨[.ref a],[]⟩) (λr s'=>r=.ok (.ret (.bool true))/\OldK s₁.heap s'.heap/\s'.os=s₁.os/\AllBare s'.gens) s₁:=by
 have rv:=lH hi
 have Aw:=hi.length
 have core:∀ H:Hp,vR H->SqL K H a (ns.map V.int)->HOk P w H s₁.heap->(∀ b,H b ≠ none->b=a)->(H a ≠ none->K.lookup a=none) ->
   codeAny (model P w) callerA (.call (.ref fa) ⟨[.ref a],[]⟩) (λr s'=>r=.ok (.ret (.bool true))/\OldK s₁.heap s'.heap/\s'.os=s₁.os/\AllBare s'.gens) s₁:=by
  intro H hO hS hok hA hK
  have qc:∀ {b:Addr} {o:Obj},s₁.heap.get? b=some o->H b=none->(l9 s₁.heap H).get? b=some o:=λe n=>rz e n
  have noA:∀ {b:Addr} {o:Obj} {es:Array DictEntry} {ep:Nat},s₁.heap.get? b=some o->o.data=.dict es ep->H b=none:=λ{b o es ep} e d=>by
   cases q:H b with
   | none=>rfl
   | some u =>
    have e' : b=a:=hA b (by rw [q];simp)
    subst e'
    rw [ha] at e;cases e
    have d' : Data.seq vs.toArray _=Data.dict es ep:=d
    cases d'
  have nsK:∀ {b:Addr} {m:Str->Option Value},s₁.heap.Ns b m->(l9 s₁.heap H).Ns b m:=λ{b m} ⟨o,es,ep,e,d,r⟩=>⟨o,es,ep,qc e (noA e d),d,r⟩
  have hKb:K.In (l9 s₁.heap H):=λb o e=>qc (KX b o e) (by
   cases q:H b with
   | none=>rfl
   | some u =>
    have e' : b=a:=hA b (by rw [q];simp)
    subst e'
    rw [hK (by rw [q];simp)] at e;cases e)
  have hM:Mod K mg (l9 s₁.heap H):=⟨hKb,nsK hns,⟨mb,nsK hb,hbb⟩,let ⟨mc,h1,h2⟩:=Av;⟨mc,nsK h1,h2⟩⟩
  have e0:oZ P w K mg (l9 s₁.heap H) callerA [] s₁ H:=⟨rfl,hM,λb o e=>tZ e,Nat.le_of_eq (qx _ _),trivial,λb hb=>absurd (show b ∈ ([]:List Addr) from hb) (by simp),hok,.of_eq hg⟩
  refine codeAny_mono ((F _ hKb (nsK hns)).run callerA [] s₁ H ⟨[.ref a],[]⟩ [.ref a] [.ref a] _ _ hr e0 (yq s₁ (.ref a)) (.cons rfl .nil) (hsp H hO hS)) λr s' h=>?_
  cases r with
  | error e=>exact (hCX H e s' h).elim
  | ok fl =>
   cases fl with
   | next=>exact False.elim h
   | brk=>exact False.elim h
   | cont=>exact False.elim h
   | ret u =>
    obtain ⟨v,H',os,bare,un,Ax,r',q⟩:=h
    have q' : v=.bl true:=q
    subst q'
    obtain rfl:u=Value.bool true:=r'
    refine ⟨rfl,OldK.of_keep λb o e=>?_,os,bare⟩
    cases q:H b with
    | none=>exact un.keep b o e q (by intro z;exact absurd (show b ∈ ([]:List Addr) from z) (by simp)) (by simp)
    | some u =>
     rcases hO b with z | ⟨ob,xs,z⟩
     ·rw [q] at z;cases z
     ·have z2:=un.frzs b ob _ z
      obtain ⟨e1,_⟩:=hok b _ z
      obtain ⟨e2,_⟩:=Ax b _ z2
      rw [e] at e1;cases e1
      exact e2
 cases hk:K.lookup a with
 | some o =>
  have e:=KX a o hk
  rw [ha] at e
  cases e
  refine core (λ_=>none) (λ_=>.inl rfl) (.inr ⟨_,vs.toArray,_,hk,rfl,rfl,rfl,by rw [List.size_toArray,Aw];exact hl,by simpa using rv⟩) (λb u z=>by have z' : (none:Option HO)=some u:=z;cases z') (λb z=>absurd rfl z) λz=>absurd rfl z
 | none =>
  refine core (λb=>if b=a then some (.frz { cls:=.type "list",data:=.seq vs.toArray } (.lst (ns.map V.int))) else none) (λb=>?_) (.inl (.inr ⟨{ cls:=.type "list",data:=.seq vs.toArray },if_pos rfl⟩)) (λb u z=>?_) (λb z=>?_) λ_=>hk
  ·by_cases hb:b=a
   ·exact .inr ⟨_,_,if_pos hb⟩
   ·exact .inl (if_neg hb)
  ·by_cases hb:b=a
   ·have z':=(if_pos hb).symm.trans z
    cases z'
    subst hb
    exact ⟨ha,by rw [List.length_map];exact hl,vs,_,rv,ha⟩
   ·have z':=(if_neg hb).symm.trans z
    cases z'
  ·by_cases hb:b=a
   ·exact hb
   ·exact absurd (if_neg hb) z
end L2
namespace L2
open PySem PySem.Spec PyProof.Rows
abbrev KOf {K:PySem.W.Frag} {h:Heap} (_:K.In h):PySem.W.Frag:=K
theorem walk_of {l:PySem.W.OpenLaw} {n k:Nat} {q:Program} {loose:List Str} {XP:(Str->Option Value)->Heap->Prop} {YP:World->Heap->Prop} {d:DefRec} {K:Params->PySem.W.Frag} {CX:World->CXT} {sp:World->Sp} {x:Str}
  (hn:l.most=some n) (hn2:n<=sizeLine) (hdf:d.params.defaults=[]) (hr:bY k callerA)
  (hY:∀ (w:World) (h:Heap),YP w h->(K w.params).In h)
  (F:∀ (w:World) (mg:Str->Option Value) (fa:Addr) (h:Heap),(K w.params).In h->h.Ns mainGlobals mg->mg d.name=some (.ref fa) ->
   ∃ fd:FuncData,(∀ (s:Shared) (u:Value),BindsTo s fd ⟨[u],[]⟩ [(x,u)]) /\
    ∀ base:Heap,(K w.params).In base->base.Ns mainGlobals mg->aQ l.prog w (K w.params) mg base (CX w) k fa fd [x] (sp w))
  (hsp:∀ (w:World) (H:Hp) (a:Addr) (ns:List Int),ns.length<=n->vR H->SqL (K w.params) H a (ns.map V.int)->sp w [.ref a] H (λv _=>v=.bl true) λ_ _ _=>False)
  (hCX:∀ (w:World) (H:Hp) (s:Shared) (e:Value) (s' : Shared),CX w [] H s (λ_ _ _=>False) e s'->False) :
  PySem.W.WalkO q loose XP YP l.row.toRowW d [] (λf vs=>PySem.call f vs):=by
 refine Att.attach_call hn hdf λw s₀ s₁ mg mb fa o pm cd doc a vs ns G Y ho hd hcd hmg vQ hints hlen hg=>?_
 have KX:=hY w _ Y
 obtain ⟨fd,hb,hF⟩:=F w mg fa _ KX G.T.g hmg
 exact rM KX G.T.g G.T.b G.T.builtins G.T.nolimit hg vQ hints (Nat.le_trans hlen hn2) hr hF hb (λH hO hS=>hsp w H a ns hlen hO hS) λH e s'=>hCX w H s₁ e s'
end L2
namespace L2
open PySem PySem.Spec PyProof.Rows
def inClass (s:Stmt) (j:Nat):Stmt:=match s with
 | .ClassDef _ _ _ body _ _ _ _ _ _ _=>body.getD j (.Pass ⟨0,0,0,0⟩)
 | _=>.Pass ⟨0,0,0,0⟩
def ju (s:Stmt):Arguments:=match s with
 | .FunctionDef _ a _ _ _ _ _ _ _ _=>a
 | _=>{ posonlyargs:=[],args:=[],vararg:=none,kwonlyargs:=[],kw_defaults:=[],kwarg:=none,defaults:=[] }
def fI (s:Stmt):List Stmt:=match s with
 | .FunctionDef _ _ b _ _ _ _ _ _ _=>b
 | _=>[]
def ar (s:Stmt):Scope:=match s with
 | .FunctionDef _ _ _ _ _ _ sc _ _ _=>sc
 | _=>{ kind:=.function,names:=[],isGenerator:=false,isCoroutine:=false }
abbrev CX0:CXT:=λ_ _ _ _ _ _=>False
abbrev E0:XK:=λ_ _ _=>False
theorem cx {X:Cx} : Passes CX0 X E0:=λ_ _ _ _ _ _ _ h=>h.elim
structure Fun (K:PySem.W.Frag) (x qual:Str) (st:Stmt) (f:Addr) (fd:FuncData):Prop where
 ex:∃ (oc:Value) (od:Option Addr) (kV doc pm:Value) (an:Option Addr) (cdv ct:Value) (osl:Array (Option Value)),
  fd=PySem.W.fnOf x qual (ju st) (fI st) (ar st) .none kV doc pm an cdv ct/\K.lookup f=some ⟨oc,od,.func fd,osl⟩/\PySem.W.codeIn K cdv qual=true
 kp:PySem.W.keepIn K (.ref f)=true
section
variable {P:Program} {w:World} {K:PySem.W.Frag} {mg:Str->Option Value} {base:Heap}
theorem Fun.ok {x qual:Str} {st:Stmt} {f:Addr} {fd:FuncData} {N ps:List Str} {k:Nat} {sp:Sp} (F:Fun K x qual st f fd) (S:aF N ps (ar st)) (len:∀ vs H Q E,sp vs H Q E->vs.length=ps.length)
  (nR:∀ (cdv:Value) (A:Around) (outer:List Env) (s:Shared) (H:Hp) (vs:List V) (Q:VK) (E:XK),bY k (A.deeper (envOfC qual (ar st) s.heap.objs.size f cdv))->sp vs H Q E ->
   ∃ t,PSs (ie CX0 P w K mg base N qual (ar st) f cdv A outer s H E).nox (fI st) t/\t { nx:=λ_ H'=>Q .non H',rt:=Q } (start N vs) H):aQ P w K mg base CX0 (k+1) f fd ps sp:=by
 obtain ⟨oc,od,kV,doc,pm,an,cdv,ct,osl,rfl,lk,hcd⟩:=F.ex
 refine vc lk hcd S len λA outer s H vs Q E hr hsp=>?_
 obtain ⟨t,h,q⟩:=nR cdv A outer s H vs Q E hr hsp
 exact ⟨t,h.nox,q⟩
theorem Fun.binds {x qual:Str} {st:Stmt} {f:Addr} {fd:FuncData} {ps:List Str} (F:Fun K x qual st f fd)
  (h:∀ (kV doc pm:Value) (an:Option Addr) (cdv ct:Value) (us:List Value),us.length=ps.length->bindArgs (PySem.W.fnOf x qual (ju st) (fI st) (ar st) .none kV doc pm an cdv ct) ⟨us,[]⟩=pure (ps.zip us)):Binds K fd ps []:=by
 obtain ⟨oc,od,kV,doc,pm,an,cdv,ct,osl,rfl,lk,hcd⟩:=F.ex
 exact .all (h kV doc pm an cdv ct)
theorem fun_mk {x qual:Str} {st:Stmt} {f:Addr} {oc:Value} {od an:Option Addr} {osl:Array (Option Value)} {kV doc pm cdv ct:Value} (l:K.lookup f=some ⟨oc,od,.func (PySem.W.fnOf x qual (ju st) (fI st) (ar st) .none kV doc pm an cdv ct),osl⟩)
  (c:PySem.W.codeIn K cdv qual=true) (k:PySem.W.keepIn K (.ref f)=true):Fun K x qual st f (PySem.W.fnOf x qual (ju st) (fI st) (ar st) .none kV doc pm an cdv ct):=⟨⟨oc,od,kV,doc,pm,an,cdv,ct,osl,rfl,l,c⟩,k⟩
end
theorem ay {n:Nat} (h:n<=1000):n < sizeLine:=Nat.lt_of_le_of_lt h (by decide)
section
variable {X:Cx}
theorem pv (i:Nat) {x:Str} {pos:Pos} (hN:X.N[i]?=some x:=by rfl) (hv:Vis X.env.scope x:=by first | exact Or.inl rfl | exact Or.inr (Or.inl rfl) | exact Or.inr (Or.inr rfl)) (hd:(x == ("__debug__" : Str))=false:=by decide)
  (hcd:(x == ("__classdict__" : Str))=false:=by decide):PE X (.Name x pos) (xQ i):=vy hN hv hd hcd
end
theorem cz {A B:Prop} (h:B):if false=true then A else B:=by
 rw [if_neg Bool.false_ne_true]
 exact h
theorem fU {A B:Prop} (h:A):if true=true then A else B:=by
 rw [if_pos rfl]
 exact h
theorem cP {c A B:Prop} [Decidable c] (h1:c->A) (h2:¬ c->B):if c then A else B:=by
 by_cases h:c
 ·rw [if_pos h]
  exact h1 h
 ·rw [if_neg h]
  exact h2 h
theorem yr {c A B:Prop} [Decidable c] (hc:c) (h:B):if (!decide c)=true then A else B:=by
 rw [decide_eq_true hc]
 exact cz h
def aq (H H' : Hp):Prop:=∀ b o,H b=some o->H' b=some o
theorem aq.refl (H:Hp):aq H H:=λ_ _ h=>h
theorem aq.trans {H H1 H2:Hp} (a:aq H H1) (b:aq H1 H2):aq H H2:=λc o h=>b c o (a c o h)
theorem aq.free {H H' : Hp} (e:aq H H') {l:Addr} (h:H' l=Option.none):H l=Option.none:=by
 cases q:H l with
 | none=>rfl
 | some o =>
  rw [e l o q] at h
  cases h
theorem aq.seq {K:PySem.W.Frag} {H H' : Hp} {a:Addr} {xs:List V} (e:aq H H') (h:SqL K H a xs):SqL K H' a xs:=by
 rcases h with (h | ⟨o,h⟩) | h
 ·exact .inl (.inl (e _ _ h))
 ·exact .inl (.inr ⟨o,e _ _ h⟩)
 ·exact .inr h
end L2
set_option maxHeartbeats 4000000
namespace L2
abbrev Pr:=Int × Int
def inR (n:Int) (p:Pr):Bool:=decide (p.1<=n) && decide (n<=p.2)
def inP (ps:List Pr) (n:Int):Bool:=ps.any (inR n)
structure Apart (R:List Pr):Prop where
 le:∀ p ∈ R,p.1<=p.2
 gap:R.Pairwise λp q=>p.2+2<=q.1
structure Ek (R qs:List Pr):Prop where
 ap:Apart R
 mem:∀ n,inP R n=inP qs n
 cov:∀ p ∈ qs,p.1<=p.2->∃ r ∈ R,r.1<=p.1/\p.2<=r.2
 low:∀ r ∈ R,∃ q ∈ qs,r.1=q.1
end L2
namespace L2
open PySem PySem.Spec PyProof.Rows
def Callee (P:Program) (w:World) (K:PySem.W.Frag) (mg:Str->Option Value) (base:Heap) (k:Nat) (x:Str) (ps:List Str) (sp:Sp):Prop :=
 ∃ f fd,aQ P w K mg base CX0 k f fd ps sp/\Binds K fd ps []/\PySem.W.keepIn K (.ref f)=true/\mg x=some (.ref f)
theorem Callee.mono {P:Program} {w:World} {K:PySem.W.Frag} {mg:Str->Option Value} {base:Heap} {j k:Nat} {x:Str} {ps:List Str} {sp:Sp} (C:Callee P w K mg base j x ps sp) (h:j<=k):Callee P w K mg base k x ps sp:=by
 obtain ⟨f,fd,F,r⟩:=C
 exact ⟨f,fd,F.mono h,r⟩
section
variable {X:Cx} {k:Nat} {x:Str} {ps:List Str} {sp:Sp} {e:Expr} {es:List Expr} {t:TA} {p pos:Pos}
def tFn (sp:Sp) (t:TA):TE:=λσ H Q=>t σ H λvs H1=>sp vs H1 Q E0
theorem aU (C:Callee X.prog X.w X.K X.mg X.base k x ps sp) (hr:bY k X.A) (hg:Gl X x) (ha:PA X (e :: es) t) (hdb:(x == ("__debug__" : Str))=false:=by decide)
  (he:starEach (e :: es) X.env=(false,eval e X.env) :: starEach es X.env:=by rfl) (hpl:(backTo pos (starEach es X.env)).any (·.1)=false:=by rfl):PE X (.Call (.Name x p) (e :: es) [] pos) (tFn sp t):=by
 obtain ⟨f,fd,F,b,kk,m⟩:=C
 have h:=ug (E:=E0) (dvs:=[]) (ds:=[]) (p:=p) F hr hg m kk b .nil cx ha hdb he hpl
 intro pins s σ H Q I q
 refine h pins s σ H Q I ?_
 have q' : t σ H λvs H1=>sp vs H1 Q E0:=q
 have e1:(λ(vs:List V) (H1:Hp)=>sp (vs ++ []) H1 Q E0)=λvs H1=>sp vs H1 Q E0:=by
  funext vs H1
  rw [List.append_nil]
 show t σ H λvs H1=>sp (vs ++ []) H1 Q E0
 rw [e1]
 exact q'
end
def Ay (t u:TS):TS:=λD σ H=>∃ M:St->Hp->Prop,t { D with nx:=M } σ H/\∀ σ' H',M σ' H'->u D σ' H'
theorem aD {X:Cx} {st:Stmt} {rest:List Stmt} {t u:TS} (h1:PS X st t) (h2:PSs X rest u):PSs X (st :: rest) (Ay t u):=by
 intro pins s σ H D I ⟨M,a,b⟩
 refine wpAny_execs_cons (thn (h1 pins s σ H { D with nx:=M } I a) λfl s1 q=>?_)
 cases fl with
 | next=>obtain ⟨σ',H',I',q⟩:=q;exact h2 pins s1 σ' H' D I' (b σ' H' q)
 | ret v=>exact q
 | brk=>exact q
 | cont=>exact q
section
variable {X:Cx}
end
inductive EqI (K:PySem.W.Frag) (H:Hp):V->V->Bool->Prop where
 | flat {x y:V} (fx:bT x=true) (fy:bT y=true):EqI K H x y (eqV x y)
 | same (a:Addr):EqI K H (.ref a) (.ref a) true
 | tup {a b:Addr} {xs ys:List V} (ha:SqT K H a xs) (hb:SqT K H b ys) (fx:xs.all bT=true) (fy:ys.all bT=true):EqI K H (.ref a) (.ref b) (decide (xs.length=ys.length) && (List.zipWith eqV xs ys).all id)
theorem j3:∀ {x:V},bT x=true->eqV x x=true
 | .non,_=>rfl
 | .bl b,_=>by simp [eqV]
 | .int i,_=>by simp [eqV]
 | .str z,_=>by simp [eqV]
theorem j4:∀ {xs:List V},xs.all bT=true->(List.zipWith eqV xs xs).all id=true
 | [],_=>rfl
 | x :: xs,h=>by
  rw [List.all_cons,Bool.and_eq_true] at h
  rw [List.zipWith_cons_cons,List.all_cons,j4 h.2,Bool.and_true]
  exact j3 h.1
theorem gi {f:Nat->Bool} : ∀ {xs ys:List V},(∀ j x y,xs[j]?=some x->ys[j]?=some y->f j=eqV x y)->(List.range (min xs.length ys.length)).all f=(List.zipWith eqV xs ys).all id
 | [],ys,_=>by simp
 | x :: xs,[],_=>by simp
 | x :: xs,y :: ys,h=>by
  have ih:=gi (f:=λj=>f (j+1)) (xs:=xs) (ys:=ys) λj a b e1 e2=>h (j+1) a b (by simpa using e1) (by simpa using e2)
  have e0:=h 0 x y rfl rfl
  have em:min (x :: xs).length (y :: ys).length=min xs.length ys.length+1:=by simp only [List.length_cons];omega
  rw [em,List.range_succ_eq_map,List.all_cons,List.zipWith_cons_cons,List.all_cons,List.all_map,e0]
  show (eqV x y && (List.range (min xs.length ys.length)).all (λj=>f (j+1)))=_
  rw [ih]
  rfl
section
variable {X:Cx} {pins:List (Addr × Obj)} {σ:St} {H:Hp} {s:Shared}
theorem EqI.at {A:Around} {x y:V} {u v:Value} {b:Bool} (e:EqI X.K H x y b) (I:Inv X pins σ H s) (hu:A.units+1 < cLine) (rx:RelV x u) (ry:RelV y v):SeqAt.EqAt A s u v b:=by
 cases e with
 | flat fx fy=>exact mj rx ry fx fy
 | same a =>
  cases (show u=Value.ref a from rx)
  cases (show v=Value.ref a from ry)
  exact SeqAt.EqAt.same _
 | @tup a b xs ys ha hb fx fy =>
  cases (show u=Value.ref a from rx)
  cases (show v=Value.ref b from ry)
  by_cases z:a=b
  ·subst z
   have e:=I.tuple_inj ha hb
   subst e
   rw [j4 fx,decide_eq_true rfl]
   exact SeqAt.EqAt.same _
  ·obtain ⟨its,r,p,_⟩:=I.tuple ha
   obtain ⟨its',r',p',_⟩:=I.tuple hb
   have l1:=r.length
   have l2:=r'.length
   have h0:=SeqAt.RcAt.tuples (A:=A) (e:=λj=>match its[j]?,xs[j]?,ys[j]? with | _,some x,some y=>eqV x y | _,_,_=>false) (show s.heap.IsTuple a its.toArray from p) (show s.heap.IsTuple b its'.toArray from p') (by omega) (λj h1 h2=>by
    have j1:j < its.length:=by simpa using h1
    have j2:j < its'.length:=by simpa using h2
    have x1:xs[j]?=some xs[j]:=E3 (by omega)
    have y1:ys[j]?=some ys[j]:=E3 (by omega)
    obtain ⟨u1,q1,r1⟩:=r.get x1
    obtain ⟨u2,q2,r2⟩:=r'.get y1
    have eu:its.toArray[j]=u1:=by
     have:=E3 j1
     rw [this] at q1;simpa using Option.some.inj q1
    have ev:its'.toArray[j]=u2:=by
     have:=E3 j2
     rw [this] at q2;simpa using Option.some.inj q2
    rw [eu,ev]
    rw [x1,y1]
    have f1:bT xs[j]=true:=List.all_eq_true.mp fx _ (List.getElem_mem _)
    have f2:bT ys[j]=true:=List.all_eq_true.mp fy _ (List.getElem_mem _)
    exact mj r1 r2 f1 f2)
   have h1:=SeqAt.EqAt.of_refs z h0
   have e1:((List.range (min its.toArray.size its'.toArray.size)).all λj=>match its[j]?,xs[j]?,ys[j]? with | _,some x,some y=>eqV x y | _,_,_=>false)=(List.zipWith eqV xs ys).all id:=by
    have es:min its.toArray.size its'.toArray.size=min xs.length ys.length:=by simp only [List.size_toArray];omega
    rw [es]
    exact gi λj x y q1 q2=>by rw [q1,q2]
   rw [e1] at h1
   have e2:(its.toArray.size == its'.toArray.size)=decide (xs.length=ys.length):=by
    simp only [List.size_toArray,← l1,← l2]
    exact Bool.beq_eq_decide_eq _ _
   rw [e2,Bool.and_comm] at h1
   exact h1
end
def yt (K:PySem.W.Frag) (neg:Bool):R2:=λx y H Q=>∃ a b xs ys,x=.ref a/\y=.ref b/\SqL K H a xs/\SqL K H b ys /\
 ((xs.length ≠ ys.length/\Q (.bl neg) H)\/(xs.length=ys.length/\∃ f:Nat->Bool,(∀ j x y,xs[j]?=some x->ys[j]?=some y->EqI K H x y (f j))/\Q (.bl (if neg then !(List.range xs.length).all f else (List.range xs.length).all f)) H))
section
variable {X:Cx}
theorem vS {pins:List (Addr × Obj)} {σ:St} {H:Hp} {s:Shared} {A:Around} {xs ys:List V} {its its' : List Value} {f:Nat->Bool} (I:Inv X pins σ H s) (hu:A.units+1 < cLine) (r:Vals xs its) (r' : Vals ys its')
  (hf:∀ j x y,xs[j]?=some x->ys[j]?=some y->EqI X.K H x y (f j)):∀ j (h1:j < its.toArray.size) (h2:j < its'.toArray.size),SeqAt.EqAt A s its.toArray[j] its'.toArray[j] (f j):=λj h1 h2=>by
 have j1:j < its.length:=by simpa using h1
 have j2:j < its'.length:=by simpa using h2
 have l1:=r.length
 have l2:=r'.length
 have x1:xs[j]?=some xs[j]:=E3 (by omega)
 have y1:ys[j]?=some ys[j]:=E3 (by omega)
 obtain ⟨u1,q1,r1⟩:=r.get x1
 obtain ⟨u2,q2,r2⟩:=r'.get y1
 have eu:its.toArray[j]=u1:=by
  have:=E3 j1
  rw [this] at q1;simpa using Option.some.inj q1
 have ev:its'.toArray[j]=u2:=by
  have:=E3 j2
  rw [this] at q2;simpa using Option.some.inj q2
 rw [eu,ev]
 exact (hf j _ _ x1 y1).at I hu r1 r2
theorem vT {k:Nat} (hr:bY k X.A):OpR X (compareOp .Eq) (yt X.K false):=by
 intro pins s σ H x y v u Q I rx ry h
 obtain ⟨a,b,xs,ys,rfl,rfl,ha,hb,h⟩:=h
 cases (show v=Value.ref a from rx)
 cases (show u=Value.ref b from ry)
 obtain ⟨its,r,p,_⟩:=I.list ha
 obtain ⟨its',r',p',_⟩:=I.list hb
 have l1:=r.length
 have l2:=r'.length
 have hu:=hr.units
 rcases h with ⟨hn,q⟩ | ⟨hl,f,hf,q⟩
 ·refine SeqAt.eq_list_lengthsAt p.isList p'.isList (by simp only [List.size_toArray,bne_iff_ne,ne_eq];omega) (by omega) ⟨.bl false,H,I,rfl,q⟩
 ·refine SeqAt.eq_listAt (e:=f) p.isList p'.isList (by simp only [List.size_toArray];omega) (by omega) (vS I (by show X.A.units+1+1 < cLine;omega) r r' hf) ⟨.bl _,H,I,rfl,?_⟩
  rw [show its.toArray.size=xs.length by simp only [List.size_toArray];omega]
  exact q
end
def fi (H H' : Hp):Prop:=∀ b xs,H b=some (.tup xs)->H' b=some (.tup xs)
theorem aq.tups {H H' : Hp} (h:aq H H'):fi H H':=λb xs e=>h b _ e
theorem lI {H:Hp} {p:Addr} {o:HO} {ys:List V} (h:H p=some (.lst ys)):fi H (upd H p o):=λb xs e=>by rw [au (bV e h (by intro z;cases z))];exact e
theorem ah {H:Hp} {p:Addr} (h:H p=none) (o:HO):aq H (upd H p o):=λb u q=>by rw [au (bq q h)];exact q
theorem aq.upd {H H' : Hp} {p:Addr} {o:HO} (s:aq H H') (h:H p=none):aq H (upd H' p o):=λb u q=>by rw [au (bq q h)];exact s b u q
def PL (H:Hp):List V->List (Int × Int)->Prop:=Paired λx p=>∃ r,x=.ref r/\H r=some (.tup [.int p.1,.int p.2])
theorem PL.mono {H H' : Hp} {xs:List V} {ps:List (Int × Int)} (h:PL H xs ps) (s:fi H H'):PL H' xs ps:=Paired.mapP h λ_ _ ⟨r,e,z⟩=>⟨r,e,s r _ z⟩
theorem PL.get {H:Hp} : ∀ {xs:List V} {ps:List (Int × Int)} {i:Nat} {x:V},PL H xs ps->xs[i]?=some x->∃ p r,ps[i]?=some p/\x=.ref r/\H r=some (.tup [.int p.1,.int p.2])
 | _,_,_,_,.nil,e=>by simp at e
 | _,_,0,_,.cons (b:=b) ⟨r,e1,z⟩ _,e=>by simp at e;subst e;exact ⟨b,r,rfl,e1,z⟩
 | _,_,i+1,x,.cons _ t,e=>by
  obtain ⟨p,r,q⟩:=PL.get (i:=i) (x:=x) t (by simpa using e)
  exact ⟨p,r,by simpa using q.1,q.2⟩
theorem PL.length {H:Hp} {xs:List V} {ps:List (Int × Int)} (h:PL H xs ps):xs.length=ps.length:=Paired.length h
theorem PL.snoc {H:Hp} {xs:List V} {ps:List (Int × Int)} {r:Addr} {a b:Int} (h:PL H xs ps) (e:H r=some (.tup [.int a,.int b])):PL H (xs ++ [.ref r]) (ps ++ [(a,b)]):=Paired.snoc h ⟨r,rfl,e⟩
abbrev Tr:=Int × Int × Int
def TL (H:Hp):List V->List Tr->Prop:=Paired λx t=>∃ r,x=.ref r/\H r=some (.tup [.int t.1,.int t.2.1,.int t.2.2])
theorem rN {p:Prop} [Decidable p] (h:decide p=true):p:=of_decide_eq_true h
theorem yu {p:Prop} [Decidable p] (h:¬ decide p=true):¬ p:=λe=>h (decide_eq_true e)
end L2
namespace L2
open PySem PySem.Spec PyProof.Rows
theorem cc {X:Cx} {K:PySem.W.Frag} (h:X.K=K):IxR X (vM K):=h ▸ aO
theorem cC {X:Cx} {K:PySem.W.Frag} (h:X.K=K):IxR X (vO K):=h ▸ bD
def bx (X:Cx) (N:List Str) (scope:Scope) (cl:List (Str × Addr)) (fp:List Addr) (C:Addr) (s2:Shared) (H2:Hp):Cx :=
 { prog:=X.prog,w:=X.w,K:=X.K,mg:=X.mg,base:=X.base,A:=X.A,N:=N,s₀:=s2,H₀:=H2,env:=compEnvC scope cl C X.env,outer:=X.stack,stack:=X.stack,ex:=fp,fn:=λ_=>false,calm:=X.calm,pn:=[],xe:=λ_ _=>False }
def PIf (X:Cx) (ifs:List Expr) (t:TT):Prop :=
 ∀ (pins:List (Addr × Obj)) (s:Shared) (σ:St) (H:Hp) (Q:Bool->Hp->Prop),Inv X pins σ H s->t σ H Q ->
  wpAny (model X.prog X.w) X.A (forIn ifs true λc r=>if r=true then do let ok ← isTrue c X.env (eval c X.env);pure (ForInStep.yield ok) else pure (ForInStep.yield r)) (TP X pins σ Q) X.xe s
def Az:TT:=λ_ H Q=>Q true H
theorem aW {X:Cx} : PIf X [] Az:=λ_ _ _ H _ I h=>wpAny_tests_nil ⟨H,I,h⟩
theorem cX {X:Cx} {c:Expr} {t:TT} (h:PT X c t):PIf X [c] t:=λpins s σ H Q I q=>wpAny_tests_one (h pins s σ H Q I q)
structure nU (X:Cx) (N:List Str) (fr:List Nat) (scope:Scope) (cl:List (Str × Addr)) (x:Str):Prop where
 clos:closureFor scope X.env=pure cl
 kind:scope.kind=.function
 nocell:∀ y ∈ scope.names,y.2 ≠ .cell
 names:∀ y ∈ scope.names,y.2=.local->scope.names.lookup y.1=some .local
 hx:scope.names.lookup x=some .local
 nd:N.Nodup
 n0:N[0]?=some x
 len:N.length=fr.length+1
 sub:∀ (i:Nat) (y:Str),N[i+1]?=some y->∃ j,fr[i]?=some j/\X.N[j]?=some y/\(X.env.kindOf y=some .cell\/X.env.kindOf y=some .free)/\((relabel scope X.env).names.lookup y=some .cell\/(relabel scope X.env).names.lookup y=some .free)
 cells:∀ y c,cl.lookup y=some c->X.env.cells.lookup y=some c
 has:∀ y,((relabel scope X.env).names.lookup y=some .cell\/(relabel scope X.env).names.lookup y=some .free)->∃ c,cl.lookup y=some c
theorem bP {X:Cx} {scope:Scope} {x:Str} (kind:scope.kind=.function) (nofree:∀ y ∈ scope.names,y.2 ≠ .free) (nocell:∀ y ∈ scope.names,y.2 ≠ .cell)
  (names:∀ y ∈ scope.names,y.2=.local->scope.names.lookup y.1=some .local) (hx:scope.names.lookup x=some .local):nU X [x] [] scope [] x:=by
 have er:(relabel scope X.env).names=scope.names:=map_eq_self λy hy=>by
  have z:(y.2 == NameKind.free)=false:=by simpa using nofree y hy
  simp [z]
 have no:∀ y,¬ ((relabel scope X.env).names.lookup y=some .cell\/(relabel scope X.env).names.lookup y=some .free):=λy h=>by
  rw [er] at h
  rcases h with h | h
  ·exact nocell _ (PySem.mem_of_lookup h) rfl
  ·exact nofree _ (PySem.mem_of_lookup h) rfl
 exact ⟨closureFor_none nofree,kind,nocell,names,hx,by simp,rfl,rfl,λi y e=>by simp at e,(λy c e=>by cases e),λy h=>absurd h (no y)⟩
theorem aR {X:Cx} {N:List Str} {fr:List Nat} {scope:Scope} {cl:List (Str × Addr)} {x:Str} (clos:closureFor scope X.env=pure cl) (kind:scope.kind=.function) (nocell:∀ y ∈ scope.names,y.2 ≠ .cell)
  (names:∀ y ∈ scope.names,y.2=.local->scope.names.lookup y.1=some .local) (hx:scope.names.lookup x=some .local) (nd:N.Nodup) (n0:N[0]?=some x) (len:N.length=fr.length+1)
  (sub:((List.range fr.length).all λi=>match N[i+1]?,fr[i]? with | some y,some j=>(X.N[j]? == some y) && ((X.env.kindOf y == some .cell) && ((relabel scope X.env).names.lookup y == some .cell)) | _,_=>false)=true)
  (cells:∀ p ∈ cl,X.env.cells.lookup p.1=some p.2) (has:((relabel scope X.env).names.all λp=>(p.2 != .cell && p.2 != .free) || (cl.lookup p.1).isSome)=true):nU X N fr scope cl x:=by
 refine ⟨clos,kind,nocell,names,hx,nd,n0,len,λi y e=>?_,λy c e=>cells _ (PySem.mem_of_lookup e),λy h=>?_⟩
 ·have hi:i < fr.length:=by have:=(E4.mp e).1;omega
  have z:=List.all_eq_true.mp sub i (List.mem_range.mpr hi)
  rw [e,E3 hi] at z
  simp only [Bool.and_eq_true,beq_iff_eq] at z
  exact ⟨_,E3 hi,z.1,.inl z.2.1,.inl z.2.2⟩
 ·have look:∀ k,(relabel scope X.env).names.lookup y=some k->(k=.cell\/k=.free)->∃ c,cl.lookup y=some c:=λk e hk=>by
   have z:=List.all_eq_true.mp has _ (PySem.mem_of_lookup e)
   rcases hk with rfl | rfl
   ·exact Option.isSome_iff_exists.mp (by simpa using z)
   ·exact Option.isSome_iff_exists.mp (by simpa using z)
  rcases h with h | h
  ·exact look _ h (.inl rfl)
  ·exact look _ h (.inr rfl)
def dQ (σ:St) (fr:List Nat) (x:Option V):St:=x :: fr.map λj=>(σ[j]?).join
def mn (J:It) (fr:List Nat) (tt:TT) (te:TE) (σ:St) (Q:VK) (H1:Hp):Prop:=∀ D,H1 D=none->∃ W:Nat->Nat->Hp->Prop,(∃ m,W 0 m (upd H1 D (.lst [])))/\∀ i m H,W i m H ->
 (J.stop i H/\Q (.ref D) H)\/(J.go i H/\∀ x H',J.yld i H x H'->tt (dQ σ fr (some x)) H' λb H2=>if b=true then te (dQ σ fr (some x)) H2 λy H3=>∃ ys,H3 D=some (.lst ys)/\ys.length < sizeLine/\∃ m',m' < m/\W (i+1) m' (upd H3 D (.lst (ys ++ [y])))
  else ∃ m',m' < m/\W (i+1) m' H2)
def vd (wi:TI) (fr:List Nat) (tt:TT) (te:TE):TE:=λσ H Q=>wi σ H λJ H1=>mn J fr tt te σ Q H1
section
variable {prog:Program} {w:World} {A:Around} {R:Result->Shared->Prop} {s:Shared}
theorem j5 {elt target iter:Expr} {ifs:List Expr} {scope:Scope} {pos:Pos} {it acc:Value} {env:Env} (J:Nat->Shared->Prop)
  (turn:∀ n s,J n s->wpAny (model prog w) A (pyNext it) (λr s1=>match r with
   | none=>R (.ok .next) s1
   | some v=>wpAny (model prog w) A (letOwnedTupleGo target it v) (λ_ s2=>wpAny (model prog w) A (assign target env v) (λ_ s3 =>
     wpAny (model prog w) A (forIn ifs true λc r=>if r=true then do let ok ← isTrue c env (eval c env);pure (ForInStep.yield ok) else pure (ForInStep.yield r)) (λok s4 =>
      if ok=true then wpAny (model prog w) A (eval elt env) (λy s5=>wpAny (model prog w) A (call (.builtin "list.append") [acc,y]) (λ_ s6=>∃ m,m < n/\J m s6) (λ_ _=>False) s5) (λ_ _=>False) s4
      else ∃ m,m < n/\J m s4) (λ_ _=>False) s3) (λ_ _=>False) s2) (λ_ _=>False) s1) (λ_ _=>False) s)
  (n:Nat) (h:J n s):codeAny (model prog w) A (.compLoop (.ListComp elt [⟨target,iter,ifs,0⟩] scope pos) 0 it acc env) R s:=by
 refine codeAny_loop rfl J (λn s hJ=>?_) n h
 show wpAny _ A ((compTurn (.ListComp elt [⟨target,iter,ifs,0⟩] scope pos) 0 it acc env).onRaise (λx=>do noteFrame x env;theTreesLotGoes x)) _ _ s
 refine wpAny_noted ?_
 rw [compTurn_list]
 refine wpAny_bind (wpAny_standAt (wpAny_bind (wpAny_mono (turn n s hJ) (λr s1 h1=>?_) λ_ _ z=>z.elim)))
 cases r with
 | none=>exact wpAny_pure h1
 | some v =>
  refine wpAny_bind (wpAny_mono h1 (λ_ s2 h2=>?_) λ_ _ z=>z.elim)
  refine wpAny_bind (wpAny_mono h2 (λ_ s3 h3=>wpAny_bind (wpAny_mono h3 (λok s4 h4=>?_) λ_ _ z=>z.elim)) λ_ _ z=>z.elim)
  cases ok with
  | false=>exact wpAny_pure ⟨rfl,h4⟩
  | true=>exact wpAny_bind (wpAny_bind (wpAny_mono h4 (λy s5 h5=>wpAny_bind (wpAny_mono h5 (λ_ s6 h6=>wpAny_pure (wpAny_pure ⟨rfl,h6⟩)) λ_ _ z=>z.elim)) λ_ _ z=>z.elim))
end
section
variable {X:Cx} {elt iter:Expr} {ifs:List Expr} {x:Str} {px pos:Pos} {scope:Scope} {cl:List (Str × Addr)} {N:List Str} {fr:List Nat} {tt:TT} {te:TE}
theorem lJ {pins:List (Addr × Obj)} {σ:St} {s2:Shared} {H2:Hp} {it:Addr} {fp:List Addr} {tn:Nat->Heap->Prop} {J:It} {Q:VK} {E:Value->Shared->Prop} {RR:Value->Addr->Result->Shared->Prop}
  (O:nU X N fr scope cl x) (hc:X.calm=true) (I2:Inv X pins σ H2 s2) (T:Turn X.prog X.w X.K (.Name x px) J fp it tn) (st2:tn 0 s2.heap) (f2:∀ b ∈ fp,iP X pins H2 b)
  (ht:∀ fp C s H,PIf (bx X N scope cl fp C s H) ifs tt) (he:∀ fp C s H,PE (bx X N scope cl fp C s H) elt te)
  (hW:mn J fr tt te σ Q H2)
  (fin:∀ D C s' H',s2.heap.objs.size<=C->H' C=none->(∃ m,s'.heap.Ns C m)->Inv X pins σ H' s'->Q (.ref D) H'->RR (.ref D) C (.ok .next) s') :
  wpAny (model X.prog X.w) X.A (newList []) (λacc s3=>wpAny (model X.prog X.w) X.A (newFunctionEnv scope X.env.globals cl [] X.env.qual none .none (some X.env)) (λrO s4 =>
   codeAny (model X.prog X.w) X.A (.compStart (.ListComp elt [⟨.Name x px,iter,ifs,0⟩] scope pos) 0 (.ref it) acc { rO with scope:=relabel scope X.env }) (RR acc rO.locals) s4) E s3) E s2:=by
 refine wpAny_newObj_type (wpAny_newFunctionEnv O.nocell (by intro y hy;simp at hy) (λh1 hns hsb=>?_) O.kind)
 dsimp only at hns hsb ⊢
 generalize hG:s2.heap.push { cls:=.type "list",dict:=none,data:=.seq ([]:List Value).toArray } = G at hns hsb ⊢
 have hC:G.objs.size=s2.heap.objs.size+1:=by rw [← hG,Heap.size_push]
 have old:∀ b o,s2.heap.get? b=some o->h1.get? b=some o:=λb o e=>hsb.extBut b o (Nat.ne_of_lt (by rw [hC];exact Nat.lt_succ_of_lt (Heap.lt_size e))) (Heap.get?_push_of_some _ (hG ▸ Heap.get?_push_of_some _ e))
 have rP:h1.get? s2.heap.objs.size=some { cls:=.type "list",data:=.seq ([]:List Value).toArray 0 }:=hsb.extBut _ _ (Nat.ne_of_lt (by rw [hC];exact Nat.lt_succ_self _)) (Heap.get?_push_of_some _ (hG ▸ Heap.get?_push_size _ rfl))
 have hD:H2 s2.heap.objs.size=none:=I2.fresh
 have okX:(bx X N scope cl fp G.objs.size s2 H2).Ok:=by
  refine ⟨I2.ok.mod,O.kind,I2.ok.glob,I2.ok.blt,by show s2.heap.objs.size<=G.objs.size;rw [hC];exact Nat.le_succ _,λy z c e1 e2=>I2.ok.inj y z c (O.cells y c e1) (O.cells z c e2),λy hy=>O.has y hy,λy c z=>absurd (show false=true from z) Bool.false_ne_true,I2.ok.hd,I2.ok.frames,.inl rfl,
   λb hb=>⟨?_,λy c e=>(f2 b hb).2.2.2.2.1 y c (O.cells y c e)⟩,I2.bs,Nat.le_trans I2.ok.bsz I2.sz,λb o e hb=>?_,λb hb z=>?_,I2.stack,I2.stkFree⟩
  ·obtain ⟨o,e,_⟩:=T.obj _ _ st2 b hb
   show b ≠ G.objs.size
   exact Nat.ne_of_lt (by rw [hC];exact Nat.lt_succ_of_lt (Heap.lt_size e))
  ·rcases (f2 b hb).2.2.2.1 with z | z
   ·exact I2.ok.noex b o e z
   ·exact absurd (Nat.lt_of_lt_of_le (Heap.lt_size e) (Nat.le_trans I2.ok.bsz z)) (Nat.lt_irrefl _)
  ·rcases List.mem_cons.mp (I2.stkSub b z) with z | z
   ·exact (f2 b hb).2.1 z
   ·exact (f2 b hb).2.2.1 z
 have j6:∀ {H' : Hp},(∀ b ∈ fp,H' b=none)->∀ b ∈ fp,iP (bx X N scope cl fp G.objs.size s2 H2) [] H' b:=λhn b hb =>
  ⟨hn b hb,(okX.exf b hb).1,okX.exfs b hb,.inl hb,(okX.exf b hb).2,λp hp=>absurd (show p ∈ ([]:List (Addr × Obj)) from hp) (by simp)⟩
 have I' : Inv (bx X N scope cl fp G.objs.size s2 H2) [] (dQ σ fr none) (upd H2 s2.heap.objs.size (.lst [])) { s2 with heap:=h1,toks:=s2.toks+([]:List (Str × Value)).length }:=by
  refine ⟨okX,rfl,I2.bare,Un.laid old (Nat.le_refl _) hD,⟨_,hns,λi y v e1 e2 e3=>?_⟩,λy c e=>?_,?_,λy c e=>?_,λp hp=>absurd (show p ∈ ([]:List (Addr × Obj)) from hp) (by simp),I2.hok.laid old (Nat.le_refl _) ⟨Nat.zero_le _,[],0,.nil,rP⟩,?_⟩
  ·cases i with
   | zero=>cases e2
   | succ i =>
    obtain ⟨j,q1,q2,q3,q4⟩:=O.sub i y e1
    have e2' : (σ[j]?).join=some v:=by
     have:(fr.map λj=>(σ[j]?).join)[i]?=some (some v):=e2
     rw [List.getElem?_map,q1] at this
     exact Option.some.inj this
    have e4:σ[j]?=some (some v):=by
     cases z:σ[j]? with
     | none=>rw [z] at e2';cases e2'
     | some t=>rw [z] at e2';exact congrArg some e2'
    obtain ⟨m,_,hl⟩:=I2.loc
    have vis:Vis X.env.scope y:=.inr q3
    obtain ⟨u,r,l⟩:=hl j y v q2 e4 vis
    refine ⟨u,r,.inr ⟨q4,?_⟩⟩
    obtain ⟨c',hc'⟩:=O.has y q4
    rcases l with ⟨k,_⟩ | ⟨_,c,ec,ic⟩
    ·rcases q3 with z | z
     ·rw [z] at k;cases k
     ·rw [z] at k;cases k
    ·have:=O.cells y c' hc'
     have e' : c=c':=Option.some.inj (ec.symm.trans this)
     obtain ⟨o,ho,hd⟩:=ic
     rw [e'] at ho
     exact ⟨c',hc',o,old c' o ho,hd⟩
  ·obtain ⟨v,o,ho,hd⟩:=I2.cell y c (O.cells y c e)
   exact ⟨v,o,old c o ho,hd⟩
  ·show upd H2 s2.heap.objs.size (.lst []) G.objs.size=none
   rw [au (Nat.ne_of_gt (by rw [hC];exact Nat.lt_succ_self _))]
   exact I2.hok.fresh (by rw [hC];exact Nat.le_succ _)
  ·obtain ⟨v,o,ho,hd⟩:=I2.cell y c (O.cells y c e)
   rw [au (Nat.ne_of_lt (Heap.lt_size ho))]
   exact I2.freeC y c (O.cells y c e)
  ·show (dQ σ fr none).length=N.length
   rw [O.len];simp [dQ]
 have st1:tn 0 h1:=T.keep _ _ _ st2 λb hb o e=>old b o e
 have loop:∀ s3:Shared,s3 = { s2 with heap:=h1,toks:=s2.toks+([]:List (Str × Value)).length } ->
   codeAny (model X.prog X.w) X.A (.compLoop (.ListComp elt [⟨.Name x px,iter,ifs,0⟩] scope pos) 0 (.ref it) (.ref s2.heap.objs.size) (compEnvC scope cl G.objs.size X.env)) (RR (.ref s2.heap.objs.size) G.objs.size) s3:=by
  rintro s3 rfl
  obtain ⟨W,⟨m0,w0⟩,turn⟩:=hW _ hD
  refine j5 (λn s'=>∃ i t H',Inv (bx X N scope cl fp G.objs.size s2 H2) [] (dQ σ fr t) H' s'/\tn i s'.heap/\(∀ b ∈ fp,H' b=none)/\W i n H') ?_ m0
   ⟨0,none,_,I',st1,λb hb=>by
    rw [au (by obtain ⟨o,e,_⟩:=T.obj _ _ st2 b hb;exact Nat.ne_of_lt (Heap.lt_size e))]
    exact (f2 b hb).1,w0⟩
  rintro n s' ⟨i,t,H',I3,st3,fr3,w3⟩
  rcases turn i n H' w3 with ⟨stop,qn⟩ | ⟨go,step⟩
  ·refine thn (T.done (bx X N scope cl fp G.objs.size s2 H2) rfl rfl rfl hc i [] s' _ H' _ I3 (j6 fr3) st3 stop) λr s4 ⟨hr,I4⟩=>?_
   subst hr
   obtain ⟨m,hm,_⟩:=I4.loc
   refine fin _ _ s4 H' (by rw [hC];exact Nat.le_succ _) I4.free ⟨m,hm⟩ (I2.call' (ch:=fp) I4.os I4.base I4.hok I4.bare λb hb=>?_) qn
   exact ⟨(f2 b hb).2.2.2.1,(f2 b hb).2.1,(f2 b hb).2.2.2.2.1,(f2 b hb).2.2.2.2.2⟩
  ·refine thn (T.item (bx X N scope cl fp G.objs.size s2 H2) rfl rfl rfl hc i [] s' _ H' _ I3 (j6 fr3) st3 go) λr s4 ⟨u,hr,h4⟩=>?_
   subst hr
   refine thn h4 λ_ s5 ⟨y,H5,I5,r5,y5,st5,fr5⟩=>?_
   have I5':=I5.pinned (j6 fr5) (T.obj _ _ st5)
   have lx:(bx X N scope cl fp G.objs.size s2 H2).env.scope.names.lookup x=some .local:=lookup_relabel_local O.hx
   refine thn (aE (X:=bx X N scope cl fp G.objs.size s2 H2) (i:=0) O.nd O.n0 (.inl lx) (.inr lx) _ s5 _ H5 y u (λσ' H'=>σ'=dQ σ fr (some y)/\H'=H5) I5' r5 ⟨rfl,rfl⟩) λ_ s6 ⟨σ6,H6,I6,e6,e6'⟩=>?_
   subst e6;subst e6'
   have again:∀ {σ7:St} {H7:Hp} {s7:Shared} {m' : Nat},σ7=dQ σ fr (some y)->Inv (bx X N scope cl fp G.objs.size s2 H2) ([] ++ iR fp s5.heap) σ7 H7 s7->m' < n->W (i+1) m' H7 ->
     ∃ m,m < n/\∃ i t H',Inv (bx X N scope cl fp G.objs.size s2 H2) [] (dQ σ fr t) H' s7/\tn i s7.heap/\(∀ b ∈ fp,H' b=none)/\W i m H':=λ{σ7 H7 s7 m'} e7 I7 hm w7=>by
    subst e7
    refine ⟨m',hm,i+1,some y,H7,I7.unpinned,T.keep _ _ _ st5 λb hb o e=>(I7.pin (b,o) (List.mem_append_right _ (List.mem_append_right _ (cJ hb e)))).1,λb hb=>?_,w7⟩
    obtain ⟨o,e,d⟩:=T.obj _ _ st5 b hb
    exact (I7.pin (b,o) (List.mem_append_right _ (List.mem_append_right _ (cJ hb e)))).2.1
   refine thn (ht fp G.objs.size s2 H2 _ s6 _ H6 _ I6 (step y H6 y5)) λok s7 ⟨H7,I7,q7⟩=>?_
   cases ok with
   | false =>
    rw [if_neg Bool.false_ne_true] at q7 ⊢
    obtain ⟨m',hm,w7⟩:=q7
    exact again rfl I7 hm w7
   | true =>
    rw [if_pos rfl] at q7 ⊢
    refine thn (he fp G.objs.size s2 H2 _ s7 _ H7 _ I7 q7) λu8 s8 ⟨v8,H8,I8,r8,ys,hys,hlen,m',hm,w8⟩=>?_
    refine thn (bO (X:=bx X N scope cl fp G.objs.size s2 H2) _ s8 _ H8 (.ref s2.heap.objs.size) [v8] _ [u8] (λ_ H9=>W (i+1) m' H9) I8 rfl (.cons r8 .nil) ⟨_,ys,v8,rfl,rfl,hys,hlen,w8⟩) λ_ s9 ⟨_,H9,I9,_,w9⟩=>?_
    exact again rfl I9 hm w9
 exact codeAny_compStart_list (loop _ rfl) (T.self _ 0 _ _ _ st1 (loop _ rfl))
theorem Inv.left {pins:List (Addr × Obj)} {σ σ2:St} {s2 s' : Shared} {H2 H' : Hp} {C:Addr} {h' : Heap} (I2:Inv X pins σ2 H2 s2) (I' : Inv X pins σ H' s') (hC:s2.heap.objs.size<=C) (hn:H' C=none) (hs:Heap.SameBut C s'.heap h'):Inv X pins σ H' { s' with heap:=h' }:=by
 refine I'.turned (t':=s'.toks) (it:=C) (λb o hb e=>(hs.2 b hb).trans e) hn (Nat.ne_of_gt (Nat.lt_of_lt_of_le I2.lt hC)) (.inr (Nat.le_trans I2.sz hC)) (λy c e=>?_) λp hp=>?_
 ·obtain ⟨v,o,ho,_⟩:=I2.cell y c e
  exact Nat.ne_of_lt (Nat.lt_of_lt_of_le (Heap.lt_size ho) hC)
 ·exact Nat.ne_of_lt (Nat.lt_of_lt_of_le (Heap.lt_size (I2.pin p hp).1) hC)
theorem aZ {wi:TI} (hi:PI X (.Name x px) iter wi) (O:nU X N fr scope cl x) (hc:X.calm=true) (ht:∀ fp C s H,PIf (bx X N scope cl fp C s H) ifs tt) (he:∀ fp C s H,PE (bx X N scope cl fp C s H) elt te)
  (hs:∀ v,foldedSetIterable iter X.env v=pure v:=by intro _;rfl):PE X (.ListComp elt [⟨.Name x px,iter,ifs,0⟩] scope pos) (vd wi fr tt te):=by
 intro pins s σ H Q I h
 rw [eval_ListComp]
 refine wpAny_comprehension_free (use:=none) rfl hs O.clos O.kind O.names (thn (hi pins s σ H _ I h) λv s1 h1=>thn h1 λitv s2 h2=>?_)
 obtain ⟨it,fp,tn,J,H2,e,I2,T,st2,f2,hW⟩:=h2
 subst e
 refine lJ (RR:=λacc C=>compPost (model X.prog X.w) X.A X.xe none (EP X pins σ Q) acc C) O hc I2 T st2 f2 ht he hW λD C s' H' hC hn ⟨m,hm⟩ I' q=>?_
 exact ⟨m,hm,λh' hs'=>⟨.ref D,H',I2.left I' hC hn hs',rfl,q⟩⟩
theorem il {wi:TI} {i:Nat} {y:Str} {py rQ:Pos} (hN:X.N.Nodup) (hy:X.N[i]?=some y) (hl:Loc X.env.scope y) (hi:PI X (.Name x px) iter wi) (O:nU X N fr scope cl x) (hc:X.calm=true)
  (ht:∀ fp C s H,PIf (bx X N scope cl fp C s H) ifs tt) (he:∀ fp C s H,PE (bx X N scope cl fp C s H) elt te) (hs:∀ v,foldedSetIterable iter X.env v=pure v:=by intro _;rfl)
  (hsw:swapsWith (.ListComp elt [⟨.Name x px,iter,ifs,0⟩] scope pos) (some (.Name y py)) rQ.line X.env=pure true:=by rfl) (hf:X.fn y=true\/X.env.scope.names.lookup y=some .local:=by first | exact .inl rfl | exact .inr rfl | assumption) :
  PS X (.Assign [.Name y py] (.ListComp elt [⟨.Name x px,iter,ifs,0⟩] scope pos) rQ) (uc (vd wi fr tt te) (lA i)):=by
 intro pins s σ H D0 I h
 rw [exec_Assign_Name_used _ _ _ _ hsw]
 refine wpAny_bind (wpAny_standAt (wpAny_bind ?_))
 show wpAny _ X.A (do let _ ← comprehension (.ListComp elt [⟨.Name x px,iter,ifs,0⟩] scope pos) scope X.env _ (newList []) false (eval iter X.env) (some (assign (.Name y py) X.env))) _ _ s
 refine wpAny_bind (wpAny_mono (wpAny_comprehension_free (use:=some (assign (.Name y py) X.env)) (Q:=λ_ s'=>SP X pins D0 .next s') rfl hs O.clos O.kind O.names (thn (hi pins s σ H _ I h) λv s1 h1=>thn h1 λitv s2 h2=>?_)) (λ_ s' hq=>wpAny_pure (wpAny_pure hq)) λ_ _ z=>z)
 obtain ⟨it,fp,tn,J,H2,e,I2,T,st2,f2,hW⟩:=h2
 subst e
 refine lJ (Q:=λv H1=>lA i v σ H1 D0.nx) (RR:=λacc C=>compPost (model X.prog X.w) X.A X.xe (some (assign (.Name y py) X.env)) (λ_ s'=>SP X pins D0 .next s') acc C) O hc I2 T st2 f2 ht he hW λD C s' H' hC hn ⟨m,hm⟩ I' q=>?_
 show wpAny _ X.A (assign (.Name y py) X.env (.ref D)) _ _ s'
 refine wpAny_assign_Name (iM I' hN hy hl (v:=.ref D) rfl (λs3 I3 ⟨a,hsa,ha⟩=>?_) hf)
 have hCa:C ≠ a:=by
  rcases ha with z | z
  ·rw [z];exact Nat.ne_of_gt (Nat.lt_of_lt_of_le I2.lt hC)
  ·obtain ⟨v,o,ho,_⟩:=I2.cell y a z
   exact Nat.ne_of_gt (Nat.lt_of_lt_of_le (Heap.lt_size ho) hC)
 exact ⟨m,hm.sameBut hsa hCa,λh' hs'=>⟨_,H',I2.left I3 hC hn hs',q⟩⟩
def cU (Pv:Addr->Nat->List V->Hp->Prop) (D:Addr) (i n:Nat) (H2:Hp):Prop:=∃ m',m' < n - i/\m'=n - (i+1)/\i+1<=n/\∃ zs,Pv D (i+1) zs H2
def bK (Pv:Addr->Nat->List V->Hp->Prop) (D:Addr) (i n:Nat):VK:=λy H3=>∃ ys,H3 D=some (.lst ys)/\ys.length < sizeLine/\cU Pv D i n (upd H3 D (.lst (ys ++ [y])))
theorem cU.mk {Pv:Addr->Nat->List V->Hp->Prop} {D:Addr} {i n:Nat} {H2:Hp} {zs:List V} (hi:i < n) (h:Pv D (i+1) zs H2):cU Pv D i n H2:=⟨n - (i+1),by omega,rfl,hi,zs,h⟩
theorem bK.mk {Pv:Addr->Nat->List V->Hp->Prop} {D:Addr} {i n:Nat} {H3:Hp} {ys:List V} {y:V} (hi:i < n) (e:H3 D=some (.lst ys)) (hl:ys.length < sizeLine) (h:Pv D (i+1) (ys ++ [y]) (upd H3 D (.lst (ys ++ [y])))):bK Pv D i n y H3:=⟨ys,e,hl,.mk hi h⟩
theorem aX {K:PySem.W.Frag} {a:Addr} {xs:List V} {σ:St} {H1:Hp} {Q:VK} (Pv:Addr->Nat->List V->Hp->Prop) (h0:∀ D,H1 D=none->Pv D 0 [] (upd H1 D (.lst [])))
  (hk:∀ D i ys H,H1 D=none->i<=xs.length->Pv D i ys H->SqL K H a xs)
  (hs:∀ D i x ys H,H1 D=none->xs[i]?=some x->Pv D i ys H->tt (dQ σ fr (some x)) H λb H2=>if b=true then te (dQ σ fr (some x)) H2 (bK Pv D i xs.length) else cU Pv D i xs.length H2)
  (hd:∀ D ys H,H1 D=none->Pv D xs.length ys H->Q (.ref D) H):mn (Itl K a) fr tt te σ Q H1:=by
 intro D hD
 refine ⟨λi m H=>m=xs.length - i/\i<=xs.length/\∃ ys,Pv D i ys H,⟨_,rfl,Nat.zero_le _,[],h0 D hD⟩,?_⟩
 rintro i m H ⟨rfl,hi,ys,p⟩
 have q:=hk D i ys H hD hi p
 by_cases hlt:i < xs.length
 ·refine .inr ⟨⟨xs,xs[i],q,by simp [hlt]⟩,λx H' y=>?_⟩
  obtain ⟨e,y⟩:=y
  subst e
  exact hs D i x ys _ hD (y xs q) p
 ·have e:i=xs.length:=by omega
  subst e
  exact .inl ⟨⟨xs,q,Nat.le_refl _⟩,hd D ys H hD p⟩
theorem bE {lo:Int} {n:Nat} {σ:St} {H1:Hp} {Q:VK} (Pv:Addr->Nat->List V->Hp->Prop) (h0:∀ D,H1 D=none->Pv D 0 [] (upd H1 D (.lst [])))
  (hs:∀ D i ys H,H1 D=none->i < n->Pv D i ys H->tt (dQ σ fr (some (.int (lo+i)))) H λb H2=>if b=true then te (dQ σ fr (some (.int (lo+i)))) H2 (bK Pv D i n) else cU Pv D i n H2)
  (hd:∀ D ys H,H1 D=none->Pv D n ys H->Q (.ref D) H):mn (Itr lo n) fr tt te σ Q H1:=by
 intro D hD
 refine ⟨λi m H=>m=n - i/\i<=n/\∃ ys,Pv D i ys H,⟨_,rfl,Nat.zero_le _,[],h0 D hD⟩,?_⟩
 rintro i m H ⟨rfl,hi,ys,p⟩
 by_cases hlt:i < n
 ·refine .inr ⟨hlt,λx H' y=>?_⟩
  obtain ⟨e,y⟩:=y
  subst e;subst y
  exact hs D i ys _ hD hlt p
 ·have e:i=n:=by omega
  subst e
  exact .inl ⟨Nat.le_refl _,hd D ys H hD p⟩
end
end L2
namespace L2
open PySem PySem.Spec PyProof.Rows
structure kb (X:Cx) (N:List Str) (k:Nat) (fr:List Nat) (scope:Scope) (cl:List (Str × Addr)):Prop where
 clos:closureFor scope X.env=pure cl
 kind:scope.kind=.function
 nocell:∀ y ∈ scope.names,y.2 ≠ .cell
 names:∀ y ∈ scope.names,y.2=.local->scope.names.lookup y.1=some .local
 len:N.length=k+fr.length
 sub:∀ (i:Nat) (y:Str),N[k+i]?=some y->∃ j,fr[i]?=some j/\X.N[j]?=some y/\(X.env.kindOf y=some .cell\/X.env.kindOf y=some .free)/\((relabel scope X.env).names.lookup y=some .cell\/(relabel scope X.env).names.lookup y=some .free)
 cells:∀ y c,cl.lookup y=some c->X.env.cells.lookup y=some c
 has:∀ y,((relabel scope X.env).names.lookup y=some .cell\/(relabel scope X.env).names.lookup y=some .free)->∃ c,cl.lookup y=some c
theorem cD {X:Cx} {N:List Str} {k:Nat} {scope:Scope} (len:N.length=k) (kind:scope.kind=.function) (nofree:∀ y ∈ scope.names,y.2 ≠ .free) (nocell:∀ y ∈ scope.names,y.2 ≠ .cell)
  (names:∀ y ∈ scope.names,y.2=.local->scope.names.lookup y.1=some .local):kb X N k [] scope []:=by
 have er:(relabel scope X.env).names=scope.names:=map_eq_self λy hy=>by
  have z:(y.2 == NameKind.free)=false:=by simpa using nofree y hy
  simp [z]
 have no:∀ y,¬ ((relabel scope X.env).names.lookup y=some .cell\/(relabel scope X.env).names.lookup y=some .free):=λy h=>by
  rw [er] at h
  rcases h with h | h
  ·exact nocell _ (PySem.mem_of_lookup h) rfl
  ·exact nofree _ (PySem.mem_of_lookup h) rfl
 refine ⟨closureFor_none nofree,kind,nocell,names,by rw [len];rfl,λi y e=>?_,(λy c e=>by cases e),λy h=>absurd h (no y)⟩
 have:=(E4.mp e).1
 omega
def dG (σ:St) (fr:List Nat) (ts:St):St:=ts ++ fr.map λj=>(σ[j]?).join
def mq (J:It) (gt:TG) (k:Nat) (fr:List Nat) (tt:TT) (te:TE) (σ:St) (Q:VK) (H1:Hp):Prop:=∀ D,H1 D=none->∃ W:Nat->Nat->Hp->Prop,(∃ m,W 0 m (upd H1 D (.lst [])))/\∀ i m H,W i m H ->
 (J.stop i H/\Q (.ref D) H)\/(J.go i H/\∀ x H',J.yld i H x H'->∀ ts:St,ts.length=k->gt x (dG σ fr ts) H' λσ2 H2=>(∃ ts2:St,ts2.length=k/\σ2=dG σ fr ts2)/\tt σ2 H2 λb H3=>if b=true then te σ2 H3 λy H4=>∃ ys,H4 D=some (.lst ys)/\ys.length < sizeLine/\∃ m',m' < m/\W (i+1) m' (upd H4 D (.lst (ys ++ [y])))
  else ∃ m',m' < m/\W (i+1) m' H3)
def rR (wi:TI) (gt:TG) (k:Nat) (fr:List Nat) (tt:TT) (te:TE):TE:=λσ H Q=>wi σ H λJ H1=>mq J gt k fr tt te σ Q H1
section
variable {X:Cx} {elt iter tg:Expr} {ifs:List Expr} {pos:Pos} {scope:Scope} {cl:List (Str × Addr)} {N:List Str} {k:Nat} {fr:List Nat} {gt:TG} {tt:TT} {te:TE}
theorem kc {pins:List (Addr × Obj)} {σ:St} {s2:Shared} {H2:Hp} {it:Addr} {fp:List Addr} {tn:Nat->Heap->Prop} {J:It} {Q:VK} {E:Value->Shared->Prop} {RR:Value->Addr->Result->Shared->Prop}
  (O:kb X N k fr scope cl) (hc:X.calm=true) (I2:Inv X pins σ H2 s2) (T:Turn X.prog X.w X.K tg J fp it tn) (st2:tn 0 s2.heap) (f2:∀ b ∈ fp,iP X pins H2 b)
  (ht:∀ fp C s H,PIf (bx X N scope cl fp C s H) ifs tt) (he:∀ fp C s H,PE (bx X N scope cl fp C s H) elt te)
  (hg:∀ fp C s H,PG (bx X N scope cl fp C s H) tg gt) (hW:mq J gt k fr tt te σ Q H2)
  (fin:∀ D C s' H',s2.heap.objs.size<=C->H' C=none->(∃ m,s'.heap.Ns C m)->Inv X pins σ H' s'->Q (.ref D) H'->RR (.ref D) C (.ok .next) s') :
  wpAny (model X.prog X.w) X.A (newList []) (λacc s3=>wpAny (model X.prog X.w) X.A (newFunctionEnv scope X.env.globals cl [] X.env.qual none .none (some X.env)) (λrO s4 =>
   codeAny (model X.prog X.w) X.A (.compStart (.ListComp elt [⟨tg,iter,ifs,0⟩] scope pos) 0 (.ref it) acc { rO with scope:=relabel scope X.env }) (RR acc rO.locals) s4) E s3) E s2:=by
 refine wpAny_newObj_type (wpAny_newFunctionEnv O.nocell (by intro y hy;simp at hy) (λh1 hns hsb=>?_) O.kind)
 dsimp only at hns hsb ⊢
 generalize hG:s2.heap.push { cls:=.type "list",dict:=none,data:=.seq ([]:List Value).toArray } = G at hns hsb ⊢
 have hC:G.objs.size=s2.heap.objs.size+1:=by rw [← hG,Heap.size_push]
 have old:∀ b o,s2.heap.get? b=some o->h1.get? b=some o:=λb o e=>hsb.extBut b o (Nat.ne_of_lt (by rw [hC];exact Nat.lt_succ_of_lt (Heap.lt_size e))) (Heap.get?_push_of_some _ (hG ▸ Heap.get?_push_of_some _ e))
 have rP:h1.get? s2.heap.objs.size=some { cls:=.type "list",data:=.seq ([]:List Value).toArray 0 }:=hsb.extBut _ _ (Nat.ne_of_lt (by rw [hC];exact Nat.lt_succ_self _)) (Heap.get?_push_of_some _ (hG ▸ Heap.get?_push_size _ rfl))
 have hD:H2 s2.heap.objs.size=none:=I2.fresh
 have okX:(bx X N scope cl fp G.objs.size s2 H2).Ok:=by
  refine ⟨I2.ok.mod,O.kind,I2.ok.glob,I2.ok.blt,by show s2.heap.objs.size<=G.objs.size;rw [hC];exact Nat.le_succ _,λy z c e1 e2=>I2.ok.inj y z c (O.cells y c e1) (O.cells z c e2),λy hy=>O.has y hy,λy c z=>absurd (show false=true from z) Bool.false_ne_true,I2.ok.hd,I2.ok.frames,.inl rfl,
   λb hb=>⟨?_,λy c e=>(f2 b hb).2.2.2.2.1 y c (O.cells y c e)⟩,I2.bs,Nat.le_trans I2.ok.bsz I2.sz,λb o e hb=>?_,λb hb z=>?_,I2.stack,I2.stkFree⟩
  ·obtain ⟨o,e,_⟩:=T.obj _ _ st2 b hb
   show b ≠ G.objs.size
   exact Nat.ne_of_lt (by rw [hC];exact Nat.lt_succ_of_lt (Heap.lt_size e))
  ·rcases (f2 b hb).2.2.2.1 with z | z
   ·exact I2.ok.noex b o e z
   ·exact absurd (Nat.lt_of_lt_of_le (Heap.lt_size e) (Nat.le_trans I2.ok.bsz z)) (Nat.lt_irrefl _)
  ·rcases List.mem_cons.mp (I2.stkSub b z) with z | z
   ·exact (f2 b hb).2.1 z
   ·exact (f2 b hb).2.2.1 z
 have j6:∀ {H' : Hp},(∀ b ∈ fp,H' b=none)->∀ b ∈ fp,iP (bx X N scope cl fp G.objs.size s2 H2) [] H' b:=λhn b hb =>
  ⟨hn b hb,(okX.exf b hb).1,okX.exfs b hb,.inl hb,(okX.exf b hb).2,λp hp=>absurd (show p ∈ ([]:List (Addr × Obj)) from hp) (by simp)⟩
 have I' : Inv (bx X N scope cl fp G.objs.size s2 H2) [] (dG σ fr (List.replicate k none)) (upd H2 s2.heap.objs.size (.lst [])) { s2 with heap:=h1,toks:=s2.toks+([]:List (Str × Value)).length }:=by
  refine ⟨okX,rfl,I2.bare,Un.laid old (Nat.le_refl _) hD,⟨_,hns,λi y v e1 e2 e3=>?_⟩,λy c e=>?_,?_,λy c e=>?_,λp hp=>absurd (show p ∈ ([]:List (Addr × Obj)) from hp) (by simp),I2.hok.laid old (Nat.le_refl _) ⟨Nat.zero_le _,[],0,.nil,rP⟩,?_⟩
  ·by_cases hik:i < k
   ·have e2' : (List.replicate k none ++ fr.map λj=>(σ[j]?).join)[i]?=some (some v):=e2
    rw [List.getElem?_append_left (by rw [List.length_replicate];exact hik),List.getElem?_replicate,if_pos hik] at e2'
    cases e2'
   ·obtain ⟨j,q1,q2,q3,q4⟩:=O.sub (i - k) y (by rw [show k+(i - k)=i by omega];exact e1)
    have e2' : (σ[j]?).join=some v:=by
     have:(List.replicate k none ++ fr.map λj=>(σ[j]?).join)[i]?=some (some v):=e2
     rw [List.getElem?_append_right (by rw [List.length_replicate];omega),List.length_replicate,List.getElem?_map,q1] at this
     exact Option.some.inj this
    have e4:σ[j]?=some (some v):=by
     cases z:σ[j]? with
     | none=>rw [z] at e2';cases e2'
     | some t=>rw [z] at e2';exact congrArg some e2'
    obtain ⟨m,_,hl⟩:=I2.loc
    have vis:Vis X.env.scope y:=.inr q3
    obtain ⟨u,r,l⟩:=hl j y v q2 e4 vis
    refine ⟨u,r,.inr ⟨q4,?_⟩⟩
    obtain ⟨c',hc'⟩:=O.has y q4
    rcases l with ⟨k,_⟩ | ⟨_,c,ec,ic⟩
    ·rcases q3 with z | z
     ·rw [z] at k;cases k
     ·rw [z] at k;cases k
    ·have:=O.cells y c' hc'
     have e' : c=c':=Option.some.inj (ec.symm.trans this)
     obtain ⟨o,ho,hd⟩:=ic
     rw [e'] at ho
     exact ⟨c',hc',o,old c' o ho,hd⟩
  ·obtain ⟨v,o,ho,hd⟩:=I2.cell y c (O.cells y c e)
   exact ⟨v,o,old c o ho,hd⟩
  ·show upd H2 s2.heap.objs.size (.lst []) G.objs.size=none
   rw [au (Nat.ne_of_gt (by rw [hC];exact Nat.lt_succ_self _))]
   exact I2.hok.fresh (by rw [hC];exact Nat.le_succ _)
  ·obtain ⟨v,o,ho,hd⟩:=I2.cell y c (O.cells y c e)
   rw [au (Nat.ne_of_lt (Heap.lt_size ho))]
   exact I2.freeC y c (O.cells y c e)
  ·show (dG σ fr (List.replicate k none)).length=N.length
   rw [O.len];simp [dG]
 have st1:tn 0 h1:=T.keep _ _ _ st2 λb hb o e=>old b o e
 have loop:∀ s3:Shared,s3 = { s2 with heap:=h1,toks:=s2.toks+([]:List (Str × Value)).length } ->
   codeAny (model X.prog X.w) X.A (.compLoop (.ListComp elt [⟨tg,iter,ifs,0⟩] scope pos) 0 (.ref it) (.ref s2.heap.objs.size) (compEnvC scope cl G.objs.size X.env)) (RR (.ref s2.heap.objs.size) G.objs.size) s3:=by
  rintro s3 rfl
  obtain ⟨W,⟨m0,w0⟩,turn⟩:=hW _ hD
  refine j5 (λn s'=>∃ i ts H',ts.length=k/\Inv (bx X N scope cl fp G.objs.size s2 H2) [] (dG σ fr ts) H' s'/\tn i s'.heap/\(∀ b ∈ fp,H' b=none)/\W i n H') ?_ m0
   ⟨0,List.replicate k none,_,List.length_replicate,I',st1,λb hb=>by
    rw [au (by obtain ⟨o,e,_⟩:=T.obj _ _ st2 b hb;exact Nat.ne_of_lt (Heap.lt_size e))]
    exact (f2 b hb).1,w0⟩
  rintro n s' ⟨i,ts,H',hts,I3,st3,fr3,w3⟩
  rcases turn i n H' w3 with ⟨stop,qn⟩ | ⟨go,step⟩
  ·refine thn (T.done (bx X N scope cl fp G.objs.size s2 H2) rfl rfl rfl hc i [] s' _ H' _ I3 (j6 fr3) st3 stop) λr s4 ⟨hr,I4⟩=>?_
   subst hr
   obtain ⟨m,hm,_⟩:=I4.loc
   refine fin _ _ s4 H' (by rw [hC];exact Nat.le_succ _) I4.free ⟨m,hm⟩ (I2.call' (ch:=fp) I4.os I4.base I4.hok I4.bare λb hb=>?_) qn
   exact ⟨(f2 b hb).2.2.2.1,(f2 b hb).2.1,(f2 b hb).2.2.2.2.1,(f2 b hb).2.2.2.2.2⟩
  ·refine thn (T.item (bx X N scope cl fp G.objs.size s2 H2) rfl rfl rfl hc i [] s' _ H' _ I3 (j6 fr3) st3 go) λr s4 ⟨u,hr,h4⟩=>?_
   subst hr
   refine thn h4 λ_ s5 ⟨y,H5,I5,r5,y5,st5,fr5⟩=>?_
   have I5':=I5.pinned (j6 fr5) (T.obj _ _ st5)
   refine thn (hg fp G.objs.size s2 H2 _ s5 _ H5 y u _ I5' r5 (step y H5 y5 ts hts)) λ_ s6 ⟨σ6,H6,I6,⟨ts6,AA,e6⟩,q6⟩=>?_
   subst e6
   have again:∀ {σ7:St} {H7:Hp} {s7:Shared} {m' : Nat},σ7=dG σ fr ts6->Inv (bx X N scope cl fp G.objs.size s2 H2) ([] ++ iR fp s5.heap) σ7 H7 s7->m' < n->W (i+1) m' H7 ->
     ∃ m,m < n/\∃ i ts H',ts.length=k/\Inv (bx X N scope cl fp G.objs.size s2 H2) [] (dG σ fr ts) H' s7/\tn i s7.heap/\(∀ b ∈ fp,H' b=none)/\W i m H':=λ{σ7 H7 s7 m'} e7 I7 hm w7=>by
    subst e7
    refine ⟨m',hm,i+1,ts6,H7,AA,I7.unpinned,T.keep _ _ _ st5 λb hb o e=>(I7.pin (b,o) (List.mem_append_right _ (List.mem_append_right _ (cJ hb e)))).1,λb hb=>?_,w7⟩
    obtain ⟨o,e,d⟩:=T.obj _ _ st5 b hb
    exact (I7.pin (b,o) (List.mem_append_right _ (List.mem_append_right _ (cJ hb e)))).2.1
   refine thn (ht fp G.objs.size s2 H2 _ s6 _ H6 _ I6 q6) λok s7 ⟨H7,I7,q7⟩=>?_
   cases ok with
   | false =>
    rw [if_neg Bool.false_ne_true] at q7 ⊢
    obtain ⟨m',hm,w7⟩:=q7
    exact again rfl I7 hm w7
   | true =>
    rw [if_pos rfl] at q7 ⊢
    refine thn (he fp G.objs.size s2 H2 _ s7 _ H7 _ I7 q7) λu8 s8 ⟨v8,H8,I8,r8,ys,hys,hlen,m',hm,w8⟩=>?_
    refine thn (bO (X:=bx X N scope cl fp G.objs.size s2 H2) _ s8 _ H8 (.ref s2.heap.objs.size) [v8] _ [u8] (λ_ H9=>W (i+1) m' H9) I8 rfl (.cons r8 .nil) ⟨_,ys,v8,rfl,rfl,hys,hlen,w8⟩) λ_ s9 ⟨_,H9,I9,_,w9⟩=>?_
    exact again rfl I9 hm w9
 exact codeAny_compStart_list (loop _ rfl) (T.self _ 0 _ _ _ st1 (loop _ rfl))
theorem df {wi:TI} (hi:PI X tg iter wi) (O:kb X N k fr scope cl) (hc:X.calm=true) (hg:∀ fp C s H,PG (bx X N scope cl fp C s H) tg gt) (ht:∀ fp C s H,PIf (bx X N scope cl fp C s H) ifs tt) (he:∀ fp C s H,PE (bx X N scope cl fp C s H) elt te)
  (hs:∀ v,foldedSetIterable iter X.env v=pure v:=by intro _;rfl):PE X (.ListComp elt [⟨tg,iter,ifs,0⟩] scope pos) (rR wi gt k fr tt te):=by
 intro pins s σ H Q I h
 rw [eval_ListComp]
 refine wpAny_comprehension_free (use:=none) rfl hs O.clos O.kind O.names (thn (hi pins s σ H _ I h) λv s1 h1=>thn h1 λitv s2 h2=>?_)
 obtain ⟨it,fp,tn,J,H2,e,I2,T,st2,f2,hW⟩:=h2
 subst e
 refine kc (RR:=λacc C=>compPost (model X.prog X.w) X.A X.xe none (EP X pins σ Q) acc C) O hc I2 T st2 f2 ht he hg hW λD C s' H' hC hn ⟨m,hm⟩ I' q=>?_
 exact ⟨m,hm,λh' hs'=>⟨.ref D,H',I2.left I' hC hn hs',rfl,q⟩⟩
theorem bX {K:PySem.W.Frag} {a:Addr} {xs:List V} {σ:St} {H1:Hp} {Q:VK} (Pv:Addr->Nat->List V->Hp->Prop) (h0:∀ D,H1 D=none->Pv D 0 [] (upd H1 D (.lst [])))
  (hk:∀ D i ys H,H1 D=none->i<=xs.length->Pv D i ys H->SqL K H a xs)
  (hs:∀ D i x ys H,H1 D=none->xs[i]?=some x->Pv D i ys H->∀ ts:St,ts.length=k->gt x (dG σ fr ts) H λσ2 H2=>(∃ ts2:St,ts2.length=k/\σ2=dG σ fr ts2)/\tt σ2 H2 λb H3=>if b=true then te σ2 H3 (bK Pv D i xs.length) else cU Pv D i xs.length H3)
  (hd:∀ D ys H,H1 D=none->Pv D xs.length ys H->Q (.ref D) H):mq (Itl K a) gt k fr tt te σ Q H1:=by
 intro D hD
 refine ⟨λi m H=>m=xs.length - i/\i<=xs.length/\∃ ys,Pv D i ys H,⟨_,rfl,Nat.zero_le _,[],h0 D hD⟩,?_⟩
 rintro i m H ⟨rfl,hi,ys,p⟩
 have q:=hk D i ys H hD hi p
 by_cases hlt:i < xs.length
 ·refine .inr ⟨⟨xs,xs[i],q,by simp [hlt]⟩,λx H' y=>?_⟩
  obtain ⟨e,y⟩:=y
  subst e
  exact hs D i x ys _ hD (y xs q) p
 ·have e:i=xs.length:=by omega
  subst e
  exact .inl ⟨⟨xs,q,Nat.le_refl _⟩,hd D ys H hD p⟩
end
theorem lK {X:Cx} {K:PySem.W.Frag} {es:List Expr} {k:Nat} {t:TGs} {n:Nat} {pos:Pos} (hK:X.K=K) (hc:X.calm=true) (h:PGs X es t) (hn:(assignEach es X.env).length=n:=by rfl) (hst:(assignEach es X.env).findIdx? (·.1)=none:=by rfl):PG X (.Tuple es k pos) (xX K n t):=hK ▸ cA hc h hn hst
end L2
namespace Srt
open PySem PySem.W PyProof.Rows
def Ok (n:Nat) (lt:Nat->Nat->Bool) {α:Type} : KasT α->(α->Prop)->Prop
 | .ret a,Q=>Q a
 | .ask i j k,Q=>i < n/\j < n/\Ok n lt (k (lt i j)) Q
section
variable {n:Nat} {lt:Nat->Nat->Bool}
abbrev g (p:Array Nat) (i:Nat):Nat:=p.getD i 0
def Bd (n:Nat) (p:Array Nat):Prop:=0 < n/\∀ i,g p i < n
def Up (lt:Nat->Nat->Bool) (p:Array Nat) (k:Nat):Prop:=∀ i j,i<=j->j < k->lt (g p j) (g p i)=false
def Dn (lt:Nat->Nat->Bool) (p:Array Nat) (k:Nat):Prop:=∀ i j,i<=j->j < k->lt (g p i) (g p j)=false
structure Ord (lt:Nat->Nat->Bool):Prop where
 tr:∀ a b c,lt b a=false->lt c b=false->lt c a=false
 as:∀ a b,lt a b=true->lt b a=false
def Eqs (lt:Nat->Nat->Bool) (p:Array Nat) (a b:Nat):Prop:=∀ i j,a<=i->i < b->a<=j->j < b->lt (g p i) (g p j)=false
end
end Srt
namespace L2
open PySem PySem.Spec PySem.W PyProof.Rows
def ltP (p q:Int × Int):Bool:=decide (p.1 < q.1) || (decide (p.1=q.1) && decide (p.2 < q.2))
section
variable {prog:Program} {w:World} {A:Around} {E:Value->Shared->Prop} {s:Shared}
end
section
variable {X:Cx}
end
end L2
namespace L2
structure DC (S A B A0 B0:List Pr):Prop where
 ap:Apart S
 aA:Apart A
 aB:Apart B
 mem:∀ n,(inP A0 n && inP B0 n)=(inP S n || (inP A n && inP B n))
 gap:∀ s ∈ S,(∀ p ∈ A,s.2+2<=p.1)\/(∀ p ∈ B,s.2+2<=p.1)
structure El (F T:List Pr) (lo hi st:Int):Prop where
 ap:Apart F
 lt:∀ s ∈ F,s.2+2<=st
 rng:∀ s ∈ F,lo<=s.1/\s.2<=hi
 tk:∀ p ∈ T,p.2 < st
 fr:st=lo\/∃ p ∈ T,st=p.2+1
 ge:lo<=st
 mem:∀ n,lo<=n->n<=hi->n < st->inP F n = !inP T n
end L2
namespace L2
structure Walk (ts:List (Int × Int × Int)):Prop where
 le:∀ t ∈ ts,t.1<=t.2.1
 nx:∀ (i:Nat) a b,ts[i]?=some a->ts[i+1]?=some b->b.1=a.2.1+1
def pcs (msk:Int->Bool) (ts:List (Int × Int × Int)) (n:Int):Bool:=ts.any λt=>inR n (t.1,t.2.1) && msk t.2.2
structure Em (R:List Pr) (ts:List (Int × Int × Int)) (msk:Int->Bool) (i:Nat) (at_:Int):Prop where
 ap:Apart R
 mem:∀ n,inP R n=pcs msk (ts.take i) n
 lt:∀ r ∈ R,r.2 < at_
 few:2 * R.length<=i\/(2 * R.length<=i+1/\∃ R' l,R=R' ++ [l]/\l.2=at_ - 1)
section
variable {R:List Pr} {ts:List (Int × Int × Int)} {msk:Int->Bool} {i:Nat} {at_:Int} {t:Int × Int × Int}
end
end L2
namespace L2
def ends (R:List Pr):List Int:=R.flatMap λp=>[p.1,p.2+1]
theorem lL (R:List Pr) (p:Pr):ends (R ++ [p])=ends R ++ [p.1,p.2+1]:=by
 unfold ends;rw [List.flatMap_append];simp
end L2
namespace L2
open PySem PySem.Spec PyProof.Rows
section
variable {X:Cx}
end
section
variable {prog:Program} {w:World} {A:Around} {E:Value->Shared->Prop} {s:Shared}
end
section
variable {X:Cx}
end
end L2
namespace L2
open PySem PySem.Spec PyProof.Rows
def Its (z:Str):It:=⟨λi _=>i < z.cps.size,λi H x H'=>H'=H/\∃ c,z.cps[i]?=some c/\x=.str ⟨#[c]⟩,λi _=>z.cps.size<=i⟩
theorem pd {P:Program} {w:World} {K:PySem.W.Frag} {tg:Expr} (z:Str) (t:Tok) (it:Addr):Turn P w K tg (Its z) [it] it (λi h=>h.IsStrIter it "str_ascii_iterator" z t i) where
 mem:=by simp
 obj:=λi h st b hb=>by
  obtain ⟨o,e,c,d⟩:=st
  rw [show b=it by simpa using hb]
  exact ⟨o,e,λv q=>by rw [d] at q;cases q⟩
 keep:=λi h h' ⟨o,e,r⟩ k=>⟨o,k it (by simp) o e,r⟩
 item:=by
  intro X hP hw hK hc i pins s σ H E I hf st hg
  subst hP hw hK
  have hlt:i < z.cps.size:=hg
  have hi:z.cps[i]?=some z.cps[i]:=Array.getElem?_eq_getElem hlt
  obtain ⟨f0,f1,f2,f3,f4,f5⟩:=hf it (by simp)
  refine wpAny_pyNext_ascii_item st hi λh' st' sb=>?_
  have I1:Inv X pins σ H { s with heap:=h',toks:=s.toks+1 }:=I.turned (t':=s.toks+1) (λb o hb e=>(sb.2 b hb).trans e) f0 f1 f3 f4 f5
  obtain ⟨o,e,c,d⟩:=id st'
  exact ⟨_,rfl,p4 (s:={ s with heap:=h',toks:=s.toks+1 }) e c d (by decide) ⟨.str ⟨#[z.cps[i]]⟩,H,I1,⟨_,rfl⟩,⟨rfl,_,hi,rfl⟩,st',λb hb=>(hf b hb).1⟩⟩
 done:=by
  intro X hP hw hK hc i pins s σ H E I hf st hg
  subst hP hw hK
  obtain ⟨f0,f1,f2,f3,f4,f5⟩:=hf it (by simp)
  exact wpAny_pyNext_ascii_end (I.ok.hd hc) st (by simpa using (show z.cps.size<=i from hg)) λh' eb=>⟨rfl,I.turned (t':=s.toks) (λb o hb e=>eb b o hb e) f0 f1 f3 f4 f5⟩
 self:=λ_ _ _ _ _ st h=>wpAny_pyIter_striter_ascii st h
theorem qJ {P:Program} {w:World} {K:PySem.W.Frag} {tg:Expr} (z:Str) (t:Tok) (it:Addr):Turn P w K tg (Its z) [it] it (λi h=>h.IsStrIter it "str_iterator" z t i) where
 mem:=by simp
 obj:=λi h st b hb=>by
  obtain ⟨o,e,c,d⟩:=st
  rw [show b=it by simpa using hb]
  exact ⟨o,e,λv q=>by rw [d] at q;cases q⟩
 keep:=λi h h' ⟨o,e,r⟩ k=>⟨o,k it (by simp) o e,r⟩
 item:=by
  intro X hP hw hK hc i pins s σ H E I hf st hg
  subst hP hw hK
  have hlt:i < z.cps.size:=hg
  have hi:z.cps[i]?=some z.cps[i]:=Array.getElem?_eq_getElem hlt
  obtain ⟨f0,f1,f2,f3,f4,f5⟩:=hf it (by simp)
  refine wpAny_pyNext_wide_item st hi λh' st' sb=>?_
  have I1:Inv X pins σ H { s with heap:=h',toks:=s.toks+1 }:=I.turned (t':=s.toks+1) (λb o hb e=>(sb.2 b hb).trans e) f0 f1 f3 f4 f5
  obtain ⟨o,e,c,d⟩:=id st'
  exact ⟨_,rfl,p4 (s:={ s with heap:=h',toks:=s.toks+1 }) e c d (by decide) ⟨.str ⟨#[z.cps[i]]⟩,H,I1,⟨_,rfl⟩,⟨rfl,_,hi,rfl⟩,st',λb hb=>(hf b hb).1⟩⟩
 done:=by
  intro X hP hw hK hc i pins s σ H E I hf st hg
  subst hP hw hK
  obtain ⟨f0,f1,f2,f3,f4,f5⟩:=hf it (by simp)
  exact wpAny_pyNext_wide_end (I.ok.hd hc) st (by simpa using (show z.cps.size<=i from hg)) λh' eb=>⟨rfl,I.turned (t':=s.toks) (λb o hb e=>eb b o hb e) f0 f1 f3 f4 f5⟩
 self:=λ_ _ _ _ _ st h=>wpAny_pyIter_striter_wide st h
section
variable {X:Cx} {tg:Expr}
def AB (tl:TE):PySem.W.Frag->St->Hp->(It->Hp->Prop)->Prop:=λ_ σ H R=>tl σ H λx H1=>∃ z,x=.str z/\R (Its z) H1
theorem vU {l:Expr} {tl:TE} (hl:PE X l tl):PI X tg l (AB tl X.K):=by
 intro pins s σ H R I h
 refine thn (hl pins s σ H _ I h) λv s1 ⟨x,H1,I1,r1,q1⟩=>?_
 obtain ⟨z,e,q⟩:=q1
 subst e
 obtain ⟨t,rfl⟩:=r1
 have fpo:∀ b ∈ [s1.heap.objs.size],iP X pins H1 b:=λb hb=>by
  rw [show b=s1.heap.objs.size by simpa using hb]
  exact I1.fpOk (Nat.le_refl _) (I1.hok.fresh (Nat.le_refl _))
 cases ha:z.cps.all (· < 128) with
 | true=>exact wpAny_pyIter_ascii ha ⟨s1.heap.objs.size,[s1.heap.objs.size],_,_,H1,rfl,I1.kept (t':=s1.toks) λb o e=>Heap.get?_push_of_some _ e,pd z t _,⟨_,Heap.get?_push_size _ rfl,rfl,rfl⟩,fpo,q⟩
 | false=>exact wpAny_pyIter_wide ha ⟨s1.heap.objs.size,[s1.heap.objs.size],_,_,H1,rfl,I1.kept (t':=s1.toks) λb o e=>Heap.get?_push_of_some _ e,qJ z t _,⟨_,Heap.get?_push_size _ rfl,rfl,rfl⟩,fpo,q⟩
end
theorem uv {z:Str} {g:TG} {tb:TS} {D:Ends} {σ:St} {H:Hp} (Pv:Nat->St->Hp->Prop) (h0:Pv 0 σ H)
  (hs:∀ i c σ H,z.cps.toList[i]?=some c->Pv i σ H->g (.str ⟨#[c]⟩) σ H λσ2 H2=>tb { D with nx:=Pv (i+1),ct:=Pv (i+1),bk:=D.nx } σ2 H2) (hd:∀ σ H,Pv z.cps.size σ H->D.nx σ H) :
  ∃ W:Nat->Nat->St->Hp->Prop,(∃ m,W 0 m σ H)/\∀ i m σ H,W i m σ H ->
   ((Its z).stop i H/\D.nx σ H)\/((Its z).go i H/\∃ N:St->Hp->Prop,(∀ σ' H',N σ' H'->∃ m',m' < m/\W (i+1) m' σ' H')/\∀ x H',(Its z).yld i H x H'->g x σ H' λσ2 H2=>tb { D with nx:=N,ct:=N,bk:=D.nx } σ2 H2):=by
 refine ⟨λi m σ H=>m=z.cps.size - i/\i<=z.cps.size/\Pv i σ H,⟨_,rfl,Nat.zero_le _,h0⟩,?_⟩
 rintro i m σ H ⟨rfl,hi,p⟩
 by_cases hlt:i < z.cps.size
 ·refine .inr ⟨hlt,Pv (i+1),λσ' H' p'=>⟨z.cps.size - (i+1),by omega,rfl,hlt,p'⟩,λx H' y=>?_⟩
  obtain ⟨e,c,y1,y2⟩:=y
  subst e;subst y2
  exact hs i c σ _ (by simpa using y1) p
 ·have e:i=z.cps.size:=by omega
  subst e
  exact .inl ⟨Nat.le_refl _,hd σ H p⟩
theorem nV:∀ {ys:List Str} {us:List Value},Vals (ys.map V.str) us->StrsAre us ys
 | [],_,.nil=>.nil
 | y :: ys,_,.cons r t=>by
  obtain ⟨t0,rfl⟩:=r
  exact .cons y t0 (nV t)
section
variable {X:Cx}
def rJoin (K:PySem.W.Frag):V->List V->Hp->VK->Prop:=λx vs H Q=>∃ (z:Str) (a:Addr) (ys:List Str),x=.str z/\vs=[.ref a]/\SqL K H a (ys.map V.str)/\z.length<=64/\(ys.map (·.length)).sum+ys.length * 64<=16777216/\Q (.str (Txt.join z ys)) H
theorem qd:MtM X "str.join" (rJoin X.K):=by
 intro pins s σ H x vs v us Q I rx rv h
 obtain ⟨z,a,ys,rfl,rfl,hq,h1,h2,q⟩:=h
 obtain ⟨t,rfl⟩:=rx
 obtain ⟨u,rfl,ru⟩:=rv.one
 cases (show u=Value.ref a from ru)
 obtain ⟨its,r,pl,hz⟩:=I.list hq
 exact join_listC pl.isList (by simpa using nV r) h1 h2 λt' k=>⟨.str (Txt.join z ys),H,I.tok k,⟨_,rfl⟩,q⟩
theorem ke {x:Str} {v:V} {pos:Pos} (hg:Gl X x) (h:∃ u,X.mg x=some u/\RelV v u) (hd:(x == ("__debug__" : Str))=false:=by decide):PE X (.Name x pos) (tC v):=by
 obtain ⟨_,m,r⟩:=h
 exact fG hg m r hd
end
def sg (g:Str) (c:Nat):Bool:=!(Builtin.Str.occurrences g ⟨#[c]⟩ 0 g.length 1).isEmpty
def kf (z g:Str):Bool:=z.cps.toList.all (sg g)
end L2
namespace L2
open PySem PySem.Spec PyProof.Rows PySem.NumText
section
variable {X:Cx}
def En:V->Option Int->Option Int->Hp->VK->Prop:=λx lo hi H Q=>∃ z,x=.str z/\z.length<=sizeLine/\Q (.str (Txt.slice z lo hi)) H
def zQ:V->List V->Hp->VK->Prop:=λx vs H Q=>∃ z y:Str,x=.str z/\vs=[.str y]/\Q (.bl (Txt.startswith z y)) H
end
structure Eo (cs:List Nat):Prop where
 all:AllDigits cs
 one:cs.length=1\/∃ c r,cs=c :: r/\49<=c
def DD (n:Int) (cs:List Nat):List Nat:=if n < 0 then 45 :: cs else cs
end L2
namespace L2
open PySem PySem.Spec PyProof.Rows PySem.W
end L2
namespace L2
open PySem PySem.Spec PyProof.Rows
def qK (h:Heap) (e T:Addr) (cls a0:Value):Prop :=
 ∃ oe vs oT ts,h.get? e=some oe/\(oe.cls=cls/\vs[0]?=some a0)/\oe.data=.fields vs/\vs[1]?=some (.ref T)/\T ≠ e/\h.get? T=some oT/\oT.data=.fields ts/\ts[3]?=some .none
structure Stp (F X:List Addr) (h h' : Heap):Prop where
 keep:∀ b o,b ∉ F->b ∉ X->h.get? b=some o->h'.get? b=some o
 slot:∀ b o,b ∈ F->h.get? b=some o->∃ sl,h'.get? b=some { o with slots:=sl }
section
variable {M:Model} {A:Around} {E:Value->Shared->Prop} {s:Shared} {base:Heap} {env:Env} {outer:List Env} {L e T:Addr} {oe:Obj} {vs:Array Value} {a0 cls:Value} {Q:Unit->Shared->Prop}
theorem d9 {base h:Heap} {l:List Env} (xs:List Addr) (ff:h.FunFrames base l):h.FunFrames (PySem.W.hideAll h (xs ++ frs l)) l :=
 PySem.W.funFrames_hide ff λv hv a ha=>List.mem_append_right _ (List.mem_filterMap.mpr ⟨v,hv,ha⟩)
theorem ip {base h h' : Heap} {l:List Env} {xs:List Addr} (ff:h.FunFrames base l) (hT:(PySem.W.hideAll h (xs ++ frs l)).get? T=none) (sl:∀ b o,b ∈ frs l->h.get? b=some o->∃ sl,h'.get? b=some { o with slots:=sl })
  {oT:Obj} {ts:Array Value} (h1:h'.get? T=some oT) (h2:oT.data=.fields ts):h.get? T=none\/T ∈ xs:=by
 cases q:h.get? T with
 | none=>exact .inl rfl
 | some o =>
  by_cases hx:T ∈ xs
  ·exact .inr hx
  ·by_cases hF:T ∈ frs l
   ·obtain ⟨_,o2,q2,nf⟩:=ff.mem hF
    obtain ⟨sl',q3⟩:=sl T o2 hF q2
    rw [h1] at q3
    have q4:=Option.some.inj q3
    exact absurd (by rw [q4] at h2;exact h2) (nf ts)
   ·have z:=PySem.W.hideAll_get (xs ++ frs l) q (by simp [hx,hF])
    rw [hT] at z;cases z
theorem land {E2:Value->Shared->Prop} (hf:A.frames=some (env :: outer)) (ff:s.heap.FunFrames base (env :: outer)) (hL:env.frame=some L) (x:qK s.heap e T cls a0)
  (h:∀ h' T',Stp (frs (env :: outer)) [e,T] s.heap h'->qK h' e T' cls a0->(s.heap.get? T'=none\/T'=T)->Q () { s with heap:=h' }):wpAny M A (noteFrame (.ref e) env) (λ_ s2=>wpAny M A (setFlight (.ref e) none) Q E s2) E2 s:=by
 obtain ⟨oe,vs,oT,ts,x1,x2,x3,x4,x5,x6,x7,x8⟩:=x
 refine wpAny_noteFrame_onW (base:=PySem.W.hideAll s.heap ([e,T] ++ frs (env :: outer))) hf (d9 _ ff) hL ⟨oe,vs,T,oT,ts,x1,x2,x3,x4,PySem.W.hideAll_none _ (by simp),x5,x6,x7,x8⟩ (λb o q=>PySem.W.of_hideAll _ q) (PySem.W.hideAll_none _ (by simp)) λh1 lw=>?_
 obtain ⟨st1,ff1,tr1,up1⟩:=lw
 refine wpAny_setFlight_noneW (s:={ s with heap:=h1 }) st1 ff1 tr1 λh' st ff2 tr up=>?_
 obtain ⟨oe',vs',T',oT',ts',t1,t2,t3,t4,t5,t6,t7,t8,t9⟩:=tr
 have fj:∀ b o,b ∈ frs (env :: outer)->s.heap.get? b=some o->∃ sl,h'.get? b=some { o with slots:=sl }:=λb o hb q=>by
  obtain ⟨_,o2,q2,nf⟩:=ff.mem hb
  rw [q] at q2;cases q2
  obtain ⟨sl,q3⟩:=up1 b o q nf
  exact ⟨sl,up b _ q3 nf⟩
 refine h h' T' ⟨λb o hb hx q=>st b o (PySem.W.hideAll_get _ q (by simp only [List.mem_append];exact λz=>z.elim hx hb)),fj⟩ ⟨oe',vs',oT',ts',t1,t2,t3,t4,t6,t7,t8,t9⟩ ?_
 rcases ip ff t5 fj t7 t8 with z | z
 ·exact .inl z
 ·rcases List.mem_cons.mp z with z | z
  ·exact absurd z t6
  ·exact .inr (by simpa using z)
theorem vV {l:List Env} (ff:s.heap.FunFrames base l) (x:qK s.heap e T cls a0)
  (h:∀ h' T',Stp (frs l) [e,T] s.heap h'->qK h' e T' cls a0->(s.heap.get? T'=none\/T'=T)->Q () { s with heap:=h' }):wpAny M A (setFlight (.ref e) none) Q E s:=by
 obtain ⟨oe,vs,oT,ts,x1,x2,x3,x4,x5,x6,x7,x8⟩:=x
 refine wpAny_setFlight_noneW (base:=PySem.W.hideAll s.heap ([e,T] ++ frs l)) (λb o q=>PySem.W.of_hideAll _ q) (d9 _ ff) ⟨oe,vs,T,oT,ts,x1,x2,x3,x4,PySem.W.hideAll_none _ (by simp),x5,x6,x7,x8⟩ λh' st ff2 tr up=>?_
 obtain ⟨oe',vs',T',oT',ts',t1,t2,t3,t4,t5,t6,t7,t8,t9⟩:=tr
 have fj:∀ b o,b ∈ frs l->s.heap.get? b=some o->∃ sl,h'.get? b=some { o with slots:=sl }:=λb o hb q=>by
  obtain ⟨_,o2,q2,nf⟩:=ff.mem hb
  rw [q] at q2;cases q2
  exact ⟨o.slots,up b _ q nf⟩
 refine h h' T' ⟨λb o hb hx q=>st b o (PySem.W.hideAll_get _ q (by simp only [List.mem_append];exact λz=>z.elim hx hb)),fj⟩ ⟨oe',vs',oT',ts',t1,t2,t3,t4,t6,t7,t8,t9⟩ ?_
 rcases ip ff t5 fj t7 t8 with z | z
 ·exact .inl z
 ·rcases List.mem_cons.mp z with z | z
  ·exact absurd z t6
  ·exact .inr (by simpa using z)
end
end L2
namespace L2
open PySem PySem.Spec PyProof.Rows
section
variable {P:Program} {w:World} {H H' : Hp} {h h' : Heap} {a:Addr} {o:HO} {F Y fs:List Addr}
theorem bW.there (x:bW P w H h a o):∃ ob,h.get? a=some ob:=by
 cases o with
 | lst xs=>obtain ⟨_,_,_,_,e⟩:=x;exact ⟨_,e⟩
 | tup xs=>obtain ⟨_,_,_,ob,e,_⟩:=x;exact ⟨_,e⟩
 | dK kvs=>obtain ⟨_,_,_,_,o,_,_,e,_⟩:=x;exact ⟨_,e⟩
 | dT kvs=>obtain ⟨_,_,_,_,o,_,_,e,_⟩:=x;exact ⟨_,e⟩
 | set S n=>obtain ⟨o,_,_,_,e,_⟩:=x;exact ⟨_,e⟩
 | ins C dx fs=>obtain ⟨_,_,_,e,_⟩:=x;exact ⟨_,e⟩
 | own y=>obtain ⟨_,e⟩:=x;exact ⟨_,e⟩
 | xd fs=>obtain ⟨_,⟨_,_,_,e,_⟩,_⟩:=x;exact ⟨_,e⟩
 | rng lo hi=>obtain ⟨_,_,_,e⟩:=x;exact ⟨_,e⟩
 | frz ob u=>obtain ⟨e,_⟩:=x;exact ⟨_,e⟩
 | tbl ps=>exact ⟨_,(show h.get? a=some _ from x)⟩
 | met f y=>exact ⟨_,(show h.get? a=some _ from x)⟩
 | ext φ=>obtain ⟨_,⟨_,e⟩,_⟩:=x;exact ⟨_,e⟩
theorem HOk.none_of (x:HOk P w H h) (e:h.get? a=none):H a=none:=by
 cases q:H a with
 | none=>rfl
 | some u =>
  obtain ⟨ob,z⟩:=(x a u q).there
  rw [e] at z;cases z
theorem HOk.stp (x:HOk P w H h) (st:Stp F Y h h') (hF:∀ b ∈ F,H b=none) (hY:∀ b ∈ Y,H b=none):HOk P w H h':=λa o e =>
 (x a o e).stay (λb u hb q=>by
  have hn:H b ≠ none:=by
   rcases hb with rfl | hb
   ·rw [e];simp
   ·rw [hb];simp
  exact st.keep b u (λz=>hn (hF b z)) (λz=>hn (hY b z)) q) (λ_ q=>q) λ_ _ q=>q
theorem Un.stp {H0:Hp} {h0:Heap} (u:Un fs [] H0 H h0 h) (st:Stp F Y h h') (h1:∀ b o,h0.get? b=some o->b ∈ F->b ∈ fs) (h2:∀ b ∈ fs,b ∈ F) (hY:∀ b ∈ Y,h0.get? b=none):Un fs [] H0 H h0 h':=by
 have nY:∀ b o,h0.get? b=some o->b ∉ Y:=λb o q z=>by rw [hY b z] at q;cases q
 refine ⟨λb o q n hb hx=>st.keep b o (λz=>hb (h1 b o q z)) (nY b o q) (u.keep b o q n hb hx),λb o q n hb hx=>?_,u.free,λb o q hx=>?_,u.tups,u.frzs,u.tbls⟩
 ·obtain ⟨sl,q1⟩:=u.slot b o q n hb hx
  obtain ⟨sl2,q2⟩:=st.slot b _ (h2 b hb) q1
  exact ⟨sl2,q2⟩
 ·obtain ⟨o1,q1⟩:=u.there b o q hx
  by_cases hF:b ∈ F
  ·obtain ⟨sl2,q2⟩:=st.slot b _ hF q1
   exact ⟨_,q2⟩
  ·exact ⟨_,st.keep b o1 hF (nY b o q) q1⟩
end
def CX1 (P:Program) (w:World):CXT:=λouter H s E ev s'=>∃ (e T C:Addr) (a0:Value) (H' : Hp),ev=.ref e/\s'.os=s.os/\AllBare s'.gens/\Un (frs outer) [] H H' s.heap s'.heap/\HOk P w H' s'.heap /\
 qK s'.heap e T (.ref C) a0/\s.heap.get? e=none/\s.heap.get? T=none/\H' e=none/\H' T=none/\E (.ref C) none H'
structure dA (X:Cx) (pins:List (Addr × Obj)) (H:Hp) (b:Addr):Prop where
 ent:X.s₀.heap.get? b=none
 unt:H b=none
 loc:b ≠ X.env.locals
 cel:∀ x c,X.env.cells.lookup x=some c->c ≠ b
 pin:∀ p ∈ X.pn ++ pins,p.1 ≠ b
section
variable {X:Cx} {pins:List (Addr × Obj)} {σ:St} {H:Hp} {s:Shared} {h' : Heap} {e T:Addr}
theorem Inv.newAt (I:Inv X pins σ H s) (hx:X.ex=[]) {b:Addr} (hb:s.heap.get? b=none):dA X pins H b:=by
 refine ⟨?_,I.hok.none_of hb,?_,?_,?_⟩
 ·cases q:X.s₀.heap.get? b with
  | none=>rfl
  | some o =>
   obtain ⟨o',q'⟩:=I.base.there b o q (by rw [hx];simp)
   rw [hb] at q';cases q'
 ·rintro rfl
  obtain ⟨m,⟨o,_,_,q,_⟩,_⟩:=I.loc
  rw [hb] at q;cases q
 ·rintro x c hc rfl
  obtain ⟨v,o,q,_⟩:=I.cell x c hc
  rw [hb] at q;cases q
 ·rintro p hp rfl
  obtain ⟨q,_⟩:=I.pin p hp
  rw [hb] at q;cases q
theorem Inv.excStep (I:Inv X pins σ H s) (hx:X.ex=[]) (st:Stp (frs X.stack) [e,T] s.heap h') (ne:dA X pins H e) (nT:dA X pins H T):Inv X pins σ H { s with heap:=h' }:=by
 have nY:∀ b ∈ [e,T],dA X pins H b:=λb hb=>by
  rcases List.mem_cons.mp hb with rfl | hb
  ·exact ne
  ·rw [show b=T by simpa using hb];exact nT
 have mr:∀ b,b ≠ X.env.locals->b ∉ X.fs->b ∉ frs X.stack:=λb h1 h2 z=>(List.mem_cons.mp (I.stkSub b z)).elim h1 h2
 have pe:∀ b o,X.s₀.heap.get? b=some o->b ∉ [e,T]:=λb o q z=>by rw [(nY b z).ent] at q;cases q
 have neL:∀ b o,X.s₀.heap.get? b=some o->b ≠ X.env.locals:=λb o q=>Nat.ne_of_lt (Nat.lt_of_lt_of_le (Heap.lt_size q) I.ok.above)
 have any:∀ b o,b ∉ [e,T]->s.heap.get? b=some o->∃ sl,h'.get? b=some { o with slots:=sl }:=λb o hy q=>by
  by_cases hF:b ∈ frs X.stack
  ·exact st.slot b o hF q
  ·exact ⟨o.slots,st.keep b o hF hy q⟩
 have cellK:∀ x c,X.env.cells.lookup x=some c->∀ v,s.heap.IsCell c v->h'.IsCell c v:=λx c ec v ⟨o,ho,hd⟩=>by
  obtain ⟨sl,q⟩:=any c o (λz=>(nY c z).cel x c ec rfl) ho
  exact ⟨_,q,hd⟩
 refine ⟨I.ok,I.os,I.bare,⟨λb o q n hb hxx=>?_,λb o q n hb hxx=>?_,I.base.free,λb o q hxx=>?_,I.base.tups,I.base.frzs,I.base.tbls⟩,?_,λx c ec=>?_,I.free,I.freeC,λp hp=>?_,I.hok.stp st I.stkFree (λb hb=>(nY b hb).unt),I.len⟩
 ·exact st.keep b o (mr b (neL b o q) hb) (pe b o q) (I.base.keep b o q n hb hxx)
 ·obtain ⟨sl,q1⟩:=I.base.slot b o q n hb hxx
  obtain ⟨sl2,q2⟩:=any b _ (pe b o q) q1
  exact ⟨sl2,q2⟩
 ·obtain ⟨o1,q1⟩:=I.base.there b o q hxx
  obtain ⟨sl2,q2⟩:=any b _ (pe b o q) q1
  exact ⟨_,q2⟩
 ·obtain ⟨m,⟨oL,es,ep,hoL,r⟩,hl⟩:=I.loc
  obtain ⟨sl,q⟩:=any X.env.locals oL (λz=>(nY _ z).loc rfl) hoL
  refine ⟨m,⟨_,es,ep,q,r⟩,λi x v e1 e2 e3=>?_⟩
  obtain ⟨u,ru,l⟩:=hl i x v e1 e2 e3
  refine ⟨u,ru,?_⟩
  rcases l with l | ⟨k,c,ec,z⟩
  ·exact .inl l
  ·exact .inr ⟨k,c,ec,cellK x c ec _ z⟩
 ·obtain ⟨v,z⟩:=I.cell x c ec
  exact ⟨v,cellK x c ec v z⟩
 ·obtain ⟨q,n,nL,nf,d⟩:=I.pin p hp
  exact ⟨st.keep p.1 p.2 (mr p.1 nL nf) (λz=>(nY _ z).pin p hp rfl) q,n,nL,nf,d⟩
end
structure gx (K:PySem.W.Frag) (C:Addr):Prop where
 ex:∃ (bmB bmN:List Value) (newId B Bn nid rS inN:String),PySem.W.excIn K C bmB newId=true/\ExcBaseFacts Bn newId inN bmN/\bmB.contains (Value.type Bn)=true/\ExcBaseFacts B nid rS bmB
theorem gx.value {K:PySem.W.Frag} {C:Addr} (h:PySem.W.excIn K C [.type "ValueError",.type "Exception",.type "BaseException",.type "object"] "ValueError.__new__" = true):gx K C :=
 ⟨_,_,_,_,_,_,_,_,h,PySem.F.excBase_ValueError,by decide,PySem.F.excBase_ValueError⟩
theorem gx.obj {K:PySem.W.Frag} {C:Addr} {h:Heap} {bmB:List Value} {newId:String} (KI:K.In h) (e:PySem.W.excIn K C bmB newId=true):∃ bm N nm q bs hdct sn sub ab col dd k0 k1 k2 k3 k5 mN,
   h.get? C=some (excClassObj nm q C N bs bm hdct sn sub ab col dd k0 k1 k2 k3 k5 newId)/\h.Ns N mN/\mN "__init__" = none/\OwnTail h bmB bm:=by
 unfold PySem.W.excIn at e
 split at e
 ·rename_i dd cd sl lk
  split at e
  ·rename_i C' bm k0 k1 k2 k3 n k5 em es
   simp only [Bool.and_eq_true,beq_iff_eq,Bool.not_eq_true'] at e
   obtain ⟨⟨⟨⟨⟨rfl,rfl⟩,hd⟩,ht⟩,hn⟩,hi⟩:=e
   obtain ⟨nm,bs,mro,ns,q,hdct,sn,sub,ab,col,Ep⟩:=cd
   dsimp only at em hd ht hn hi
   subst em hd
   have hsl:sl = #[k0,k1,k2,k3,some (Value.builtin n),k5]:=by
    apply Array.toList_inj.mp
    rw [es]
   subst hsl
   exact ⟨bm,ns,nm,q,bs,hdct,sn,sub,ab,col,dd,k0,k1,k2,k3,k5,_,KI _ _ lk,Heap.Ns.of_isNs (PySem.W.isNs_of_in KI hn),PySem.W.nsMap_none_of_in KI hn hi,PySem.W.tail_of_in KI ht⟩
  ·cases e
 ·cases e
section
variable {P:Program} {w:World} {K:PySem.W.Frag} {mg:Str->Option Value} {base:Heap} {N:List Str} {qual:Str} {scope:Scope} {f:Addr} {cd:Value} {A:Around} {outer:List Env} {s0:Shared} {H0:Hp} {E:XK}
def vW (C:Addr) (E:XK) (t:TA):TS:=λ_ σ H=>t σ H λvs H1=>vs.length<=sizeLine/\E (.ref C) none H1
end
end L2
namespace L2
open PySem PySem.Spec PyProof.Rows
def XP (X:Cx) (pins:List (Addr × Obj)) (σ:St) (EX:Addr->Hp->Prop) (ev:Value) (s' : Shared):Prop :=
 ∃ (e T C:Addr) (a0:Value) (H' : Hp),ev=.ref e/\Inv X pins σ H' s'/\qK s'.heap e T (.ref C) a0/\dA X pins H' e/\dA X pins H' T/\EX C H'
abbrev TX:=St->Hp->VK->(Addr->Hp->Prop)->Prop
def PEX (X:Cx) (e:Expr) (t:TX):Prop :=
 ∀ (pins:List (Addr × Obj)) (s:Shared) (σ:St) (H:Hp) (Q:VK) (EX:Addr->Hp->Prop),Inv X pins σ H s->t σ H Q EX->wpAny (model X.prog X.w) X.A (eval e X.env) (EP X pins σ Q) (XP X pins σ EX) s
def CalleeX (P:Program) (w:World) (K:PySem.W.Frag) (mg:Str->Option Value) (base:Heap) (k:Nat) (x:Str) (ps:List Str) (sp:Sp):Prop :=
 ∃ f fd,aQ P w K mg base (CX1 P w) k f fd ps sp/\Binds K fd ps []/\PySem.W.keepIn K (.ref f)=true/\mg x=some (.ref f)
theorem CalleeX.mono {P:Program} {w:World} {K:PySem.W.Frag} {mg:Str->Option Value} {base:Heap} {j k:Nat} {x:Str} {ps:List Str} {sp:Sp} (C:CalleeX P w K mg base j x ps sp) (h:j<=k):CalleeX P w K mg base k x ps sp:=by
 obtain ⟨f,fd,F,r⟩:=C
 exact ⟨f,fd,F.mono h,r⟩
section
variable {X:Cx} {pins:List (Addr × Obj)} {σ:St} {H:Hp} {s s' : Shared}
theorem Inv.afterX {E:XK} {EX:Addr->Hp->Prop} {ev:Value} (I:Inv X pins σ H s) (hx:X.ex=[]) (hE:∀ C H',E (.ref C) none H'->EX C H') (h:CX1 X.prog X.w X.stack H s E ev s'):XP X pins σ EX ev s':=by
 obtain ⟨e,T,C,a0,H',rfl,os,bare,un,hok,x,ne,nT,he,hT,q⟩:=h
 have I' : Inv X pins σ H' s':=I.call' (ch:=[]) os un hok bare λb z=>absurd z (by simp)
 have a:=I.newAt hx ne
 have b:=I.newAt hx nT
 exact ⟨e,T,C,a0,H',rfl,I',x,⟨a.ent,he,a.loc,a.cel,a.pin⟩,⟨b.ent,hT,b.loc,b.cel,b.pin⟩,hE _ _ q⟩
end
section
variable {X:Cx} {k:Nat} {x:Str} {ps:List Str} {sp:Sp} {e:Expr} {es:List Expr} {t:TA} {p pos:Pos}
def AD (sp:Sp) (t:TA):TX:=λσ H Q EX=>t σ H λvs H1=>sp vs H1 Q λcv _ H2=>∃ C,cv=.ref C/\EX C H2
theorem rT (C:CalleeX X.prog X.w X.K X.mg X.base k x ps sp) (hr:bY k X.A) (hx:X.ex=[]) (hg:Gl X x) (ha:PA X.nox (e :: es) t) (hdb:(x == ("__debug__" : Str))=false:=by decide)
  (he:starEach (e :: es) X.env=(false,eval e X.env) :: starEach es X.env:=by rfl) (hpl:(backTo pos (starEach es X.env)).any (·.1)=false:=by rfl):PEX X (.Call (.Name x p) (e :: es) [] pos) (AD sp t):=by
 obtain ⟨f,fd,F,b,kk,m⟩:=C
 intro pins s σ H Q EX I h
 refine wpAny_Call_Name_kw (cV I hg m ?_ hdb)
 refine PySem.W.callWith_K (h₀:=X.base) I.ok.mod.kin kk (wpAny_mono (ha pos pins s σ H _ (I.wish _) h) (λus s1 ⟨vs,H1,I1,r,q⟩=>⟨I1.kIn,?_⟩) λ_ _ z=>False.elim z) he hpl
 have J:Inv X pins σ H1 s1:=I1.unwish
 have hl:us.length=ps.length:=by rw [← r.length];exact F.len _ _ _ _ q
 have bt:BindsTo s1 fd ⟨us,[]⟩ (ps.zip us):=by
  have z:=b s1 us J.kIn (by rw [List.append_nil];exact hl)
  rw [List.append_nil] at z
  exact z
 refine wpAny_call (codeAny_mono (F.run X.A X.stack s1 H1 ⟨us,[]⟩ us vs Q _ hr J.env0 bt r q) λr s' hq=>?_)
 cases r with
 | error ev=>exact J.afterX (E:=λcv _ H2=>∃ C,cv=.ref C/\EX C H2) hx (λC H' z=>by obtain ⟨C',e1,z⟩:=z;cases e1;exact z) hq
 | ok fl =>
  cases fl with
  | ret u=>exact J.after hq
  | next=>exact False.elim hq
  | brk=>exact False.elim hq
  | cont=>exact False.elim hq
abbrev TSX:=Ends->St->Hp->(Addr->Hp->Prop)->Prop
def PSX (X:Cx) (st:Stmt) (t:TSX):Prop :=
 ∀ (pins:List (Addr × Obj)) (s:Shared) (σ:St) (H:Hp) (D:Ends) (EX:Addr->Hp->Prop),Inv X pins σ H s->t D σ H EX->wpAny (model X.prog X.w) X.A (exec st X.env) (SP X pins D) (XP X pins σ EX) s
def DE (i:Nat) (te:TX):TSX:=λD σ H EX=>te σ H (λv H1=>D.nx (σ.set i (some v)) H1) EX
def vX (te:TX):TSX:=λD σ H EX=>te σ H (λ_ H1=>D.nx σ H1) EX
theorem nW {e:Expr} {te:TX} (he:PEX X e te) (hs:swapsWith e none pos.line X.env=pure false:=by rfl):PSX X (.Expr e pos) (vX te):=by
 intro pins s σ H D EX I h
 exact wpAny_Expr_any (thn (he pins s σ H _ EX I h) λv s1 ⟨x,H1,I1,r1,q1⟩=>⟨σ,H1,I1,q1⟩) I.quiet hs
end
def sfx (X:Cx) (e:Addr) (oe:Obj):Cx:={ X with A:=X.A.mark (some (.ref e)),calm:=false,pn:=(e,oe) :: X.pn,xe:=λ_ _=>False }
section
variable {X:Cx} {pins:List (Addr × Obj)} {σ:St} {H:Hp} {s s' : Shared} {e:Addr} {oe:Obj}
theorem Inv.suite (I:Inv X pins σ H s) (he:s.heap.get? e=some oe) (hn:dA X pins H e) (hd:∀ v,oe.data ≠ .cell v) (hf:e ∉ X.fs):Inv (sfx X e oe) pins σ H s:=by
 refine ⟨⟨I.ok.mod,I.ok.kind,I.ok.glob,I.ok.blt,I.ok.above,I.ok.inj,I.ok.has,I.ok.cab,λz=>absurd z Bool.false_ne_true,I.ok.frames,I.ok.stk,I.ok.exf,I.ok.bs,I.ok.bsz,I.ok.noex,I.ok.exfs,I.ok.funs,I.ok.frf⟩,I.os,I.bare,I.base,I.loc,I.cell,I.free,I.freeC,λp hp=>?_,I.hok,I.len⟩
 rcases List.mem_cons.mp (show p ∈ (e,oe) :: (X.pn ++ pins) from hp) with rfl | hp
 ·exact ⟨he,hn.unt,hn.loc,hf,hd⟩
 ·exact I.pin p hp
theorem Inv.unsuite (ok:X.Ok) (I:Inv (sfx X e oe) pins σ H s):Inv X pins σ H s :=
 ⟨ok,I.os,I.bare,I.base,I.loc,I.cell,I.free,I.freeC,λp hp=>I.pin p (List.mem_cons_of_mem (e,oe) hp),I.hok,I.len⟩
end
section
variable {X:Cx} {pins:List (Addr × Obj)} {σ:St} {H:Hp} {s:Shared}
end
def Er (i:Nat) (B:Addr) (K:PySem.W.Frag) (G:Addr->Prop) (tb:TSX) (ts:Addr->Addr->TS):TS:=λD σ H=>tb D σ H λC H1=>PySem.W.exmOne K (.ref C) (.ref B)=some true/\G C /\
 ∀ e,ts C e { nx:=λσ' H'=>D.nx (σ'.set i none) H',rt:=D.rt,bk:=λσ' H'=>D.bk (σ'.set i none) H',ct:=λσ' H'=>D.ct (σ'.set i none) H' } (σ.set i (some (.ref e))) H1
section
variable {X:Cx} {st b₀:Stmt} {su:List Stmt} {tb:TSX} {ts:Addr->Addr->TS} {Tn n:Str} {B:Addr} {i:Nat} {np yw pos:Pos}
end
end L2
namespace L2
open PySem PySem.Spec PyProof.Rows
structure qe (K:PySem.W.Frag) (C:Addr):Prop where
 ga:PySem.W.findIn K (.ref C) "__getattribute__" = some (some (.builtin "BaseException.__getattribute__"))
 hk:PySem.W.findIn K (.ref C) "__getattr__" = some none
 cl:PySem.W.findIn K (.ref C) "__class__" = some (some (.builtin "object.__class__"))
 gt:PySem.W.specialIn K (.builtin "object.__class__") "__get__" = some (some (.builtin "getset_descriptor.__get__"))
 tk:PySem.W.takesIn K (.builtin "object.__class__")=some true
 ob:PySem.W.mroIn K C (.type "object")=some true
 be:PySem.W.mroIn K C (.type "BaseException")=some true
 me:PySem.W.kitCls K (.ref C) (.ref C)=some true
section
variable {prog:Program} {w:World} {A:Around} {E:Value->Shared->Prop} {s:Shared} {K:PySem.W.Frag} {e C:Addr} {oe:Obj}
end
section
variable {X:Cx} {e C:Addr} {oe:Obj}
end
end L2
namespace L2
open PySem PySem.Spec PyProof.Rows
section
variable {X:Cx}
def tFr (c:Str) (ta:TE):TE:=λσ H Q=>ta σ H λx H1=>∃ z:Str,x=.str z/\z.length<=1000/\(∀ n ∈ z.cps.toList,n < 16 ^ 8)/\c.length<=1000/\∀ z2:Str,Q (.str z2) H1
theorem len_app (x y:Str):(x ++ y).length=x.length+y.length:=by
 show (Str.append x y).cps.size=x.cps.size+y.cps.size
 unfold Str.append
 simp
def DF:V->List V->Hp->VK->Prop:=λx vs H Q=>∃ z y:Str,x=.str z/\vs=[.str y]/\Q (.int (Txt.find z y)) H
end
end L2
namespace L2
open PySem PySem.Spec PyProof.Rows
theorem nX {P:Program} {w:World} {X:Cx} : Passes (CX1 P w) X E0:=λ_ _ _ _ _ _ _ h=>by
 obtain ⟨_,_,_,_,_,_,_,_,_,_,_,_,_,_,_,q⟩:=h
 exact q.elim
def MCallee (CX:CXT) (P:Program) (w:World) (K:PySem.W.Frag) (mg:Str->Option Value) (base:Heap) (k:Nat) (C:Addr) (m:Str) (ps:List Str) (sp:Sp):Prop :=
 ∃ f fd,Meth K C m f/\aQ P w K mg base CX k f fd ps sp/\Binds K fd ps []
def MkCallee (CX:CXT) (P:Program) (w:World) (K:PySem.W.Frag) (mg:Str->Option Value) (base:Heap) (k:Nat) (x:Str) (C:Addr) (ps:List Str) (sp:Sp):Prop :=
 ∃ f fd,Mk K C f/\aQ P w K mg base CX k f fd ps sp/\Binds K fd ps []/\mg x=some (.ref C)
structure yx (K:PySem.W.Frag) (B:Addr) (m:Str) (f:Addr):Prop where
 sp:PySem.W.specialIn K (.ref B) "__getattribute__" = some (some (.builtin "type.__getattribute__"))
 rd:PySem.W.readsIn K B (.type "type")=true
 at_:PySem.W.findCls K (.ref B) (.type "type") m=some (.val (.ref f))
 kp:PySem.W.keepIn K (.ref f)=true
def BCallee (CX:CXT) (P:Program) (w:World) (K:PySem.W.Frag) (mg:Str->Option Value) (base:Heap) (k:Nat) (x:Str) (m:Str) (ps:List Str) (sp:Sp):Prop :=
 ∃ f fd B,yx K B m f/\aQ P w K mg base CX k f fd ps sp/\Binds K fd ps []/\mg x=some (.ref B)
section
variable {CX:CXT} {P:Program} {w:World} {K:PySem.W.Frag} {mg:Str->Option Value} {base:Heap} {j k:Nat} {C:Addr} {x m:Str} {ps:List Str} {sp:Sp}
theorem MCallee.mono (c:MCallee CX P w K mg base j C m ps sp) (h:j<=k):MCallee CX P w K mg base k C m ps sp:=by
 obtain ⟨f,fd,M,F,b⟩:=c
 exact ⟨f,fd,M,F.mono h,b⟩
theorem MkCallee.mono (c:MkCallee CX P w K mg base j x C ps sp) (h:j<=k):MkCallee CX P w K mg base k x C ps sp:=by
 obtain ⟨f,fd,M,F,b⟩:=c
 exact ⟨f,fd,M,F.mono h,b⟩
theorem BCallee.mono (c:BCallee CX P w K mg base j x m ps sp) (h:j<=k):BCallee CX P w K mg base k x m ps sp:=by
 obtain ⟨f,fd,B,M,F,b⟩:=c
 exact ⟨f,fd,B,M,F.mono h,b⟩
end
def tMt (C:Addr) (m:Str) (sp:Sp) (ta:TE) (t:TA):TE:=λσ H Q=>ta σ H λx H1=>∃ a dx fs,x=.ref a/\H1 a=some (.ins C dx fs)/\fs.lookup m=none/\t σ H1 λvs H2=>sp (x :: vs) H2 Q E0
def tMk (C:Addr) (sp:Sp) (t:TA):TE:=λσ H Q=>t σ H λvs H1=>∀ x dx,H1 x=none->H1 dx=none->dx ≠ x ->
 sp (.ref x :: vs) (upd (upd H1 dx (.own x)) x (.ins C dx [])) (λv H2=>v=.non/\Q (.ref x) H2) E0
def Es (C:Addr) (m:Str) (sp:Sp) (ta:TE) (t:TA):TX:=λσ H Q EX=>ta σ H λx H1=>∃ a dx fs,x=.ref a/\H1 a=some (.ins C dx fs)/\fs.lookup m=none/\t σ H1 λvs H2=>sp (x :: vs) H2 Q λcv _ H3=>∃ C',cv=.ref C'/\EX C' H3
def Et (C:Addr) (sp:Sp) (t:TA):TX:=λσ H Q EX=>t σ H λvs H1=>∀ x dx,H1 x=none->H1 dx=none->dx ≠ x ->
 sp (.ref x :: vs) (upd (upd H1 dx (.own x)) x (.ins C dx [])) (λv H2=>v=.non/\Q (.ref x) H2) λcv _ H3=>∃ C',cv=.ref C'/\EX C' H3
section
variable {X:Cx} {CX:CXT} {k:Nat} {f C:Addr} {fd:FuncData} {ps:List Str} {sp:Sp} {x m:Str} {p np pos apos:Pos} {e o:Expr} {es:List Expr} {ta:TE} {t:TA}
theorem vY {pins:List (Addr × Obj)} {σ:St} {H:Hp} {s:Shared} {Q:VK} {us:List Value} {vs:List V} {E:XK} (F:aQ X.prog X.w X.K X.mg X.base CX k f fd ps sp) (hr:bY k X.A) (hb:Binds X.K fd ps []) (hx:Passes CX X E)
  (I:Inv X pins σ H s) (r:Vals vs us) (h:sp vs H Q E):wpAny (model X.prog X.w) X.A (call (.ref f) us) (EP X pins σ Q) X.xe s :=
 rF (dvs:=[]) (ds:=[]) F hr hb .nil hx I r (by rw [List.append_nil];exact h)
theorem dB {pl:Sem Bool} (M:BCallee CX X.prog X.w X.K X.mg X.base k x m ps sp) (hx:Passes CX X E0) (hr:bY k X.A) (hg:Gl X x) (ha:PA X (e :: es) t) (hdb:(x == ("__debug__" : Str))=false:=by decide)
  (hst:starEach (e :: es) X.env=(false,eval e X.env) :: starEach es X.env:=by rfl) (hpl:(backTo pos (starEach es X.env)).any (·.1)=false:=by rfl)
  (ht:eval (.Call (.Attribute (.Name x np) m apos) (e :: es) [] pos) X.env=(do
   let ov ← eval (.Name x np) X.env
   standAt apos.atName
   let (f,first) ← holding [ov] (getMethod ov m pl)
   callWith pos f first (backTo pos (starEach (e :: es) X.env)) (backToKw pos (keywordEach [] X.env))):=by rfl) :
  PE X (.Call (.Attribute (.Name x np) m apos) (e :: es) [] pos) (tFn sp t):=by
 obtain ⟨f,fd,B,hB,F,hb,hm⟩:=M
 intro pins s σ H Q I h
 refine PySem.W.methodCall_KW (pl:=pl) (cV I hg hm ?_ hdb) ht
 refine PySem.W.method_cls I.kIn hB.sp (PySem.W.cls_value (mc:=.type "type") I.kIn hB.rd hB.at_ (lC (v:=.ref f) rfl) ?_)
 refine PySem.W.callWith_K (first:=[]) (h₀:=X.base) I.ok.mod.kin hB.kp (thn (ha pos pins _ σ H _ (I.tok _) h) λus s2 ⟨vs,H2,I2,r,q2⟩=>⟨I2.kIn,?_⟩) hst hpl
 exact vY (us:=us) (vs:=vs) F hr hb hx I2 r q2
theorem qf (M:MkCallee CX X.prog X.w X.K X.mg X.base k x C ps sp) (hx:Passes CX X E0) (hr:bY (k+1) X.A) (hg:Gl X x) (ha:PA X (e :: es) t) (hdb:(x == ("__debug__" : Str))=false:=by decide)
  (he:starEach (e :: es) X.env=(false,eval e X.env) :: starEach es X.env:=by rfl) (hpl:(backTo pos (starEach es X.env)).any (·.1)=false:=by rfl) :
  PE X (.Call (.Name x p) (e :: es) [] pos) (tMk C sp t):=by
 obtain ⟨f,fd,M,F,hb,hm⟩:=M
 have h:=uh (E:=E0) (dvs:=[]) (ds:=[]) (p:=p) M F hr hg hm hb .nil hx ha hdb he hpl
 intro pins s σ H Q I q
 refine h pins s σ H Q I ?_
 have q' : t σ H λvs H1=>∀ x dx,H1 x=none->H1 dx=none->dx ≠ x->sp (.ref x :: vs) (upd (upd H1 dx (.own x)) x (.ins C dx [])) (λv H2=>v=.non/\Q (.ref x) H2) E0:=q
 show t σ H λvs H1=>∀ x dx,H1 x=none->H1 dx=none->dx ≠ x->sp (.ref x :: (vs ++ [])) (upd (upd H1 dx (.own x)) x (.ins C dx [])) (λv H2=>v=.non/\Q (.ref x) H2) E0
 have e1:(λ(vs:List V) (H1:Hp)=>∀ x dx,H1 x=none->H1 dx=none->dx ≠ x->sp (.ref x :: (vs ++ [])) (upd (upd H1 dx (.own x)) x (.ins C dx [])) (λv H2=>v=.non/\Q (.ref x) H2) E0)=λvs H1=>∀ x dx,H1 x=none->H1 dx=none->dx ≠ x->sp (.ref x :: vs) (upd (upd H1 dx (.own x)) x (.ins C dx [])) (λv H2=>v=.non/\Q (.ref x) H2) E0:=by
  funext vs H1
  rw [List.append_nil]
 rw [e1]
 exact q'
end
inductive Shw:V->Prop where
 | non:Shw .non
 | bl (b:Bool):Shw (.bl b)
 | int {i:Int} (h:i.natAbs < 10 ^ 60):Shw (.int i)
 | str {z:Str} (h:z.length<=1000) (k:∀ n ∈ z.cps.toList,n < 16 ^ 8):Shw (.str z)
section
variable {X:Cx}
def Eu (c:Str) (ta:TE):TE:=λσ H Q=>ta σ H λx H1=>Shw x/\c.length<=1000/\∀ z2:Str,Q (.str z2) H1
end
def Ew (K:PySem.W.Frag) (neg:Bool):R2:=λx y H Q=>∃ a b xs ys,x=.ref a/\y=.ref b/\SqT K H a xs/\SqT K H b ys /\
 ∃ f:Nat->Bool,(∀ j x y,xs[j]?=some x->ys[j]?=some y->EqI K H x y (f j))/\Q (.bl (if neg then !((List.range (min xs.length ys.length)).all f && xs.length == ys.length) else (List.range (min xs.length ys.length)).all f && xs.length == ys.length)) H
section
variable {X:Cx}
end
end L2
namespace L2
open PySem PySem.Spec PyProof.Rows
section
variable {X:Cx}
def DG (K:PySem.W.Frag):R2:=λx y H Q=>∃ l b xs zs,x=.ref l/\y=.ref b/\SqL K H l xs/\SqL K H b zs/\xs.length+zs.length<=sizeLine/\∀ p,H p=none->Q (.ref p) (upd H p (.lst (xs ++ zs)))
end
end L2
namespace L2
open PySem PySem.Spec PyProof.Rows
theorem aQ.no {P:Program} {w:World} {K:PySem.W.Frag} {mg:Str->Option Value} {base:Heap} {CX:CXT} {k:Nat} {f:Addr} {fd:FuncData} {ps:List Str} {sp:Sp} (h:∀ vs H Q E,¬ sp vs H Q E):aQ P w K mg base CX k f fd ps sp :=
 ⟨λvs H Q E q=>(h vs H Q E q).elim,λ_ _ _ H _ _ vs Q E _ _ _ _ q=>(h vs H Q E q).elim⟩
end L2
namespace L2
open PySem PySem.Spec PyProof.Rows
theorem cE {X:Cx} {K:PySem.W.Frag} {e:Expr} {f:Str} {pos:Pos} {ta:TE} (h:X.K=K) (he:PE X e ta) (hb:attributeBase e f X.env (eval e X.env)=eval e X.env):PE X (.Attribute e f pos) (yg K ta f):=h ▸ bu he hb
end L2
namespace L2
open PySem
set_option maxRecDepth 100000
inductive DEq (K:PySem.W.Frag) (H:Hp):Nat->V->V->Bool->Prop where
 | flat {n:Nat} {x y:V} (fx:bT x=true) (fy:bT y=true):DEq K H n x y (eqV x y)
 | same {n:Nat} (a:Addr):DEq K H n (.ref a) (.ref a) true
 | lst {n:Nat} {a b:Addr} {xs ys:List V} {f:Nat->Bool} (ne:a ≠ b) (ha:SqL K H a xs) (hb:SqL K H b ys) (hl:xs.length=ys.length) (h:∀ (j:Nat) (x y:V),xs[j]?=some x->ys[j]?=some y->DEq K H n x y (f j)):DEq K H (n+1) (.ref a) (.ref b) ((List.range xs.length).all f)
 | lst_ne {n:Nat} {a b:Addr} {xs ys:List V} (ne:a ≠ b) (ha:SqL K H a xs) (hb:SqL K H b ys) (hl:xs.length ≠ ys.length):DEq K H (n+1) (.ref a) (.ref b) false
 | tup {n:Nat} {a b:Addr} {xs ys:List V} {f:Nat->Bool} (ne:a ≠ b) (ha:SqT K H a xs) (hb:SqT K H b ys) (h:∀ (j:Nat) (x y:V),xs[j]?=some x->ys[j]?=some y->DEq K H n x y (f j)):DEq K H (n+1) (.ref a) (.ref b) ((List.range (min xs.length ys.length)).all f && xs.length == ys.length)
theorem iV {xs:List V} {its:List Value} (r:Vals xs its) {j:Nat} (h:j < its.toArray.size):∃ x,xs[j]?=some x/\RelV x its.toArray[j]:=by
 have j1:j < its.length:=by simpa using h
 have l1:=r.length
 have x1:xs[j]?=some xs[j]:=E3 (by omega)
 obtain ⟨u1,q1,r1⟩:=r.get x1
 have eu:its.toArray[j]=u1:=by
  have:=E3 j1
  rw [this] at q1;simpa using Option.some.inj q1
 exact ⟨xs[j],x1,eu ▸ r1⟩
section
variable {X:Cx} {pins:List (Addr × Obj)} {σ:St} {H:Hp} {s:Shared}
theorem DEq.at {n:Nat} {x y:V} {b:Bool} (e:DEq X.K H n x y b) (I:Inv X pins σ H s):∀ {A:Around} {u v:Value},A.units+n < cLine->RelV x u->RelV y v->SeqAt.EqAt A s u v b:=by
 induction e with
 | flat fx fy=>intro A u v hu rx ry;exact mj rx ry fx fy
 | same a =>
  intro A u v hu rx ry
  cases (show u=Value.ref a from rx)
  cases (show v=Value.ref a from ry)
  exact SeqAt.EqAt.same _
 | @lst n a b xs ys f ne ha hb hl h ih =>
  intro A u v hu rx ry
  cases (show u=Value.ref a from rx)
  cases (show v=Value.ref b from ry)
  obtain ⟨its,r,p,_⟩:=I.list ha
  obtain ⟨its',r',p',_⟩:=I.list hb
  have l1:=r.length
  have l2:=r'.length
  have h0:=SeqAt.RcAt.lists (A:=A) (e:=f) p.isList p'.isList (by simp only [List.size_toArray];omega) (by omega) (λj h1 h2=>by
   obtain ⟨x,e1,q1⟩:=iV r h1
   obtain ⟨y,e2,q2⟩:=iV r' h2
   exact ih j x y e1 e2 (by show A.units+1+n < cLine;omega) q1 q2)
  rw [show its.toArray.size=xs.length by simp only [List.size_toArray];omega] at h0
  exact SeqAt.EqAt.of_refs ne h0
 | @lst_ne n a b xs ys ne ha hb hl =>
  intro A u v hu rx ry
  cases (show u=Value.ref a from rx)
  cases (show v=Value.ref b from ry)
  obtain ⟨its,r,p,_⟩:=I.list ha
  obtain ⟨its',r',p',_⟩:=I.list hb
  have l1:=r.length
  have l2:=r'.length
  exact SeqAt.EqAt.of_refs ne (SeqAt.RcAt.lists_lengths p.isList p'.isList (by simp only [List.size_toArray,bne_iff_ne,ne_eq];omega) (by omega))
 | @tup n a b xs ys f ne ha hb h ih =>
  intro A u v hu rx ry
  cases (show u=Value.ref a from rx)
  cases (show v=Value.ref b from ry)
  obtain ⟨its,r,p,_⟩:=I.tuple ha
  obtain ⟨its',r',p',_⟩:=I.tuple hb
  have l1:=r.length
  have l2:=r'.length
  have h0:=SeqAt.RcAt.tuples (A:=A) (e:=f) (show s.heap.IsTuple a its.toArray from p) (show s.heap.IsTuple b its'.toArray from p') (by omega) (λj h1 h2=>by
   obtain ⟨x,e1,q1⟩:=iV r h1
   obtain ⟨y,e2,q2⟩:=iV r' h2
   exact ih j x y e1 e2 (by show A.units+1+n < cLine;omega) q1 q2)
  rw [show its.toArray.size=xs.length by simp only [List.size_toArray];omega,show its'.toArray.size=ys.length by simp only [List.size_toArray];omega] at h0
  exact SeqAt.EqAt.of_refs ne h0
end
def ve (K:PySem.W.Frag) (neg:Bool):R2:=λx y H Q=>∃ a b xs ys,x=.ref a/\y=.ref b/\SqL K H a xs/\SqL K H b ys /\
 ((xs.length ≠ ys.length/\Q (.bl neg) H)\/(xs.length=ys.length/\∃ f:Nat->Bool,(∀ (j:Nat) (x y:V),xs[j]?=some x->ys[j]?=some y->DEq K H 60 x y (f j))/\Q (.bl (if neg then !(List.range xs.length).all f else (List.range xs.length).all f)) H))
def DH (K:PySem.W.Frag) (neg:Bool):R2:=λx y H Q=>∃ a b xs ys,x=.ref a/\y=.ref b/\SqT K H a xs/\SqT K H b ys /\
 ∃ f:Nat->Bool,(∀ (j:Nat) (x y:V),xs[j]?=some x->ys[j]?=some y->DEq K H 60 x y (f j))/\Q (.bl (if neg then !((List.range (min xs.length ys.length)).all f && xs.length == ys.length) else (List.range (min xs.length ys.length)).all f && xs.length == ys.length)) H
section
variable {X:Cx}
theorem uw {pins:List (Addr × Obj)} {σ:St} {H:Hp} {s:Shared} {A:Around} {xs ys:List V} {its its' : List Value} {f:Nat->Bool} (I:Inv X pins σ H s) (hu:A.units+60 < cLine) (r:Vals xs its) (r' : Vals ys its')
  (hf:∀ (j:Nat) (x y:V),xs[j]?=some x->ys[j]?=some y->DEq X.K H 60 x y (f j)):∀ j (h1:j < its.toArray.size) (h2:j < its'.toArray.size),SeqAt.EqAt A s its.toArray[j] its'.toArray[j] (f j):=λj h1 h2=>by
 obtain ⟨x,e1,q1⟩:=iV r h1
 obtain ⟨y,e2,q2⟩:=iV r' h2
 exact (hf j x y e1 e2).at I hu q1 q2
theorem jv {k:Nat} (hr:bY k X.A):OpR X (compareOp .NotEq) (ve X.K true):=by
 intro pins s σ H x y v u Q I rx ry h
 obtain ⟨a,b,xs,ys,rfl,rfl,ha,hb,h⟩:=h
 cases (show v=Value.ref a from rx)
 cases (show u=Value.ref b from ry)
 obtain ⟨its,r,p,_⟩:=I.list ha
 obtain ⟨its',r',p',_⟩:=I.list hb
 have l1:=r.length
 have l2:=r'.length
 have hu:=hr.units
 rcases h with ⟨hn,q⟩ | ⟨hl,f,hf,q⟩
 ·refine SeqAt.RcNeAt.lists_lengths p.isList p'.isList (by simp only [List.size_toArray,bne_iff_ne,ne_eq];omega) (by omega) X.prog X.w X.xe _ ⟨.bl true,H,I,rfl,q⟩
 ·refine SeqAt.RcNeAt.lists (e:=f) p.isList p'.isList (by simp only [List.size_toArray];omega) (by omega) (uw I (by show X.A.units+1+60 < cLine;omega) r r' hf) X.prog X.w X.xe _ ⟨.bl _,H,I,rfl,?_⟩
  rw [show its.toArray.size=xs.length by simp only [List.size_toArray];omega]
  exact q
end
end L2
namespace L2
open PySem PySem.Spec PyProof.Rows
section
variable {κ:Type} [DecidableEq κ]
def cntK (ks:List κ):Nat->Nat
 | 0=>0
 | i+1=>match ks[i]? with
  | some k=>if k ∈ ks.take i then cntK ks i else cntK ks i+1
  | none=>cntK ks i
theorem jw (ks:List κ):∀ i,cntK ks i<=i
 | 0=>Nat.le_refl _
 | i+1=>by
  have ih:=jw ks i
  unfold cntK
  split
  ·split <;> omega
  ·omega
theorem fJ (ks:List κ):∀ i,i<=ks.length->(cntK ks i=i↔(ks.take i).Nodup)
 | 0,_=>by simp [cntK]
 | i+1,h=>by
  have ih:=fJ ks i (by omega)
  have le:=jw ks i
  have e:ks[i]?=some ks[i]:=E3 (by omega)
  have et:ks.take (i+1)=ks.take i ++ [ks[i]]:=by rw [List.take_add_one,e];rfl
  unfold cntK
  rw [e,et,List.nodup_append]
  dsimp only
  by_cases m:ks[i] ∈ ks.take i
  ·rw [if_pos m]
   exact ⟨λz=>absurd z (by omega),λz=>absurd rfl (z.2.2 _ m _ (by simp))⟩
  ·rw [if_neg m]
   refine ⟨λz=>⟨ih.mp (by omega),by simp,λa ha b hb=>?_⟩,λz=>by rw [ih.mpr z.1]⟩
   rw [show b=ks[i] by simpa using hb]
   exact λq=>m (q ▸ ha)
variable {prog:Program} {w:World} {A:Around} {E:Value->Shared->Prop} {s:Shared} {knd:KeyKind prog w κ}
theorem gy {h h' : Heap} {a:Addr} {S:κ->Bool} {n:Nat} (x:h.SetOf knd a S n) (k:∀ o,h.get? a=some o->h'.get? a=some o):h'.SetOf knd a S n:=by
 obtain ⟨o,es,ep,t,ho,r⟩:=x
 exact ⟨o,es,ep,t,k o ho,r⟩
theorem kg {h:Heap} {a:Addr} {S S' : κ->Bool} {n n' : Nat} (x:h.SetOf knd a S n) (e1:S=S') (e2:n=n'):h.SetOf knd a S' n':=e1 ▸ e2 ▸ x
theorem qL {R:Result->Shared->Prop} {I:Addr} {fp wr:List Addr} {G:Array GenState->Array GenState->Prop} {n:Nat} {P:Nat->Value->Prop} {St:Nat->Shared->Prop} (W:WalksS prog w A.in1 I fp wr G n P St) {a:Addr} (ha:a ∉ fp) {ks:List κ}
  (hv:∀ i v,P i v->∃ k,ks[i]?=some k/\knd.is k v=true/\v.scannable=true) (hb:n+1 < scanBound):∀ (d i:Nat) (s:Shared),n=i+d->St i s->s.heap.SetOf knd a (λk=>decide (k ∈ ks.take i)) (cntK ks i) ->
   (∀ s',Moved (a :: wr) G s s'->s'.heap.SetOf knd a (λk=>decide (k ∈ ks.take n)) (cntK ks n)->R (.ok (.ret .none)) s')->codeAny (model prog w) A (.builtin "set.update.loop" ⟨[.ref a,.ref I],[]⟩) R s:=by
 have hw:a ∉ wr:=λz=>ha (W.sub a z)
 intro d
 induction d with
 | zero =>
  intro i s e st x fin
  rw [show n=i by omega] at W fin
  refine codeAny_builtin (R:=R) (A:=A) F.entry_set_update_loop ?_
  rw [Around.under_plainId (A:=A) F.plain_set_update_loop _]
  show wpAny (model prog w) A.in1 (pyNext (.ref I) >>= _) _ _ s
  exact wpAny_bind (W.done s _ _ st λs' m=>wpAny_pure (fin s' (m.mono λb hb=>List.mem_cons_of_mem a hb) (gy x λo q=>m.heap a o hw q)))
 | succ d ih =>
  intro i s e st x fin
  refine codeAny_builtin (R:=R) (A:=A) F.entry_set_update_loop ?_
  rw [Around.under_plainId (A:=A) F.plain_set_update_loop _]
  show wpAny (model prog w) A.in1 (pyNext (.ref I) >>= _) _ _ s
  refine wpAny_bind (W.item i s _ _ (by omega) st λv s1 p st1 m=>?_)
  obtain ⟨k,ek,ik,sc⟩:=hv i v p
  have x1:=gy x λo q=>m.heap a o hw q
  show wpAny (model prog w) A.in1 (holding [v] (setAdd a v) >>= _) _ _ s1
  refine wpAny_bind (wpAny_holding (show wpAny (model prog w) A.in1 (setAdd a v) _ _ s1 from ?_))
  unfold setAdd
  refine wpAny_holding (wpAny_bind (knd.pyHash ik ?_))
  have le:=jw ks i
  refine wpAny_setAddHashed_of (knd:=knd) (s:={ s1 with toks:=s1.toks+1 }) ik sc x1 (by omega) λh' sb x2=>?_
  have et:ks.take (i+1)=ks.take i ++ [k]:=by rw [List.take_add_one,ek];rfl
  have x3:h'.SetOf knd a (λq=>decide (q ∈ ks.take (i+1))) (cntK ks (i+1)):=by
   refine kg x2 (funext λq=>?_) ?_
   ·rw [et]
    by_cases z:q ∈ ks.take i <;> by_cases y:q=k <;> simp [z,y]
   ·show (if decide (k ∈ ks.take i)=true then cntK ks i else cntK ks i+1)=match ks[i]? with | some k=>if k ∈ ks.take i then cntK ks i else cntK ks i+1 | none=>cntK ks i
    rw [ek]
    by_cases z:k ∈ ks.take i <;> simp [z]
  refine wpAny_pure ⟨plainId_quiet F.plain_set_update_loop _,ih (i+1) { s1 with heap:=h',toks:=s1.toks+1 } (by omega) (W.frame (i+1) s1 h' (s1.toks+1) st1 (Nat.le_succ _) λb hbf o q=>(sb.2 b λz=>ha (z ▸ hbf)).trans q) x3 λs2 m2 x4=>?_⟩
  refine fin s2 (Moved.trans W.gtrans ((m.mono λb hb=>List.mem_cons_of_mem a hb).then_heap (Nat.le_succ _) λb o hbn q=>?_) m2) x4
  exact (sb.2 b λz=>hbn (z ▸ List.mem_cons_self)).trans q
abbrev cn (led:Bool):Obj:={ cls:=.type "set",dict:=none,data:=.set #[] 0 (.fresh 0 0 led) }
def Filled (knd:KeyKind prog w κ) (s:Shared) (ks:List κ) (h' : Heap):Prop :=
 h'.SetOf knd s.heap.objs.size (λk=>decide (k ∈ ks)) (cntK ks ks.length)/\∀ b o,b < s.heap.objs.size->s.heap.get? b=some o->h'.get? b=some o
theorem rV {l:Addr} {items:Array Value} {ks:List κ} {led:Bool} (hh:A.handled=none) (hl:s.heap.IsList l items) (hk:∀ (i:Nat) (v:Value),items[i]?=some v->∃ k,ks[i]?=some k/\knd.is k v=true/\v.scannable=true) (hn:ks.length=items.size) (hb:items.size+1 < scanBound) :
  codeAny (model prog w) A (.call (.builtin "set.__init__") ⟨[.ref s.heap.objs.size,.ref l],[]⟩) (wants (λr s2=>r=.none/\∃ h' tk,s2 = { s with heap:=h',toks:=tk }/\Filled knd s ks h') E) { s with heap:=s.heap.push (cn led) }:=by
 have g0:(s.heap.push (cn led)).get? s.heap.objs.size=some (cn led):=Heap.get?_push_size s.heap rfl
 have ty:Shared.TypeIs { s with heap:=s.heap.push (cn led) } (.ref s.heap.objs.size) "set" := ⟨cn led,g0,rfl⟩
 refine codeAny_call_builtin F.called_set.init.plain F.entry_set_init (check_set_init_1 ty ?_)
 obtain ⟨⟨c1,c2,c3,c4⟩,ho,hc,m,hd⟩:=hl
 dsimp only at hc hd
 subst hc hd
 have g1:(s.heap.push (cn led)).get? l=some { cls:=.type "list",dict:=c2,data:=.seq items m,slots:=c4 }:=Heap.get?_push_of_some _ ho
 have y1:=F.sub_list_set
 have y2:=F.sub_list_frozenset
 have y3:(Value.type "list" == Value.type "dict")=false:=by decide
 have l1:(s.heap.push (cn led)).IsList l items:=⟨_,g1,rfl,m,rfl⟩
 have lt:l < s.heap.objs.size:=Heap.lt_size ho
 unfold Builtin.«set.__init__» Builtin.Frozenset.updateFrom noKeywords
 generalize hI:pyIter=it
 wp_walk
 subst hI
 refine wpAny_pyIter_list l1 (wpAny_bind (wpAny_runValue ?_))
 have nl:l ≠ (s.heap.push (cn led)).objs.size:=by rw [Heap.size_push];exact Nat.ne_of_lt (Nat.lt_succ_of_lt lt)
 have nf:s.heap.objs.size ∉ [(s.heap.push (cn led)).objs.size,l]:=by
  rw [Heap.size_push]
  intro z
  rcases List.mem_cons.mp z with z | z
  ·exact absurd z (Nat.ne_of_lt (Nat.lt_succ_self _))
  ·exact absurd (by simpa using z) (Nat.ne_of_gt lt)
 refine qL (knd:=knd) ((Walks.list (by simp [hh]) _ l nl items).toS) nf (ks:=ks) hk hb items.size 0 _ (Nat.zero_add _).symm ⟨⟨_,Heap.get?_push_size _ rfl,rfl,rfl⟩,l1.push _⟩ (kg ((setObjOf_fresh (knd:=knd) led).setOf (Heap.get?_push_of_some _ g0) (by unfold scanBound;omega)) (funext λk=>by simp) rfl) λs' mv x=>?_
 obtain ⟨h',g',d',t',o'⟩:=s'
 obtain rfl:g'=s.gens:=mv.gens
 obtain rfl:d'=s.drawn:=mv.drawn
 obtain rfl:o'=s.os:=mv.os
 refine wpAny_pure (show wpAny (model prog w) _ (ret Value.none) _ _ _ from wpAny_pure ⟨rfl,h',t',rfl,?_,λb o hb' q=>?_⟩)
 ·rw [← hn] at x
  exact kg x (funext λk=>by rw [List.take_length]) rfl
 ·refine mv.heap b o (λz=>?_) (Heap.get?_push_of_some _ (Heap.get?_push_of_some _ q))
  rcases List.mem_cons.mp z with z | z
  ·exact absurd z (Nat.ne_of_lt hb')
  ·have z2:b=(s.heap.push (cn led)).objs.size:=by simpa using z
   rw [Heap.size_push] at z2
   exact absurd z2 (Nat.ne_of_lt (Nat.lt_succ_of_lt hb'))
set_option maxRecDepth 100000 in
theorem qM {l:Addr} {items:Array Value} {ks:List κ} {Q:Value->Shared->Prop} (hh:A.handled=none) (hl:s.heap.IsList l items) (hk:∀ (i:Nat) (v:Value),items[i]?=some v->∃ k,ks[i]?=some k/\knd.is k v=true/\v.scannable=true) (hn:ks.length=items.size) (hb:items.size+1 < scanBound)
  (h:∀ h' tk,Filled knd s ks h'->Q (.ref s.heap.objs.size) { s with heap:=h',toks:=tk }):wpAny (model prog w) A (call (.type "set") [.ref l]) Q E s:=by
 obtain ⟨c,tl,mro⟩:=F.called_set.mro
 have a1:=F.called_set.made
 have a2:=F.called_set.sub
 have a3:=F.called_set.notType
 have a4:=F.called_set.canCreate
 have a5:=F.typeCall_set_1 (.ref l)
 refine wpAny_call (codeAny_of_tree (show wpAny (model prog w) _ (callAny (.type "set") _) _ _ _ from wpAny_pure ⟨Code.quiet_builtin _ (by decide +kernel),codeAny_builtin F.entry_type_call ?_⟩))
 rw [Around.under_plain (A:=A) (weight_type_call_type "set" [.ref l] []) rfl]
 repeat (any_goals (first | assumption | wp_step))
 refine codeAny_mono (code_set_new_1 (.ref l) (E:=E) (Q₁:=λob s1=>∃ led,ob=.ref s.heap.objs.size/\s1 = { s with heap:=s.heap.push (cn led) }) λled=>⟨led,rfl,rfl⟩) λr s1 hr=>?_
 cases r with
 | error e=>exact hr
 | ok fl =>
  cases fl with
  | ret ob =>
   obtain ⟨led,rfl,rfl⟩:=hr
   have g0:(s.heap.push (cn led)).get? s.heap.objs.size=some (cn led):=Heap.get?_push_size s.heap rfl
   have ty:Shared.TypeIs { s with heap:=s.heap.push (cn led) } (.ref s.heap.objs.size) "set" := ⟨cn led,g0,rfl⟩
   have b1:=F.called_set.init.lookup
   have b2:=F.called_set.init.bind (.ref s.heap.objs.size)
   repeat (any_goals (first | assumption | wp_step))
   refine codeAny_mono (rV (E:=E) (knd:=knd) (by simp [hh]) hl hk hn hb) λr2 s2 hr2=>?_
   cases r2 with
   | error e=>exact hr2
   | ok f2 =>
    cases f2 with
    | ret r =>
     obtain ⟨rfl,h',tk,rfl,x⟩:=hr2
     repeat (any_goals (first | assumption | wp_step))
     exact h h' tk x
    | _=>exact hr2.elim
  | _=>exact hr.elim
end
def jl (P:Program) (w:World) (a:Addr) (zs:List Str):HO:=.ext λh=>h.SetOf (strKind P w) a (λz=>decide (z ∈ zs)) (cntK zs zs.length)
section
variable {X:Cx}
theorem lM:∀ {zs:List Str} {us:List Value},Vals (zs.map V.str) us->∀ (i:Nat) (v:Value),us[i]?=some v->∃ z t,zs[i]?=some z/\v=.str z t
 | [],_,.nil,i,v,h=>by simp at h
 | z :: zs,_,.cons ⟨t,e⟩ r,0,v,h=>by simp at h;exact ⟨z,t,rfl,by rw [← h,e]⟩
 | z :: zs,_,.cons _ r,i+1,v,h=>by
  obtain ⟨z',t,e1,e2⟩:=lM r i v (by simpa using h)
  exact ⟨z',t,by simpa using e1,e2⟩
theorem dH (hc:X.calm=true):dz X (.type "set") (λxs H Q=>∃ (p:Addr) (zs:List Str),xs=[.ref p]/\SqL X.K H p (zs.map V.str)/\zs.length<=1000/\∀ l,H l=none->Q (.ref l) (upd H l (jl X.prog X.w l zs))):=by
 intro pins s σ H xs us Q I r h
 obtain ⟨p,zs,rfl,hS,hz,q⟩:=h
 obtain ⟨u,rfl,ru⟩:=r.one
 obtain rfl:u=Value.ref p:=ru
 obtain ⟨its,rv,pl,_⟩:=I.list hS
 have hl:=rv.length
 rw [List.length_map] at hl
 refine qM (knd:=strKind X.prog X.w) (ks:=zs) (I.ok.hd hc) pl.isList (λi v e=>?_) (by simpa using hl) (by unfold scanBound;simp;omega) λh' tk x=>?_
 ·obtain ⟨z,t,e1,rfl⟩:=lM rv i v (by simpa using e)
  exact ⟨z,e1,by show Value.isStrOf z (.str z t)=true;simp [Value.isStrOf],rfl⟩
 ·obtain ⟨x1,x2⟩:=x
  refine ⟨.ref s.heap.objs.size,_,I.laid (a:=s.heap.objs.size) (o:=jl X.prog X.w s.heap.objs.size zs) (h':=h') (t':=tk) (λb o q=>x2 b o (Heap.lt_size q) q) (Nat.le_refl _) ?_,rfl,q _ I.fresh⟩
  refine ⟨x1,?_,λh1 h2 y k=>gy y k⟩
  obtain ⟨o,_,_,_,g,_⟩:=x1
  exact ⟨o,g⟩
end
end L2
namespace L2
open PySem
def Asc (xs:Array Nat):Prop:=xs.toList.Pairwise (· < ·)
theorem Asc.lt {xs:Array Nat} (h:Asc xs) {i j:Nat} (hij:i < j) (hj:j < xs.size):xs[i] < xs[j]:=by
 have:=List.pairwise_iff_getElem.mp h i j (by simp;omega) (by simpa using hj) hij
 simpa using this
theorem rW {xs:Array Nat} (h:Asc xs) (j:Nat):∀ (fuel lo hi:Nat),lo<=hi->hi<=xs.size->hi - lo<=fuel ->
  (∀ (i:Nat) (hi' : i < xs.size),i < lo->xs[i] < j)->(∀ (i:Nat) (hi' : i < xs.size),hi<=i->j<=xs[i]) ->
  SetTable.below.go xs j fuel lo hi<=xs.size/\(∀ (i:Nat) (hi' : i < xs.size),i < SetTable.below.go xs j fuel lo hi->xs[i] < j)/\(∀ (i:Nat) (hi' : i < xs.size),SetTable.below.go xs j fuel lo hi<=i->j<=xs[i]):=by
 intro fuel
 induction fuel with
 | zero =>
  intro lo hi h1 h2 h3 h4 h5
  have e:lo=hi:=by omega
  subst e
  exact ⟨by unfold SetTable.below.go;exact h2,by unfold SetTable.below.go;exact h4,by unfold SetTable.below.go;exact h5⟩
 | succ fuel ih =>
  intro lo hi h1 h2 h3 h4 h5
  unfold SetTable.below.go
  by_cases c:lo < hi
  ·rw [if_pos c]
   have hm:(lo+hi) / 2 < xs.size:=by omega
   have eg:xs.getD ((lo+hi) / 2) j=xs[(lo+hi) / 2]:=by simp [Array.getD,hm]
   dsimp only
   rw [eg]
   by_cases c2:xs[(lo+hi) / 2] < j
   ·rw [if_pos c2]
    refine ih _ _ (by omega) h2 (by omega) (λi hi' hlt=>?_) h5
    by_cases e:i=(lo+hi) / 2
    ·subst e;exact c2
    ·exact Nat.lt_trans (h.lt (by omega) hm) c2
   ·rw [if_neg c2]
    refine ih _ _ (by omega) (by omega) (by omega) h4 λi hi' hle=>?_
    by_cases e:i=(lo+hi) / 2
    ·subst e;omega
    ·exact Nat.le_trans (Nat.le_of_not_lt c2) (Nat.le_of_lt (h.lt (by omega) hi'))
  ·rw [if_neg c]
   have e:lo=hi:=by omega
   subst e
   exact ⟨h2,h4,h5⟩
theorem gA {xs:Array Nat} (h:Asc xs) (j:Nat):SetTable.below xs j<=xs.size/\(∀ (i:Nat) (hi:i < xs.size),i < SetTable.below xs j->xs[i] < j)/\(∀ (i:Nat) (hi:i < xs.size),SetTable.below xs j<=i->j<=xs[i]) :=
 rW h j xs.size 0 xs.size (Nat.zero_le _) (Nat.le_refl _) (by omega) (λ_ _ z=>absurd z (by omega)) (λi hi z=>absurd z (by omega))
theorem pf {xs:Array Nat} (h:Asc xs) {i:Nat} (hi:i < xs.size):SetTable.below xs (xs[i]+1)=i+1:=by
 obtain ⟨b1,b2,b3⟩:=gA h (xs[i]+1)
 have c1:¬ SetTable.below xs (xs[i]+1)<=i:=λz=>absurd (b3 i hi z) (by omega)
 have c2:¬ i+1 < SetTable.below xs (xs[i]+1):=λz=>by
  have:=b2 (i+1) (by omega) z
  have:=h.lt (show i < i+1 by omega) (show i+1 < xs.size by omega)
  omega
 omega
theorem nZ {xs:Array Nat} (h:Asc xs):SetTable.below xs 0=0:=by
 obtain ⟨b1,b2,b3⟩:=gA h 0
 by_cases z:SetTable.below xs 0=0
 ·exact z
 ·exact absurd (b2 0 (by omega) (by omega)) (by omega)
theorem ph {xs:Array Nat} (h:Asc xs) {j:Nat} (hn:xs[SetTable.below xs j]? ≠ some j):Asc (SetTable.insertAt xs (SetTable.below xs j) j):=by
 obtain ⟨b1,b2,b3⟩:=gA h j
 unfold Asc
 rw [SetTable.toList_insertAt,List.pairwise_append]
 refine ⟨h.sublist (List.take_sublist _ _),List.pairwise_cons.mpr ⟨λb hb=>?_,h.sublist (List.drop_sublist _ _)⟩,λa ha b hb=>?_⟩
 ·obtain ⟨k,hk,rfl⟩:=List.mem_iff_getElem.mp hb
  have hk' : SetTable.below xs j+k < xs.size:=by simp at hk;omega
  have z:=b3 _ hk' (by omega)
  have e:(xs.toList.drop (SetTable.below xs j))[k]=xs[SetTable.below xs j+k]:=by simp
  rw [e]
  by_cases q:j=xs[SetTable.below xs j+k]
  ·exfalso
   by_cases k0:k=0
   ·subst k0
    refine hn ?_
    rw [Array.getElem?_eq_getElem (by omega)]
    simpa using q.symm
   ·have l1:=b3 _ (show SetTable.below xs j < xs.size by omega) (Nat.le_refl _)
    have l2:=h.lt (show SetTable.below xs j < SetTable.below xs j+k by omega) hk'
    omega
  ·omega
 ·have la:a < j:=by
   obtain ⟨k,hk,rfl⟩:=List.mem_iff_getElem.mp ha
   have hk' : k < SetTable.below xs j/\k < xs.size:=by simp at hk;omega
   have:=b2 k hk'.2 hk'.1
   simpa using this
  rcases List.mem_cons.mp hb with rfl | hb
  ·exact la
  ·obtain ⟨k,hk,rfl⟩:=List.mem_iff_getElem.mp hb
   have hk' : SetTable.below xs j+k < xs.size:=by simp at hk;omega
   have z:=b3 _ hk' (by omega)
   have e:(xs.toList.drop (SetTable.below xs j))[k]=xs[SetTable.below xs j+k]:=by simp
   rw [e];omega
def n5 (t:SetTable) (j:Nat):Prop:=t.place[SetTable.below t.place j]? ≠ some j
theorem kh {t:SetTable} {j:Nat} (h:t.slot j=.empty\/t.slot j=.dummy):n5 t j:=by
 intro e
 have:t.slot j=.live (SetTable.below t.place j):=by
  unfold SetTable.slot
  simp [e]
 rw [this] at h
 rcases h with h | h <;> cases h
theorem pj (t:SetTable) (f:Nat->Int) (h:Int):∀ (fuel:Nat) (p:SetTable.Probe),(∀ d,p.dummy=some d->n5 t d)->∀ j dm,SetTable.probe.go t f h fuel p=some (.empty j dm)->n5 t j/\∀ d,dm=some d->n5 t d:=by
 intro fuel
 induction fuel with
 | zero=>intro p _ j dm e;unfold SetTable.probe.go at e;cases e
 | succ fuel ih =>
  intro p hp j dm e
  unfold SetTable.probe.go at e
  have adv:∀ q:SetTable.Probe,(t.advance q).dummy=q.dummy:=λq=>by
   unfold SetTable.advance
   split <;> rfl
  split at e
  ·rename_i he
   injection e with e;injection e with e1 e2
   subst e1 e2
   exact ⟨kh (.inl he),hp⟩
  ·rename_i he
   refine ih _ (λd hd=>?_) j dm e
   rw [adv] at hd
   injection hd with hd
   subst hd
   exact kh (.inr he)
  ·split at e
   ·injection e with e;cases e
   ·refine ih _ (λd hd=>hp d ?_) j dm e
    rw [adv] at hd
    exact hd
theorem lq {t:SetTable} {h:Int} {j:Nat} {b:Bool} (e:t.freeSlot h=some (j,b)):n5 t j:=by
 unfold SetTable.freeSlot at e
 split at e
 ·rename_i j' dm he
  obtain ⟨a1,a2⟩:=pj t _ h _ _ (λd hd=>by simp [SetTable.probeStart] at hd) _ _ he
  injection e with e;injection e with e1 e2
  subst e1
  cases dm with
  | none=>exact a1
  | some d=>exact a2 d rfl
 ·cases e
theorem qN (n:Nat):Asc (Array.range n):=by
 unfold Asc
 rw [Array.toList_range]
 exact List.pairwise_lt_range
theorem dC (t:SetTable) (n:Nat):Asc (t.standIn n).place:=qN n
theorem pq {t:SetTable} (ha:Asc t.place) (es:Array (Int × Value)) (h:Int) (x:Value):Asc (layNew t es h x).2.1.place/\(layNew t es h x).2.1.led=t.led:=by
 unfold layNew
 split
 ·rename_i slot wd e
  have hp:Asc (t.put slot).1.place:=ph ha (lq e)
  dsimp only
  unfold SetTable.orStandIn
  split
  ·exact ⟨hp,rfl⟩
  ·exact ⟨dC _ _,rfl⟩
 ·exact ⟨dC _ _,rfl⟩
theorem n6 (f:Nat->Option Nat):∀ l:List Nat,((l.filterMap λj=>(f j).map (j,·)).map (·.1)).Sublist l
 | []=>by simp
 | j :: l=>by
  have ih:=n6 f l
  rw [List.filterMap_cons]
  cases e:f j with
  | none=>exact ih.trans (List.sublist_cons_self _ _)
  | some v=>exact ih.cons_cons j
theorem pA {t t' : SetTable} {hs:Array Int} {n:Nat} {o:Array Nat} (e:t.relaid hs n=some (t',o)):Asc t'.place/\t'.led=t.led:=by
 unfold SetTable.relaid SetTable.laid at e
 cases hc:SetTable.layClean (SetTable.sizeAbove n - 1) hs with
 | none=>rw [hc] at e;cases e
 | some owner =>
  rw [hc] at e
  injection e with e;injection e with e1 e2
  subst e1
  exact ⟨List.pairwise_lt_range.sublist (n6 _ _),rfl⟩
theorem mx {t:SetTable} (ha:Asc t.place) (es:Array (Int × Value)) (n:Nat):Asc (relayAll t es n).2.1.place/\(relayAll t es n).2.1.led=t.led:=by
 unfold relayAll
 split
 ·rename_i t' o e
  dsimp only
  split
  ·exact pA e
  ·exact ⟨dC _ _,rfl⟩
 ·exact ⟨dC _ _,rfl⟩
theorem dI {α:Type} : ∀ {l:List α} {i:Nat} {x:α},l[i]?=some x->(x :: l.eraseIdx i).Perm l
 | [],i,x,h=>by simp at h
 | a :: l,0,x,h=>by simp at h;subst h;exact .refl _
 | a :: l,i+1,x,h=>by
  have ih:=dI (l:=l) (i:=i) (x:=x) (by simpa using h)
  rw [List.eraseIdx_cons_succ]
  exact (List.Perm.swap _ _ _).trans (ih.cons a)
theorem ux {α:Type} (next:Nat->Nat):∀ (fuel k:Nat) (left:List α) (out:Array α),fuel=left.length->∃ l:List α,l.Perm left/\(pickOrder.go next fuel k left out).toList=out.toList ++ l:=by
 intro fuel
 induction fuel with
 | zero =>
  intro k left out e
  exact ⟨left,.refl _,by unfold pickOrder.go;rw [List.length_eq_zero_iff.mp e.symm];simp⟩
 | succ fuel ih =>
  intro k left out e
  have hlt:next k % left.length < left.length:=Nat.mod_lt _ (by omega)
  have eg:left[next k % left.length]?=some left[next k % left.length]:=E3 hlt
  unfold pickOrder.go
  rw [eg]
  dsimp only
  obtain ⟨l,p,el⟩:=ih (k+1) (left.eraseIdx (next k % left.length)) (out.push left[next k % left.length]) (by rw [List.length_eraseIdx_of_lt hlt];omega)
  exact ⟨left[next k % left.length] :: l,(p.cons _).trans (dI eg),by rw [el];simp⟩
theorem qO {α:Type} (next:Nat->Nat) (xs:Array α):(pickOrder next xs).toList.Perm xs.toList:=by
 obtain ⟨l,p,e⟩:=ux next xs.size 0 xs.toList #[] (by simp)
 have:(pickOrder next xs).toList=l:=by unfold pickOrder;rw [e];simp
 rw [this];exact p
def cK (w:World):Bool:=w.params.followText "set-order"
end L2
namespace L2
open PySem PySem.Spec PyProof.Rows
def iW:Value->Int
 | .int k _=>k
 | _=>0
structure fk (es:Array (Int × Value)) (ks:List Int):Prop where
 ent:∀ e ∈ es.toList,e.1=hashInt (iW e.2)/\∃ u,e.2=.int (iW e.2) u
 nd:(es.toList.map λe=>iW e.2).Nodup
 mem:∀ k,k ∈ ks↔k ∈ es.toList.map λe=>iW e.2
theorem fk.perm {es es' : Array (Int × Value)} {ks:List Int} (h:fk es ks) (p:es'.toList.Perm es.toList):fk es' ks :=
 ⟨λe he=>h.ent e (p.mem_iff.mp he),(p.map _).nodup_iff.mpr h.nd,λk=>(h.mem k).trans (p.map _).mem_iff.symm⟩
theorem fk.push {es:Array (Int × Value)} {ks:List Int} {k:Int} {u:Tok} (h:fk es ks) (hk:k ∉ ks):fk (es.push (hashInt k,.int k u)) (ks ++ [k]):=by
 refine ⟨λe he=>?_,?_,λq=>?_⟩
 ·rw [Array.toList_push] at he
  rcases List.mem_append.mp he with he | he
  ·exact h.ent e he
  ·rw [List.mem_singleton] at he;subst he;exact ⟨rfl,u,rfl⟩
 ·rw [Array.toList_push,List.map_append,List.nodup_append]
  refine ⟨h.nd,by simp,λa ha b hb=>?_⟩
  have eb:b=k:=by simpa [iW] using hb
  subst eb
  exact λe=>hk ((h.mem b).mpr (e ▸ ha))
 ·rw [Array.toList_push,List.map_append,List.mem_append,List.mem_append,h.mem q]
  simp [iW]
theorem fk.again {es:Array (Int × Value)} {ks:List Int} {k:Int} (h:fk es ks) (hk:k ∈ ks):fk es (ks ++ [k]) :=
 ⟨h.ent,h.nd,λq=>by
  rw [← h.mem q,List.mem_append,List.mem_singleton]
  exact ⟨λz=>z.elim id λz=>z ▸ hk,.inl⟩⟩
section
variable {prog:Program} {w:World} {A:Around} {E:Value->Shared->Prop} {s:Shared}
theorem fk.elems {es:Array (Int × Value)} {ks:List Int} (h:fk es ks):ElemsOf (intKind prog w) es.toList:=λe he=>by
 obtain ⟨h1,u,h2⟩:=h.ent e he
 refine ⟨⟨iW e.2,?_,h1⟩,?_⟩
 ·rw [h2];exact intKind_is _ _ _ _
 ·rw [h2];rfl
theorem fk.found {es:Array (Int × Value)} {ks:List Int} (h:fk es ks) {k:Int} {e:Int × Value} (he:e ∈ es.toList) (hk:(intKind prog w).is k e.2=true):k ∈ ks:=by
 obtain ⟨_,u,h2⟩:=h.ent e he
 refine (h.mem k).mpr (List.mem_map.mpr ⟨e,he,?_⟩)
 exact (intKind prog w).inj e.2 _ _ (by rw [h2];exact intKind_is _ _ _ _) hk
def cI (h:Heap) (a:Addr) (led:Bool) (ks:List Int) (n:Nat):Prop :=
 ∃ o es ep t,h.get? a=some o/\o.ExactSet/\o.data=.set es ep t/\fk es ks/\es.size < scanBound/\t.fits es.size=true/\Asc t.place/\t.led=led/\es.size=n
theorem cI.stay {h h' : Heap} {a:Addr} {led:Bool} {ks:List Int} {n:Nat} (x:cI h a led ks n) (k:∀ o,h.get? a=some o->h'.get? a=some o):cI h' a led ks n:=by
 obtain ⟨o,es,ep,t,ho,r⟩:=x
 exact ⟨o,es,ep,t,k o ho,r⟩
theorem cI.store {h:Heap} {a:Addr} {o:Obj} {es:Array (Int × Value)} {ep:Nat} {t:SetTable} (ho:h.get? a=some o) (hex:o.ExactSet) (hd:o.data=.set es ep t)
  {es' : Array (Int × Value)} {t' : SetTable} {ks:List Int} (he:fk es' ks) (hb:es'.size < scanBound) (hf:t'.fits es'.size=true) (ha:Asc t'.place) :
  (h.update a (Obj.putSet es' t')).get? a=some { o with data:=.set es' (ep+1) t' }/\cI (h.update a (Obj.putSet es' t')) a t'.led ks es'.size:=by
 have hg:(h.update a (Obj.putSet es' t')).get? a=some { o with data:=.set es' (ep+1) t' }:=by
  have:=Heap.get?_update_self (Obj.putSet es' t') ho (by rw [putSet_of es' t' hd];rfl)
  rw [putSet_of es' t' hd] at this;exact this
 exact ⟨hg,_,es',ep+1,t',hg,hex,rfl,he,hb,hf,ha,rfl,rfl⟩
theorem n8 {g:Bool->Sem Unit} (hg:∀ (b:Bool) (s₁:Shared) (Q' : Unit->Shared->Prop),Q' () s₁->wpAny (model prog w) A (g b) Q' E s₁)
  {a:Addr} {o:Obj} {es:Array (Int × Value)} {ep:Nat} {t:SetTable} (ho:s.heap.get? a=some o) (hex:o.ExactSet) (hd:o.data=.set es ep t)
  {es1:Array (Int × Value)} {t2:SetTable} {ks:List Int} {led:Bool} (he1:fk es1 ks)
  (hb1:es1.size < scanBound) (hf2:t2.fits es1.size=true) (ha2:Asc t2.place) (hl2:t2.led=led) {og:Bool} {R:Option Bool->Shared->Prop}
  (h:∀ h',Heap.SameBut a s.heap h'->cI h' a led ks es1.size->R (some true) { s with heap:=h' }) :
  wpAny (model prog w) A (do
    storeSet a es1 t2
    if (!og && t2.tooFull)=true then do
      g (relayAll t2 es1 (SetTable.grown es1.size)).2.2
      storeSet a (relayAll t2 es1 (SetTable.grown es1.size)).1 (relayAll t2 es1 (SetTable.grown es1.size)).2.1
      pure (some true)
     else pure (some true)) R E s:=by
 refine wpAny_bind (wpAny_storeSet_of ho hd ?_ (fits_of_scanBound hb1))
 obtain ⟨ho1,hS1⟩:=cI.store ho hex hd he1 hb1 hf2 ha2
 rw [hl2] at hS1
 have yz:=Heap.SameBut.update s.heap a (Obj.putSet es1 t2)
 split
 ·have hp:=relayAll_perm t2 es1 (SetTable.grown es1.size)
  have hfr:=relayAll_fits t2 es1 (SetTable.grown es1.size)
  obtain ⟨har,hlr⟩:=mx ha2 es1 (SetTable.grown es1.size)
  generalize hRl:relayAll t2 es1 (SetTable.grown es1.size)=Rl at hp hfr har hlr ⊢
  obtain ⟨es2,t3,DI⟩:=Rl
  dsimp only at hp hfr har hlr ⊢
  have hsz:es2.size=es1.size:=by rw [← Array.length_toList,hp.length_eq,Array.length_toList]
  have hb2:es2.size < scanBound:=by rw [hsz];exact hb1
  refine wpAny_bind (hg _ _ _ ?_)
  refine wpAny_bind (wpAny_storeSet_of ho1 rfl ?_ (fits_of_scanBound hb2))
  obtain ⟨_,hS2⟩:=cI.store ho1 hex rfl (he1.perm hp) hb2 hfr har
  rw [hsz,hlr,hl2] at hS2
  exact wpAny_pure (h _ (yz.trans (Heap.SameBut.update _ a _)) hS2)
 ·exact wpAny_pure (h _ yz hS1)
theorem addW {a:Addr} {led:Bool} {ks:List Int} {n:Nat} {k:Int} {u:Tok} {Q:Bool->Shared->Prop} (hS:cI s.heap a led ks n) (vf:n+1 < scanBound)
  (h:∀ h' n' b,Heap.SameBut a s.heap h'->n'<=n+1->cI h' a led (ks ++ [k]) n'->Q b { s with heap:=h' }) :
  wpAny (model prog w) A (setAddHashed a (.int k u) ((intKind prog w).hash k)) Q E s:=by
 obtain ⟨o,es,ep,t,ho,hex,hd,hE,hb,hf,hA,uy,hn⟩:=hS
 have vK:(intKind prog w).is k (.int k u)=true:=intKind_is _ _ _ _
 have hsc:(Value.int k u).scannable=true:=rfl
 have hel:=hE.elems (prog:=prog) (w:=w)
 have hb1:es.size+1 < scanBound:=by rw [hn];exact vf
 unfold setAddHashed setAddHashedIn
 refine wpAny_holding (wpAny_bind (wpAny_setState_of ho hd hf ?_))
 dsimp only
 rw [byScan_of hsc hb hel]
 simp only [↓reduceIte]
 unfold setAddByScan
 refine wpAny_bind ?_
 refine wpAny_bind (wpAny_rule ?_)
 refine wpAny_bind (wpAny_setScan_of vK ho hd hf hel ?_)
 cases hr:List.findIdx? (λe=>(intKind prog w).is k e.2) es.toList with
 | some j =>
  dsimp only
  obtain ⟨hj,hpj,_⟩:=List.findIdx?_eq_some_iff_getElem.mp hr
  have hk:k ∈ ks:=hE.found (List.getElem_mem hj) hpj
  refine wpAny_pure (wpAny_pure ?_)
  have e:s = { s with heap:=s.heap }:=by cases s;rfl
  rw [e]
  exact h s.heap n false (Heap.SameBut.refl a s.heap) (Nat.le_succ _) ⟨o,es,ep,t,ho,hex,hd,hE.again hk,hb,hf,hA,uy,hn⟩
 | none =>
  dsimp only
  have hk:k ∉ ks:=λz=>by
   obtain ⟨e,he,q⟩:=List.mem_map.mp ((hE.mem k).mp z)
   have:=List.findIdx?_eq_none_iff.mp hr e he
   obtain ⟨_,v,h2⟩:=hE.ent e he
   rw [h2] at this
   rw [← q] at this
   rw [intKind_is] at this
   exact Bool.noConfusion this
  have hgw:∀ (b:Bool) {s₁:Shared} {Q' : Unit->Shared->Prop},Q' () s₁->wpAny (model prog w) A (match b with | true=>rule "set.scan.the-table-gave-way" | false=>pure ()) Q' E s₁ :=
   λb s₁ Q' hq=>by cases b <;> first | exact wpAny_pure hq | exact wpAny_rule hq
  have lN:=layNew_perm t es ((intKind prog w).hash k) (.int k u)
  have oh:=layNew_fits t es ((intKind prog w).hash k) (.int k u)
  obtain ⟨hA1,hl1⟩:=pq hA es ((intKind prog w).hash k) (.int k u)
  generalize hL:layNew t es ((intKind prog w).hash k) (.int k u)=L at lN oh hA1 hl1 ⊢
  obtain ⟨es1,t1,og,Ex⟩:=L
  dsimp only at lN oh hA1 hl1 ⊢
  have hE1:fk es1 (ks ++ [k]):=(hE.push (u:=u) hk).perm lN
  have AE:es1.size=n+1:=by rw [← Array.length_toList,lN.length_eq,Array.length_toList,Array.size_push,hn]
  have yB : es1.size < scanBound:=by rw [AE];exact vf
  refine wpAny_bind (hgw _ ?_)
  have yC:∀ h',Heap.SameBut a s.heap h'->cI h' a led (ks ++ [k]) es1.size->Q true { s with heap:=h' }:=λh' hsb hS'=>h h' _ true hsb (by omega) hS'
  split
  ·refine wpAny_bind ?_
   rw [hashByValue_scannable 8 hsc]
   refine wpAny_pure ?_
   refine n8 ?_ ho hex hd hE1 yB ?_ ?_ (led:=led) ?_ ?_
   ·intro b s₁ Q' hq;cases b <;> first | exact wpAny_pure hq | exact wpAny_rule hq
   ·split
    ·exact oh
    ·exact SetTable.fits_plain_off oh
   ·split
    ·exact hA1
    ·exact hA1
   ·split
    ·exact hl1.trans uy
    ·exact hl1.trans uy
   ·intro h' hsb hS';dsimp only;exact wpAny_pure (yC h' hsb hS')
  ·refine wpAny_bind (wpAny_pure ?_)
   simp only [↓reduceIte]
   refine n8 ?_ ho hex hd hE1 yB oh hA1 (hl1.trans uy) ?_
   ·intro b s₁ Q' hq;cases b <;> first | exact wpAny_pure hq | exact wpAny_rule hq
   ·intro h' hsb hS';dsimp only;exact wpAny_pure (yC h' hsb hS')
theorem pB (a:Value) {Q₁:Value->Shared->Prop}
  (h:Q₁ (.ref s.heap.objs.size) { s with heap:=s.heap.push { cls:=.type "set",dict:=none,data:=.set #[] 0 (.fresh 0 0 (!cK w)) } }) :
  codeAny (model prog w) A (.call (.builtin "set.__new__") ⟨[.type "set",a],[]⟩) (wants Q₁ E) s:=by
 refine codeAny_of_tree ?_
 show wpAny _ A.in1 (do checkBuiltinCall "set.__new__" ⟨[.type "set",a],[]⟩;again (.builtin "set.__new__" ⟨[.type "set",a],[]⟩)) _ _ s
 refine wpAny_bind (wpAny_of_eq (F.newCall_set_1 a) (wpAny_pure ⟨plainId_quiet F.plain_set_new _,codeAny_builtin F.entry_set_new ?_⟩))
 rw [Around.under_plainId F.plain_set_new _]
 unfold Builtin.«set.__new__» Builtin.Frozenset.newClass
 have mr:=sub_set_self
 obtain ⟨hp,g,d,tk,os⟩:=s
 dsimp only
 wp_walk
 refine wpAny_askSetting (wpAny_pure ?_)
 dsimp only
 simp only [newObj]
 refine wpAny_bind (wpAny_alloc (wpAny_pure ?_))
 exact wpAny_pure h
theorem vZ {R:Result->Shared->Prop} {I:Addr} {fp wr:List Addr} {G:Array GenState->Array GenState->Prop} {n:Nat} {P:Nat->Value->Prop} {St:Nat->Shared->Prop} (W:WalksS prog w A.in1 I fp wr G n P St) {a:Addr} (ha:a ∉ fp) {ks:List Int} {led:Bool}
  (hv:∀ i v,P i v->∃ k u,ks[i]?=some k/\v=.int k u) (hb:n+1 < scanBound):∀ (d i:Nat) (s:Shared) (m:Nat),n=i+d->m<=i->St i s->cI s.heap a led (ks.take i) m ->
   (∀ s' m',Moved (a :: wr) G s s'->cI s'.heap a led (ks.take n) m'->m'<=n->R (.ok (.ret .none)) s')->codeAny (model prog w) A (.builtin "set.update.loop" ⟨[.ref a,.ref I],[]⟩) R s:=by
 have hw:a ∉ wr:=λz=>ha (W.sub a z)
 intro d
 induction d with
 | zero =>
  intro i s m e hm st x fin
  rw [show n=i by omega] at W fin
  refine codeAny_builtin (R:=R) (A:=A) F.entry_set_update_loop ?_
  rw [Around.under_plainId (A:=A) F.plain_set_update_loop _]
  show wpAny (model prog w) A.in1 (pyNext (.ref I) >>= _) _ _ s
  exact wpAny_bind (W.done s _ _ st λs' mv=>wpAny_pure (fin s' m (mv.mono λb hb=>List.mem_cons_of_mem a hb) (x.stay λo q=>mv.heap a o hw q) hm))
 | succ d ih =>
  intro i s m e hm st x fin
  refine codeAny_builtin (R:=R) (A:=A) F.entry_set_update_loop ?_
  rw [Around.under_plainId (A:=A) F.plain_set_update_loop _]
  show wpAny (model prog w) A.in1 (pyNext (.ref I) >>= _) _ _ s
  refine wpAny_bind (W.item i s _ _ (by omega) st λv s1 p st1 mv=>?_)
  obtain ⟨k,u,ek,rfl⟩:=hv i v p
  have x1:=x.stay λo q=>mv.heap a o hw q
  show wpAny (model prog w) A.in1 (holding [.int k u] (setAdd a (.int k u)) >>= _) _ _ s1
  refine wpAny_bind (wpAny_holding (show wpAny (model prog w) A.in1 (setAdd a (.int k u)) _ _ s1 from ?_))
  unfold setAdd
  refine wpAny_holding (wpAny_bind ((intKind prog w).pyHash (k:=k) (intKind_is _ _ _ _) ?_))
  refine addW (s:={ s1 with toks:=s1.toks+1 }) x1 (by omega) λh' n' _ sb hn' x2=>?_
  have et:ks.take (i+1)=ks.take i ++ [k]:=by rw [List.take_add_one,ek];rfl
  rw [← et] at x2
  refine wpAny_pure ⟨plainId_quiet F.plain_set_update_loop _,ih (i+1) { s1 with heap:=h',toks:=s1.toks+1 } n' (by omega) (by omega) (W.frame (i+1) s1 h' (s1.toks+1) st1 (Nat.le_succ _) λb hbf o q=>(sb.2 b λz=>ha (z ▸ hbf)).trans q) x2 λs2 m2 mv2 x4 hm2=>?_⟩
  refine fin s2 m2 (Moved.trans W.gtrans ((mv.mono λb hb=>List.mem_cons_of_mem a hb).then_heap (Nat.le_succ _) λb o hbn q=>?_) mv2) x4 hm2
  exact (sb.2 b λz=>hbn (z ▸ List.mem_cons_self)).trans q
theorem v7 {l:Addr} {items:Array Value} {ks:List Int} (hh:A.handled=none) (hl:s.heap.IsList l items) (hk:∀ (i:Nat) (v:Value),items[i]?=some v->∃ k u,ks[i]?=some k/\v=.int k u) (hn:ks.length=items.size) (hb:items.size+1 < scanBound) :
  codeAny (model prog w) A (.call (.builtin "set.__init__") ⟨[.ref s.heap.objs.size,.ref l],[]⟩) (wants (λr s2=>r=.none/\∃ h' tk m,s2 = { s with heap:=h',toks:=tk }/\cI h' s.heap.objs.size (!cK w) ks m/\m<=ks.length/\∀ b o,b < s.heap.objs.size->s.heap.get? b=some o->h'.get? b=some o) E) { s with heap:=s.heap.push (cn (!cK w)) }:=by
 have g0:(s.heap.push (cn (!cK w))).get? s.heap.objs.size=some (cn (!cK w)):=Heap.get?_push_size s.heap rfl
 have ty:Shared.TypeIs { s with heap:=s.heap.push (cn (!cK w)) } (.ref s.heap.objs.size) "set" := ⟨cn (!cK w),g0,rfl⟩
 refine codeAny_call_builtin F.called_set.init.plain F.entry_set_init (check_set_init_1 ty ?_)
 obtain ⟨⟨c1,c2,c3,c4⟩,ho,hc,m,hd⟩:=hl
 dsimp only at hc hd
 subst hc hd
 have g1:(s.heap.push (cn (!cK w))).get? l=some { cls:=.type "list",dict:=c2,data:=.seq items m,slots:=c4 }:=Heap.get?_push_of_some _ ho
 have y1:=F.sub_list_set
 have y2:=F.sub_list_frozenset
 have y3:(Value.type "list" == Value.type "dict")=false:=by decide
 have l1:(s.heap.push (cn (!cK w))).IsList l items:=⟨_,g1,rfl,m,rfl⟩
 have lt:l < s.heap.objs.size:=Heap.lt_size ho
 have s0:cI (s.heap.push (cn (!cK w))) s.heap.objs.size (!cK w) [] 0:=⟨_,#[],0,_,g0,⟨rfl,rfl,rfl⟩,rfl,⟨by simp,by simp,by simp⟩,by unfold scanBound;decide,rfl,List.Pairwise.nil,rfl,rfl⟩
 unfold Builtin.«set.__init__» Builtin.Frozenset.updateFrom noKeywords
 generalize hI:pyIter=it
 generalize hB:cK w=bt at *
 wp_walk
 subst hI
 refine wpAny_pyIter_list l1 (wpAny_bind (wpAny_runValue ?_))
 have nl:l ≠ (s.heap.push (cn (!bt))).objs.size:=by rw [Heap.size_push];exact Nat.ne_of_lt (Nat.lt_succ_of_lt lt)
 have nf:s.heap.objs.size ∉ [(s.heap.push (cn (!bt))).objs.size,l]:=by
  rw [Heap.size_push]
  intro z
  rcases List.mem_cons.mp z with z | z
  ·exact absurd z (Nat.ne_of_lt (Nat.lt_succ_self _))
  ·exact absurd (by simpa using z) (Nat.ne_of_gt lt)
 refine vZ ((Walks.list (by simp [hh]) _ l nl items).toS) nf (ks:=ks) (led:=!bt) hk hb items.size 0 _ 0 (Nat.zero_add _).symm (Nat.le_refl _) ⟨⟨_,Heap.get?_push_size _ rfl,rfl,rfl⟩,l1.push _⟩ (s0.stay λo q=>Heap.get?_push_of_some _ q) λs' m' mv x hm'=>?_
 obtain ⟨h',g',d',t',o'⟩:=s'
 obtain rfl:g'=s.gens:=mv.gens
 obtain rfl:d'=s.drawn:=mv.drawn
 obtain rfl:o'=s.os:=mv.os
 refine wpAny_pure (show wpAny (model prog w) _ (ret Value.none) _ _ _ from wpAny_pure ⟨rfl,h',t',m',rfl,?_,by omega,λb o hb' q=>?_⟩)
 ·rw [← hn,List.take_length] at x
  exact x
 ·refine mv.heap b o (λz=>?_) (Heap.get?_push_of_some _ (Heap.get?_push_of_some _ q))
  rcases List.mem_cons.mp z with z | z
  ·exact absurd z (Nat.ne_of_lt hb')
  ·have z2:b=(s.heap.push (cn (!bt))).objs.size:=by simpa using z
   rw [Heap.size_push] at z2
   exact absurd z2 (Nat.ne_of_lt (Nat.lt_succ_of_lt hb'))
set_option maxRecDepth 100000 in
theorem qP {l:Addr} {items:Array Value} {ks:List Int} {Q:Value->Shared->Prop} (hh:A.handled=none) (hl:s.heap.IsList l items) (hk:∀ (i:Nat) (v:Value),items[i]?=some v->∃ k u,ks[i]?=some k/\v=.int k u) (hn:ks.length=items.size) (hb:items.size+1 < scanBound)
  (h:∀ h' tk m,cI h' s.heap.objs.size (!cK w) ks m->m<=ks.length->(∀ b o,b < s.heap.objs.size->s.heap.get? b=some o->h'.get? b=some o)->Q (.ref s.heap.objs.size) { s with heap:=h',toks:=tk }):wpAny (model prog w) A (call (.type "set") [.ref l]) Q E s:=by
 obtain ⟨c,tl,mro⟩:=F.called_set.mro
 have a1:=F.called_set.made
 have a2:=F.called_set.sub
 have a3:=F.called_set.notType
 have a4:=F.called_set.canCreate
 have a5:=F.typeCall_set_1 (.ref l)
 refine wpAny_call (codeAny_of_tree (show wpAny (model prog w) _ (callAny (.type "set") _) _ _ _ from wpAny_pure ⟨Code.quiet_builtin _ (by decide +kernel),codeAny_builtin F.entry_type_call ?_⟩))
 rw [Around.under_plain (A:=A) (weight_type_call_type "set" [.ref l] []) rfl]
 repeat (any_goals (first | assumption | wp_step))
 refine codeAny_mono (pB (.ref l) (E:=E) (Q₁:=λob s1=>ob=.ref s.heap.objs.size/\s1 = { s with heap:=s.heap.push (cn (!cK w)) }) ⟨rfl,rfl⟩) λr s1 hr=>?_
 cases r with
 | error e=>exact hr
 | ok fl =>
  cases fl with
  | ret ob =>
   obtain ⟨rfl,rfl⟩:=hr
   have g0:(s.heap.push (cn (!cK w))).get? s.heap.objs.size=some (cn (!cK w)):=Heap.get?_push_size s.heap rfl
   have ty:Shared.TypeIs { s with heap:=s.heap.push (cn (!cK w)) } (.ref s.heap.objs.size) "set" := ⟨cn (!cK w),g0,rfl⟩
   have b1:=F.called_set.init.lookup
   have b2:=F.called_set.init.bind (.ref s.heap.objs.size)
   repeat (any_goals (first | assumption | wp_step))
   refine codeAny_mono (v7 (E:=E) (by simp [hh]) hl hk hn hb) λr2 s2 hr2=>?_
   cases r2 with
   | error e=>exact hr2
   | ok f2 =>
    cases f2 with
    | ret r =>
     obtain ⟨rfl,h',tk,m,rfl,x,hm,kp⟩:=hr2
     repeat (any_goals (first | assumption | wp_step))
     exact h h' tk m x hm kp
    | _=>exact hr2.elim
  | _=>exact hr.elim
end
end L2
namespace L2
open PySem PySem.Spec PyProof.Rows
set_option maxRecDepth 100000
theorem aV:Slot "set_iterator" "__next__" "set_iterator.__next__" :=
 .of (owner := "set_iterator") (n := "__next__") (by rw [typeLookup_type,builtinLookup_eq_fast];kernel_rfl) (by decide +kernel) (by decide +kernel) (by decide +kernel)
  (by first | exact .inl (by decide +kernel) | exact .inr (by decide +kernel)) (by rw [isSubtype_type];kernel_rfl)
theorem eU:Slot "set_iterator" "__iter__" "set_iterator.__iter__" :=
 .of (owner := "set_iterator") (n := "__iter__") (by rw [typeLookup_type,builtinLookup_eq_fast];kernel_rfl) (by decide +kernel) (by decide +kernel) (by decide +kernel)
  (by first | exact .inl (by decide +kernel) | exact .inr (by decide +kernel)) (by rw [isSubtype_type];kernel_rfl)
theorem b7:entryFor table "set_iterator.__next__" = some Builtin.«set_iterator.__next__»:=entryFor_of_fast (by kernel_rfl)
theorem iX:entryFor table "set_iterator.__iter__" = some Builtin.«dict_keyiterator.__iter__» :=
 entryFor_alias (id' := "dict_keyiterator.__iter__") (by kernel_rfl) rfl (by decide +kernel) (by kernel_rfl)
theorem ki:entryFor table "set.__iter__" = some Builtin.«frozenset.__iter__» :=
 entryFor_alias (id' := "frozenset.__iter__") (by kernel_rfl) rfl (by decide +kernel) (by kernel_rfl)
theorem ck (a:Value):argsOk "set_iterator.__next__" ⟨[a],[]⟩:=by unfold argsOk;kernel_rfl
theorem jm (a:Value):argsOk "set_iterator.__iter__" ⟨[a],[]⟩:=by unfold argsOk;kernel_rfl
abbrev dg (first:Value) (i:Int) (s:Value) (n ep:Nat):Obj:={ cls:=.type "set_iterator",data:=.fields #[first,.int i 0,s,.int n 0,.int ep 0] }
section
variable {prog:Program} {w:World} {A:Around} {E:Value->Shared->Prop} {s:Shared}
theorem my {src:Source} {n:Nat} {Q:Nat->Shared->Prop} (hn:n ≠ 0) (h:Q (w.draws src (s.drawn.get src) % n) { s with drawn:=s.drawn.bump src }) :
  wpAny (model prog w) A (choose src n) Q E s:=λ_ _ _=>⟨hn,h⟩
theorem kj {α:Type} : ∀ (n:Nat) (xs:List α) (s:Shared) {Q:List α->Shared->Prop},n=xs.length->(∀ ys d,ys.Perm xs->Q ys { s with drawn:=d })->wpAny (model prog w) A (drawOrder n xs) Q E s:=by
 intro n
 induction n with
 | zero =>
  intro xs s Q e h
  have:xs=[]:=List.length_eq_zero_iff.mp e.symm
  subst this
  unfold drawOrder
  exact wpAny_pure (h [] s.drawn (.refl _))
 | succ n ih =>
  intro xs s Q e h
  cases xs with
  | nil=>simp at e
  | cons x r =>
   unfold drawOrder
   refine wpAny_bind (my (by simp) ?_)
   generalize hi:w.draws Source.order (s.drawn.get Source.order) % (x :: r).length=i
   have hlt:i < (x :: r).length:=by rw [← hi];exact Nat.mod_lt _ (by simp)
   have eg:(x :: r)[i]?=some (x :: r)[i]:=E3 hlt
   rw [eg]
   try dsimp only
   refine wpAny_bind (ih _ _ (by rw [List.length_eraseIdx_of_lt hlt];omega) λys d p=>wpAny_pure ?_)
   exact h _ d ((p.cons _).trans (dI eg))
theorem qQ {I a:Addr} {slot i:Nat} {o:Obj} {es:Array (Int × Value)} {ep:Nat} {t:SetTable} {Q:Option Value->Shared->Prop}
  (hI:s.heap.get? I=some (dg (.int slot 0) i (.ref a) es.size ep)) (ho:s.heap.get? a=some o) (hd:o.data=.set es ep t) (hf:t.fits es.size=true)
  {x:Value} {nx:Nat} (hN:∀ (Q' : Option (Value × Nat)->Shared->Prop) E',Q' (some (x,nx)) s->wpAny (model prog w) A.in1 (setNext a slot i ep) Q' E' s)
  (hQ:∀ h',h'.get? I=some (dg (.int nx 0) ((i+1:Nat):Int) (.ref a) es.size ep)->Heap.SameBut I s.heap h'->Q (some x) { s with heap:=h' }) :
  wpAny (model prog w) A (pyNext (.ref I)) Q E s:=by
 have hT:s.TypeIs (.ref I) "set_iterator" := ⟨_,hI,rfl⟩
 unfold pyNext
 refine wpAny_bind (wpAny_attempt (wpAny_callSpecial?_slot (name:=Str.ofString "__next__") hT aV (wpAny_call_entry aV hT b7 ?_ (ck _))))
 unfold Builtin.«set_iterator.__next__»
 refine wpAny_bind (m:=slotArgs "__next__" 0 _) (wpAny_pure ?_)
 refine wpAny_bind (wpAny_fieldsOf hI rfl ?_)
 try dsimp only
 refine wpAny_bind (wpAny_setEntries_of ho hd hf ?_)
 rw [if_neg (by simp)]
 try dsimp only
 simp only [Int.toNat_natCast]
 refine wpAny_bind (hN _ _ ?_)
 try dsimp only
 refine wpAny_bind (wpAny_setField_rec hI (by simp) λh1 g1 sb1=>?_)
 refine wpAny_bind (wpAny_setField_rec (s:={ s with heap:=h1 }) g1 (by simp) λh2 g2 sb2=>?_)
 refine wpAny_pure ⟨x,rfl,wpAny_pure (hQ h2 ?_ (sb1.trans sb2))⟩
 rw [g2]
 simp [dg,rawInt]
theorem qR {I a:Addr} {slot i:Nat} {o:Obj} {es:Array (Int × Value)} {ep:Nat} {t:SetTable} {Q:Option Value->Shared->Prop} (hh:A.handled=none)
  (hI:s.heap.get? I=some (dg (.int slot 0) i (.ref a) es.size ep)) (ho:s.heap.get? a=some o) (hd:o.data=.set es ep t) (hf:t.fits es.size=true)
  (hN:∀ (Q' : Option (Value × Nat)->Shared->Prop) E',Q' none s->wpAny (model prog w) A.in1 (setNext a slot i ep) Q' E' s)
  (hQ:∀ h',Heap.ExtBut I s.heap h'->Q none { s with heap:=h' }) :
  wpAny (model prog w) A (pyNext (.ref I)) Q E s:=by
 have hT:s.TypeIs (.ref I) "set_iterator" := ⟨_,hI,rfl⟩
 unfold pyNext
 refine wpAny_bind (wpAny_attempt (wpAny_callSpecial?_slot (name:=Str.ofString "__next__") hT aV (wpAny_call_entry aV hT b7 ?_ (ck _))))
 unfold Builtin.«set_iterator.__next__»
 refine wpAny_bind (m:=slotArgs "__next__" 0 _) (wpAny_pure ?_)
 refine wpAny_bind (wpAny_fieldsOf hI rfl ?_)
 try dsimp only
 refine wpAny_bind (wpAny_setEntries_of ho hd hf ?_)
 rw [if_neg (by simp)]
 try dsimp only
 simp only [Int.toNat_natCast]
 refine wpAny_bind (hN _ _ ?_)
 try dsimp only
 refine wpAny_bind (wpAny_setField hI rfl (by simp) ?_)
 show wpAny _ _ (newExc (.type "StopIteration") [] >>= _) _ _ _
 refine wpAny_bind ?_
 simp only [newExc,newTuple]
 refine wpAny_bind (wpAny_newObj_type ?_ (by size_fits))
 refine wpAny_bind (m:=firstArgMember _ _) (wpAny_of_eq (a:=Value.none) (by first | rfl | (simp only [firstArgMember];rfl)) ?_)
 refine wpAny_newObj_type ?_ (by size_fits)
 simp only [raiseNew]
 refine wpAny_bind (wpAny_handled ?_)
 rw [show A.in1.handled=none from hh]
 refine wpAny_bind (wpAny_pure (wpAny_throw ?_))
 refine wpAny_bind (wpAny_isInstance (T := "StopIteration") (b:=true) ⟨_,Heap.get?_push_size _ rfl,rfl⟩ isSubtype_stop ?_)
 exact wpAny_pure (hQ _ (((Heap.SameBut.update ..).extBut.push _).push _))
theorem pC {I a tp:Addr} {i:Nat} {o:Obj} {es:Array (Int × Value)} {ep:Nat} {t:SetTable} {places:List Nat} {m:Nat} {to:Obj} {Q:Option Value->Shared->Prop}
  (hI:s.heap.get? I=some (dg (.ref tp) i (.ref a) es.size ep)) (ht:s.heap.get? tp=some to) (htd:to.data=.seq (places.map λ(p:Nat)=>rawInt p).toArray m) (ho:s.heap.get? a=some o) (hd:o.data=.set es ep t) (hf:t.fits es.size=true)
  {p:Nat} (hp:places[i]?=some p) {e:Int × Value} (he:es[p]?=some e)
  (hQ:∀ h',h'.get? I=some (dg (.ref tp) ((i+1:Nat):Int) (.ref a) es.size ep)->Heap.SameBut I s.heap h'->Q (some e.2) { s with heap:=h' }) :
  wpAny (model prog w) A (pyNext (.ref I)) Q E s:=by
 have hT:s.TypeIs (.ref I) "set_iterator" := ⟨_,hI,rfl⟩
 unfold pyNext
 refine wpAny_bind (wpAny_attempt (wpAny_callSpecial?_slot (name:=Str.ofString "__next__") hT aV (wpAny_call_entry aV hT b7 ?_ (ck _))))
 unfold Builtin.«set_iterator.__next__»
 refine wpAny_bind (m:=slotArgs "__next__" 0 _) (wpAny_pure ?_)
 refine wpAny_bind (wpAny_fieldsOf hI rfl ?_)
 try dsimp only
 refine wpAny_bind (wpAny_setEntries_of ho hd hf ?_)
 rw [if_neg (by simp)]
 try dsimp only
 refine wpAny_bind (wpAny_seqItems ht htd ?_)
 try dsimp only
 have eg:(places.map λ(p:Nat)=>rawInt p).toArray[(i:Int).toNat]?=some (.int p 0):=by simp [hp,rawInt]
 rw [eg]
 try dsimp only
 unfold setNextDrawn
 refine wpAny_bind (wpAny_bind (wpAny_setState_of ho hd hf ?_))
 try dsimp only
 rw [if_neg (by simp)]
 refine wpAny_bind (wpAny_pure ?_)
 simp only [Int.toNat_natCast,he]
 refine wpAny_pure ?_
 refine wpAny_bind (wpAny_setField_rec hI (by simp) λh1 g1 sb1=>?_)
 refine wpAny_pure ⟨e.2,rfl,wpAny_pure (hQ h1 ?_ sb1)⟩
 rw [g1]
 simp [dg,rawInt]
theorem kl {I a tp:Addr} {i:Nat} {o:Obj} {es:Array (Int × Value)} {ep:Nat} {t:SetTable} {places:List Nat} {m:Nat} {to:Obj} {Q:Option Value->Shared->Prop} (hh:A.handled=none)
  (hI:s.heap.get? I=some (dg (.ref tp) i (.ref a) es.size ep)) (ht:s.heap.get? tp=some to) (htd:to.data=.seq (places.map λ(p:Nat)=>rawInt p).toArray m) (ho:s.heap.get? a=some o) (hd:o.data=.set es ep t) (hf:t.fits es.size=true)
  (hp:places[i]?=none) (hQ:∀ h',Heap.ExtBut I s.heap h'->Q none { s with heap:=h' }) :
  wpAny (model prog w) A (pyNext (.ref I)) Q E s:=by
 have hT:s.TypeIs (.ref I) "set_iterator" := ⟨_,hI,rfl⟩
 unfold pyNext
 refine wpAny_bind (wpAny_attempt (wpAny_callSpecial?_slot (name:=Str.ofString "__next__") hT aV (wpAny_call_entry aV hT b7 ?_ (ck _))))
 unfold Builtin.«set_iterator.__next__»
 refine wpAny_bind (m:=slotArgs "__next__" 0 _) (wpAny_pure ?_)
 refine wpAny_bind (wpAny_fieldsOf hI rfl ?_)
 try dsimp only
 refine wpAny_bind (wpAny_setEntries_of ho hd hf ?_)
 rw [if_neg (by simp)]
 try dsimp only
 refine wpAny_bind (wpAny_seqItems ht htd ?_)
 try dsimp only
 have eg:(places.map λ(p:Nat)=>rawInt p).toArray[(i:Int).toNat]?=none:=by simp at hp ⊢;exact hp
 rw [eg]
 try dsimp only
 refine wpAny_bind (wpAny_setField_rec hI (by simp) λh1 g1 sb1=>?_)
 refine wpAny_bind (wpAny_setField (s:={ s with heap:=h1 }) g1 rfl (by simp) ?_)
 show wpAny _ _ (newExc (.type "StopIteration") [] >>= _) _ _ _
 refine wpAny_bind ?_
 simp only [newExc,newTuple]
 refine wpAny_bind (wpAny_newObj_type ?_ (by size_fits))
 refine wpAny_bind (m:=firstArgMember _ _) (wpAny_of_eq (a:=Value.none) (by first | rfl | (simp only [firstArgMember];rfl)) ?_)
 refine wpAny_newObj_type ?_ (by size_fits)
 simp only [raiseNew]
 refine wpAny_bind (wpAny_handled ?_)
 rw [show A.in1.handled=none from hh]
 refine wpAny_bind (wpAny_pure (wpAny_throw ?_))
 refine wpAny_bind (wpAny_isInstance (T := "StopIteration") (b:=true) ⟨_,Heap.get?_push_size _ rfl,rfl⟩ isSubtype_stop ?_)
 exact wpAny_pure (hQ _ (((sb1.trans (Heap.SameBut.update ..)).extBut.push _).push _))
theorem km {I:Addr} {first:Value} {i:Int} {v:Value} {n ep:Nat} {Q:Value->Shared->Prop} (hI:s.heap.get? I=some (dg first i v n ep)) (h:Q (.ref I) s):wpAny (model prog w) A (pyIter (.ref I)) Q E s:=by
 have hT:s.TypeIs (.ref I) "set_iterator" := ⟨_,hI,rfl⟩
 refine wpAny_pyIter_slot hT eU (wpAny_call_entry eU hT iX ?_ (jm _))
 show wpAny _ _ (ret (.ref I)) _ _ s
 exact wpAny_pure ⟨_,rfl, "set_iterator",_,hT,aV.lookup,h⟩
theorem iq {a:Addr} {o:Obj} {es:Array (Int × Value)} {ep:Nat} {t:SetTable} {slot i:Nat} (hb:cK w=true) (ho:s.heap.get? a=some o) (hd:o.data=.set es ep t) (hf:t.fits es.size=true)
  {Q:Option (Value × Nat)->Shared->Prop} (h:Q (((pickOrder (w.params.setOrder a ep) es)[i]?).map λe=>(e.2,slot)) s):wpAny (model prog w) A (setNext a slot i ep) Q E s:=by
 have hb' : ((Setting.mk prog w.params).params.followText "set-order")=true:=hb
 unfold setNext
 refine wpAny_bind (wpAny_setState_of ho hd hf ?_)
 try dsimp only
 unfold setsByText
 refine wpAny_bind (wpAny_bind (wpAny_askSetting (wpAny_pure ?_)))
 show wpAny _ _ (if (Setting.mk prog w.params).params.followText "set-order" = true then _ else _) _ _ _
 rw [if_pos hb',if_neg (by simp)]
 unfold setWalk
 refine wpAny_bind (wpAny_bind (wpAny_setState_of ho hd hf ?_))
 try dsimp only
 unfold setsByText
 refine wpAny_bind (wpAny_bind (wpAny_askSetting (wpAny_pure ?_)))
 show wpAny _ _ (if (Setting.mk prog w.params).params.followText "set-order" = true then _ else _) _ _ _
 rw [if_pos hb']
 refine wpAny_bind (wpAny_askSetting (wpAny_pure (wpAny_pure h)))
theorem gj {a:Addr} {o:Obj} {es:Array (Int × Value)} {ep:Nat} {t:SetTable} {slot i:Nat} (hb:cK w=false) (ho:s.heap.get? a=some o) (hd:o.data=.set es ep t) (hf:t.fits es.size=true) (hl:t.led=true) (hp:(!t.plain && decide (es.size > 1))=false)
  {Q:Option (Value × Nat)->Shared->Prop} (h:Q (match es[SetTable.below t.place slot]?,t.place[SetTable.below t.place slot]? with | some (_,x),some j=>some (x,j+1) | _,_=>none) s):wpAny (model prog w) A (setNext a slot i ep) Q E s:=by
 have hb' : ((Setting.mk prog w.params).params.followText "set-order")=false:=hb
 unfold setNext
 refine wpAny_bind (wpAny_setState_of ho hd hf ?_)
 try dsimp only
 unfold setsByText
 refine wpAny_bind (wpAny_bind (wpAny_askSetting (wpAny_pure ?_)))
 show wpAny _ _ (if (Setting.mk prog w.params).params.followText "set-order" = true then _ else _) _ _ _
 rw [if_neg (by rw [hb'];exact Bool.false_ne_true)]
 show wpAny _ _ (if (!t.plain && decide (es.size > 1))=true then _ else _) _ _ _
 rw [if_neg (by rw [hp];exact Bool.false_ne_true)]
 show wpAny _ _ ((if (!t.led && !es.isEmpty)=true then unsupported "set:maker-not-led" else pure ()) >>= _) _ _ _
 rw [hl,if_neg (by simp)]
 exact wpAny_bind (wpAny_pure (wpAny_pure h))
end
end L2
namespace L2
open PySem PySem.Spec PyProof.Rows
set_option maxRecDepth 100000
section
variable {prog:Program} {w:World} {A:Around} {E:Value->Shared->Prop} {s:Shared}
abbrev oi:Array GenState->Array GenState->Prop:=λg g'=>g'=g
theorem lO {I:Addr} {h' : Heap} (sb:Heap.SameBut I s.heap h'):Moved [I] oi s { s with heap:=h' } :=
 ⟨λb o hb e=>(sb.2 b λz=>hb (z ▸ List.mem_cons_self)).trans e,rfl,rfl,rfl,Nat.le_refl _⟩
theorem lP {I:Addr} {h' : Heap} (sb:Heap.ExtBut I s.heap h'):Moved [I] oi s { s with heap:=h' } :=
 ⟨λb o hb e=>sb b o (λz=>hb (z ▸ List.mem_cons_self)) e,rfl,rfl,rfl,Nat.le_refl _⟩
theorem kn (hh:A.handled=none) {I a:Addr} (hne:a ≠ I) {o:Obj} {es:Array (Int × Value)} {ep:Nat} {t:SetTable} (hd:o.data=.set es ep t) (hf:t.fits es.size=true) {ord:List Value} (hlen:ord.length=es.size) (sl:Nat->Nat)
  (hN:∀ (i:Nat) (x:Value) (s:Shared) (Q' : Option (Value × Nat)->Shared->Prop) E',s.heap.get? a=some o->ord[i]?=some x->Q' (some (x,sl (i+1))) s->wpAny (model prog w) A.in1 (setNext a (sl i) i ep) Q' E' s)
  (hE:∀ (s:Shared) (Q' : Option (Value × Nat)->Shared->Prop) E',s.heap.get? a=some o->Q' none s->wpAny (model prog w) A.in1 (setNext a (sl es.size) es.size ep) Q' E' s) :
  WalksS prog w A I [I,a] [I] oi es.size (λi v=>ord[i]?=some v) (λi s=>s.heap.get? I=some (dg (.int (sl i) 0) i (.ref a) es.size ep)/\s.heap.get? a=some o) where
 sub:=λb hb=>by simp at hb;simp [hb]
 grefl:=λ_=>rfl
 gtrans:=λ_ _ _ h1 h2=>h2.trans h1
 frame:=λi s h' tk st _ k=>⟨k I (by simp) _ st.1,k a (by simp) _ st.2⟩
 item:=λi s Q E hi st hQ=>by
  have ex:ord[i]?=some ord[i]:=E3 (by omega)
  refine qQ st.1 st.2 hd hf (x:=ord[i]) (nx:=sl (i+1)) (λQ' E' q=>hN i _ s Q' E' st.2 ex q) λh' g sb=>?_
  exact hQ _ _ ex ⟨g,(sb.2 a hne).trans st.2⟩ (lO sb)
 done:=λs Q E st hQ=>qR hh st.1 st.2 hd hf (λQ' E' q=>hE s Q' E' st.2 q) λh' eb=>hQ _ (lP eb)
 self:=λi s Q E st hQ=>km st.1 hQ
theorem oj (hh:A.handled=none) {I a tp:Addr} (hne:a ≠ I) (hnt:tp ≠ I) {o to:Obj} {es:Array (Int × Value)} {ep m:Nat} {t:SetTable} (hd:o.data=.set es ep t) (hf:t.fits es.size=true) {places:List Nat} (htd:to.data=.seq (places.map λ(p:Nat)=>rawInt p).toArray m)
  (hpl:places.length=es.size) {ord:List Value} (AF:∀ (i:Nat),i < es.size->∃ p e,places[i]?=some p/\es[p]?=some e/\ord[i]?=some e.2) :
  WalksS prog w A I [I,a,tp] [I] oi es.size (λi v=>ord[i]?=some v) (λi s=>s.heap.get? I=some (dg (.ref tp) i (.ref a) es.size ep)/\s.heap.get? a=some o/\s.heap.get? tp=some to) where
 sub:=λb hb=>by simp at hb;simp [hb]
 grefl:=λ_=>rfl
 gtrans:=λ_ _ _ h1 h2=>h2.trans h1
 frame:=λi s h' tk st _ k=>⟨k I (by simp) _ st.1,k a (by simp) _ st.2.1,k tp (by simp) _ st.2.2⟩
 item:=λi s Q E hi st hQ=>by
  obtain ⟨p,e,h1,h2,h3⟩:=AF i hi
  refine pC st.1 st.2.2 htd st.2.1 hd hf h1 h2 λh' g sb=>?_
  exact hQ _ _ h3 ⟨g,(sb.2 a hne).trans st.2.1,(sb.2 tp hnt).trans st.2.2⟩ (lO sb)
 done:=λs Q E st hQ=>kl hh st.1 st.2.2 htd st.2.1 hd hf (List.getElem?_eq_none (by omega)) λh' eb=>hQ _ (lP eb)
 self:=λi s Q E st hQ=>km st.1 hQ
theorem rX {a:Addr} {o:Obj} {es:Array (Int × Value)} {ep:Nat} {t:SetTable} {Q:Value->Shared->Prop} (ho:s.heap.get? a=some o) (hex:o.ExactSet) (hd:o.data=.set es ep t) (hb:es.size < scanBound) (hf:t.fits es.size=true) (ha:Asc t.place) (hl:t.led = !cK w)
  (h:∀ (I:Addr) (h' : Heap) (d:Drawn) (ord:List Value) (fp:List Addr) (St:Nat->Shared->Prop),(∀ b u,s.heap.get? b=some u->h'.get? b=some u)->ord.Perm (es.toList.map (·.2)) ->
   (∀ A' : Around,A'.handled=none->WalksS prog w A' I fp [I] oi es.size (λi v=>ord[i]?=some v) St)->St 0 { s with heap:=h',drawn:=d }->s.heap.objs.size<=I->(∀ b ∈ fp,b=a\/s.heap.objs.size<=b)->Q (.ref I) { s with heap:=h',drawn:=d }) :
  wpAny (model prog w) A (pyIter (.ref a)) Q E s:=by
 have hT:s.TypeIs (.ref a) "set" := ⟨o,ho,hex.1⟩
 have la:a < s.heap.objs.size:=Heap.lt_size ho
 refine wpAny_pyIter_slot hT F.slot_set_iter (wpAny_call_entry F.slot_set_iter hT ki ?_ (F.args_set_iter_1 _))
 unfold Builtin.«frozenset.__iter__» Builtin.Frozenset.slot0
 refine wpAny_bind (wpAny_bind (m:=slotArgs "__iter__" 0 _) (wpAny_pure ?_))
 unfold Builtin.Frozenset.addrOf
 refine wpAny_pure ?_
 unfold Builtin.Frozenset.sizeOf
 refine wpAny_bind (wpAny_bind (wpAny_setEntries_of ho hd hf (wpAny_pure ?_)))
 unfold setDrawn
 refine wpAny_bind (wpAny_bind (wpAny_setState_of ho hd hf ?_))
 try dsimp only
 unfold setsByText
 refine wpAny_bind (wpAny_bind (wpAny_askSetting (wpAny_pure ?_)))
 refine wpAny_pure ?_
 show wpAny _ _ (if (!cK w && (!t.plain && decide (es.size > 1)))=true then _ else _) _ _ _
 have hsz:es.toList.length=es.size:=Array.length_toList
 by_cases c:(!cK w && (!t.plain && decide (es.size > 1)))=true
 ·rw [if_pos c]
  refine wpAny_bind (kj es.size (List.range es.size) s (by simp) λys d p=>?_)
  refine wpAny_bind (wpAny_newTuple ?_ ?_)
  rotate_left
  ·rw [List.length_map,p.length_eq,List.length_range];unfold scanBound at hb;unfold sizeLine;omega
  generalize hto:({ cls:=.type "tuple",data:=.seq (ys.map λ(i:Nat)=>rawInt i).toArray } : Obj)=to
  have gt:(s.heap.push to).get? s.heap.objs.size=some to:=by rw [← hto];exact Heap.get?_push_size _ rfl
  have ga:(s.heap.push to).get? a=some o:=Heap.get?_push_of_some _ ho
  refine wpAny_bind (m:=setEpoch a) (wpAny_setEpoch_of (s:={ s with heap:=s.heap.push to,drawn:=d }) ga hd hf ?_)
  refine wpAny_bind (wpAny_newObj_type ?_ (by size_fits))
  have hI:((s.heap.push to).push (dg (.ref s.heap.objs.size) (0:Nat) (.ref a) es.size ep)).get? (s.heap.push to).objs.size=some (dg (.ref s.heap.objs.size) (0:Nat) (.ref a) es.size ep):=Heap.get?_push_size _ rfl
  refine wpAny_pure ⟨_,rfl, "set_iterator",_,⟨_,hI,rfl⟩,aV.lookup,?_⟩
  have hp:∀ i,i < es.size->∃ p e,ys[i]?=some p/\es[p]?=some e/\(ys.map λp=>(es[p]?.map (·.2)).getD .none)[i]?=some e.2:=λi hi=>by
   have hi' : i < ys.length:=by rw [p.length_eq,List.length_range];exact hi
   have e1:ys[i]?=some ys[i]:=E3 hi'
   have lt:ys[i] < es.size:=List.mem_range.mp (p.mem_iff.mp (List.getElem_mem hi'))
   have e2:es[ys[i]]?=some es[ys[i]]:=Array.getElem?_eq_getElem lt
   exact ⟨ys[i],es[ys[i]],e1,e2,by rw [List.getElem?_map,e1];simp [e2]⟩
  have lN:(ys.map λp=>(es[p]?.map (·.2)).getD Value.none).Perm (es.toList.map (·.2)):=by
   refine (p.map _).trans (List.Perm.of_eq ?_)
   apply List.ext_getElem
   ·simp
   ·intro i h1 h2
    simp at h1
    simp [h1]
  refine h _ _ d _ [(s.heap.push to).objs.size,a,s.heap.objs.size] _ (λb u e=>Heap.get?_push_of_some _ (Heap.get?_push_of_some _ e)) lN
   (λA' hA=>oj hA (places:=ys) (to:=to) (m:=0) (by rw [Heap.size_push];exact Nat.ne_of_lt (Nat.lt_succ_of_lt la)) (by rw [Heap.size_push];exact Nat.ne_of_lt (Nat.lt_succ_self _)) hd hf (by rw [← hto]) (by rw [p.length_eq,List.length_range]) hp)
   ⟨hI,Heap.get?_push_of_some _ ga,Heap.get?_push_of_some _ gt⟩ (by rw [Heap.size_push];exact Nat.le_succ _) λb hb=>?_
  rcases List.mem_cons.mp hb with rfl | hb
  ·exact .inr (by rw [Heap.size_push];exact Nat.le_succ _)
  ·rcases List.mem_cons.mp hb with rfl | hb
   ·exact .inl rfl
   ·have:b=s.heap.objs.size:=by simpa using hb
    exact .inr (by rw [this];exact Nat.le_refl _)
 ·rw [if_neg c]
  refine wpAny_bind (wpAny_pure ?_)
  refine wpAny_bind (m:=setEpoch a) (wpAny_setEpoch_of ho hd hf ?_)
  refine wpAny_bind (wpAny_newObj_type ?_ (by size_fits))
  have hI:(s.heap.push (dg (.int (0:Nat) 0) (0:Nat) (.ref a) es.size ep)).get? s.heap.objs.size=some (dg (.int (0:Nat) 0) (0:Nat) (.ref a) es.size ep):=Heap.get?_push_size _ rfl
  refine wpAny_pure ⟨_,rfl, "set_iterator",_,⟨_,hI,rfl⟩,aV.lookup,?_⟩
  have ne:a ≠ s.heap.objs.size:=Nat.ne_of_lt la
  have fpa:∀ b ∈ [s.heap.objs.size,a],b=a\/s.heap.objs.size<=b:=λb hb=>by
   rcases List.mem_cons.mp hb with rfl | hb
   ·exact .inr (Nat.le_refl _)
   ·exact .inl (by simpa using hb)
  cases hbt:cK w with
  | true =>
   have pp:=qO (w.params.setOrder a ep) es
   have hlen:((pickOrder (w.params.setOrder a ep) es).toList.map (·.2)).length=es.size:=by rw [List.length_map,pp.length_eq,hsz]
   refine h _ _ s.drawn ((pickOrder (w.params.setOrder a ep) es).toList.map (·.2)) [s.heap.objs.size,a] _ (λb u e=>Heap.get?_push_of_some _ e) (pp.map _)
    (λA' hA=>kn hA ne hd hf hlen (λ_=>0) (λi x s' Q' E' g ex q=>iq hbt g hd hf ?_) λs' Q' E' g q=>iq hbt g hd hf ?_) ⟨hI,Heap.get?_push_of_some _ ho⟩ (Nat.le_refl _) fpa
   ·rw [List.getElem?_map,Array.getElem?_toList] at ex
    cases e:(pickOrder (w.params.setOrder a ep) es)[i]? with
    | none=>rw [e] at ex;cases ex
    | some z=>rw [e] at ex;injection ex with ex;subst ex;exact q
   ·have e:(pickOrder (w.params.setOrder a ep) es)[es.size]?=none:=by
     rw [← Array.getElem?_toList]
     exact List.getElem?_eq_none (by rw [List.length_map] at hlen;omega)
    rw [e];exact q
  | false =>
   have hl' : t.led=true:=by rw [hl,hbt];rfl
   have hp:(!t.plain && decide (es.size > 1))=false:=by
    rw [hbt] at c
    simpa using c
   have hps:t.place.size=es.size:=by
    have:=hf
    simp only [SetTable.fits,Bool.and_eq_true,beq_iff_eq] at this
    exact this.1
   have bel:∀ i,i<=es.size->SetTable.below t.place (match i with | 0=>0 | k+1=>t.place.getD k 0+1)=i:=λi hi=>by
    cases i with
    | zero=>exact nZ ha
    | succ k =>
     have hk:k < t.place.size:=by omega
     have eg:t.place.getD k 0=t.place[k]:=by simp [Array.getD,hk]
     show SetTable.below t.place (t.place.getD k 0+1)=k+1
     rw [eg];exact pf ha hk
   refine h _ _ s.drawn (es.toList.map (·.2)) [s.heap.objs.size,a] _ (λb u e=>Heap.get?_push_of_some _ e) (.refl _)
    (λA' hA=>kn hA ne hd hf (by rw [List.length_map,hsz]) (λi=>match i with | 0=>0 | k+1=>t.place.getD k 0+1) (λi x s' Q' E' g ex q=>gj hbt g hd hf hl' hp ?_) λs' Q' E' g q=>gj hbt g hd hf hl' hp ?_) ⟨hI,Heap.get?_push_of_some _ ho⟩ (Nat.le_refl _) fpa
   ·have hi:i < es.size:=by
     obtain ⟨z,_⟩:=E4.mp ex
     rw [List.length_map,hsz] at z;exact z
    rw [bel i (Nat.le_of_lt hi)]
    have e1:es[i]?=some es[i]:=Array.getElem?_eq_getElem hi
    have e2:t.place[i]?=some t.place[i]:=Array.getElem?_eq_getElem (by omega)
    have e3:x=es[i].2:=by
     rw [List.getElem?_map,Array.getElem?_toList,e1] at ex
     injection ex with ex;exact ex.symm
    rw [e1,e2]
    have e4:t.place.getD i 0=t.place[i]:=by simp [Array.getD,show i < t.place.size by omega]
    subst e3
    have q2:Q' (some (es[i].2,t.place.getD i 0+1)) s':=q
    rw [e4] at q2
    exact q2
   ·rw [bel es.size (Nat.le_refl _)]
    have e1:es[es.size]?=none:=Array.getElem?_eq_none (Nat.le_refl _)
    rw [e1];exact q
end
end L2
namespace L2
open PySem PySem.Spec PyProof.Rows
set_option maxRecDepth 100000
section
variable {prog:Program} {w:World} {A:Around} {E:Value->Shared->Prop} {s:Shared}
theorem qS {ord:List Value} {acc:Array Value} {n:Nat} (h:ItemsOf (λi v=>ord[i]?=some v) acc n) (hn:ord.length=n):acc.toList=ord:=by
 apply List.ext_getElem
 ·rw [Array.length_toList,h.1,hn]
 ·intro i h1 h2
  have e:ord[i]?=some acc[i]:=h.2 i acc[i] (Array.getElem?_eq_getElem (by simpa using h1))
  rw [E3 h2] at e
  injection e with e
  simpa using e.symm
theorem om {a:Addr} {o:Obj} {es:Array (Int × Value)} {ep:Nat} {t:SetTable} {Q:List Value->Shared->Prop} (hh:A.handled=none) (ho:s.heap.get? a=some o) (hex:o.ExactSet) (hd:o.data=.set es ep t) (hb:es.size < scanBound) (hf:t.fits es.size=true) (ha:Asc t.place) (hl:t.led = !cK w)
  (h:∀ (ord:List Value) (s' : Shared),ord.Perm (es.toList.map (·.2))->(∀ b u,s.heap.get? b=some u->s'.heap.get? b=some u)->s'.gens=s.gens->s'.os=s.os->s.heap.objs.size < s'.heap.objs.size->Q ord s') :
  wpAny (model prog w) A (collect (.ref a)) Q E s:=by
 have la:a < s.heap.objs.size:=Heap.lt_size ho
 unfold collect
 refine wpAny_bind (wpAny_runValue (codeAny_builtin F.entry_proto_collect ?_))
 rw [Around.under_plainId F.plain_proto_collect _]
 show wpAny _ A.in1 (newList [] >>= λl=>again (.builtin "list.__iadd__" ⟨[l,.ref a],[]⟩)) _ _ s
 refine wpAny_bind (wpAny_newObj_type ?_)
 refine wpAny_pure ⟨plainId_quiet F.plain_list_iadd _,codeAny_builtin F.entry_list_iadd ?_⟩
 rw [Around.under_plainId F.plain_list_iadd _]
 generalize hlo:({ cls:=.type "list",data:=.seq ([]:List Value).toArray } : Obj)=lo
 have g1:(s.heap.push lo).get? a=some o:=Heap.get?_push_of_some _ ho
 have gS:(s.heap.push lo).get? s.heap.objs.size=some lo:=by rw [← hlo];exact Heap.get?_push_size _ rfl
 have hT1:Shared.TypeIs { s with heap:=s.heap.push lo } (.ref a) "set" := ⟨o,g1,hex.1⟩
 show wpAny _ A.in1 (Builtin.List.listExtendWith (.ref s.heap.objs.size) (.ref a) (.ref s.heap.objs.size)) _ _ _
 unfold Builtin.List.listExtendWith
 refine wpAny_bind (wpAny_typeOf hT1 ?_)
 have h1:Builtin.List.listSameRef (.ref s.heap.objs.size) (.ref a)=false:=by simp [Builtin.List.listSameRef];exact Nat.ne_of_gt la
 have h2:(Value.type "set" == Value.type "list")=false:=by decide
 have h3:(Value.type "set" == Value.type "tuple")=false:=by decide
 simp only [h1,h2,h3,Bool.or_false,Bool.false_eq_true,if_false]
 refine wpAny_bind (rX (s:={ s with heap:=s.heap.push lo }) g1 hex hd hb hf ha hl λI h' d ord fp St kp pm W st hI hfp=>?_)
 have g2:h'.get? a=some o:=kp a o g1
 have hT2:Shared.TypeIs { s with heap:=h',drawn:=d } (.ref a) "set" := ⟨o,g2,hex.1⟩
 refine wpAny_bind (wpAny_holding ?_)
 unfold Builtin.List.listLengthHint
 refine wpAny_bind (wpAny_specialOf hT2 F.slot_set_len.lookup ?_)
 (generalize hid:("set.__len__" : String)=id0;(fail_if_success (clear hid id0));wp_delta;rw [show splitId id0=some ("set", "__len__") from by subst hid;decide +kernel];subst hid)
 refine wpAny_bind (wpAny_isInstance (b:=true) hT2 sub_set_self ?_)
 refine wpAny_bind (wpAny_typeOf hT2 ?_)
 refine wpAny_pure ?_
 show wpAny _ A.in1 (rule "list.extend.makes-room" >>= λ_=>Builtin.List.listTouch (.ref s.heap.objs.size) >>= λ_ =>
  again (.builtin "list.extend.loop" ⟨[.ref s.heap.objs.size,.ref I,.ref s.heap.objs.size],[]⟩)) _ _ _
 refine wpAny_bind (wpAny_rule ?_)
 have hS₁:h'.get? s.heap.objs.size=some lo:=kp _ _ gS
 rw [← hlo] at hS₁
 refine wpAny_bind ?_
 show wpAny _ A.in1 (updateSeq s.heap.objs.size (·.push .none) >>= λ_=>updateSeq s.heap.objs.size (·.pop)) _ _ _
 refine wpAny_bind (wpAny_updateSeq hS₁ rfl ?_)
 have hS₂:=Heap.get?_update_self (Obj.mapSeq (·.push Value.none)) hS₁ rfl
 refine wpAny_updateSeq hS₂ rfl ?_
 have hS₃:=Heap.get?_update_self (Obj.mapSeq (·.pop)) hS₂ rfl
 have oth:∀ b u,b ≠ s.heap.objs.size->h'.get? b=some u ->
   ((h'.update s.heap.objs.size (Obj.mapSeq (·.push Value.none))).update s.heap.objs.size (Obj.mapSeq (·.pop))).get? b=some u :=
  λb u hb e=>(Heap.get?_update_other _ _ (Ne.symm hb)).trans ((Heap.get?_update_other _ _ (Ne.symm hb)).trans e)
 have sz1:(s.heap.push lo).objs.size=s.heap.objs.size+1:=Heap.size_push ..
 have hSf:s.heap.objs.size ∉ fp:=λhm=>by
  rcases hfp _ hm with z | z
  ·exact Nat.ne_of_gt la z
  ·have z' : (s.heap.push lo).objs.size<=s.heap.objs.size:=z
   rw [sz1] at z';exact Nat.not_succ_le_self _ z'
 have hW:=W A.in1 (by simp [hh])
 have hlen:ord.length=es.size:=by rw [pm.length_eq,List.length_map,Array.length_toList]
 have st':=hW.frame 0 ({ s with heap:=h',drawn:=d } : Shared) ((h'.update s.heap.objs.size (Obj.mapSeq (·.push Value.none))).update s.heap.objs.size (Obj.mapSeq (·.pop))) s.toks st (Nat.le_refl _) λb hb' o' e=>oth b o' (λz=>hSf (z ▸ hb')) e
 refine wpAny_pure ⟨plainId_quiet F.plain_extend_loop _,codeAny_extend_loopS hW (by unfold scanBound at hb;unfold sizeLine;omega) _ hSf _ es.size 0 _ _ _ rfl (Nat.zero_le _)
  st' hS₃ (ItemsOf.nil _) λs' Ey c' hm hS' rP=>?_⟩
 show wpAny _ A (load s.heap.objs.size >>= _) _ _ s'
 refine wpAny_bind (wpAny_load hS' ?_)
 refine wpAny_pure ?_
 rw [qS rP hlen]
 refine h ord s' pm (λb u e=>?_) hm.gens hm.os (Heap.lt_size hS')
 have hb' : b < s.heap.objs.size:=Heap.lt_size e
 refine hm.heap b u (λz=>?_) (oth b u (Nat.ne_of_lt hb') (kp b u (Heap.get?_push_of_some _ e)))
 rcases List.mem_cons.mp z with z | z
 ·exact Nat.ne_of_lt hb' z
 ·have z2:b=I:=by simpa using z
  have z3:(s.heap.push lo).objs.size<=I:=hI
  rw [sz1,← z2] at z3
  exact Nat.lt_irrefl _ (Nat.lt_of_lt_of_le hb' (Nat.le_of_succ_le z3))
end
end L2
namespace L2
open PySem PySem.Spec PyProof.Rows
def rY (h:Heap) (e T:Addr) (cls a0 fl:Value):Prop :=
 ∃ oe vs oT ts,h.get? e=some oe/\(oe.cls=cls/\vs[0]?=some a0)/\oe.data=.fields vs/\vs[1]?=some (.ref T)/\T ≠ e/\h.get? T=some oT/\oT.data=.fields ts/\ts[3]?=some fl
inductive rZ (h:Heap) (L e:Addr) (cls a0:Value):List Addr->Prop where
 | fresh {oe:Obj} {vs:Array Value} (he:h.get? e=some oe) (hc:oe.cls=cls) (hd:oe.data=.fields vs) (h1:vs[1]?=some Value.none) (h0:vs[0]?=some a0):rZ h L e cls a0 []
 | fly {T:Addr} (x:rY h e T cls a0 .none):rZ h L e cls a0 [T]
 | held {T:Addr} (x:rY h e T cls a0 (rawInt L)):rZ h L e cls a0 [T]
section
variable {M:Model} {A:Around} {E:Value->Shared->Prop} {s:Shared} {base:Heap} {env:Env} {outer:List Env} {L e T:Addr} {a0 cls fl:Value} {Q:Unit->Shared->Prop} {Ts:List Addr}
theorem Stp.refl (F Y:List Addr) (h:Heap):Stp F Y h h:=⟨λ_ _ _ _ q=>q,λ_ o _ q=>⟨o.slots,q⟩⟩
theorem note (hf:A.frames=some (env :: outer)) (ff:s.heap.FunFrames base (env :: outer)) (hL:env.frame=some L) (x:rZ s.heap L e cls a0 Ts)
  (h:∀ h' T',Stp (frs (env :: outer)) (e :: Ts) s.heap h'->rY h' e T' cls a0 (rawInt L)->(s.heap.get? T'=none\/T' ∈ Ts)->Q () { s with heap:=h' }):wpAny M A (noteFrame (.ref e) env) Q E s:=by
 cases x with
 | @fresh oe vs he hc hd h1 h0 =>
  unfold noteFrame
  simp only [hL]
  refine wpAny_bind (wpAny_field he hd h1 ?_)
  rw [if_neg (by decide)]
  refine wpAny_entryW (base:=PySem.W.hideAll s.heap ([e] ++ frs (env :: outer))) hf (d9 _ ff) hL he (λb o q=>PySem.W.of_hideAll _ q) (PySem.W.hideAll_none _ (by simp)) hd (Array.getElem?_eq_some_iff.mp h1).1 h0 λh' lw=>?_
  obtain ⟨st,_,⟨oe',vs',T,oT,ts,t1,t2,t3,t4,t5,t6,t7,t8,t9⟩,up⟩:=lw
  have fj:∀ b o,b ∈ frs (env :: outer)->s.heap.get? b=some o->∃ sl,h'.get? b=some { o with slots:=sl }:=λb o hb q=>by
   obtain ⟨_,o2,q2,nf⟩:=ff.mem hb
   rw [q] at q2;cases q2
   exact up b o q nf
  refine h h' T ⟨λb o hb hx q=>st b o (PySem.W.hideAll_get _ q (by simp only [List.mem_append];exact λz=>z.elim hx hb)),fj⟩ ⟨oe',vs',oT,ts,t1,⟨t2.1.trans hc,t2.2⟩,t3,t4,t6,t7,t8,t9⟩ ?_
  rcases ip ff t5 fj t7 t8 with z | z
  ·exact .inl z
  ·exact absurd (by simpa using z) t6
 | @fly T x =>
  obtain ⟨oe,vs,oT,ts,x1,x2,x3,x4,x5,x6,x7,x8⟩:=x
  refine wpAny_noteFrame_onW (base:=PySem.W.hideAll s.heap ([e,T] ++ frs (env :: outer))) hf (d9 _ ff) hL ⟨oe,vs,T,oT,ts,x1,x2,x3,x4,PySem.W.hideAll_none _ (by simp),x5,x6,x7,x8⟩ (λb o q=>PySem.W.of_hideAll _ q) (PySem.W.hideAll_none _ (by simp)) λh' lw=>?_
  obtain ⟨st,_,⟨oe',vs',T',oT',ts',t1,t2,t3,t4,t5,t6,t7,t8,t9⟩,up⟩:=lw
  have fj:∀ b o,b ∈ frs (env :: outer)->s.heap.get? b=some o->∃ sl,h'.get? b=some { o with slots:=sl }:=λb o hb q=>by
   obtain ⟨_,o2,q2,nf⟩:=ff.mem hb
   rw [q] at q2;cases q2
   exact up b o q nf
  refine h h' T' ⟨λb o hb hx q=>st b o (PySem.W.hideAll_get _ q (by simp only [List.mem_append];exact λz=>z.elim hx hb)),fj⟩ ⟨oe',vs',oT',ts',t1,t2,t3,t4,t6,t7,t8,t9⟩ ?_
  rcases ip ff t5 fj t7 t8 with z | z
  ·exact .inl z
  ·rcases List.mem_cons.mp z with z | z
   ·exact absurd z t6
   ·exact .inr z
 | @held T x =>
  obtain ⟨oe,vs,oT,ts,x1,x2,x3,x4,x5,x6,x7,x8⟩:=id x
  exact wpAny_noteFrame_againW (base:=PySem.W.hideAll s.heap [T]) hL ⟨oe,vs,T,oT,ts,x1,x2,x3,x4,PySem.W.hideAll_none _ (by simp),x5,x6,x7,x8⟩ (h s.heap T (Stp.refl _ _ _) x (.inr (by simp)))
theorem vg {fr:Option Addr} {l:List Env} (ff:s.heap.FunFrames base l) (x:rY s.heap e T cls a0 fl) (h:∀ h',Stp (frs l) [e,T] s.heap h'->rY h' e T cls a0 (fr.elim Value.none λf=>rawInt f)->Q () { s with heap:=h' }):wpAny M A (setFlight (.ref e) fr) Q E s:=by
 obtain ⟨oe,vs,oT,ts,x1,x2,x3,x4,x5,x6,x7,x8⟩:=x
 have sz:3 < ts.size:=(Array.getElem?_eq_some_iff.mp x8).1
 have oth:∀ b,b ≠ T->(s.heap.update T (Obj.mapFields (·.setIfInBounds 3 (fr.elim Value.none λf=>rawInt f)))).get? b=s.heap.get? b:=λb hb=>Heap.get?_update_other _ _ (Ne.symm hb)
 unfold setFlight
 refine wpAny_bind (wpAny_field x1 x3 x4 ?_)
 rw [if_pos (show (Value.ref T != Value.none)=true by simp)]
 refine wpAny_setField x6 x7 sz (h _ ⟨λb o hb hx q=>(oth b λz=>hx (by simp [z])).trans q,λb o hb q=>?_⟩ ⟨oe,vs,_,_,(oth e (Ne.symm x5)).trans x1,x2,x3,x4,x5,Heap.get?_update_self _ x6 (Obj.isFreed_of_fields (Obj.data_mapFields x7 _)),Obj.data_mapFields x7 _,by simp [sz]⟩)
 obtain ⟨_,o2,q2,nf⟩:=ff.mem hb
 rw [q] at q2;cases q2
 exact ⟨o.slots,(oth b λz=>nf ts (by rw [z,x6] at q;cases q;exact x7)).trans q⟩
end
section
variable {X:Cx} {pins:List (Addr × Obj)} {σ:St} {H:Hp} {s:Shared} {h' : Heap} {Y:List Addr}
theorem Inv.excStepY (I:Inv X pins σ H s) (st:Stp (frs X.stack) Y s.heap h') (nY:∀ b ∈ Y,dA X pins H b):Inv X pins σ H { s with heap:=h' }:=by
 have mr:∀ b,b ≠ X.env.locals->b ∉ X.fs->b ∉ frs X.stack:=λb h1 h2 z=>(List.mem_cons.mp (I.stkSub b z)).elim h1 h2
 have pe:∀ b o,X.s₀.heap.get? b=some o->b ∉ Y:=λb o q z=>by rw [(nY b z).ent] at q;cases q
 have neL:∀ b o,X.s₀.heap.get? b=some o->b ≠ X.env.locals:=λb o q=>Nat.ne_of_lt (Nat.lt_of_lt_of_le (Heap.lt_size q) I.ok.above)
 have any:∀ b o,b ∉ Y->s.heap.get? b=some o->∃ sl,h'.get? b=some { o with slots:=sl }:=λb o hy q=>by
  by_cases hF:b ∈ frs X.stack
  ·exact st.slot b o hF q
  ·exact ⟨o.slots,st.keep b o hF hy q⟩
 have cellK:∀ x c,X.env.cells.lookup x=some c->∀ v,s.heap.IsCell c v->h'.IsCell c v:=λx c ec v ⟨o,ho,hd⟩=>by
  obtain ⟨sl,q⟩:=any c o (λz=>(nY c z).cel x c ec rfl) ho
  exact ⟨_,q,hd⟩
 refine ⟨I.ok,I.os,I.bare,⟨λb o q n hb hxx=>?_,λb o q n hb hxx=>?_,I.base.free,λb o q hxx=>?_,I.base.tups,I.base.frzs,I.base.tbls⟩,?_,λx c ec=>?_,I.free,I.freeC,λp hp=>?_,I.hok.stp st I.stkFree (λb hb=>(nY b hb).unt),I.len⟩
 ·exact st.keep b o (mr b (neL b o q) hb) (pe b o q) (I.base.keep b o q n hb hxx)
 ·obtain ⟨sl,q1⟩:=I.base.slot b o q n hb hxx
  obtain ⟨sl2,q2⟩:=any b _ (pe b o q) q1
  exact ⟨sl2,q2⟩
 ·obtain ⟨o1,q1⟩:=I.base.there b o q hxx
  obtain ⟨sl2,q2⟩:=any b _ (pe b o q) q1
  exact ⟨_,q2⟩
 ·obtain ⟨m,⟨oL,es,ep,hoL,r⟩,hl⟩:=I.loc
  obtain ⟨sl,q⟩:=any X.env.locals oL (λz=>(nY _ z).loc rfl) hoL
  refine ⟨m,⟨_,es,ep,q,r⟩,λi x v e1 e2 e3=>?_⟩
  obtain ⟨u,ru,l⟩:=hl i x v e1 e2 e3
  refine ⟨u,ru,?_⟩
  rcases l with l | ⟨k,c,ec,z⟩
  ·exact .inl l
  ·exact .inr ⟨k,c,ec,cellK x c ec _ z⟩
 ·obtain ⟨v,z⟩:=I.cell x c ec
  exact ⟨v,cellK x c ec v z⟩
 ·obtain ⟨q,n,nL,nf,d⟩:=I.pin p hp
  exact ⟨st.keep p.1 p.2 (mr p.1 nL nf) (λz=>(nY _ z).pin p hp rfl) q,n,nL,nf,d⟩
end
def v9 (X:Cx) (L:Addr) (E:XK):Value->Shared->Prop:=λev s'=>∃ (e C:Addr) (a0:Value) (Ts:List Addr) (pins:List (Addr × Obj)) (σ:St) (H' : Hp),ev=.ref e/\Inv X pins σ H' s'/\rZ s'.heap L e (.ref C) a0 Ts/\(∀ b ∈ e :: Ts,dA X pins H' b)/\E (.ref C) none H'
theorem iY {X:Cx} {L:Addr} {E:XK} (hst:X.stack=X.env :: X.outer) (hfr:X.env.frame=some L) (hx:X.ex=[]):PassesOwn (model X.prog X.w) X.A X.env (v9 X L E):=by
 rintro ev s1 ⟨e,C,a0,Ts,pins,σ,H,rfl,I,x,ny,q⟩
 have fr1:X.A.frames=some (X.env :: X.outer):=by rw [← hst];exact I.ok.frames
 have ff1:s1.heap.FunFrames X.base (X.env :: X.outer):=by rw [← hst];exact I.stack
 refine note fr1 ff1 hfr x λh2 T st x2 hT=>?_
 rw [← hst] at st
 have I2:=I.excStepY st ny
 have nT:dA X pins H T:=by
  rcases hT with z | z
  ·exact I.newAt hx z
  ·exact ny T (List.mem_cons_of_mem e z)
 have n2:∀ b ∈ [e,T],dA X pins H b:=λb hb=>by
  rcases List.mem_cons.mp hb with z | z
  ·rw [z];exact ny e List.mem_cons_self
  ·rw [show b=T by simpa using z];exact nT
 show wpAny (model X.prog X.w) X.A (do
  if (← field (.ref e) 1) == .none then unsupported "frame.own-activation:exception-without-traceback"
  setFlight (.ref e) X.env.frame) _ _ { s1 with heap:=h2 }
 obtain ⟨oe,vs,oT,ts,y1,y2,y3,y4,y5,y6,y7,y8⟩:=id x2
 refine wpAny_bind (wpAny_field (s:={ s1 with heap:=h2 }) y1 y3 y4 ?_)
 rw [if_neg (show ¬ (Value.ref T == Value.none)=true by simp)]
 show wpAny (model X.prog X.w) X.A (setFlight (.ref e) X.env.frame) _ _ _
 rw [hfr]
 refine vg (s:={ s1 with heap:=h2 }) (l:=X.stack) I2.stack x2 λh3 st3 x3=>?_
 exact ⟨e,C,a0,[T],pins,σ,H,rfl,I2.excStepY st3 n2,.held x3,n2,q⟩
section
variable {P:Program} {w:World} {K:PySem.W.Frag} {mg:Str->Option Value} {base:Heap} {N:List Str} {qual:Str} {scope:Scope} {f:Addr} {cd:Value} {A:Around} {outer:List Env} {s0:Shared} {H0:Hp} {E:XK}
abbrev cxE (P:Program) (w:World) (K:PySem.W.Frag) (mg:Str->Option Value) (base:Heap) (N:List Str) (qual:Str) (scope:Scope) (f:Addr) (cd:Value) (A:Around) (outer:List Env) (s0:Shared) (H0:Hp) (E:XK):Cx :=
 (ie (CX1 P w) P w K mg base N qual scope f cd A outer s0 H0 E).wish (v9 (ie (CX1 P w) P w K mg base N qual scope f cd A outer s0 H0 E) s0.heap.objs.size E)
theorem qT {ev:Value} {s:Shared} (h:v9 (ie (CX1 P w) P w K mg base N qual scope f cd A outer s0 H0 E) s0.heap.objs.size E ev s):(ie (CX1 P w) P w K mg base N qual scope f cd A outer s0 H0 E).xe ev s:=by
 obtain ⟨e,C,a0,Ts,pins,σ,H,rfl,I,x,ny,q⟩:=h
 have fr1:(ie (CX1 P w) P w K mg base N qual scope f cd A outer s0 H0 E).A.frames=some (envOfC qual scope s0.heap.objs.size f cd :: outer):=I.ok.frames
 have hL:(envOfC qual scope s0.heap.objs.size f cd).frame=some s0.heap.objs.size:=rfl
 show wpAny (model P w) _ (leaving (envOfC qual scope s0.heap.objs.size f cd) (.ref e)) _ _ s
 unfold leaving
 refine wpAny_bind (note fr1 I.stack hL x λh2 T st x2 hT=>?_)
 have I2:=I.excStepY st ny
 have nT:dA (ie (CX1 P w) P w K mg base N qual scope f cd A outer s0 H0 E) pins H T:=by
  rcases hT with z | z
  ·exact I.newAt rfl z
  ·exact ny T (List.mem_cons_of_mem e z)
 have ne:=ny e List.mem_cons_self
 have n2:∀ b ∈ [e,T],dA (ie (CX1 P w) P w K mg base N qual scope f cd A outer s0 H0 E) pins H b:=λb hb=>by
  rcases List.mem_cons.mp hb with z | z
  ·rw [z];exact ne
  ·rw [show b=T by simpa using z];exact nT
 refine vg (s:={ s with heap:=h2 }) (l:=envOfC qual scope s0.heap.objs.size f cd :: outer) I2.stack x2 λh3 st3 x3=>?_
 refine ⟨e,T,C,a0,H,rfl,I2.os,I2.bare,I2.base.stp st3 (λb o q hb=>?_) (λb hb=>?_) (λb hb=>(n2 b hb).ent),I2.hok.stp st3 I2.stkFree (λb hb=>(n2 b hb).unt),x3,ne.ent,nT.ent,ne.unt,nT.unt,q⟩
 ·rcases List.mem_cons.mp (I2.stkSub b hb) with z | z
  ·exact absurd (Nat.lt_of_lt_of_le (Heap.lt_size q) I2.ok.above) (by rw [z];exact Nat.lt_irrefl _)
  ·exact z
 ·show b ∈ frs (envOfC qual scope s0.heap.objs.size f cd :: outer)
  unfold frs
  rw [List.filterMap_cons]
  exact List.mem_cons_of_mem _ hb
theorem PSs.leaves {st:List Stmt} {t:TS} (h:PSs (cxE P w K mg base N qual scope f cd A outer s0 H0 E) st t):PSs (ie (CX1 P w) P w K mg base N qual scope f cd A outer s0 H0 E) st t:=λpins s σ H D I hw =>
 wpAny_mono (h pins s σ H D (I.wish _) hw) (λ_ _ q=>q.unwish) λ_ _ z=>qT z
theorem Fun.okE {x:Str} {st:Stmt} {fd:FuncData} {ps:List Str} {k:Nat} {sp:Sp} (F:Fun K x qual st f fd) (S:aF N ps (ar st)) (len:∀ vs H Q E,sp vs H Q E->vs.length=ps.length)
  (nR:∀ (cdv:Value) (A:Around) (outer:List Env) (s:Shared) (H:Hp) (vs:List V) (Q:VK) (E:XK),bY k (A.deeper (envOfC qual (ar st) s.heap.objs.size f cdv))->sp vs H Q E ->
   ∃ t,PSs (cxE P w K mg base N qual (ar st) f cdv A outer s H E) (fI st) t/\t { nx:=λ_ H'=>Q .non H',rt:=Q } (start N vs) H):aQ P w K mg base (CX1 P w) (k+1) f fd ps sp:=by
 obtain ⟨oc,od,kV,doc,pm,an,cdv,ct,osl,rfl,lk,hcd⟩:=F.ex
 refine vc lk hcd S len λA outer s H vs Q E hr hsp=>?_
 obtain ⟨t,h,q⟩:=nR cdv A outer s H vs Q E hr hsp
 exact ⟨t,h.leaves,q⟩
theorem qU {x:Str} {C:Addr} {np dF pos:Pos} {e₀:Expr} {es:List Expr} {t:TA} (X:gx K C) (hd:A.handled=none) (hg:Gl (cxE P w K mg base N qual scope f cd A outer s0 H0 E) x) (hm:mg x=some (.ref C))
  (ha:PA (cxE P w K mg base N qual scope f cd A outer s0 H0 E) (e₀ :: es) t) (hdb:(x == ("__debug__" : Str))=false:=by decide)
  (he:starEach (e₀ :: es) (envOfC qual scope s0.heap.objs.size f cd)=(false,eval e₀ (envOfC qual scope s0.heap.objs.size f cd)) :: starEach es (envOfC qual scope s0.heap.objs.size f cd):=by rfl)
  (hpl:(backTo dF (starEach es (envOfC qual scope s0.heap.objs.size f cd))).any (·.1)=false:=by rfl) :
  PS (cxE P w K mg base N qual scope f cd A outer s0 H0 E) (.Raise (some (.Call (.Name x np) (e₀ :: es) [] dF)) none pos) (vW C E t):=by
 intro pins s σ H D I h
 obtain ⟨bmB,bmN,newId,B,Bn,nid,rS,inN,hx,F1,F2,F3⟩:=X.ex
 obtain ⟨bm,N',nm,q,bs,hdct,sn,sub,ab,col,dd,k0,k1,k2,k3,k5,mN,o1,o2,o3,o4⟩:=gx.obj I.ok.mod.kin hx
 refine wpAny_Raise_call_subU (C:=C) (nm:=nm) (q:=q) (N:=N') (bs:=bs) (bm:=bm) (hdct:=hdct) (sn:=sn) (sub:=sub) (ab:=ab) (col:=col) (dd:=dd) (k0:=k0) (k1:=k1) (k2:=k2) (k3:=k3) (k5:=k5) F1 F2 F3 (OwnTail.hasType o4 F3.hasBase) hd (by
  show (backTo dF (starEach (e₀ :: es) (envOfC qual scope s0.heap.objs.size f cd))).any (·.1)=false
  rw [he]
  show (false || (backTo dF (starEach es (envOfC qual scope s0.heap.objs.size f cd))).any (·.1))=false
  rw [hpl];rfl) (mN:=mN) o3 (cV I hg hm ⟨rfl,?_⟩ hdb)
 show wpAny _ _ (evalArgs (.ref C) true (backTo dF (starEach (e₀ :: es) (envOfC qual scope s0.heap.objs.size f cd))) []) _ _ s
 rw [he]
 refine Calls.evalArgs_plain ?_
 have z:wpAny (model P w) (cxE P w K mg base N qual scope f cd A outer s0 H0 E).A (spliced (backTo dF (starEach (e₀ :: es) (envOfC qual scope s0.heap.objs.size f cd)))) _ _ s:=ha dF pins s σ H _ I h
 rw [he] at z
 refine thn z λus s2 ⟨vs,H2,I2,r,hl,q2⟩=>⟨rfl,by rw [← r.length];exact hl,?_⟩
 refine ⟨I2.bk C _ o1,?_,o4.keeps I2.bk,λh' e m=>?_⟩
 ·obtain ⟨o,es',ep,g1,g2⟩:=o2
  exact ⟨o,es',ep,I2.bk _ _ g1,g2⟩
 ·have J:=I2.unwish
  obtain ⟨t',he',_,_⟩:=m.there
  refine ⟨e,C,.ref t',[],pins,σ,H2,rfl,J.kept (t':=s2.toks) m.keeps,.fresh he' rfl rfl rfl rfl,λb hb=>?_,q2⟩
  rw [show b=e by simpa using hb]
  exact J.newAt rfl m.new
theorem gm:Passes (CX1 P w) (cxE P w K mg base N qual scope f cd A outer s0 H0 E) E:=λpins σ H s ev s' I h=>by
 obtain ⟨e,T,C,a0,H',rfl,J,x,ne,nT,q⟩:=(I.unwish).afterX (EX:=λC H'=>E (.ref C) none H') rfl (λ_ _ z=>z) h
 refine ⟨e,C,a0,[T],pins,σ,H',rfl,J,.fly x,λb hb=>?_,q⟩
 rcases List.mem_cons.mp hb with z | z
 ·rw [z];exact ne
 ·rw [show b=T by simpa using z];exact nT
end
end L2
namespace L2
open PySem PySem.Spec PyProof.Rows
section
variable {X:Cx}
def r6 (K:PySem.W.Frag):V->List V->Hp->VK->Prop:=λx vs H Q=>∃ (p:Addr) (xs:List V) (y z:V) (j:Nat),x=.ref p/\vs=[y]/\SqL K H p xs/\bT y=true/\xs.all bT=true/\xs[j]?=some z/\eqV z y=true/\(∀ (m:Nat) (u:V),m < j->xs[m]?=some u->eqV u y=false)/\Q (.int j) H
theorem r9:MtM X "list.index" (r6 X.K):=by
 intro pins s σ H x vs v us Q I rx rv h
 obtain ⟨p,xs,y,z,j,rfl,rfl,hS,fy,fs,ez,hz,hno,q⟩:=h
 obtain rfl:v=Value.ref p:=rx
 obtain ⟨u,rfl,ru⟩:=rv.one
 obtain ⟨its,r,pl,hsz⟩:=I.list hS
 have hl:=r.length
 have hj:j < xs.length:=(E4.mp ez).1
 have hle:xs.length < 2 ^ 62:=Nat.lt_of_le_of_lt hsz (by decide)
 obtain ⟨⟨c1,c2,c3,c4⟩,ho,hc,n,hd⟩:=pl.isList
 dsimp only at hc hd
 subst hc hd
 have at_:∀ (m:Nat) (hm:m < its.toArray.size) (w:V),xs[m]?=some w->bT w=true->eqU y its.toArray[m]=eqV w y:=λm hm w e f=>by
  obtain ⟨t,e1,e2⟩:=r.get e
  have:its.toArray[m]=t:=by
   have h2:its[m]?=some its.toArray[m]:=by
    have:m < its.length:=by simpa using hm
    simp
   rw [h2] at e1;exact Option.some.inj e1
  rw [this];exact o8 e2 f
 have fl:∀ (m:Nat) (w:V),xs[m]?=some w->bT w=true:=λm w e=>List.all_eq_true.mp fs w (E5 e)
 refine call_meets PySem.F.slot_list_index ⟨_,ho,rfl⟩ PySem.F.entry_list_index (PySem.F.args_list_index_2 _ _) (SeqAt.list_indexAt p its.toArray n c2 c4 u (eqU y) j (by simpa [← hl] using hj) (by omega) ?_ λm hm hlt=>?_) ⟨ho,λt ht=>dP ru fy r fs t (by simpa using ht),⟨.int j,H,I.tok _,⟨_,rfl⟩,q⟩⟩
 ·rw [at_ j _ z ez (fl j z ez)];exact hz
 ·have e:xs[m]?=some xs[m]:=E3 (by omega)
  rw [at_ m hm _ e (fl m _ e)];exact hno m _ hlt e
theorem dJ:dz X (.builtin "len") (λxs H Q=>∃ (l:Addr) (zs:List Str),xs=[.ref l]/\H l=some (jl X.prog X.w l zs)/\zs.length<=1000/\Q (.int ((cntK zs zs.length:Nat):Int)) H):=by
 intro pins s σ H xs us Q I r h
 obtain ⟨l,zs,rfl,e,hz,q⟩:=h
 obtain ⟨u,rfl,ru⟩:=r.one
 obtain rfl:u=Value.ref l:=ru
 obtain ⟨⟨o,es,ep,t,g1,g2,g3,_,_,_,g4,g5⟩,_,_⟩:=I.hok l _ e
 have le:=jw zs zs.length
 refine call_len_set g1 g2 g3 g4 (by rw [g5];omega) ⟨.int _,H,I.tok _,⟨_,rfl⟩,?_⟩
 rw [g5];exact q
end
def AG (sp:Sp) (E:XK) (t:TA):TE:=λσ H Q=>t σ H λvs H1=>sp vs H1 Q E
def Ez (C:Addr) (m:Str) (sp:Sp) (E:XK) (ta:TE) (t:TA):TE:=λσ H Q=>ta σ H λx H1=>∃ a dx fs,x=.ref a/\H1 a=some (.ins C dx fs)/\fs.lookup m=none/\t σ H1 λvs H2=>sp (x :: vs) H2 Q E
def EA (C:Addr) (sp:Sp) (E:XK) (t:TA):TE:=λσ H Q=>t σ H λvs H1=>∀ x dx,H1 x=none->H1 dx=none->dx ≠ x ->
 sp (.ref x :: vs) (upd (upd H1 dx (.own x)) x (.ins C dx [])) (λv H2=>v=.non/\Q (.ref x) H2) E
section
variable {X:Cx} {k:Nat} {f C:Addr} {fd:FuncData} {ps:List Str} {sp:Sp} {x m:Str} {p np pos apos:Pos} {e o:Expr} {es:List Expr} {ta:TE} {t:TA} {E:XK}
theorem cq (M:CalleeX X.prog X.w X.K X.mg X.base k x ps sp) (hx:Passes (CX1 X.prog X.w) X E) (hr:bY k X.A) (hg:Gl X x) (ha:PA X (e :: es) t) (hdb:(x == ("__debug__" : Str))=false:=by decide)
  (he:starEach (e :: es) X.env=(false,eval e X.env) :: starEach es X.env:=by rfl) (hpl:(backTo pos (starEach es X.env)).any (·.1)=false:=by rfl):PE X (.Call (.Name x p) (e :: es) [] pos) (AG sp E t):=by
 obtain ⟨f,fd,F,b,kk,hm⟩:=M
 intro pins s σ H Q I h
 refine wpAny_Call_Name_kw (cV I hg hm ?_ hdb)
 refine PySem.W.callWith_K (h₀:=X.base) I.ok.mod.kin kk (thn (ha pos pins s σ H _ I h) λus s1 ⟨vs,H1,I1,r,q⟩=>⟨I1.kIn,vY F hr b hx I1 r q⟩) he hpl
end
end L2
namespace L2
open PySem PySem.Spec PyProof.Rows
section
variable {X:Cx}
end
def EB (P:Program) (w:World) (a:Addr) (ns:List Int):HO:=.ext λh=>h.SetOf (intKind P w) a (λz=>decide (z ∈ ns)) (cntK ns ns.length)
section
variable {X:Cx}
end
end L2
namespace L2
open PySem PySem.Spec PyProof.Rows
section
variable {X:Cx}
def AH:V->List V->Hp->VK->Prop:=λx vs H Q=>∃ z:Str,x=.str z/\vs=[]/\z.length<=1000/\Q (.str (Txt.upper z)) H
end
end L2
namespace L2
open PySem PySem.Spec PyProof.Rows
def TyG (K:PySem.W.Frag) (H:Hp) (x:V) (t:Value):Prop:=iT K H x t\/∃ a ys,x=.ref a/\SqT K H a ys/\t=.type "tuple"
inductive ClV:V->Value->Prop where
 | ty (T:String):ClV (.ty T) (.type T)
 | ref (C:Addr):ClV (.ref C) (.ref C)
section
variable {X:Cx}
theorem b8:dz X (.builtin "isinstance") (λxs H Q=>∃ x c cv t b,xs=[x,c]/\ClV c cv/\TyG X.K H x t/\PySem.W.kitOne X.K t cv=some b/\Q (.bl b) H):=by
 intro pins s σ H xs us Q I r h
 obtain ⟨x,c,cv,t,b,rfl,rc,ty,e,q⟩:=h
 cases r with
 | cons rx r2 =>
  cases r2 with
  | @cons _ cu _ _ ry r3 =>
   cases r3
   have ec:cu=cv:=by cases rc <;> exact ry
   subst ec
   rcases ty with ty | ⟨a,ys,rfl,hS,rfl⟩
   ·exact qD I rx ty e λtk=>⟨.bl b,H,I.tok tk,rfl,q⟩
   ·cases (show _=Value.ref a from rx)
    obtain ⟨its,r,⟨o,h1,h2,_⟩,_⟩:=I.tuple hS
    exact PySem.W.kia_one PySem.W.kitx_tuple I.kIn ⟨o,h1,h2⟩ e (λz=>nomatch z) λtk=>⟨.bl b,H,I.tok tk,rfl,q⟩
end
structure jn (K:PySem.W.Frag) (C:Addr):Prop where
 cl:Cls K C
 ha:PySem.W.findIn K (.ref C) "__class__" = some (some (.builtin "object.__class__"))
 hn:PySem.W.specialIn K (.builtin "object.__class__") "__get__" = some (some (.builtin "getset_descriptor.__get__"))
 tk:PySem.W.takesIn K (.builtin "object.__class__")=some true
 hm:PySem.W.mroIn K C (.type "object")=some true
theorem jn.ty {K:PySem.W.Frag} {C:Addr} (h:jn K C) {H:Hp} {a dx:Addr} {fs:List (Str × V)} (e:H a=some (.ins C dx fs)):TyG K H (.ref a) (.ref C):=.inl (.ins e h.cl h.ha h.hn h.tk h.hm)
def uz (CX:CXT) (P:Program) (w:World) (K:PySem.W.Frag) (mg:Str->Option Value) (base:Heap) (k:Nat) (m:Str) (ps:List Str) (cs:List (Addr × Sp)):Prop :=
 ∀ p ∈ cs,MCallee CX P w K mg base k p.1 m ps p.2/\Cls K p.1
section
variable {CX:CXT} {P:Program} {w:World} {K:PySem.W.Frag} {mg:Str->Option Value} {base:Heap} {k:Nat} {C:Addr} {m:Str} {ps:List Str} {sp:Sp} {cs:List (Addr × Sp)}
theorem AI:uz CX P w K mg base k m ps []:=λ_ h=>nomatch h
theorem yD (M:MCallee CX P w K mg base k C m ps sp) (c:Cls K C) (r:uz CX P w K mg base k m ps cs):uz CX P w K mg base k m ps ((C,sp) :: cs):=λp h=>by
 rcases List.mem_cons.mp h with rfl | h
 ·exact ⟨M,c⟩
 ·exact r p h
end
def AJ (cs:List (Addr × Sp)) (m:Str) (ta:TE) (t:TA):TE:=λσ H Q=>ta σ H λx H1=>∃ a p dx fs,x=.ref a/\p ∈ cs/\H1 a=some (.ins p.1 dx fs)/\fs.lookup m=none/\t σ H1 λvs H2=>p.2 (x :: vs) H2 Q E0
section
variable {X:Cx} {CX:CXT} {k:Nat} {f C:Addr} {fd:FuncData} {ps:List Str} {sp:Sp} {x m:Str} {p np pos apos:Pos} {e o:Expr} {es:List Expr} {ta:TE} {t:TA} {cs:List (Addr × Sp)}
theorem wb {pl:Sem Bool} (M:uz CX X.prog X.w X.K X.mg X.base k m ps cs) (hx:Passes CX X E0) (hr:bY k X.A) (he:PE X o ta) (ha:PA X (e :: es) t)
  (hst:starEach (e :: es) X.env=(false,eval e X.env) :: starEach es X.env:=by rfl) (hpl:(backTo pos (starEach es X.env)).any (·.1)=false:=by rfl)
  (ht:eval (.Call (.Attribute o m apos) (e :: es) [] pos) X.env=(do
   let ov ← eval o X.env
   standAt apos.atName
   let (f,first) ← holding [ov] (getMethod ov m pl)
   callWith pos f first (backTo pos (starEach (e :: es) X.env)) (backToKw pos (keywordEach [] X.env))):=by rfl) :
  PE X (.Call (.Attribute o m apos) (e :: es) [] pos) (AJ cs m ta t):=by
 intro pins s σ H Q I h
 refine PySem.W.methodCall_KW (pl:=pl) (thn (he pins s σ H _ I h) λu s1 ⟨x,H1,I1,rx,a,p,dx,fs,ex,hp,ea,l,q⟩=>?_) ht
 obtain ⟨⟨f,fd,hm,F,hb⟩,c⟩:=M p hp
 subst ex
 obtain rfl:u=Value.ref a:=rx
 refine oV I1 ea c hm l ?_
 refine PySem.W.callWith_K (first:=[.ref a]) (h₀:=X.base) I.ok.mod.kin hm.kp (thn (ha pos pins s1 σ H1 _ I1 q) λus s2 ⟨vs,H2,I2,r,q2⟩=>⟨I2.kIn,?_⟩) hst hpl
 exact vY (us:=.ref a :: us) (vs:=.ref a :: vs) F hr hb hx I2 (.cons rfl r) q2
theorem iZ (M:MkCallee CX X.prog X.w X.K X.mg X.base k x C ps sp) (hx:Passes CX X E0) (hr:bY (k+1) X.A) (hg:Gl X x) (hdb:(x == ("__debug__" : Str))=false:=by decide) :
  PE X (.Call (.Name x p) [] [] pos) (tMk C sp vL):=by
 obtain ⟨f,fd,M,F,hb,hm⟩:=M
 have h:=rG (E:=E0) (dvs:=[]) (ds:=[]) (p:=p) (pos:=pos) M F hr hg hm hb .nil hx hdb
 intro pins s σ H Q I q
 exact h pins s σ H Q I q
end
def ModT (K:PySem.W.Frag) (a:Addr) (xs:List V):Prop:=∃ (o:Obj) (its:Array Value) (n:Nat),K.lookup a=some o/\o.cls=.type "tuple" /\ o.data=.seq its n/\its.size<=sizeLine/\Vals xs its.toList
end L2
namespace L2
open PySem PySem.Spec PyProof.Rows
theorem qV {K:PySem.W.Frag} {H:Hp} {Q:VK} {a b:Addr} {xs:List V} (ha:SqL K H a xs) (hb:SqL K H b xs) (fl:∀ x ∈ xs,bT x=true\/∃ r,x=.ref r) (q:Q (.bl true) H):yt K false (.ref a) (.ref b) H Q:=by
 refine ⟨a,b,xs,xs,rfl,rfl,ha,hb,.inr ⟨rfl,λ_=>true,λj x y e1 e2=>?_,?_⟩⟩
 ·rw [e1] at e2;cases e2
  rcases fl x (E5 e1) with z | ⟨r,rfl⟩
  ·have:=EqI.flat (K:=K) (H:=H) z z
   rw [j3 z] at this
   exact this
  ·exact .same r
 ·have:(List.range xs.length).all (λ_=>true)=true:=by simp
  rw [this]
  exact q
theorem gn {c A B:Prop} [Decidable c] (hc:c) (h:A):if decide c=true then A else B:=by rw [if_pos (decide_eq_true hc)];exact h
theorem dh {c A B:Prop} [Decidable c] (hc:¬ c) (h:B):if decide c=true then A else B:=by rw [if_neg (by rw [decide_eq_false hc];decide)];exact h
end L2
namespace L2
open PySem PySem.Spec PyProof.Rows
section
variable {X:Cx} {pins:List (Addr × Obj)} {σ:St} {H:Hp} {s:Shared} {h' : Heap}
theorem Inv.turnedPair {ch:List Addr} {T:Addr} {x y:V} {u v:Value} (I:Inv X pins σ H s) (hf:∀ b ∈ ch,iP X pins H b) (k:∀ b o,b ∉ ch->s.heap.get? b=some o->h'.get? b=some o)
  (nT:s.heap.get? T=none) (hT:H T=none) (gT:IsPair h' T u v) (rx:RelV x u) (ry:RelV y v):Inv X pins σ (upd H T (.tup [x,y])) { s with heap:=h' }:=by
 have out:∀ b u,H b=some u->b ∉ ch:=λb u e z=>by
  have f:=(hf b z).1
  rw [f] at e
  cases e
 have neT:∀ {b o},s.heap.get? b=some o->b ≠ T:=λe z=>by rw [z,nT] at e;cases e
 have neH:∀ {b u},H b=some u->b ≠ T:=λe z=>by rw [z,hT] at e;cases e
 have J:=Inv.step (H':=upd H T (.tup [x,y])) (h':=h') (g':=s.gens) (d':=s.drawn) (t':=s.toks) (ch:=ch) I
  (λb hb=>by obtain ⟨_,f1,_,f3,f4,f5⟩:=hf b hb;exact ⟨f3,f1,f4,f5⟩)
  (λb o _ _ hc e _=>k b o hc e)
  (λb o _ _ hc e _=>⟨o.slots,k b o hc e⟩)
  (λb o _ e n=>by rw [au (neT e)];exact n)
  (λb o hc e=>⟨o,k b o hc e⟩)
  (λb xs e=>by rw [au (neH e)];exact e)
  (λb o w e=>by rw [au (neH e)];exact e)
  (λb ps e=>⟨#[],by rw [au (neH e),e];simp⟩)
  (λm hm=>by
   obtain ⟨o,es,ep,ho,r⟩:=hm
   refine ⟨o,es,ep,k _ o (λz=>?_) ho,r⟩
   obtain ⟨_,f1,_⟩:=hf _ z
   exact f1 rfl)
  (λb w e=>by
   by_cases hb:b=T
   ·subst hb
    rw [ae] at e
    cases e
    exact ⟨by show 2<=sizeLine;decide,[u,v],.cons rx (.cons ry .nil),_,gT,rfl,_,rfl⟩
   ·rw [au hb] at e
    refine (I.hok b w e).stay (λc z hc q=>k c z ?_ q) (λc q=>?_) λc xs q=>?_
    ·rcases hc with z | z
     ·rw [z];exact out b w e
     ·exact out c _ z
    ·rw [au (neH q)];exact q
    ·rw [au (neH q)];exact q)
  I.bare
 exact J
theorem Inv.turnedL {ch:List Addr} (I:Inv X pins σ H s) (hf:∀ b ∈ ch,iP X pins H b) (k:∀ b o,b ∉ ch->s.heap.get? b=some o->h'.get? b=some o):Inv X pins σ H { s with heap:=h' }:=by
 have out:∀ b u,H b=some u->b ∉ ch:=λb u e z=>by
  have f:=(hf b z).1
  rw [f] at e
  cases e
 have J:=Inv.step (H':=H) (h':=h') (g':=s.gens) (d':=s.drawn) (t':=s.toks) (ch:=ch) I
  (λb hb=>by obtain ⟨_,f1,_,f3,f4,f5⟩:=hf b hb;exact ⟨f3,f1,f4,f5⟩)
  (λb o _ _ hc e _=>k b o hc e)
  (λb o _ _ hc e _=>⟨o.slots,k b o hc e⟩)
  (λb o _ _ n=>n)
  (λb o hc e=>⟨o,k b o hc e⟩)
  (λb xs e=>e) (λb o w e=>e) (λb ps e=>⟨#[],by rw [e];simp⟩)
  (λm hm=>by
   obtain ⟨o,es,ep,ho,r⟩:=hm
   refine ⟨o,es,ep,k _ o (λz=>?_) ho,r⟩
   obtain ⟨_,f1,_⟩:=hf _ z
   exact f1 rfl)
  (λb w e=>by
   refine (I.hok b w e).stay (λc z hc q=>k c z ?_ q) (λc q=>q) λc xs q=>q
   rcases hc with z | z
   ·rw [z];exact out b w e
   ·exact out c _ z)
  I.bare
 exact J
end
def Itz (K:PySem.W.Frag) (a b:Addr):It :=
 ⟨λi H=>∃ xs ys x y,SqL K H a xs/\SqL K H b ys/\xs[i]?=some x/\ys[i]?=some y,
 λi H v H'=>∃ T,H T=none/\v=.ref T/\∀ xs ys x y,SqL K H a xs->SqL K H b ys->xs[i]?=some x->ys[i]?=some y->H'=upd H T (.tup [x,y]),
 λi H=>∃ xs ys,SqL K H a xs/\SqL K H b ys/\(xs.length<=i\/ys.length<=i)⟩
def vh (z TI TO i1 i2 a b:Addr) (i:Nat) (h:Heap):Prop:=IsZip h z TI TO .none/\IsPair h TI (.ref i1) (.ref i2)/\(∃ p q,IsPair h TO p q)/\h.IsListIter i1 a i/\h.IsListIter i2 b i
theorem se {P:Program} {w:World} {K:PySem.W.Frag} {elts:List Expr} {x1} {tp:Pos} {z TI TO i1 i2 a b:Addr} (D:ZipApart z TI TO i1 i2 a b) :
  Turn P w K (.Tuple elts x1 tp) (Itz K a b) [z,TI,TO,i1,i2] z (vh z TI TO i1 i2 a b) where
 mem:=by simp
 obj:=λi h st c hc=>by
  obtain ⟨g1,g2,⟨p,q,g3⟩,⟨o4,g4,_,d4⟩,⟨o5,g5,_,d5⟩⟩:=st
  simp only [List.mem_cons,List.not_mem_nil,or_false] at hc
  rcases hc with rfl | rfl | rfl | rfl | rfl
  ·exact ⟨_,g1,λv q=>nomatch q⟩
  ·exact ⟨_,g2,λv q=>nomatch q⟩
  ·exact ⟨_,g3,λv q=>nomatch q⟩
  ·exact ⟨_,g4,λv q=>by rw [d4] at q;cases q⟩
  ·exact ⟨_,g5,λv q=>by rw [d5] at q;cases q⟩
 keep:=λi h h' st k=>by
  obtain ⟨g1,g2,⟨p,q,g3⟩,g4,g5⟩:=st
  exact ⟨k z (by simp) _ g1,k TI (by simp) _ g2,⟨p,q,k TO (by simp) _ g3⟩,g4.at λo e=>k i1 (by simp) o e,g5.at λo e=>k i2 (by simp) o e⟩
 item:=by
  intro X hP hw hK hc i pins s σ H E I hf st hg
  subst hP hw hK
  obtain ⟨xs,ys,x,y,qa,qb,ex,ey⟩:=hg
  obtain ⟨g1,g2,⟨p,q,g3⟩,g4,g5⟩:=st
  obtain ⟨us,ru,pu,_⟩:=I.list qa
  obtain ⟨vs,rv,pv,_⟩:=I.list qb
  obtain ⟨u,eu,r1⟩:=ru.get ex
  obtain ⟨v,ev,r2⟩:=rv.get ey
  refine wpAny_pyNext_zip_item D g1 g2 g3 g4 g5 pu.isList pv.isList (x:=u) (y:=v) (by simpa using eu) (by simpa using ev) λh1 a1 a2 a3 a4 a5 a6 a7=>?_
  refine ⟨_,rfl,wpAny_letOwnedTupleGo_zip (s:={ s with heap:=h1 }) a1 λh2 b1 b2=>?_⟩
  have nT:s.heap.get? s.heap.objs.size=none:=by
   cases q:s.heap.get? s.heap.objs.size with
   | none=>rfl
   | some o=>exact absurd (Heap.lt_size q) (Nat.lt_irrefl _)
  have hT:H s.heap.objs.size=none:=I.hok.fresh (Nat.le_refl _)
  have nz:s.heap.objs.size ≠ z:=Nat.ne_of_gt (Heap.lt_size g1)
  have kk:∀ c o,c ∉ [z,TO,i1,i2]->s.heap.get? c=some o->h2.get? c=some o:=λc o hc e=>by
   simp only [List.mem_cons,List.not_mem_nil,or_false,not_or] at hc
   exact b2.extBut _ _ hc.1 (a7 c o hc.1 hc.2.1 hc.2.2.1 hc.2.2.2 e)
  have J:=I.turnedPair (h':=h2) (ch:=[z,TO,i1,i2]) (T:=s.heap.objs.size) (x:=x) (y:=y) (u:=u) (v:=v) (λc hc=>hf c (by simp at hc ⊢;rcases hc with e | e | e | e <;> simp [e])) kk nT hT (b2.extBut _ _ nz a5) r1 r2
  refine ⟨.ref s.heap.objs.size,upd H s.heap.objs.size (.tup [x,y]),J,rfl,⟨_,hT,rfl,λxs' ys' x' y' q1 q2 e1 e2=>?_⟩,⟨b1,b2.extBut _ _ D.TIz (a7 TI _ D.TIz D.TITO D.TIi1 D.TIi2 g2),⟨_,_,b2.extBut _ _ D.TOz a2⟩,a3.extBut b2.extBut D.i1z,a4.extBut b2.extBut D.i2z⟩,λc hc=>?_⟩
  ·rw [I.list_inj q1 qa] at e1
   rw [I.list_inj q2 qb] at e2
   rw [ex] at e1;rw [ey] at e2
   cases e1;cases e2
   rfl
  ·have h0:=(hf c hc).1
   have:c ≠ s.heap.objs.size:=by
    obtain ⟨o4,g4',_⟩:=g4
    obtain ⟨o5,g5',_⟩:=g5
    simp only [List.mem_cons,List.not_mem_nil,or_false] at hc
    rcases hc with rfl | rfl | rfl | rfl | rfl
    ·exact nz.symm
    ·exact Nat.ne_of_lt (Heap.lt_size g2)
    ·exact Nat.ne_of_lt (Heap.lt_size g3)
    ·exact Nat.ne_of_lt (Heap.lt_size g4')
    ·exact Nat.ne_of_lt (Heap.lt_size g5')
   rw [au this];exact h0
 done:=by
  intro X hP hw hK hc i pins s σ H E I hf st hg
  subst hP hw hK
  obtain ⟨xs,ys,qa,qb,hl⟩:=hg
  obtain ⟨g1,g2,⟨p,q,g3⟩,g4,g5⟩:=st
  obtain ⟨us,ru,pu,_⟩:=I.list qa
  obtain ⟨vs,rv,pv,_⟩:=I.list qb
  have l1:=ru.length
  have l2:=rv.length
  refine wpAny_pyNext_zip_end (I.ok.hd hc) D g1 g2 g3 g4 g5 pu.isList pv.isList ?_ λh2 k=>⟨rfl,I.turnedL (ch:=[z,TO,i1,i2]) (λc hc=>hf c (by simp at hc ⊢;rcases hc with e | e | e | e <;> simp [e])) λc o hc e=>?_⟩
  ·rcases hl with hl | hl
   ·exact .inl (by simp;omega)
   ·exact .inr (by simp;omega)
  ·simp only [List.mem_cons,List.not_mem_nil,or_false,not_or] at hc
   exact k c o hc.1 hc.2.1 hc.2.2.1 hc.2.2.2 e
 self:=λ_ _ _ _ _ st h=>wpAny_pyIter_zip st.1 h
def AK (K:PySem.W.Frag) (ta:TA):TI:=λσ H R=>ta σ H λvs H1=>∃ a b,vs=[.ref a,.ref b]/\(∃ xs,SqL K H1 a xs)/\(∃ ys,SqL K H1 b ys)/\R (Itz K a b) H1
section
variable {X:Cx}
theorem sf {e1 e2:Expr} {ta:TA} {p pos:Pos} {elts:List Expr} {x1} {tp:Pos} (hg:Gl X "zip") (hm:X.mg "zip" = none) (ha:PA X [e1,e2] ta)
  (hs:starEach [e1,e2] X.env=[(false,eval e1 X.env),(false,eval e2 X.env)]:=by rfl) (hs2:starEach [e2] X.env=[(false,eval e2 X.env)]:=by rfl) :
  PI X (.Tuple elts x1 tp) (.Call (.Name "zip" p) [e1,e2] [] pos) (AK X.K ta):=by
 intro pins s σ H R I h
 refine Call_ (iN I hg hm PyProof.Rows.boot_zip (PyProof.Rows.callWith_type1 (thn (ha pos pins s σ H _ I h) λus s1 ⟨vs,H1,I1,r1,q1⟩=>?_) (by rw [hs,hs2]) (by rw [hs2];rfl)))
 obtain ⟨a,b,rfl,⟨xs,qa⟩,⟨ys,qb⟩,q⟩:=q1
 obtain ⟨u,v,rfl,ru,rv⟩:=r1.two
 cases (show u=Value.ref a from ru)
 cases (show v=Value.ref b from rv)
 obtain ⟨us,_,pu,_⟩:=I1.list qa
 obtain ⟨vs,_,pv,_⟩:=I1.list qb
 obtain ⟨oa,ea,_⟩:=id pu.isList
 obtain ⟨ob,eb,_⟩:=id pv.isList
 have la:a < s1.heap.objs.size:=Heap.lt_size ea
 have lb:b < s1.heap.objs.size:=Heap.lt_size eb
 refine call_zip_2 pu.isList pv.isList λh' z1 z2 z3 z4 z5 z6 z7=>?_
 refine wpAny_pyIter_zip (s:={ s1 with heap:=h' }) z1 ?_
 refine ⟨s1.heap.objs.size+4,[s1.heap.objs.size+4,s1.heap.objs.size+2,s1.heap.objs.size+3,s1.heap.objs.size,s1.heap.objs.size+1],vh (s1.heap.objs.size+4) (s1.heap.objs.size+2) (s1.heap.objs.size+3) s1.heap.objs.size (s1.heap.objs.size+1) a b,Itz X.K a b,H1,rfl,I1.kept (t':=s1.toks) z7,se ?_,⟨z1,z2,⟨_,_,z3⟩,z4,z5⟩,λc hc=>?_,q⟩
 ·refine ⟨?_,?_,?_,?_,?_,?_,?_,?_,?_,?_,?_,?_,?_,?_,?_,?_,?_,?_⟩ <;> first | exact Nat.ne_of_lt (by omega) | exact Nat.ne_of_gt (by omega) | exact Nat.ne_of_lt la | exact Nat.ne_of_lt lb | exact Nat.ne_of_lt (Nat.lt_of_lt_of_le la (Nat.le_add_right _ _)) | exact Nat.ne_of_lt (Nat.lt_of_lt_of_le lb (Nat.le_add_right _ _))
 ·have hc' : s1.heap.objs.size<=c:=by
   simp only [List.mem_cons,List.not_mem_nil,or_false] at hc
   rcases hc with rfl | rfl | rfl | rfl | rfl <;> omega
  exact I1.fpOk hc' (I1.hok.fresh hc')
end
theorem qg {K:PySem.W.Frag} {a b:Addr} {xs ys:List V} {g:TG} {tb:TS} {D:Ends} {σ:St} {H:Hp} (Pv:Nat->St->Hp->Prop) (h0:Pv 0 σ H) (hl:∀ i σ H,Pv i σ H->SqL K H a xs/\SqL K H b ys)
  (hs:∀ i x y σ H T,xs[i]?=some x->ys[i]?=some y->Pv i σ H->H T=none->g (.ref T) σ (upd H T (.tup [x,y])) λσ2 H2=>tb { D with nx:=Pv (i+1),ct:=Pv (i+1),bk:=D.nx } σ2 H2)
  (hd:∀ σ H,Pv (min xs.length ys.length) σ H->D.nx σ H) :
  ∃ W:Nat->Nat->St->Hp->Prop,(∃ m,W 0 m σ H)/\∀ i m σ H,W i m σ H ->
   ((Itz K a b).stop i H/\D.nx σ H)\/((Itz K a b).go i H/\∃ N:St->Hp->Prop,(∀ σ' H',N σ' H'->∃ m',m' < m/\W (i+1) m' σ' H')/\∀ x H',(Itz K a b).yld i H x H'->g x σ H' λσ2 H2=>tb { D with nx:=N,ct:=N,bk:=D.nx } σ2 H2):=by
 refine ⟨λi m σ H=>m=min xs.length ys.length - i/\i<=min xs.length ys.length/\Pv i σ H,⟨min xs.length ys.length,by simp,Nat.zero_le _,h0⟩,?_⟩
 rintro i m σ H ⟨rfl,hi,p⟩
 obtain ⟨q1,q2⟩:=hl i σ H p
 by_cases lt:i < min xs.length ys.length
 ·have e1:xs[i]?=some xs[i]:=E3 (by omega)
  have e2:ys[i]?=some ys[i]:=E3 (by omega)
  refine .inr ⟨⟨xs,ys,_,_,q1,q2,e1,e2⟩,Pv (i+1),λσ' H' p'=>⟨_,?_,rfl,lt,p'⟩,λv H' yl=>?_⟩
  ·omega
  ·obtain ⟨T,hT,rfl,e⟩:=yl
   rw [e xs ys _ _ q1 q2 e1 e2]
   exact hs i _ _ σ H T e1 e2 p hT
 ·have e:i=min xs.length ys.length:=by omega
  subst e
  exact .inl ⟨⟨xs,ys,q1,q2,by omega⟩,hd σ H p⟩
end L2
namespace L2
open PySem PySem.Spec PyProof.Rows
section
variable {X:Cx}
end
end L2
namespace L2
open PySem PySem.Spec PyProof.Rows
theorem gp {X:Cx} {K:PySem.W.Frag} (h:X.K=K):dz X (.type "list") (λxs H Q=>∃ p ys,xs=[.ref p]/\(SqL K H p ys\/SqT K H p ys)/\∀ l,H l=none->Q (.ref l) (upd H l (.lst ys))):=h ▸ bZ
end L2
namespace L2
open PySem
set_option maxRecDepth 100000
abbrev wc (h:Heap) (z TI TO T0:Addr) (b:Bool):Prop :=
 h.get? z=some { cls:=.type "zip",dict:=none,data:=.fields #[rawInt T0,.bool b,.bool false,.ref TI,.ref TO],slots:=#[] }
section
variable {prog:Program} {w:World} {A:Around} {E:Value->Shared->Prop} {s:Shared}
end
section
variable {prog:Program} {w:World} {A:Around} {R:Result->Shared->Prop} {E:Value->Shared->Prop}
def DJ (h:Heap) (z TI TO:Addr) (N:Nat) (i:Nat):Prop:=(i=0/\IsZip h z TI TO .none)\/∃ T0 bb o,N<=T0/\T0 ≠ z/\wc h z TI TO T0 bb/\h.get? T0=some o/\o.cls=.type "tuple"
end
end L2
namespace L2
open PySem
set_option maxRecDepth 100000
section
variable {prog:Program} {w:World} {A:Around} {E:Value->Shared->Prop} {s:Shared}
end
end L2
namespace L2
open PySem PySem.Spec PyProof.Rows
set_option maxRecDepth 100000
theorem cL:∀ {l L:List Int},l.Nodup->(∀ x ∈ l,x ∈ L)->l.length<=L.length
 | [],_,_,_=>Nat.zero_le _
 | x :: l,L,hn,hs=>by
  obtain ⟨h1,h2⟩:=List.nodup_cons.mp hn
  have hx:=hs x List.mem_cons_self
  have ih:=cL (L:=L.erase x) h2 λy hy=>(List.mem_erase_of_ne (λ(e:y=x)=>h1 (e ▸ hy))).mpr (hs y (List.mem_cons_of_mem _ hy))
  rw [List.length_erase_of_mem hx] at ih
  have:0 < L.length:=List.length_pos_of_mem hx
  rw [List.length_cons];omega
theorem qh:∀ {vs:List Value},(∀ v ∈ vs,∃ u,v=.int (iW v) u)->IntsAre vs (vs.map iW)
 | [],_=>.nil
 | v :: vs,h=>by
  obtain ⟨u,e⟩:=h v List.mem_cons_self
  rw [e]
  exact .cons _ u (qh λx hx=>h x (List.mem_cons_of_mem _ hx))
theorem lQ:∀ {vs:List Value} {ns:List Int},IntsAre vs ns->Vals (ns.map V.int) vs
 | _,_,.nil=>.nil
 | _,_,.cons n t r=>.cons ⟨t,rfl⟩ (lQ r)
theorem fm:∀ {ns:List Int},ns.Pairwise (· <= ·)->ns.Nodup->ns.Pairwise (· < ·)
 | [],_,_=>.nil
 | n :: ns,h1,h2=>by
  obtain ⟨a1,a2⟩:=List.pairwise_cons.mp h1
  obtain ⟨b1,b2⟩:=List.nodup_cons.mp h2
  refine .cons (λm hm=>?_) (fm a2 b2)
  have:=a1 m hm
  have:n ≠ m:=λe=>b1 (e ▸ hm)
  omega
section
variable {prog:Program} {w:World} {A:Around} {E:Value->Shared->Prop} {s:Shared}
theorem pD {a:Addr} {ks:List Int} {m:Nat} {Q:Value->Shared->Prop} (hh:A.handled=none) (hW:cI s.heap a (!cK w) ks m) (hm:m < 64)
  (h:∀ (ns:List Int) (vs:List Value) (s' : Shared) (D:Addr) (c:Nat),Vals (ns.map V.int) vs->ns.Pairwise (· < ·)->(∀ k,k ∈ ns↔k ∈ ks)->s.heap.objs.size<=D->(∀ b u,s.heap.get? b=some u->s'.heap.get? b=some u)->s'.heap.get? D=some (seqObj "list" vs.toArray c)->s'.gens=s.gens->s'.os=s.os->ns.length=m->Q (.ref D) s') :
  wpAny (model prog w) A (call (.builtin "sorted") [.ref a]) Q E s:=by
 obtain ⟨o,es,ep,t,ho,hex,hd,hE,hb,hf,ha,hl,hn⟩:=hW
 refine Calls.call_function_entry kind_sorted plain_sorted entry_sorted (args_sorted1 _) ?_
 unfold Builtin.«sorted»
 refine wpAny_bind (m:=checkCount "sorted" 1 1 _) (wpAny_pure ?_)
 refine wpAny_bind (om (by simp [hh]) ho hex hd hb hf ha hl λord s1 pm kp hg hos hss=>?_)
 have hlen:ord.length=m:=by rw [pm.length_eq,List.length_map,Array.length_toList,hn]
 have hint:∀ v ∈ ord,∃ u,v=.int (iW v) u:=λv hv=>by
  obtain ⟨e,he,rfl⟩:=List.mem_map.mp (pm.mem_iff.mp hv)
  exact (hE.ent e he).2
 have hI:=qh hint
 have pk:(ord.map iW).Perm (es.toList.map λe=>iW e.2):=by
  have:=pm.map iW
  rw [List.map_map] at this
  exact this
 refine wpAny_bind (wpAny_newList ?_ (by rw [sizeLine_eq];omega))
 have hoL:(s1.heap.push (seqObj "list" ord.toArray 0)).get? s1.heap.objs.size=some (seqObj "list" ord.toArray 0):=Heap.get?_push_size _ rfl
 have keep:∀ b u,s.heap.get? b=some u->(s1.heap.push (seqObj "list" ord.toArray 0)).get? b=some u:=λb u q=>Heap.get?_push_of_some _ (kp b u q)
 show wpAny _ _ _ _ _ { s1 with heap:=s1.heap.push (seqObj "list" ord.toArray 0) }
 refine wpAny_bind (wpAny_holding (wpAny_call_entry slot_list_sort ⟨_,hoL,rfl⟩ entry_list_sort ?body (args_list_sort _)))
 case body =>
  refine list_sort_tree (s:={ s1 with heap:=s1.heap.push (seqObj "list" ord.toArray 0) }) hoL hI (by omega) λout ns' a1 a2 a3=>⟨_,rfl,wpAny_pure ⟨_,rfl,?_⟩⟩
  have nd:ns'.Nodup:=a2.nodup_iff.mpr (pk.nodup_iff.mpr hE.nd)
  have hlt:s1.heap.objs.size < (s1.heap.push (seqObj "list" ord.toArray 0)).objs.size:=Heap.lt_size hoL
  obtain ⟨e1,ho1⟩:∃ e1,((s1.heap.push (seqObj "list" ord.toArray 0)).update s1.heap.objs.size (Obj.mapSeq λ_=>#[])).get? s1.heap.objs.size=some (seqObj "list" #[] e1):=⟨_,get?_update_seq hoL (λ_=>#[])⟩
  have h3:∀ b,b < (s1.heap.push (seqObj "list" ord.toArray 0)).objs.size->((((s1.heap.push (seqObj "list" ord.toArray 0)).update s1.heap.objs.size (Obj.mapSeq λ_=>#[])).push (seqObj "tuple" ord.toArray 0)).push (seqObj "list" #[] 0)).get? b=((s1.heap.push (seqObj "list" ord.toArray 0)).update s1.heap.objs.size (Obj.mapSeq λ_=>#[])).get? b:=λb hb=>by
   rw [Heap.get?_push_ne _ _ _ (by rw [size_push',Heap.size_update];exact Nat.ne_of_lt (Nat.lt_succ_of_lt hb)),Heap.get?_push_ne _ _ _ (by rw [Heap.size_update];exact Nat.ne_of_lt hb)]
  have e6:((((s1.heap.push (seqObj "list" ord.toArray 0)).update s1.heap.objs.size (Obj.mapSeq λ_=>#[])).push (seqObj "tuple" ord.toArray 0)).push (seqObj "list" #[] 0)).get? s1.heap.objs.size=some (seqObj "list" #[] e1):=by rw [h3 _ hlt];exact ho1
  have sz:s.heap.objs.size<=s1.heap.objs.size:=Nat.le_of_lt hss
  refine h ns' out.toList { s1 with heap:=sortedHeap (s1.heap.push (seqObj "list" ord.toArray 0)) s1.heap.objs.size ord out } s1.heap.objs.size _ (lQ a1) (fm a3 nd) (λk=>(a2.mem_iff).trans ((pk.mem_iff).trans (hE.mem k).symm)) sz (λb u q=>?_) (get?_update_seq e6 (λ_=>out)) hg hos ?_
  ·have hb1:b < s1.heap.objs.size:=Heap.lt_size (kp b u q)
   show (Heap.update _ _ _).get? b=some u
   rw [Heap.get?_update_ne _ _ _ _ (Nat.ne_of_lt hb1),h3 _ (Nat.lt_trans hb1 hlt),Heap.get?_update_ne _ _ _ _ (Nat.ne_of_lt hb1)]
   exact keep b u q
  ·rw [a2.length_eq,List.length_map,hlen]
end
section
variable {X:Cx} {pins:List (Addr × Obj)} {σ:St} {H H' : Hp} {s:Shared}
theorem Inv.grow {s' : Shared} (I:Inv X pins σ H s) (k:∀ b o,s.heap.get? b=some o->s'.heap.get? b=some o) (hg:s'.gens=s.gens) (hos:s'.os=s.os) (hold:∀ b,b < s.heap.objs.size->H' b=H b)
  (si:∀ b u,s.heap.objs.size<=b->H' b=some u->bW X.prog X.w H' s'.heap b u):Inv X pins σ H' s':=by
 obtain ⟨h',g',d',t',o'⟩:=s'
 obtain rfl:g'=s.gens:=hg
 obtain rfl:o'=s.os:=hos
 have lt:∀ {b u},H b=some u->b < s.heap.objs.size:=λ{b u} e=>by
  rcases Nat.lt_or_ge b s.heap.objs.size with z | z
  ·exact z
  ·rw [I.hok.fresh z] at e;cases e
 have same:∀ {b u},H b=some u->H' b=some u:=λe=>by rw [hold _ (lt e)];exact e
 exact I.step (h':=h') (g':=s.gens) (d':=d') (t':=t') (ch:=[]) (λ_ z=>nomatch z) (λb o _ _ _ e _=>k b o e) (λb o _ _ _ e _=>⟨o.slots,k b o e⟩)
  (λb o _ e n=>by rw [hold _ (Heap.lt_size e)];exact n) (λb o _ e=>⟨o,k b o e⟩) (λb xs e=>same e) (λb o u e=>same e) (λb ps e=>⟨#[],by rw [same e];simp⟩)
  (λm hm=>by
   obtain ⟨o,es,ep,ho,r⟩:=hm
   exact ⟨o,es,ep,k _ o ho,r⟩)
  (λb u e=>by
   rcases Nat.lt_or_ge b s.heap.objs.size with z | z
   ·rw [hold _ z] at e
    exact (I.hok b u e).stay (λc u' _ q=>k c u' q) (λc q=>same q) λc xs q=>same q
   ·exact si b u z e)
  I.bare
end
def mz (w:World) (a:Addr) (zs:List Int):HO:=.ext λh=>∃ m,cI h a (!cK w) zs m
section
variable {X:Cx}
theorem kq:∀ {zs:List Int} {us:List Value},Vals (zs.map V.int) us->∀ (i:Nat) (v:Value),us[i]?=some v->∃ z t,zs[i]?=some z/\v=.int z t
 | [],_,.nil,i,v,h=>by simp at h
 | z :: zs,_,.cons ⟨t,e⟩ r,0,v,h=>by simp at h;exact ⟨z,t,rfl,by rw [← h,e]⟩
 | z :: zs,_,.cons _ r,i+1,v,h=>by
  obtain ⟨z',t,e1,e2⟩:=kq r i v (by simpa using h)
  exact ⟨z',t,by simpa using e1,e2⟩
theorem fK {w:World} (hw:X.w=w) (hc:X.calm=true):dz X (.type "set") (λxs H Q=>∃ (p:Addr) (zs:List Int),xs=[.ref p]/\SqL X.K H p (zs.map V.int)/\zs.length<=1000/\∀ l,H l=none->Q (.ref l) (upd H l (mz w l zs))):=by
 subst hw
 intro pins s σ H xs us Q I r h
 obtain ⟨p,zs,rfl,hS,hz,q⟩:=h
 obtain ⟨u,rfl,ru⟩:=r.one
 obtain rfl:u=Value.ref p:=ru
 obtain ⟨its,rv,pl,_⟩:=I.list hS
 have hl:=rv.length
 rw [List.length_map] at hl
 refine qP (ks:=zs) (I.ok.hd hc) pl.isList (λi v e=>?_) (by simpa using hl) (by unfold scanBound;simp;omega) λh' tk m x hm kp=>?_
 ·exact kq rv i v (by simpa using e)
 ·refine ⟨.ref s.heap.objs.size,_,I.laid (a:=s.heap.objs.size) (o:=mz X.w s.heap.objs.size zs) (h':=h') (t':=tk) (λb o q=>kp b o (Heap.lt_size q) q) (Nat.le_refl _) ?_,rfl,q _ I.fresh⟩
  refine ⟨⟨m,x⟩,?_,λh1 h2 ⟨m',y⟩ k=>⟨m',y.stay k⟩⟩
  obtain ⟨o,_,_,_,g,_⟩:=x
  exact ⟨o,g⟩
theorem b9 {w:World} (hw:X.w=w) (hc:X.calm=true):dz X (.builtin "sorted") (λus H Q=>∃ (a:Addr) (zs L:List Int),us=[.ref a]/\H a=some (mz w a zs)/\L.length < 64/\(∀ k ∈ zs,k ∈ L) /\
  ∀ (D:Addr) (ns:List Int),H D=none->ns.Pairwise (· < ·)->(∀ k,k ∈ ns↔k ∈ zs)->Q (.ref D) (upd H D (.lst (ns.map V.int)))):=by
 subst hw
 intro pins s σ H us vs Q I r h
 obtain ⟨a,zs,L,rfl,e,hL,hs,q⟩:=h
 obtain ⟨u,rfl,ru⟩:=r.one
 obtain rfl:u=Value.ref a:=ru
 obtain ⟨⟨m,x⟩,_,_⟩:=I.hok a _ e
 have hm:m < 64:=by
  obtain ⟨o,es,ep,t,_,_,_,hE,_,_,_,_,hn⟩:=id x
  have:=cL (L:=L) hE.nd λk hk=>hs k ((hE.mem k).mpr hk)
  rw [List.length_map,Array.length_toList,hn] at this
  omega
 refine pD (I.ok.hd hc) x hm λns us s' D c a1 a2 a3 a4 a5 a6 a7 a8 a9=>?_
 have hD:H D=none:=I.hok.fresh a4
 refine ⟨.ref D,upd H D (.lst (ns.map V.int)),I.grow a5 a7 a8 (λb hb=>by rw [au (Nat.ne_of_lt (Nat.lt_of_lt_of_le hb a4))]) (λb u hb eu=>?_),rfl,q D ns hD a2 a3⟩
 by_cases z:b=D
 ·subst z
  rw [ae] at eu
  cases eu
  exact ⟨by rw [List.length_map,sizeLine_eq];omega,us,c,a1,a6⟩
 ·rw [au z,I.hok.fresh hb] at eu
  cases eu
def tLZ (K:PySem.W.Frag) (ta:TA):TE:=λσ H Q=>ta σ H λvs H1=>∃ a b xs ys,vs=[.ref a,.ref b]/\SqL K H1 a xs/\SqL K H1 b ys /\
 ∀ (D:Addr) (ts:List Addr) (H2:Hp),ts.length=min xs.length ys.length->(∀ c o,H1 c=some o->H2 c=some o)->H1 D=none->H2 D=some (.lst (ts.map V.ref)) ->
  (∀ (j:Nat) (x y:V),xs[j]?=some x->ys[j]?=some y->∃ T,ts[j]?=some T/\H1 T=none/\H2 T=some (.tup [x,y]))->Q (.ref D) H2
def AL (xs ys:List V) (ts:List Addr) (b:Addr):Option HO :=
 match ts.idxOf? b with
 | some j=>match xs[j]?,ys[j]? with
  | some x,some y=>some (.tup [x,y])
  | _,_=>none
 | none=>none
end
end L2
namespace L2
open PySem PySem.Spec PyProof.Rows
def Ite (K:PySem.W.Frag) (a:Addr):It :=
 ⟨λi H=>∃ xs x,SqL K H a xs/\xs[i]?=some x,
 λi H v H'=>∃ T,H T=none/\v=.ref T/\∀ xs x,SqL K H a xs->xs[i]?=some x->H'=upd H T (.tup [.int i,x]),
 λi H=>∃ xs,SqL K H a xs/\xs.length<=i⟩
def AM (e it a:Addr) (i:Nat) (h:Heap):Prop:=(∃ old,IsEnum h e it i old)/\h.IsListIter it a i
def DK (K:PySem.W.Frag) (ta:TA):TI:=λσ H R=>ta σ H λvs H1=>∃ a,vs=[.ref a]/\(∃ xs,SqL K H1 a xs)/\R (Ite K a) H1
section
variable {X:Cx}
end
section
variable {gt:TG} {k:Nat} {fr:List Nat} {tt:TT} {te:TE}
end
theorem fq {X:Cx} {N:List Str} {k:Nat} {fr:List Nat} {scope:Scope} {cl:List (Str × Addr)} (clos:closureFor scope X.env=pure cl) (kind:scope.kind=.function) (nocell:∀ y ∈ scope.names,y.2 ≠ .cell)
  (names:∀ y ∈ scope.names,y.2=.local->scope.names.lookup y.1=some .local) (len:N.length=k+fr.length)
  (sub:((List.range fr.length).all λi=>match N[k+i]?,fr[i]? with | some y,some j=>(X.N[j]? == some y) && ((X.env.kindOf y == some .cell) && ((relabel scope X.env).names.lookup y == some .cell)) | _,_=>false)=true)
  (cells:∀ p ∈ cl,X.env.cells.lookup p.1=some p.2) (has:((relabel scope X.env).names.all λp=>(p.2 != .cell && p.2 != .free) || (cl.lookup p.1).isSome)=true):kb X N k fr scope cl:=by
 refine ⟨clos,kind,nocell,names,len,λi y e=>?_,λy c e=>cells _ (PySem.mem_of_lookup e),λy h=>?_⟩
 ·have hi:i < fr.length:=by have:=(E4.mp e).1;omega
  have z:=List.all_eq_true.mp sub i (List.mem_range.mpr hi)
  rw [e,E3 hi] at z
  simp only [Bool.and_eq_true,beq_iff_eq] at z
  exact ⟨_,E3 hi,z.1,.inl z.2.1,.inl z.2.2⟩
 ·have look:∀ k,(relabel scope X.env).names.lookup y=some k->(k=.cell\/k=.free)->∃ c,cl.lookup y=some c:=λk e hk=>by
   have z:=List.all_eq_true.mp has _ (PySem.mem_of_lookup e)
   rcases hk with rfl | rfl
   ·exact Option.isSome_iff_exists.mp (by simpa using z)
   ·exact Option.isSome_iff_exists.mp (by simpa using z)
  rcases h with h | h
  ·exact look _ h (.inl rfl)
  ·exact look _ h (.inr rfl)
section
variable {X:Cx}
theorem qW {K:PySem.W.Frag} (hK:X.K=K) {a:Expr} {ta:TE} (ha:PE X a ta) (he:∀ whole,isTrue a X.env whole=(do let v ← whole;standAt a.pos;holding [v] (truthy v)):=by intro _;rfl) :
  PT X a (λσ H Q=>ta σ H λx H'=>∃ k,vH K x H' k/\Q k H'):=hK ▸ nO ha he
end
section
variable {X:Cx} {elt iter tg:Expr} {ifs:List Expr} {pos:Pos} {scope:Scope} {cl:List (Str × Addr)} {N:List Str} {k:Nat} {fr:List Nat} {gt:TG} {tt:TT} {te:TE}
theorem sj {wi:TI} {i:Nat} {y:Str} {py rQ:Pos} (hN:X.N.Nodup) (hy:X.N[i]?=some y) (hl:Loc X.env.scope y) (hi:PI X tg iter wi) (O:kb X N k fr scope cl) (hc:X.calm=true) (hg:∀ fp C s H,PG (bx X N scope cl fp C s H) tg gt)
  (ht:∀ fp C s H,PIf (bx X N scope cl fp C s H) ifs tt) (he:∀ fp C s H,PE (bx X N scope cl fp C s H) elt te) (hs:∀ v,foldedSetIterable iter X.env v=pure v:=by intro _;rfl)
  (hsw:swapsWith (.ListComp elt [⟨tg,iter,ifs,0⟩] scope pos) (some (.Name y py)) rQ.line X.env=pure true:=by rfl) (hf:X.fn y=true\/X.env.scope.names.lookup y=some .local:=by first | exact .inl rfl | exact .inr rfl | assumption) :
  PS X (.Assign [.Name y py] (.ListComp elt [⟨tg,iter,ifs,0⟩] scope pos) rQ) (uc (rR wi gt k fr tt te) (lA i)):=by
 intro pins s σ H D0 I h
 rw [exec_Assign_Name_used _ _ _ _ hsw]
 refine wpAny_bind (wpAny_standAt (wpAny_bind ?_))
 show wpAny _ X.A (do let _ ← comprehension (.ListComp elt [⟨tg,iter,ifs,0⟩] scope pos) scope X.env _ (newList []) false (eval iter X.env) (some (assign (.Name y py) X.env))) _ _ s
 refine wpAny_bind (wpAny_mono (wpAny_comprehension_free (use:=some (assign (.Name y py) X.env)) (Q:=λ_ s'=>SP X pins D0 .next s') rfl hs O.clos O.kind O.names (thn (hi pins s σ H _ I h) λv s1 h1=>thn h1 λitv s2 h2=>?_)) (λ_ s' hq=>wpAny_pure (wpAny_pure hq)) λ_ _ z=>z)
 obtain ⟨it,fp,tn,J,H2,e,I2,T,st2,f2,hW⟩:=h2
 subst e
 refine kc (Q:=λv H1=>lA i v σ H1 D0.nx) (RR:=λacc C=>compPost (model X.prog X.w) X.A X.xe (some (assign (.Name y py) X.env)) (λ_ s'=>SP X pins D0 .next s') acc C) O hc I2 T st2 f2 ht he hg hW λD C s' H' hC hn ⟨m,hm⟩ I' q=>?_
 show wpAny _ X.A (assign (.Name y py) X.env (.ref D)) _ _ s'
 refine wpAny_assign_Name (iM I' hN hy hl (v:=.ref D) rfl (λs3 I3 ⟨a,hsa,ha⟩=>?_) hf)
 have hCa:C ≠ a:=by
  rcases ha with z | z
  ·rw [z];exact Nat.ne_of_gt (Nat.lt_of_lt_of_le I2.lt hC)
  ·obtain ⟨v,o,ho,_⟩:=I2.cell y a z
   exact Nat.ne_of_gt (Nat.lt_of_lt_of_le (Heap.lt_size ho) hC)
 exact ⟨m,hm.sameBut hsa hCa,λh' hs'=>⟨_,H',I2.left I3 hC hn hs',q⟩⟩
end
end L2
namespace L2
open PySem
set_option maxRecDepth 100000
section
variable {prog:Program} {w:World} {A:Around} {E:Value->Shared->Prop} {s:Shared}
end
section
variable {X:Cx}
def tLR (K:PySem.W.Frag) (ta:TA):TE:=λσ H Q=>ta σ H λvs H1=>∃ a xs,vs=[.ref a]/\SqL K H1 a xs/\∀ p,H1 p=none->Q (.ref p) (upd H1 p (.lst xs.reverse))
end
end L2
namespace L2
open PySem
end L2
namespace L2
open PySem
section
variable {prog:Program} {w:World} {A:Around} {E:Value->Shared->Prop} {s:Shared}
theorem mB:typeLookup (.type "list") "keys" = pure none:=by rw [typeLookup_type,builtinLookup_eq_fast];kernel_rfl
theorem qX {a:Addr} {items:Array Value} {Q:Option Value->Shared->Prop} (hl:s.heap.IsList a items) (hdn:∀ o,s.heap.get? a=some o->o.dict=none) (hA:A.handled=none)
  (h:∀ h' tk,(∀ b o,s.heap.get? b=some o->h'.get? b=some o)->Q none { s with heap:=h',toks:=tk }) :
  wpAny (model prog w) A (getAttr? (.ref a) "keys") Q E s:=by
 obtain ⟨o,hx,hc,k,yF⟩:=hl
 have hd:=hdn o hx
 obtain ⟨c,dct,dat,sl⟩:=o
 simp only at hc yF hd
 subst hc yF hd
 obtain ⟨hp,g,d,tk,os⟩:=s
 have hT:∀ tk',(⟨hp,g,d,tk',os⟩:Shared).TypeIs (.ref a) "list" := λ_=>⟨_,hx,rfl⟩
 have f1:=sub_AttributeError
 have f3:=F.slot_list_getattribute.lookup
 have f4:=F.slot_list_getattribute.bind (.ref a)
 have f5:=am_list_getattr_none
 unfold getAttr? getAttrBy? getAttrBy
 repeat (any_goals (first | assumption | exact hT _ | ((with_reducible show wpAny _ _ (call (Value.builtin "list.__getattribute__") _ _) _ _ _);refine call_meets F.slot_list_getattribute (hT _) am_entry_list_getattribute (F.args_list_getattribute_2 _ _) (meets_getattribute_miss_list a _ k sl "keys" _ mB (by decide) (by decide)) ⟨hx,hA,λh' tk' e hx'=>?_⟩) | wp_step))
 obtain ⟨t',u',he⟩:=hx'.there
 show wpAny _ _ (getattributeRaised _ _ _ _ _ _ _) _ _ _
 unfold getattributeRaised
 repeat (any_goals (first | assumption | wp_step))
 exact h _ _ hx'.of.keeps
theorem bU:plainId "dict.update.loop" = true:=by decide +kernel
theorem dD:entryFor table "dict.update.loop" = some Builtin.«dict.update.loop»:=entryFor_of_fast (by kernel_rfl)
theorem i0 {κ:Type} [DecidableEq κ] {knd:KeyKind prog w κ} {d I ax:Addr} {items:Array Value} {ps:List (κ × Value)} {res:Value} (hh:A.handled=none) (hI:I ≠ ax) (hdI:d ≠ I) (hdx:d ≠ ax) (hps:ps.length=items.size) :
  ∀ (k i:Nat) (s:Shared) (kvs:List (κ × Value)) (t0:Tok) (R:Result->Shared->Prop),items.size - i=k->i<=items.size->s.heap.IsListIter I ax i->s.heap.IsList ax items->s.heap.DictOf knd d kvs ->
   (∀ (j:Nat) (p:κ × Value),ps[j]?=some p->∃ (t:Addr) (o:Obj) (n:Nat) (key:Value),items[j]?=some (.ref t)/\s.heap.get? t=some o/\o.cls=.type "tuple" /\ o.data=.seq #[key,p.2] n/\knd.is p.1 key=true/\t ≠ I/\t ≠ d) ->
   kvs.length+k<=sizeLine ->
   (∀ h' tk,h'.DictOf knd d (merged kvs (ps.drop i))->(∀ b o,b ≠ I->b ≠ d->s.heap.get? b=some o->h'.get? b=some o)->R (.ok (.ret res)) { s with heap:=h',toks:=tk }) ->
   codeAny (model prog w) A (.builtin "dict.update.loop" ⟨[.ref d,.ref I,.int (i:Int) t0,res],[]⟩) R s:=by
 intro k
 induction k with
 | zero =>
  intro i s kvs t0 R hk hi hit hl hd hT hsz hR
  have hin:i=items.size:=by omega
  refine codeAny_builtin dD ?_
  rw [Around.under_plainId bU _]
  unfold Builtin.«dict.update.loop»
  show wpAny _ A.in1 (pyNext (.ref I) >>= _) _ _ s
  refine wpAny_bind (wpAny_pyNext_list_end (by simp [hh]) hit hl (by simp [hin]) λh' he'=>?_)
  show wpAny _ A.in1 (Builtin.Dict.addKeywords d [] >>= _) _ _ _
  refine wpAny_bind (wpAny_pure (wpAny_pure ?_))
  have e:ps.drop i=[]:=List.drop_of_length_le (by omega)
  refine hR h' _ ?_ λb o hb _ e=>he' b o hb e
  rw [e]
  exact hd.extBut he' hdI
 | succ k ih =>
  intro i s kvs t0 R hk hi hit hl hd hT hsz hR
  have hlt:i < items.size:=by omega
  have ep:=E3 (l:=ps) (i:=i) (by omega)
  obtain ⟨t,o,n,key,e1,e2,e3,e4,e5,e6,e7⟩:=hT i _ ep
  refine codeAny_builtin dD ?_
  rw [Around.under_plainId bU _]
  unfold Builtin.«dict.update.loop»
  show wpAny _ A.in1 (pyNext (.ref I) >>= _) _ _ s
  refine wpAny_bind (wpAny_pyNext_list_item hit hl e1 λh' AN hs'=>?_)
  have et' : h'.get? t=some o:=(hs'.2 t e6).trans e2
  refine wpAny_bind (wpAny_holding ?_)
  refine wpAny_bind (wpAny_tryCatch ?_)
  unfold Builtin.Dict.pairItems
  refine wpAny_bind (wpAny_typeOf (T := "tuple") ⟨o,et',e3⟩ ?_)
  rw [if_pos (by decide)]
  refine wpAny_bind (wpAny_seqItems et' e4 (wpAny_pure ?_))
  show wpAny _ _ (holding [key,(ps[i]).2] (dictSet d key (ps[i]).2)) _ _ _
  refine wpAny_holding ?_
  have hd' : h'.DictOf knd d kvs:=hd.extBut hs'.extBut hdI
  refine wpAny_dictSet_pairs e5 hd' (λh2 hd2 hs2=>?_) (by omega)
  have kp:∀ b ob,b ≠ I->b ≠ d->s.heap.get? b=some ob->h2.get? b=some ob:=λb ob n1 n2 e=>(hs2.2 b n2).trans ((hs'.2 b n1).trans e)
  have hsl:(stored kvs (ps[i]).1 (ps[i]).2).length<=kvs.length+1:=by
   unfold stored
   split
   ·rw [List.length_map];omega
   ·rw [List.length_append];simp
  have edr:ps.drop i=ps[i] :: ps.drop (i+1):=List.drop_eq_getElem_cons (by omega)
  refine wpAny_pure ⟨plainId_quiet bU _,?_⟩
  have go:=ih (i+1) { s with heap:=h2,toks:=s.toks+1 } (stored kvs (ps[i]).1 (ps[i]).2) 0 R (by omega) (by omega) (AN.at λob e=>(hs2.2 I hdI.symm).trans e) (hl.at λob e=>kp ax ob hI.symm hdx.symm e) hd2 (λj p ej=>?_) (by omega) (λh3 tk hd3 kp3=>?_)
  ·exact go
  ·obtain ⟨t',o',n',AO,f1,f2,f3,f4,f5,f6,f7⟩:=hT j p ej
   exact ⟨t',o',n',AO,f1,kp t' o' f6 f7 f2,f3,f4,f5,f6,f7⟩
  ·refine hR h3 tk ?_ λb ob n1 n2 e=>kp3 b ob n1 n2 (kp b ob n1 n2 e)
   rw [edr]
   exact hd3
theorem jo {κ:Type} [DecidableEq κ] {knd:KeyKind prog w κ} {ax:Addr} {items:Array Value} {ps:List (κ × Value)} {Q:Value->Shared->Prop} (hh:A.handled=none) (hl:s.heap.IsList ax items) (hdn:∀ o,s.heap.get? ax=some o->o.dict=none) (hps:ps.length=items.size) (hsz:items.size<=sizeLine) (hnd:(ps.map (·.1)).Nodup)
  (hT:∀ (j:Nat) (p:κ × Value),ps[j]?=some p->∃ (t:Addr) (o:Obj) (n:Nat) (key:Value),items[j]?=some (.ref t)/\s.heap.get? t=some o/\o.cls=.type "tuple" /\ o.data=.seq #[key,p.2] n/\knd.is p.1 key=true)
  (hQ:∀ h' tk,h'.DictOf knd s.heap.objs.size ps->(∀ b o,s.heap.get? b=some o->h'.get? b=some o)->Q (.ref s.heap.objs.size) { s with heap:=h',toks:=tk }) :
  wpAny (model prog w) A (call (.type "dict") [.ref ax]) Q E s:=by
 refine callType_codes (Q₁:=λobj s₁=>obj=.ref s.heap.objs.size/\s₁ = { s with heap:=s.heap.push { cls:=.type "dict",data:=.dict #[] } }) F.kt_called_dict (F.kt_typeCall_dict_1 _) F.entry_dict_init (kt_code_dict_new _ ⟨rfl,rfl⟩) ?_
 rintro obj s₁ ⟨rfl,rfl⟩
 have si:(s.heap.push { cls:=.type "dict",data:=.dict #[] }).DictOf knd s.heap.objs.size []:=Heap.DictOf.new s.heap
 have k0:∀ b o,s.heap.get? b=some o->(s.heap.push { cls:=.type "dict",data:=.dict #[] }).get? b=some o:=λb o e=>Heap.get?_push_of_some _ e
 have hl0:=hl.at λo e=>k0 ax o e
 refine ⟨si.typeIs,F.args_dict_init_2 _ _,?_⟩
 unfold Builtin.«dict.__init__»
 refine wpAny_bind ?_
 unfold Builtin.Dict.selfAndRest
 refine wpAny_bind (wpAny_notOrdered_dict si.typeIs ?_)
 show wpAny _ _ (pure (s.heap.objs.size,[Value.ref ax])) _ _ _
 refine wpAny_pure ?_
 show wpAny _ _ (Builtin.Dict.updateFrom "dict.__init__" s.heap.objs.size (.ref ax) [] .none) _ _ _
 unfold Builtin.Dict.updateFrom
 refine wpAny_bind (wpAny_typeOf hl0.typeIs ?_)
 rw [if_pos (by decide)]
 have lax:ax < s.heap.objs.size:=by obtain ⟨o,e,_⟩:=id hl;exact Heap.lt_size e
 have AQ:∀ o,(s.heap.push { cls:=.type "dict",data:=.dict #[] }).get? ax=some o->o.dict=none:=λo e=>by
  obtain ⟨o',e',_⟩:=id hl
  have e2:=k0 ax o' e'
  rw [e2] at e
  have e3:=Option.some.inj e
  rw [← e3]
  exact hdn o' e'
 refine wpAny_bind (qX (s:={ s with heap:=s.heap.push { cls:=.type "dict",data:=.dict #[] } }) hl0 AQ (by simp [hh]) λh1 tk1 k1=>?_)
 rw [if_pos (by rfl)]
 refine wpAny_bind (wpAny_rule ?_)
 have k01:∀ b o,s.heap.get? b=some o->h1.get? b=some o:=λb o e=>k1 b o (k0 b o e)
 have hl1:h1.IsList ax items:=hl.at λo e=>k01 ax o e
 refine wpAny_bind (wpAny_pyIter_list (s:={ s with heap:=h1,toks:=tk1 }) hl1 ?_)
 have k2:∀ b o,h1.get? b=some o->(h1.push { cls:=.type "list_iterator",data:=.fields #[.ref ax,.int 0 0] }).get? b=some o:=λb o e=>Heap.get?_push_of_some _ e
 have eI:(h1.push { cls:=.type "list_iterator",data:=.fields #[.ref ax,.int 0 0] }).get? h1.objs.size=some { cls:=.type "list_iterator",data:=.fields #[.ref ax,.int 0 0] }:=Heap.get?_push_size _ rfl
 have hd1:h1.DictOf knd s.heap.objs.size []:=by
  obtain ⟨o,es,ep,ho,r⟩:=si
  exact ⟨o,es,ep,k1 _ _ ho,r⟩
 have hd2:(h1.push { cls:=.type "list_iterator",data:=.fields #[.ref ax,.int 0 0] }).DictOf knd s.heap.objs.size []:=hd1.push _
 have ld:s.heap.objs.size < h1.objs.size:=by obtain ⟨o,es,ep,ho,_⟩:=hd1;exact Heap.lt_size ho
 have lx1:ax < h1.objs.size:=Nat.lt_trans lax ld
 refine wpAny_pure ⟨plainId_quiet bU _,?_⟩
 refine i0 (prog:=prog) (w:=w) (knd:=knd) (d:=s.heap.objs.size) (I:=h1.objs.size) (ax:=ax) (items:=items) (ps:=ps) (res:=.none) (by simp [hh]) (Nat.ne_of_gt lx1) (Nat.ne_of_lt ld) (Nat.ne_of_gt lax) hps items.size 0 { s with heap:=h1.push { cls:=.type "list_iterator",data:=.fields #[.ref ax,.int 0 0] },toks:=tk1 } [] 0 _ (by omega) (Nat.zero_le _) ⟨_,eI,rfl,rfl⟩ (hl1.at λo e=>k2 ax o e) hd2 (λj p ej=>?_) (by simpa using hsz) (λh' tk hd' kp=>?_)
 ·obtain ⟨t,o,n,key,f1,f2,f3,f4,f5⟩:=hT j p ej
  have lt:=Heap.lt_size f2
  exact ⟨t,o,n,key,f1,k2 _ _ (k01 _ _ f2),f3,f4,f5,Nat.ne_of_lt (Nat.lt_trans lt ld),Nat.ne_of_lt lt⟩
 ·rw [List.drop_zero,merged_nil_of_nodup ps hnd] at hd'
  refine ⟨rfl,hQ h' tk hd' λb o e=>kp b o (Nat.ne_of_lt (Nat.lt_trans (Heap.lt_size e) ld)) (Nat.ne_of_lt (Heap.lt_size e)) (k2 _ _ (k01 _ _ e))⟩
end
end L2
namespace L2
open PySem
theorem lR {α β:Type} {R:α->β->Prop} : ∀ {xs:List α} {ys:List β},xs.length=ys.length->(∀ (j:Nat) (x:α) (y:β),xs[j]?=some x->ys[j]?=some y->R x y)->Paired R xs ys
 | [],[],_,_=>.nil
 | x :: xs,y :: ys,hl,h=>.cons (h 0 x y rfl rfl) (lR (by simpa using hl) λj x' y' e f=>h (j+1) x' y' (by simpa using e) (by simpa using f))
 | [],_ :: _,hl,_=>by simp at hl
 | _ :: _,[],hl,_=>by simp at hl
theorem mC {α:Type} {P:Nat->α->Prop} : ∀ n:Nat,(∀ j,j < n->∃ a,P j a)->∃ l:List α,l.length=n/\∀ (j:Nat) (a:α),l[j]?=some a->P j a
 | 0,_=>⟨[],rfl,λj a e=>by simp at e⟩
 | n+1,h=>by
  obtain ⟨l,hl,hp⟩:=mC n λj hj=>h j (by omega)
  obtain ⟨a,ha⟩:=h n (by omega)
  refine ⟨l ++ [a],by simp [hl],λj b e=>?_⟩
  by_cases hj:j < l.length
  ·rw [List.getElem?_append_left hj] at e;exact hp j b e
  ·have:j=n:=by have:=(E4.mp e).1;simp at this;omega
   subst this
   rw [List.getElem?_append_right (by omega),hl,Nat.sub_self] at e
   cases e
   exact ha
def kvT (kvs:List (Str × V)):List (Key × V):=kvs.map λp=>(Sum.inr p.1,p.2)
theorem uB {kvs:List (Str × V)} {j:Nat} {x:Key × V} (e:(kvT kvs)[j]?=some x):∃ p,kvs[j]?=some p/\x=(Sum.inr p.1,p.2):=by
 unfold kvT at e
 rw [List.getElem?_map] at e
 cases q:kvs[j]? with
 | none=>rw [q] at e;cases e
 | some p=>rw [q] at e;cases e;exact ⟨p,rfl,rfl⟩
theorem qi:∀ {kvs:List (Str × V)} {vs:List (Key × Value)} {k:Str} {v:V},KV (kvT kvs) vs->kvs.lookup k=some v->∃ u,valueAt vs (Sum.inr k:Key)=some u/\RelV v u
 | [],_,_,_,_,e=>by cases e
 | (k0,v0) :: kvs,vs,k,v,r,e=>by
  unfold KV at r
  cases r with
  | @cons p q ps qs h t =>
   obtain ⟨h1,h2⟩:=h
   have h1:(Sum.inr k0:Key)=q.1:=h1
   by_cases hk:k=k0
   ·subst hk
    rw [List.lookup_cons,beq_self_eq_true] at e
    cases e
    refine ⟨q.2,?_,h2⟩
    unfold valueAt
    rw [List.find?_cons_of_pos (by simp [h1])]
    rfl
   ·have e:kvs.lookup k=some v:=by
     rw [List.lookup_cons,beq_eq_false_iff_ne.mpr hk] at e
     exact e
    obtain ⟨u,e1,e2⟩:=qi (vs:=qs) t e
    refine ⟨u,?_,e2⟩
    have hne:¬ (q.1=(Sum.inr k:Key)):=λz=>hk (by rw [← h1] at z;injection z with z;exact z.symm)
    unfold valueAt at e1 ⊢
    rw [List.find?_cons_of_neg (by simpa using hne)]
    exact e1
section
variable {X:Cx}
theorem uC {pins:List (Addr × Obj)} {σ:St} {H:Hp} {s:Shared} (I:Inv X pins σ H s):(s.heap.objs.size == sysModules)=false:=by
 have h:mainGlobals < s.heap.objs.size:=(I.mod.glob.keeps I.bk).lt
 have h2:sysModules < s.heap.objs.size:=Nat.lt_trans (by decide) h
 exact beq_eq_false_iff_ne.mpr (Nat.ne_of_gt h2)
theorem pE (hcm:X.calm=true):dz X (.type "dict") (λxs H Q=>∃ (l:Addr) (us:List V) (kvs:List (Str × V)),xs=[.ref l]/\H l=some (.lst us)/\us.length=kvs.length/\(∀ (j:Nat) (p:Str × V),kvs[j]?=some p->∃ t:Addr,us[j]?=some (.ref t)/\H t=some (.tup [.str p.1,p.2]))/\(kvs.map (·.1)).Nodup/\∀ p,H p=none->Q (.ref p) (upd H p (.dK (kvT kvs)))):=by
 intro pins s σ H xs us0 Q I r h
 obtain ⟨l,us,kvs,rfl,el,hl,ht,hnd,q⟩:=h
 obtain ⟨u,rfl,rx⟩:=vals1 r
 cases rx
 obtain ⟨its,n,rv,eg,hz⟩:=I.lst el
 have hil:=rv.length
 obtain ⟨ps,hpl,hps⟩:=mC (P:=λj (a:Key × Value)=>∃ (p:Str × V) (t:Addr) (o:Obj) (m:Nat) (key:Value),kvs[j]?=some p/\a.1=Sum.inr p.1/\its[j]?=some (.ref t)/\RelV p.2 a.2/\s.heap.get? t=some o/\o.cls=.type "tuple" /\ o.data=.seq #[key,a.2] m/\RelV (.str p.1) key) kvs.length λj hj=>by
  have ek:=E3 hj
  obtain ⟨t,e1,e2⟩:=ht j _ ek
  obtain ⟨w',e3,e4⟩:=rv.get e1
  cases (show w'=Value.ref t from e4)
  obtain ⟨_,its',rv',o,ho,hc,m,hd⟩:=I.hok t _ e2
  obtain ⟨key,rest,rfl,rk,rr⟩:∃ key rest,its'=key :: rest/\RelV (.str kvs[j].1) key/\Vals [kvs[j].2] rest:=by
   cases rv' with
   | cons a b=>exact ⟨_,_,rfl,a,b⟩
  obtain ⟨vv,rfl,rv2⟩:=vals1 rr
  exact ⟨(Sum.inr kvs[j].1,vv),kvs[j],t,o,m,key,ek,rfl,e3,rv2,ho,hc,by simpa using hd,rk⟩
 have oo:ps.map (·.1)=kvs.map λp=>(Sum.inr p.1:Key):=by
  refine List.ext_getElem? λj=>?_
  rw [List.getElem?_map,List.getElem?_map]
  cases e:ps[j]? with
  | none =>
   have:kvs[j]?=none:=by rw [List.getElem?_eq_none_iff] at e ⊢;omega
   rw [this];rfl
  | some a =>
   obtain ⟨p,t,o,m,key,e1,e2,_⟩:=hps j a e
   rw [e1]
   show some a.1=some (Sum.inr p.1)
   rw [e2]
 refine jo (knd:=hZ X.prog X.w) (items:=its.toArray) (ps:=ps) (I.ok.hd hcm) ⟨_,eg,rfl,n,rfl⟩ (λo e=>by rw [eg] at e;cases e;rfl) (by rw [List.size_toArray,hpl,← hl,hil]) (by rw [List.size_toArray,← hil];exact hz) ?_ (λj a ea=>?_) λh' tk hd kp=>?_
 ·rw [oo,show (kvs.map λp=>(Sum.inr p.1:Key))=(kvs.map (·.1)).map λz=>(Sum.inr z:Key) by rw [List.map_map];rfl]
  rw [List.nodup_iff_pairwise_ne] at hnd ⊢
  rw [List.pairwise_map]
  exact hnd.imp λ{a b} hab z=>hab (by injection z)
 ·obtain ⟨p,t,o,m,key,e1,e2,e3,e4,e5,e6,e7,e8⟩:=hps j a ea
  refine ⟨t,o,m,key,by simpa using e3,e5,e6,e7,?_⟩
  rw [e2]
  obtain ⟨tt,rfl⟩:=(show ∃ tt,key=Value.str p.1 tt from e8)
  exact jf X.prog X.w p.1 tt
 ·refine ⟨.ref s.heap.objs.size,_,I.laid (h':=h') (t':=tk) (o:=.dK (kvT kvs)) kp (Nat.le_refl _) ⟨by unfold kvT;rw [List.length_map,← hl];exact hz,uC I,ps,lR (by unfold kvT;rw [List.length_map,hpl]) λj x y ex ey=>?_,hd⟩,rfl,q _ (I.hok.fresh (Nat.le_refl _))⟩
  obtain ⟨p,ep,rfl⟩:=uB ex
  obtain ⟨p',t,o,m,key,e1,e2,e3,e4,_⟩:=hps j y ey
  rw [ep] at e1
  cases e1
  exact ⟨e2.symm,e4⟩
def AR:R2:=λx y H Q=>∃ (a:Addr) (kvs:List (Str × V)) (k:Str) (v:V),x=.ref a/\y=.str k/\H a=some (.dK (kvT kvs))/\kvs.lookup k=some v/\Q v H
theorem uD:IxR X AR:=by
 intro value slice pins s σ H x y v u Q I rx ry h hs
 obtain ⟨a,kvs,k,z,rfl,rfl,ea,el,q⟩:=h
 cases rx
 obtain ⟨t,rfl⟩:=ry
 obtain ⟨_,_,vs,rel,dd⟩:=(show bW X.prog X.w H s.heap a (.dK (kvT kvs)) from I.hok a _ ea)
 obtain ⟨w',ew,rw'⟩:=qi rel el
 exact PyProof.Rows.tail_any dd.mapOf.typeIs slot_dict_getitem.lookup (wpAny_getItem_of (jf X.prog X.w k t) dd.mapOf ew ⟨z,H,I.tok _,rw',q⟩) hs
end
end L2
namespace L2
open PySem PySem.Spec PyProof.Rows
section
variable {X:Cx}
theorem we {a:Expr} {ta:TE} {c:Str} {k:Nat} {p1 p2 pos:Pos} (ha:PE X a ta):PE X (.JoinedStr [.Constant (.str c) k p2,.FormattedValue a 114 none p1] pos) (λσ H Q=>c.length<=1000/\tFr c ta σ H Q):=by
 intro pins s σ H Q I h
 have hb:∀ n,n<=20000->n<=sizeLine:=λn hn=>Nat.le_trans hn (by decide)
 have e0:∀ y:Str,(Str.empty ++ y).length=y.length:=λy=>by rw [len_app];show 0+_=_;omega
 obtain ⟨hcl,h⟩:=h
 refine wpAny_JoinedStr (Joins_cons ?_)
 refine thn (bM (X:=X) (x:=c) (j:=k) (pos:=p2) pins s σ H (λv H'=>v=.str c/\H'=H) I ⟨rfl,rfl⟩) λv s2 ⟨y,H2,I2,r2,e1,e2⟩=>?_
 subst e1 e2
 obtain ⟨t2,rfl⟩:=r2
 refine ⟨_,_,rfl,hb _ (by rw [e0];omega),Joins_cons (wpAny_FormattedValue_repr (thn (ha pins s2 σ H2 _ I2 h) λv s1 ⟨x,H1,I1,r1,z,ez,hz,hc,hl,q⟩=>?_))⟩
 subst ez
 obtain ⟨t,rfl⟩:=r1
 have hr:=StrLaws.reprText_len z hc
 refine pyReprObj_str (formatField_str (λt' tk=>?_) (hb _ (by omega))) (hb _ (by omega))
 refine ⟨_,_,rfl,hb _ (by rw [len_app,e0];omega),Joins_nil ⟨hb _ (by rw [len_app,e0];omega),?_⟩⟩
 exact ⟨.str _,H1,I1.tok _,⟨_,rfl⟩,q _⟩
end
end L2
namespace L2
open PySem
theorem ee {X:Cx} {K:PySem.W.Frag} (h:X.K=K):OpR X (compareOp .In) (rIn K false):=h ▸ qG
end L2
namespace L2
open PySem PySem.Spec PyProof.Rows
theorem sk {X:Cx} {K:PySem.W.Frag} {tg l:Expr} {tl:TE} (h:X.K=K) (hl:PE X l tl):PI X tg l (u6 K tl):=h ▸ aK hl
def uE (scope:Scope) (cl:List (Str × Addr)) (C:Addr) (env:Env):Env :=
 { scope:=relabel scope env,locals:=C,globals:=env.globals,cells:=cellsFrom (C+1) scope.names cl,qual:=env.qual,func:=none,code:=env.code,frame:=env.frame,builtins:=env.builtins }
def AS (X:Cx) (N:List Str) (scope:Scope) (cl:List (Str × Addr)) (fp:List Addr) (C:Addr) (s2:Shared) (H2:Hp):Cx :=
 { prog:=X.prog,w:=X.w,K:=X.K,mg:=X.mg,base:=X.base,A:=X.A,N:=N,s₀:=s2,H₀:=H2,env:=uE scope cl C X.env,outer:=X.stack,stack:=X.stack,ex:=fp,fn:=λy=>scope.names.lookup y == some .cell,calm:=X.calm,pn:=[],xe:=λ_ _=>False }
structure AU (X:Cx) (N:List Str) (k:Nat) (fr:List Nat) (scope:Scope) (cl:List (Str × Addr)):Prop where
 clos:closureFor scope X.env=pure cl
 kind:scope.kind=.function
 names:∀ y ∈ scope.names,y.2=.local->scope.names.lookup y.1=some .local
 len:N.length=k+fr.length
 sub:∀ (i:Nat) (y:Str),N[k+i]?=some y->∃ j,fr[i]?=some j/\X.N[j]?=some y/\(X.env.kindOf y=some .cell\/X.env.kindOf y=some .free)/\((relabel scope X.env).names.lookup y=some .cell\/(relabel scope X.env).names.lookup y=some .free)/\∃ c,cl.lookup y=some c/\∀ C:Addr,(cellsFrom (C+1) scope.names cl).lookup y=some c
 cells:∀ y c,cl.lookup y=some c->X.env.cells.lookup y=some c
 has:∀ (C:Addr) (y:Str),((relabel scope X.env).names.lookup y=some .cell\/(relabel scope X.env).names.lookup y=some .free)->∃ c,(cellsFrom (C+1) scope.names cl).lookup y=some c
section
variable {X:Cx} {elt iter tg:Expr} {ifs:List Expr} {pos:Pos} {scope:Scope} {cl:List (Str × Addr)} {N:List Str} {k:Nat} {fr:List Nat} {gt:TG} {tt:TT} {te:TE}
end
def AV (X:Cx) (N:List Str) (scope:Scope) (cl:List (Str × Addr)):List Nat->Nat->Prop
 | [],_=>True
 | j :: fr,i=>(∃ (y:Str) (c:Addr),N[i]?=some y/\X.N[j]?=some y/\X.env.kindOf y=some .cell/\(relabel scope X.env).names.lookup y=some .cell/\cl.lookup y=some c/\∀ C:Addr,(cellsFrom (C+1) scope.names cl).lookup y=some c)/\AV X N scope cl fr (i+1)
def zR:V->List V->Hp->VK->Prop:=λx vs H Q=>∃ (l:Addr) (xs:List V) (i:Int) (k:Nat) (y:V),x=.ref l/\vs=[.int i,y]/\i=(k:Int)/\H l=some (.lst xs)/\k<=xs.length/\xs.length < sizeLine/\Q .non (upd H l (.lst (xs.take k ++ y :: xs.drop k)))
theorem qY {X:Cx} {K:PySem.W.Frag} (h:X.K=K):MtM X "list.index" (r6 K):=h ▸ r9
theorem wg {X:Cx} {K:PySem.W.Frag} {T:String} {name:Str} {id:String} {r:V->List V->Hp->VK->Prop} {o e:Expr} {es:List Expr} {to:TE} {t:TA} {apos dF:Pos} (hK:X.K=K) (pa:PlainAttrs T) (slot:Slot T name id) (hty:typeOf (.builtin id)=pure (.type "method_descriptor")) (hm:MtR X id r) (ho:PE X o to) (ha:PA X (e :: es) t)
  (rJ:attributeBase o name X.env (eval o X.env)=eval o X.env:=by rfl)
  (mm:((backTo dF (starEach (e :: es) X.env)).all (λx=>!x.1) && (backToKw dF (keywordEach [] X.env)).all (λx=>x.1.isSome)
   && decide ((e :: es).length+([]:List Keyword).length+(if ([]:List Keyword).isEmpty then 0 else 1) < 30))=true:=by rfl)
  (rK:(apos.endLine == dF.line)=true:=by rfl) (hs:starEach (e :: es) X.env=(false,eval e X.env) :: starEach es X.env:=by rfl) (o9:(backTo dF (starEach es X.env)).any (·.1)=false:=by rfl) :
  PE X (.Call (.Attribute o name apos) (e :: es) [] dF) (tBM K T r to t):=hK ▸ cS pa slot hty hm ho ha rJ mm rK hs o9
end L2
namespace L2
open PySem PySem.Spec PyProof.Rows
def yG (B:Addr) (K:PySem.W.Frag) (G:Addr->Prop) (tb:TSX) (ts:Addr->Addr->TS):TS:=λD σ H=>tb D σ H λC H1=>PySem.W.exmOne K (.ref C) (.ref B)=some true/\G C /\
 ∀ e,ts C e D σ H1
section
variable {X:Cx} {st b₀:Stmt} {su:List Stmt} {tb:TSX} {ts:Addr->Addr->TS} {Tn:Str} {B:Addr} {np yw pos:Pos}
theorem uF {G:Addr->Prop} (hb:PSX X st tb) (hx:X.ex=[]) (hst:X.stack=X.env :: X.outer) (hfr:X.env.frame=some X.env.locals) (hg:Gl X Tn) (hm:X.mg Tn=some (.ref B))
  (hs:∀ (C e:Addr) (oe:Obj),G C->oe.cls=.ref C->PSs (sfx X e oe) (b₀ :: su) (ts C e)) (hdb:(Tn == ("__debug__" : Str))=false:=by decide) :
  PS X (.Try [st] [.ExceptHandler (some (.Name Tn np)) none (b₀ :: su) yw] [] [] pos) (yG B X.K G tb ts):=by
 intro pins s σ H D I h
 refine wpAny_Try_except ?_
 refine wpAny_execs_cons (wpAny_mono (hb pins s σ H D _ I h) (λf s1 q=>?_) λev s1 q=>?_)
 ·cases f with
  | next=>exact wpAny_execs_nil (wpAny_execs_nil q)
  | ret v=>exact q
  | brk=>exact q
  | cont=>exact q
 obtain ⟨e,T,C,a0,H1,rfl,I1,x,ne,nT,hex,hG,q⟩:=q
 have fr1:X.A.frames=some (X.env :: X.outer):=by rw [← hst];exact I1.ok.frames
 have ff1:s1.heap.FunFrames X.base (X.env :: X.outer):=by rw [← hst];exact I1.stack
 refine land fr1 ff1 hfr x λh2 T2 st2 x2 hT2=>?_
 rw [← hst] at st2
 have I2:=I1.excStep hx st2 ne nT
 have nT2:dA X pins H1 T2:=by
  rcases hT2 with z | z
  ·exact I1.newAt hx z
  ·rw [z];exact nT
 have vi:∀ {b:Addr} {o:Obj} {vs:Array Value} {hh:Heap},hh.FunFrames X.base X.stack->hh.get? b=some o->o.data=.fields vs->b ∉ X.fs:=λ{b o vs hh} ff g d z=>by
  have z' : b ∈ frs X.stack:=by rw [hst];unfold frs;rw [List.filterMap_cons,hfr];exact List.mem_cons_of_mem _ z
  obtain ⟨_,o2,g2,nf⟩:=ff.mem z'
  rw [g] at g2;cases g2
  exact nf vs d
 have I2':=I2
 obtain ⟨oe,vs,oT,ts2,y1,⟨y2,y2'⟩,y3,y4,y5,y6,y7,y8⟩:=id x2
 have S2:Inv (sfx X e oe) pins σ H1 { s1 with heap:=h2 }:=I2.suite y1 ne (λv z=>by rw [y3] at z;cases z) (vi I2.stack y1 y3)
 refine wpAny_handleBy_cons ?_ (by intro z;cases z)
 refine codeAny_handlers_test (cV (X:=sfx X e oe) S2 hg hm ?_ hdb)
 refine PySem.W.exm_one (h:=h2) S2.kIn (λA' Q' E' s' k r=>by
  have z:=wpAny_typeOf_ref (M:=model X.prog X.w) (A:=A') (E:=E') (Q:=Q') (k _ _ y1)
  rw [y2] at z
  exact z r) hex _ _ _ _ (λb o g=>g) ?_
 rw [if_pos rfl]
 refine codeAny_handlers_suite ?_
 refine vV (s:={ s1 with heap:=h2 }) (l:=X.stack) I2.stack x2 λh3 T3 st3 x3 hT3=>?_
 have I3:=I2.excStep hx st3 ne nT2
 obtain ⟨oe3,vs3,oT3,ts3,z1,⟨z2,z2'⟩,z3,z4,z5,z6,z7,z8⟩:=id x3
 have S3:Inv (sfx X e oe3) pins σ H1 { s1 with heap:=h3 }:=I3.suite z1 ne (λv z=>by rw [z3] at z;cases z) (vi I3.stack z1 z3)
 refine wpAny_mono (hs C e oe3 hG z2 pins _ _ H1 _ S3 (q e)) (λfl s5 q5=>?_) λ_ _ z=>False.elim z
 cases fl with
 | next =>
  obtain ⟨σ5,H5,S5,q5⟩:=q5
  exact ⟨_,H5,S5.unsuite I.ok,q5⟩
 | brk =>
  obtain ⟨σ5,H5,S5,q5⟩:=q5
  exact ⟨_,H5,S5.unsuite I.ok,q5⟩
 | cont =>
  obtain ⟨σ5,H5,S5,q5⟩:=q5
  exact ⟨_,H5,S5.unsuite I.ok,q5⟩
 | ret u =>
  obtain ⟨v,σ5,H5,S5,r5,q5⟩:=q5
  exact ⟨v,_,H5,S5.unsuite I.ok,r5,q5⟩
end
def AW (tc:TT) (t1 t2:TSX):TSX:=λD σ H EX=>tc σ H λb H1=>if b=true then t1 D σ H1 EX else t2 D σ H1 EX
theorem wj {X:Cx} {c:Expr} {s1 s2:Stmt} {tc:TT} {t1 t2:TSX} {pos:Pos} (hc:PT X.nox c tc) (h1:PSX X s1 t1) (h2:PSX X s2 t2):PSX X (.If c [s1] [s2] pos) (AW tc t1 t2):=by
 intro pins s σ H D EX I h
 refine wpAny_If (wpAny_mono (hc pins s σ H _ (I.wish _) h) (λd s' ⟨H1,I1,q1⟩=>?_) λ_ _ z=>False.elim z)
 have key:∀ {st:Stmt} {t:TSX},PSX X st t->t D σ H1 EX->wpAny (model X.prog X.w) X.A (execs [st] X.env) (SP X pins D) (XP X pins σ EX) s':=λ{st t} hs ht=>by
  refine wpAny_execs_cons (wpAny_mono (hs pins s' σ H1 D EX I1.unwish ht) (λf s2 q=>?_) λ_ _ z=>z)
  cases f with
  | next=>exact wpAny_execs_nil q
  | ret v=>exact q
  | brk=>exact q
  | cont=>exact q
 cases d with
 | true=>exact key h1 q1
 | false=>exact key h2 q1
end L2
set_option Elab.async false
set_option maxRecDepth 100000
set_option maxHeartbeats 4000000
set_option linter.all false
namespace My
open PySem L2
def top (i:Nat):Stmt:=PySem.Challenge.pw_rowjudge_k84_marks_of_facts.main.body.getD i (.Pass ⟨0,0,0,0⟩)
abbrev Y21:Stmt:=top 16
abbrev Y30:Stmt:=top 17
abbrev Y29:Stmt:=top 18
abbrev Y20:Stmt:=top 22
abbrev Y53:Stmt:=top 27
abbrev Y56:Stmt:=top 29
abbrev Y55:Stmt:=top 31
abbrev Y58:Stmt:=top 32
abbrev Y47:Stmt:=top 33
abbrev Y61:Stmt:=top 34
abbrev Y22:Stmt:=top 35
abbrev Y50:Stmt:=top 36
abbrev Y52:Stmt:=top 37
abbrev Y62:Stmt:=top 38
abbrev Y49:Stmt:=top 39
abbrev Y26:Stmt:=top 41
abbrev Y63:Stmt:=top 50
abbrev Y57:Stmt:=top 55
abbrev Y54:Stmt:=top 57
abbrev Y60:Stmt:=top 59
abbrev Y59:Stmt:=top 60
abbrev Y51:Stmt:=top 61
abbrev Y28:Stmt:=top 63
abbrev Y25:Stmt:=top 65
abbrev Y23:Stmt:=top 67
abbrev Y48:Stmt:=top 68
abbrev Y24:Stmt:=top 69
abbrev Y27:Stmt:=top 70
abbrev Y32:Stmt:=top 72
abbrev Y46:Stmt:=top 73
abbrev Y34:Stmt:=top 74
abbrev Y41:Stmt:=top 75
abbrev Y44:Stmt:=top 76
abbrev Y43:Stmt:=top 77
abbrev Y40:Stmt:=top 78
abbrev Y33:Stmt:=top 79
abbrev Y36:Stmt:=top 80
abbrev Y45:Stmt:=top 81
abbrev Y35:Stmt:=top 82
abbrev Y38:Stmt:=top 86
abbrev Y42:Stmt:=top 87
abbrev Y37:Stmt:=top 88
abbrev Y39:Stmt:=top 89
abbrev Y0:Stmt:=inClass (top 26) 0
abbrev Y9:Stmt:=inClass (top 20) 0
abbrev Y1:Stmt:=inClass (top 19) 0
abbrev Y19:Stmt:=inClass (top 21) 0
abbrev Y2:Stmt:=inClass (top 19) 0
abbrev Y12:Stmt:=inClass (top 54) 0
abbrev Y5:Stmt:=inClass (top 44) 0
abbrev Y13:Stmt:=inClass (top 43) 0
abbrev Y10:Stmt:=inClass (top 45) 0
abbrev Y17:Stmt:=inClass (top 43) 0
abbrev Y7:Stmt:=inClass (top 46) 0
abbrev Y15:Stmt:=inClass (top 43) 0
abbrev Y8:Stmt:=inClass (top 47) 0
abbrev Y16:Stmt:=inClass (top 43) 0
abbrev Y6:Stmt:=inClass (top 48) 0
abbrev Y14:Stmt:=inClass (top 43) 0
abbrev Y11:Stmt:=inClass (top 49) 0
abbrev Y18:Stmt:=inClass (top 43) 0
abbrev Y3:Stmt:=inClass (top 19) 5
abbrev Y4:Stmt:=inClass (top 19) 5
abbrev Y31:Stmt:=top 90
theorem Z21:aF ["text", "signs", "sign"] ["text", "signs"] (ar Y21):=⟨rfl,rfl,rfl,by decide +kernel,rfl,by decide +kernel,by decide +kernel⟩
theorem Z30:aF ["text"] ["text"] (ar Y30):=⟨rfl,rfl,rfl,by decide +kernel,rfl,by decide +kernel,by decide +kernel⟩
theorem Z29:aF ["value"] ["value"] (ar Y29):=⟨rfl,rfl,rfl,by decide +kernel,rfl,by decide +kernel,by decide +kernel⟩
theorem Z20:aF ["one", "other"] ["one", "other"] (ar Y20):=⟨rfl,rfl,rfl,by decide +kernel,rfl,by decide +kernel,by decide +kernel⟩
theorem Z53:aF ["facts", "tables"] ["facts", "tables"] (ar Y53):=⟨rfl,rfl,rfl,by decide +kernel,rfl,by decide +kernel,by decide +kernel⟩
theorem Z56:aF ["facts", "tables", "name", "domain", "names", "table"] ["facts", "tables"] (ar Y56):=⟨rfl,rfl,rfl,by decide +kernel,rfl,by decide +kernel,by decide +kernel⟩
theorem Z55:aF ["facts", "tables", "due", "table", "name", "domain"] ["facts", "tables"] (ar Y55):=⟨rfl,rfl,rfl,by decide +kernel,rfl,by decide +kernel,by decide +kernel⟩
theorem Z58:aF ["tables", "left", "names", "waiting"] ["tables"] (ar Y58):=⟨rfl,rfl,rfl,by decide +kernel,rfl,by decide +kernel,by decide +kernel⟩
theorem Z47:aF ["table", "names"] ["table", "names"] (ar Y47):=⟨rfl,rfl,rfl,by decide +kernel,rfl,by decide +kernel,by decide +kernel⟩
theorem Z61:aF ["book", "name", "table"] ["book", "name"] (ar Y61):=⟨rfl,rfl,rfl,by decide +kernel,rfl,by decide +kernel,by decide +kernel⟩
theorem Z22:aF ["book", "name"] ["book", "name"] (ar Y22):=⟨rfl,rfl,rfl,by decide +kernel,rfl,by decide +kernel,by decide +kernel⟩
theorem Z50:aF ["book", "name", "order"] ["book", "name"] (ar Y50):=⟨rfl,rfl,rfl,by decide +kernel,rfl,by decide +kernel,by decide +kernel⟩
theorem Z52:aF ["book", "name", "order", "asked"] ["book", "name", "order"] (ar Y52):=⟨rfl,rfl,rfl,by decide +kernel,rfl,by decide +kernel,by decide +kernel⟩
theorem Z62:aF ["book", "name"] ["book", "name"] (ar Y62):=⟨rfl,rfl,rfl,by decide +kernel,rfl,by decide +kernel,by decide +kernel⟩
theorem Z49:aF ["book", "name", "columns", "table"] ["book", "name"] (ar Y49):=⟨rfl,rfl,rfl,by decide +kernel,rfl,by decide +kernel,by decide +kernel⟩
theorem Z26:aF ["spans", "low", "high", "turns", "first", "last"] ["spans", "low", "high"] (ar Y26):=⟨rfl,rfl,rfl,by decide +kernel,rfl,by decide +kernel,by decide +kernel⟩
theorem Z63:aF ["name", "way"] ["name"] (ar Y63):=⟨rfl,rfl,rfl,by decide +kernel,rfl,by decide +kernel,by decide +kernel⟩
theorem Z57:aF ["names", "name"] ["names"] (ar Y57):=⟨rfl,rfl,rfl,by decide +kernel,rfl,by decide +kernel,by decide +kernel⟩
theorem Z54:aF ["names", "rows"] ["names", "rows"] (ar Y54):=⟨rfl,rfl,rfl,by decide +kernel,rfl,by decide +kernel,by decide +kernel⟩
theorem Z60:aF ["way", "outcome"] ["way", "outcome"] (ar Y60):=⟨rfl,rfl,rfl,by decide +kernel,rfl,by decide +kernel,by decide +kernel⟩
theorem Z59:aF ["domains", "outcome", "cells", "code", "domain", "spans", "low", "high"] ["domains", "outcome", "cells", "code"] (ar Y59):=⟨rfl,rfl,rfl,by decide +kernel,rfl,by decide +kernel,by decide +kernel⟩
theorem Z51:aF ["cells", "code"] ["cells", "code"] (ar Y51):=⟨rfl,rfl,rfl,by decide +kernel,rfl,by decide +kernel,by decide +kernel⟩
theorem Z28:aF ["lists", "numbers", "some"] ["lists"] (ar Y28):=⟨rfl,rfl,rfl,by decide +kernel,rfl,by decide +kernel,by decide +kernel⟩
theorem Z25:aF ["table", "column", "domain"] ["table", "column"] (ar Y25):=⟨rfl,rfl,rfl,by decide +kernel,rfl,by decide +kernel,by decide +kernel⟩
theorem Z23:aF ["book", "name"] ["book", "name"] (ar Y23):=⟨rfl,rfl,rfl,by decide +kernel,rfl,by decide +kernel,by decide +kernel⟩
theorem Z48:aF ["book", "name", "needed"] ["book", "name"] (ar Y48):=⟨rfl,rfl,rfl,by decide +kernel,rfl,by decide +kernel,by decide +kernel⟩
theorem Z24:aF ["book", "name", "tables"] ["book", "name"] (ar Y24):=⟨rfl,rfl,rfl,by decide +kernel,rfl,by decide +kernel,by decide +kernel⟩
theorem Z27:aF ["tables", "fact"] ["tables", "fact"] (ar Y27):=⟨rfl,rfl,rfl,by decide +kernel,rfl,by decide +kernel,by decide +kernel⟩
theorem Z32:aF ["script", "k"] ["script", "k"] (ar Y32):=⟨rfl,rfl,rfl,by decide +kernel,rfl,by decide +kernel,by decide +kernel⟩
theorem Z46:aF ["cell", "count", "letters", "head", "tail"] ["cell", "count"] (ar Y46):=⟨rfl,rfl,rfl,by decide +kernel,rfl,by decide +kernel,by decide +kernel⟩
theorem Z34:aF ["cell", "low", "width", "words"] ["cell"] (ar Y34):=⟨rfl,rfl,rfl,by decide +kernel,rfl,by decide +kernel,by decide +kernel⟩
theorem Z41:aF ["domain", "cell", "most", "width"] ["domain", "cell", "most"] (ar Y41):=⟨rfl,rfl,rfl,by decide +kernel,rfl,by decide +kernel,by decide +kernel⟩
theorem Z44:aF ["kind", "one", "two", "domain", "parts"] ["kind", "one", "two", "domain"] (ar Y44):=⟨rfl,rfl,rfl,by decide +kernel,rfl,by decide +kernel,by decide +kernel⟩
theorem Z43:aF ["columns", "domains", "pools", "own", "number", "parts", "k", "size", "one", "two"] ["columns", "domains", "pools", "own", "number"] (ar Y43):=⟨rfl,rfl,rfl,by decide +kernel,rfl,by decide +kernel,by decide +kernel⟩
theorem Z40:aF ["script", "most", "numbers", "k", "cell", "kept"] ["script", "most"] (ar Y40):=⟨rfl,rfl,rfl,by decide +kernel,rfl,by decide +kernel,by decide +kernel⟩
theorem Z33:aF ["script", "facts", "total", "domains", "sizes", "pools", "tables", "own", "cell", "columns", "way", "numbers", "k", "table"] ["script"] (ar Y33):=⟨rfl,rfl,rfl,by decide +kernel,rfl,by decide +kernel,by decide +kernel⟩
theorem Z36:aF ["domain"] ["domain"] (ar Y36):=⟨rfl,rfl,rfl,by decide +kernel,rfl,by decide +kernel,by decide +kernel⟩
theorem Z45:aF ["plan", "k", "names", "domains", "tables", "own", "columns", "rows", "heads", "taken"] ["plan", "k"] (ar Y45):=⟨rfl,rfl,rfl,by decide +kernel,rfl,by decide +kernel,by decide +kernel⟩
theorem Z35:aF ["plan", "names", "domains", "tables"] ["plan"] (ar Y35):=⟨rfl,rfl,rfl,by decide +kernel,rfl,by decide +kernel,by decide +kernel⟩
theorem Z38:aF ["plan", "k", "names", "domains", "tables", "first", "reached", "j"] ["plan", "k"] (ar Y38):=⟨rfl,rfl,rfl,by decide +kernel,rfl,by decide +kernel,by decide +kernel⟩
theorem Z42:aF ["plan", "k", "names", "domains", "tables", "first", "reached", "j"] ["plan", "k"] (ar Y42):=⟨rfl,rfl,rfl,by decide +kernel,rfl,by decide +kernel,by decide +kernel⟩
theorem Z37:aF ["plan", "k", "fact", "names", "domains", "tables", "first", "low", "high", "marks", "own", "columns", "way", "rows", "j", "row"] ["plan", "k", "fact"] (ar Y37):=⟨rfl,rfl,rfl,by decide +kernel,rfl,by decide +kernel,by decide +kernel⟩
theorem Z39:aF ["deed", "book", "name", "refused"] ["deed", "book", "name"] (ar Y39):=⟨rfl,rfl,rfl,by decide +kernel,rfl,by decide +kernel,by decide +kernel⟩
theorem Z0:aF ["self", "facts", "tables"] ["self", "facts", "tables"] (ar Y0):=⟨rfl,rfl,rfl,by decide +kernel,rfl,by decide +kernel,by decide +kernel⟩
theorem Z9:aF ["self", "low", "high"] ["self", "low", "high"] (ar Y9):=⟨rfl,rfl,rfl,by decide +kernel,rfl,by decide +kernel,by decide +kernel⟩
theorem Z1:aF ["self", "low", "high"] ["self", "low", "high"] (ar Y1):=⟨rfl,rfl,rfl,by decide +kernel,rfl,by decide +kernel,by decide +kernel⟩
theorem Z19:aF ["self", "words", "word"] ["self", "words"] (ar Y19):=⟨rfl,rfl,rfl,by decide +kernel,rfl,by decide +kernel,by decide +kernel⟩
theorem Z2:aF ["self", "low", "high"] ["self", "low", "high"] (ar Y2):=⟨rfl,rfl,rfl,by decide +kernel,rfl,by decide +kernel,by decide +kernel⟩
theorem Z12:aF ["self", "name", "names", "domains", "outcome", "way", "rows", "cells", "code"] ["self", "name", "names", "domains", "outcome", "way", "rows"] (ar Y12):=⟨rfl,rfl,rfl,by decide +kernel,rfl,by decide +kernel,by decide +kernel⟩
theorem Z5:aF ["self"] ["self"] (ar Y5):=⟨rfl,rfl,rfl,by decide +kernel,rfl,by decide +kernel,by decide +kernel⟩
theorem Z13:aF ["self", "called"] ["self", "called"] (ar Y13):=⟨rfl,rfl,rfl,by decide +kernel,rfl,by decide +kernel,by decide +kernel⟩
theorem Z10:aF ["self"] ["self"] (ar Y10):=⟨rfl,rfl,rfl,by decide +kernel,rfl,by decide +kernel,by decide +kernel⟩
theorem Z17:aF ["self", "called"] ["self", "called"] (ar Y17):=⟨rfl,rfl,rfl,by decide +kernel,rfl,by decide +kernel,by decide +kernel⟩
theorem Z7:aF ["self"] ["self"] (ar Y7):=⟨rfl,rfl,rfl,by decide +kernel,rfl,by decide +kernel,by decide +kernel⟩
theorem Z15:aF ["self", "called"] ["self", "called"] (ar Y15):=⟨rfl,rfl,rfl,by decide +kernel,rfl,by decide +kernel,by decide +kernel⟩
theorem Z8:aF ["self"] ["self"] (ar Y8):=⟨rfl,rfl,rfl,by decide +kernel,rfl,by decide +kernel,by decide +kernel⟩
theorem Z16:aF ["self", "called"] ["self", "called"] (ar Y16):=⟨rfl,rfl,rfl,by decide +kernel,rfl,by decide +kernel,by decide +kernel⟩
theorem Z6:aF ["self"] ["self"] (ar Y6):=⟨rfl,rfl,rfl,by decide +kernel,rfl,by decide +kernel,by decide +kernel⟩
theorem Z14:aF ["self", "called"] ["self", "called"] (ar Y14):=⟨rfl,rfl,rfl,by decide +kernel,rfl,by decide +kernel,by decide +kernel⟩
theorem Z11:aF ["self"] ["self"] (ar Y11):=⟨rfl,rfl,rfl,by decide +kernel,rfl,by decide +kernel,by decide +kernel⟩
theorem Z18:aF ["self", "called"] ["self", "called"] (ar Y18):=⟨rfl,rfl,rfl,by decide +kernel,rfl,by decide +kernel,by decide +kernel⟩
theorem Z3:aF ["self", "value"] ["self", "value"] (ar Y3):=⟨rfl,rfl,rfl,by decide +kernel,rfl,by decide +kernel,by decide +kernel⟩
theorem Z4:aF ["self", "value"] ["self", "value"] (ar Y4):=⟨rfl,rfl,rfl,by decide +kernel,rfl,by decide +kernel,by decide +kernel⟩
theorem Z31:aF ["script", "plan", "names", "domains", "tables", "first", "book", "k", "wanted", "found", "marks", "row"] ["script"] (ar Y31):=⟨rfl,rfl,rfl,by decide +kernel,rfl,by decide +kernel,by decide +kernel⟩
structure Bl (K:PySem.W.Frag) (mg:Str->Option Value) (yA yE yN yO yP yQ yR yS yT yU yV yW yX af:Addr):Prop where
 TableError_:mg "TableError" = some (.ref yA)
 cF:PySem.W.nsIn K mainGlobals "TableError" = some (some (.ref yA))
 NoTable_:mg "NoTable" = some (.ref yE)
 dR:PySem.W.nsIn K mainGlobals "NoTable" = some (some (.ref yE))
 Way_:mg "Way" = some (.ref yN)
 fu:PySem.W.nsIn K mainGlobals "Way" = some (some (.ref yN))
 First_:mg "First" = some (.ref yO)
 fL:PySem.W.nsIn K mainGlobals "First" = some (some (.ref yO))
 Only_:mg "Only" = some (.ref yP)
 i3:PySem.W.nsIn K mainGlobals "Only" = some (some (.ref yP))
 Like_:mg "Like" = some (.ref yQ)
 i4:PySem.W.nsIn K mainGlobals "Like" = some (some (.ref yQ))
 Low_:mg "Low" = some (.ref yR)
 lS:PySem.W.nsIn K mainGlobals "Low" = some (some (.ref yR))
 High_:mg "High" = some (.ref yS)
 i5:PySem.W.nsIn K mainGlobals "High" = some (some (.ref yS))
 Sum_:mg "Sum" = some (.ref yT)
 lT:PySem.W.nsIn K mainGlobals "Sum" = some (some (.ref yT))
 Domain_:mg "Domain" = some (.ref yU)
 di:PySem.W.nsIn K mainGlobals "Domain" = some (some (.ref yU))
 Numbers_:mg "Numbers" = some (.ref yV)
 dc:PySem.W.nsIn K mainGlobals "Numbers" = some (some (.ref yV))
 Words_:mg "Words" = some (.ref yW)
 fM:PySem.W.nsIn K mainGlobals "Words" = some (some (.ref yW))
 Table_:mg "Table" = some (.ref yX)
 fO:PySem.W.nsIn K mainGlobals "Table" = some (some (.ref yX))
 Book_:mg "Book" = some (.ref af)
 i6:PySem.W.nsIn K mainGlobals "Book" = some (some (.ref af))
 x_NoTable:gx K yE
 l_NoTable:qe K yE
 k_First:Cls K yO
 k_Only:Cls K yP
 k_Like:Cls K yQ
 k_Low:Cls K yR
 k_High:Cls K yS
 k_Sum:Cls K yT
 k_Numbers:Cls K yV
 k_Words:Cls K yW
 k_Table:Cls K yX
 k_Book:Cls K af
 t_First:jn K yO
 t_Only:jn K yP
 t_Like:jn K yQ
 t_Low:jn K yR
 t_High:jn K yS
 t_Sum:jn K yT
 t_Numbers:jn K yV
 t_Words:jn K yW
 t_Table:jn K yX
 t_Book:jn K af
 na_First_called:aY K yO "called"
 na_Only_called:aY K yP "called"
 na_Like_called:aY K yQ "called"
 na_Low_called:aY K yR "called"
 na_High_called:aY K yS "called"
 na_Sum_called:aY K yT "called"
 na_Numbers_low:aY K yV "low"
 na_Numbers_high:aY K yV "high"
 cb:aY K yV "words"
 na_Words_low:aY K yW "low"
 na_Words_high:aY K yW "high"
 na_Words_words:aY K yW "words"
 na_Table_name:aY K yX "name"
 na_Table_names:aY K yX "names"
 na_Table_domains:aY K yX "domains"
 na_Table_outcome:aY K yX "outcome"
 na_Table_way:aY K yX "way"
 na_Table_rows:aY K yX "rows"
 na_Book_facts:aY K af "facts"
 na_Book_tables:aY K af "tables"
 f_nn:PySem.W.kitOne K (.ref yV) (.ref yV)=some true
 f_wn:PySem.W.kitOne K (.ref yW) (.ref yV)=some false
 f_ww:PySem.W.kitOne K (.ref yW) (.ref yW)=some true
 uG:PySem.W.kitOne K (.ref yX) (.ref yX)=some true
 f_nw:PySem.W.kitOne K (.ref yV) (.ref yW)=some false
 fP:PySem.W.exmOne K (.ref yE) (.ref yA)=some true
 e2_NoTable:PySem.W.exmOne K (.ref yE) (.ref yE)=some true
 fQ:PySem.W.kitOne K (.ref yE) (.ref yA)=some true
 fR:PySem.W.kitOne K (.ref yE) (.ref yE)=some true
 len_:mg "len" = none
 isinstance_:mg "isinstance" = none
 int_:mg "int" = none
 bool_:mg "bool" = none
 set_:mg "set" = none
 dict_:mg "dict" = none
 zip_:mg "zip" = none
 list_:mg "list" = none
 sorted_:mg "sorted" = none
 range_:mg "range" = none
 min_:mg "min" = none
 max_:mg "max" = none
 MOST_SIGNS_:∃ u,mg "MOST_SIGNS" = some u/\RelV (V.int 12) u
 SMALL_LETTERS_:∃ u,mg "SMALL_LETTERS" = some u/\RelV (V.str "abcdefghijklmnopqrstuvwxyz") u
 MOST_FACTS_:∃ u,mg "MOST_FACTS" = some u/\RelV (V.int 20) u
 MOST_TABLES_:∃ u,mg "MOST_TABLES" = some u/\RelV (V.int 30) u
 MOST_ROWS_:∃ u,mg "MOST_ROWS" = some u/\RelV (V.int 200) u
 MOST_COLUMNS_:∃ u,mg "MOST_COLUMNS" = some u/\RelV (V.int 4) u
 MOST_WORDS_:∃ u,mg "MOST_WORDS" = some u/\RelV (V.int 40) u
theorem p10 (n:Nat):(0:Int) < 10 ^ n:=Int.pow_pos (by decide)
theorem gB {H:Hp} {r:Addr} {o:HO} {b:Addr} {u:HO} (h:H r=some u) (n:H b=none):upd H b o r=some u:=by rw [au (bq h n)];exact h
theorem take_snoc {α:Type} {l:List α} {i:Nat} {x:α} (e:l[i]?=some x):l.take (i+1)=l.take i ++ [x]:=by rw [List.take_add_one,e];rfl
theorem get_map {ns:List Int} {i:Nat} {c:Int} (e:ns[i]?=some c):(ns.map V.int)[i]?=some (.int c):=by rw [List.getElem?_map,e];rfl
theorem of_map {ns:List Int} {i:Nat} {x:V} (e:(ns.map V.int)[i]?=some x):∃ c,x=.int c/\ns[i]?=some c:=by
 rw [List.getElem?_map] at e
 cases q:ns[i]? with
 | none=>rw [q] at e;cases e
 | some c=>rw [q] at e;cases e;exact ⟨c,rfl,rfl⟩
def lets:Str := "abcdefghijklmnopqrstuvwxyz"
def isw (z:Str):Bool:=decide ((1:Int)<=((z.length:Nat):Int)) && (decide (((z.length:Nat):Int)<=12) && (!decide (V.str z=V.str "not") && kf z lets))
theorem wm {l:List Nat} {i:Nat} {c:Nat} {p:Nat->Bool} (e:l[i]?=some c) (h:p c=false):l.all p=false:=by
 cases q:l.all p with
 | false=>rfl
 | true=>rw [List.all_eq_true.mp q c (E5 e)] at h;cases h
theorem all_succ {l:List Nat} {i:Nat} {c:Nat} {p:Nat->Bool} (e:l[i]?=some c) (h:p c=true) (ha:(l.take i).all p=true):(l.take (i+1)).all p=true:=by
 rw [take_snoc e,List.all_append,ha];simp [h]
theorem sr {z g:Str} (h:(z.cps.toList.take z.cps.size).all (sg g)=true):kf z g=true:=by
 have e:z.cps.toList.take z.cps.size=z.cps.toList:=by rw [← Array.length_toList];exact List.take_length
 rw [e] at h;exact h
theorem wo {g:Str} {c:Nat} (h:(!(!(Builtin.Str.occurrences g ⟨#[c]⟩ 0 g.length 1).isEmpty))=true):sg g c=false:=by unfold sg;simpa using h
theorem yH {g:Str} {c:Nat} (h:¬ (!(!(Builtin.Str.occurrences g ⟨#[c]⟩ 0 g.length 1).isEmpty))=true):sg g c=true:=by unfold sg;simpa using h
theorem big {n:Nat} (h:n<=1000):n<=sizeLine:=Nat.le_of_lt (ay h)
def mkd (C:Addr) (H:Hp) (x dx:Addr) (lo hi:Int):Hp:=upd (upd H x (.ins C dx [("low",.int lo)])) x (.ins C dx [("low",.int lo),("high",.int hi)])
theorem put2 (v u:V):bj (Str.ofString "high") u [(Str.ofString "low",v)]=[(Str.ofString "low",v),(Str.ofString "high",u)]:=by
 unfold bj bj
 rw [if_neg (by decide)]
theorem put3 (v u t:V):bj (Str.ofString "words") t [(Str.ofString "low",v),(Str.ofString "high",u)]=[(Str.ofString "low",v),(Str.ofString "high",u),(Str.ofString "words",t)]:=by
 unfold bj bj bj
 rw [if_neg (by decide),if_neg (by decide)]
def hiW (zs:List Str):Int:=((zs.length:Nat):Int) - 1
structure Good (zs:List Str):Prop where
 some_:1<=zs.length
 few:zs.length<=40
 words:∀ z ∈ zs,isw z=true
 once:zs.Nodup
theorem cy (zs:List Str):(zs.map V.str).all bT=true:=by
 rw [List.all_map]
 exact List.all_eq_true.mpr λ_ _=>rfl
theorem cG {zs:List Str} {i:Nat} {x:V} (e:(zs.map V.str)[i]?=some x):∃ z,x=.str z/\zs[i]?=some z:=by
 rw [List.getElem?_map] at e
 cases q:zs[i]? with
 | none=>rw [q] at e;cases e
 | some z=>rw [q] at e;cases e;exact ⟨z,rfl,rfl⟩
theorem dj {zs:List Str} {i:Nat} {z:Str} (e:zs[i]?=some z):(zs.map V.str)[i]?=some (.str z):=by rw [List.getElem?_map,e];rfl
def six:List Str:=[Str.ofString "first",Str.ofString "only",Str.ofString "like",Str.ofString "low",Str.ofString "high",Str.ofString "sum"]
def WyN (C:Addr) (H:Hp) (x:Addr) (z:Str):Prop:=∃ dx,H x=some (.ins C dx [("called",.str z)])
theorem WyN.same {C:Addr} {H H' : Hp} {x:Addr} {z:Str} (h:WyN C H x z) (s:aq H H'):WyN C H' x z:=by obtain ⟨dx,e⟩:=h;exact ⟨dx,s _ _ e⟩
def qZ (C:Addr) (z:Str):Sp:=λvs H Q _=>∃ (x dx:Addr),vs=[.ref x]/\H x=some (.ins C dx [])/\Q .non (upd H x (.ins C dx [("called",.str z)]))
theorem bS:2<=sizeLine:=by decide
def cl6 (a b c d e f:Addr):List Addr:=[a,b,c,d,e,f]
def wq (C:Addr) (H:Hp) (a:Addr) (lo hi:Int):Prop:=∃ dx fs,H a=some (.ins C dx fs)/\fs.lookup (Str.ofString "low")=some (.int lo)/\fs.lookup (Str.ofString "high")=some (.int hi)/\fs.lookup (Str.ofString "has_code")=none
def Dom (cN cW:Addr) (H:Hp) (a:Addr) (b:Int × Int):Prop:=∃ C,(C=cN\/C=cW)/\wq C H a b.1 b.2
theorem Dom.same {cN cW:Addr} {H H' : Hp} {a:Addr} {b:Int × Int} (h:Dom cN cW H a b) (s:aq H H'):Dom cN cW H' a b:=by obtain ⟨C,hC,dx,fs,e,r⟩:=h;exact ⟨C,hC,dx,fs,s _ _ e,r⟩
def ao {α:Type} (xs:List V) (as:List α) (P:Addr->α->Prop):Prop:=xs.length=as.length/\∀ (j:Nat) (a:α),as[j]?=some a->∃ r,xs[j]?=some (.ref r)/\P r a
theorem ao.mono {α:Type} {xs:List V} {as:List α} {P Q:Addr->α->Prop} (h:ao xs as P) (k:∀ r a,P r a->Q r a):ao xs as Q:=⟨h.1,λj a e=>let ⟨r,e1,p⟩:=h.2 j a e;⟨r,e1,k r a p⟩⟩
theorem ao.nil {α:Type} {P:Addr->α->Prop} : ao [] [] P:=⟨rfl,(λj a e=>by simp at e)⟩
theorem ao.snoc {α:Type} {xs:List V} {as:List α} {P:Addr->α->Prop} {r:Addr} {a:α} (h:ao xs as P) (p:P r a):ao (xs ++ [.ref r]) (as ++ [a]) P:=by
 refine ⟨by simp [h.1],λj b e=>?_⟩
 by_cases hj:j < as.length
 ·rw [List.getElem?_append_left hj] at e
  obtain ⟨r',e1,q⟩:=h.2 j b e
  exact ⟨r',by rw [List.getElem?_append_left (by rw [h.1];exact hj)];exact e1,q⟩
 ·have hj2:j=as.length:=by
   have:=(E4.mp e).1
   simp at this;omega
  subst hj2
  simp at e
  subst e
  exact ⟨r,by rw [← h.1];simp,p⟩
theorem ao.get {α:Type} {xs:List V} {as:List α} {P:Addr->α->Prop} (h:ao xs as P) {j:Nat} {x:V} (e:xs[j]?=some x):∃ r a,x=.ref r/\as[j]?=some a/\P r a:=by
 have hj:=(E4.mp e).1
 have ea:=E3 (l:=as) (i:=j) (by rw [← h.1];exact hj)
 obtain ⟨r,e1,p⟩:=h.2 j _ ea
 rw [e] at e1;cases e1
 exact ⟨r,_,rfl,ea,p⟩
abbrev Prs:=List (Int × Int)
def SpA (N:Addr->Prop) (H:Hp) (l:Addr) (ps:Prs):Prop:=N l/\∃ ys,H l=some (.lst ys)/\PL H ys ps
def CL (N:Addr->Prop) (H:Hp) (xs:List V) (pss:List Prs):Prop:=ao xs pss (SpA N H)
abbrev Rw:=List Prs × Int
def dS (N:Addr->Prop) (H:Hp) (r:Addr) (rw_:Rw):Prop:=∃ ce cs,H r=some (.tup [.ref ce,.int rw_.2])/\N ce/\H ce=some (.lst cs)/\CL N H cs rw_.1
def RL (N:Addr->Prop) (H:Hp) (xs:List V) (rws:List Rw):Prop:=ao xs rws (dS N H)
theorem SpA.same {N:Addr->Prop} {H H' : Hp} {l:Addr} {ps:Prs} (h:SpA N H l ps) (s:aq H H'):SpA N H' l ps:=by obtain ⟨n,ys,e,p⟩:=h;exact ⟨n,ys,s _ _ e,p.mono s.tups⟩
theorem CL.same {N:Addr->Prop} {H H' : Hp} {xs:List V} {pss:List Prs} (h:CL N H xs pss) (s:aq H H'):CL N H' xs pss:=ao.mono h λ_ _ p=>p.same s
theorem dS.same {N:Addr->Prop} {H H' : Hp} {r:Addr} {w:Rw} (h:dS N H r w) (s:aq H H'):dS N H' r w:=by obtain ⟨ce,cs,e,n,f,c⟩:=h;exact ⟨ce,cs,s _ _ e,n,s _ _ f,c.same s⟩
theorem RL.same {N:Addr->Prop} {H H' : Hp} {xs:List V} {rws:List Rw} (h:RL N H xs rws) (s:aq H H'):RL N H' xs rws:=ao.mono h λ_ _ p=>p.same s
abbrev NT:Addr->Prop:=λ_=>True
theorem SpA.any {N:Addr->Prop} {H:Hp} {l:Addr} {ps:Prs} (h:SpA N H l ps):SpA NT H l ps:=⟨trivial,h.2⟩
theorem CL.any {N:Addr->Prop} {H:Hp} {xs:List V} {pss:List Prs} (h:CL N H xs pss):CL NT H xs pss:=ao.mono h λ_ _ p=>p.any
theorem dS.any {N:Addr->Prop} {H:Hp} {r:Addr} {w:Rw} (h:dS N H r w):dS NT H r w:=by obtain ⟨ce,cs,e,_,f,c⟩:=h;exact ⟨ce,cs,e,trivial,f,c.any⟩
theorem RL.any {N:Addr->Prop} {H:Hp} {xs:List V} {rws:List Rw} (h:RL N H xs rws):RL NT H xs rws:=ao.mono h λ_ _ p=>p.any
theorem SpA.wk {N N' : Addr->Prop} {H:Hp} {l:Addr} {ps:Prs} (h:SpA N H l ps) (k:∀ a,N a->N' a):SpA N' H l ps:=⟨k _ h.1,h.2⟩
theorem CL.wk {N N' : Addr->Prop} {H:Hp} {xs:List V} {pss:List Prs} (h:CL N H xs pss) (k:∀ a,N a->N' a):CL N' H xs pss:=ao.mono h λ_ _ p=>p.wk k
theorem dS.wk {N N' : Addr->Prop} {H:Hp} {r:Addr} {w:Rw} (h:dS N H r w) (k:∀ a,N a->N' a):dS N' H r w:=by obtain ⟨ce,cs,e,n,f,c⟩:=h;exact ⟨ce,cs,e,k _ n,f,c.wk k⟩
theorem SpA.updN {N:Addr->Prop} {D:Addr} {H:Hp} {l:Addr} {ps:Prs} {zs:List V} {o:HO} (h:SpA N H l ps) (n:¬ N D) (e:H D=some (.lst zs)):SpA N (upd H D o) l ps:=by
 obtain ⟨m,ys,f,p⟩:=h
 exact ⟨m,ys,(au (λz=>n (by rw [← z];exact m))).trans f,p.mono (lI e)⟩
theorem CL.updN {N:Addr->Prop} {D:Addr} {H:Hp} {xs:List V} {pss:List Prs} {zs:List V} {o:HO} (h:CL N H xs pss) (n:¬ N D) (e:H D=some (.lst zs)):CL N (upd H D o) xs pss:=ao.mono h λ_ _ p=>p.updN n e
theorem dS.updN {N:Addr->Prop} {D:Addr} {H:Hp} {r:Addr} {w:Rw} {zs:List V} {o:HO} (h:dS N H r w) (n:¬ N D) (e:H D=some (.lst zs)):dS N (upd H D o) r w:=by
 obtain ⟨ce,cs,f,m,g,c⟩:=h
 exact ⟨ce,cs,(au (bV f e (by intro z;cases z))).trans f,m,(au (λz=>n (by rw [← z];exact m))).trans g,c.updN n e⟩
theorem RL.updN {N:Addr->Prop} {D:Addr} {H:Hp} {xs:List V} {rws:List Rw} {zs:List V} {o:HO} (h:RL N H xs rws) (n:¬ N D) (e:H D=some (.lst zs)):RL N (upd H D o) xs rws:=ao.mono h λ_ _ p=>p.updN n e
def Fr (H:Hp) (D:Addr):Addr->Prop:=λa=>H a=none/\a ≠ D
theorem Fr.out {H:Hp} {D:Addr} : ¬ Fr H D D:=λh=>h.2 rfl
structure yI (b:Int × Int) (zs:List Str):Prop where
 le:b.1<=b.2
 ws:zs ≠ []->Good zs/\b=(0,hiW zs)
def AX (N:Addr->Prop) (H:Hp) (l:Addr) (b:Int × Int):Prop:=∃ (w:Addr) (zs:List Str),N l/\N w/\H l=some (.lst [.int b.1,.int b.2,.ref w])/\H w=some (.lst (zs.map V.str))/\yI b zs
def EC (N:Addr->Prop) (H:Hp) (xs:List V) (bs:Prs):Prop:=ao xs bs (AX N H)
structure qj (bs:Prs) (o:Int × Int) (w:Rw):Prop where
 len:w.1.length=bs.length
 inn:∀ (j:Nat) (ps:Prs) (b:Int × Int),w.1[j]?=some ps->bs[j]?=some b->∀ p ∈ ps,b.1<=p.1/\p.2<=b.2
 lo:o.1<=w.2
 hi:w.2<=o.2
def yJ (pss:List Prs) (cs:List Int):Bool:=(List.range cs.length).all λj=>inP (pss.getD j []) (cs.getD j 0)
theorem pf1 (v0 v1:V):bj (Str.ofString "names") v1 [(Str.ofString "name",v0)]=[(Str.ofString "name",v0),(Str.ofString "names",v1)]:=by
 unfold bj bj
 rw [if_neg (by decide)]
theorem pf2 (v0 v1 v2:V):bj (Str.ofString "domains") v2 [(Str.ofString "name",v0),(Str.ofString "names",v1)]=[(Str.ofString "name",v0),(Str.ofString "names",v1),(Str.ofString "domains",v2)]:=by
 unfold bj bj bj
 rw [if_neg (by decide),if_neg (by decide)]
theorem pf3 (v0 v1 v2 v3:V):bj (Str.ofString "outcome") v3 [(Str.ofString "name",v0),(Str.ofString "names",v1),(Str.ofString "domains",v2)]=[(Str.ofString "name",v0),(Str.ofString "names",v1),(Str.ofString "domains",v2),(Str.ofString "outcome",v3)]:=by
 unfold bj bj bj bj
 rw [if_neg (by decide),if_neg (by decide),if_neg (by decide)]
theorem pf4 (v0 v1 v2 v3 v4:V):bj (Str.ofString "way") v4 [(Str.ofString "name",v0),(Str.ofString "names",v1),(Str.ofString "domains",v2),(Str.ofString "outcome",v3)]=[(Str.ofString "name",v0),(Str.ofString "names",v1),(Str.ofString "domains",v2),(Str.ofString "outcome",v3),(Str.ofString "way",v4)]:=by
 unfold bj bj bj bj bj
 rw [if_neg (by decide),if_neg (by decide),if_neg (by decide),if_neg (by decide)]
theorem pf5 (v0 v1 v2 v3 v4 v5:V):bj (Str.ofString "rows") v5 [(Str.ofString "name",v0),(Str.ofString "names",v1),(Str.ofString "domains",v2),(Str.ofString "outcome",v3),(Str.ofString "way",v4)]=[(Str.ofString "name",v0),(Str.ofString "names",v1),(Str.ofString "domains",v2),(Str.ofString "outcome",v3),(Str.ofString "way",v4),(Str.ofString "rows",v5)]:=by
 unfold bj bj bj bj bj bj
 rw [if_neg (by decide),if_neg (by decide),if_neg (by decide),if_neg (by decide),if_neg (by decide)]
def hide (H:Hp) (x:Addr):Hp:=λb=>if b=x then none else H b
theorem cm {H:Hp} {x b:Addr} {o:HO} (e:H b=some o) (n:b ≠ x):hide H x b=some o:=by unfold hide;rw [if_neg n];exact e
theorem lU {H H' : Hp} {x:Addr} (k:∀ b o,b ≠ x->H b=some o->H' b=some o):aq (hide H x) H':=λb o e=>by
 unfold hide at e
 by_cases h:b=x
 ·rw [if_pos h] at e;cases e
 ·rw [if_neg h] at e;exact k b o h e
theorem PL.hide {H:Hp} {x C dx:Addr} {fs:List (Str × V)} (hx:H x=some (.ins C dx fs)) {ys:List V} {ps:Prs} (h:PL H ys ps):PL (hide H x) ys ps :=
 h.mono λb xs e=>cm e (bV e hx (by intro z;cases z))
theorem RL.hide {H:Hp} {x C dx:Addr} {fs:List (Str × V)} (hx:H x=some (.ins C dx fs)) {xs:List V} {rws:List Rw} (h:RL NT H xs rws):RL NT (My.hide H x) xs rws :=
 ao.mono h λr w ⟨ce,cs,e,_,f,c⟩=>⟨ce,cs,cm e (bV e hx (by intro z;cases z)),trivial,cm f (bV f hx (by intro z;cases z)),ao.mono c λl ps ⟨_,ys,g,p⟩=>⟨trivial,ys,cm g (bV g hx (by intro z;cases z)),PL.hide hx p⟩⟩
def wcs (c k:Int):List Nat:=List.replicate (c / 26 % 6).toNat (97+(c % 26).toNat) ++ ([97+(k / 7 % 7).toNat,97+(k % 7).toNat] ++ List.replicate (k % 5).toNat (97+(c / 156 % 26).toNat))
def wd (c k:Int):Str:=⟨(wcs c k).toArray⟩
theorem wt {c:Nat} (h:97<=c/\c<=122):sg lets c=true:=by
 have:∀ d:Nat,d < 26->sg lets (97+d)=true:=by decide +kernel
 have z:=this (c - 97) (by omega)
 rw [show 97+(c - 97)=c by omega] at z
 exact z
theorem mD {s:Str} {n:Nat} (h:s.cps.toList=(List.range n).map (97 + ·)) {k:Int} (h0:0<=k) (h1:k < n):atI s.cps.toList k=some (97+k.toNat):=by
 have hk:k.toNat < n:=by omega
 have z:s.cps.toList[k.toNat]?=some (97+k.toNat):=by rw [h,List.getElem?_map,List.getElem?_range hk];rfl
 have q:=aN z
 rw [show ((k.toNat:Nat):Int)=k by omega] at q
 exact q
theorem sv:(Str.ofString "abcdefghijklmnopqrstuvwxyz").cps.toList=(List.range 26).map (97 + ·):=by decide +kernel
def wds (c:Int) (n:Nat):List Str:=(List.range n).map λj:Nat=>wd c (j:Int)
abbrev SI:=Str × Int
def tp (p:SI):List V:=[.str p.1,.int p.2]
def say (i:Int):SI:=(Str.ofString "say",i)
def vj:SI:=(Str.ofString "clash",0)
def AY:SI:=(Str.ofString "none",0)
def least (ns:List Int):Int:=ns.foldl (λm c=>if c < m then c else m) (ns.headD 0)
def great (ns:List Int):Int:=ns.foldl (λm c=>if c > m then c else m) (ns.headD 0)
def AZ (ns:List Int):SI:=say (least ns)
def yK (ns:List Int):SI:=say (great ns)
def yL (ns:List Int):SI:=if least ns=great ns then say (least ns) else vj
def ver (f:List Int->SI):List Int->SI
 | []=>AY
 | n :: ns=>f (n :: ns)
def Wy (C:Addr) (H:Hp) (x:Addr):Prop:=∃ dx z,H x=some (.ins C dx [("called",.str z)])
def wu (ns:List Int):SI:=say (ns.headD 0)
def yM (ns:List Int):SI:=if ns.length=1 then say (ns.headD 0) else vj
def near (lo hi n:Int):Int:=if n < lo then lo else if n > hi then hi else n
def wf:Nat->Int->Int->List Int->SI
 | 0,_,_=>wu
 | 1,_,_=>yM
 | 2,_,_=>yL
 | 3,_,_=>AZ
 | 4,_,_=>yK
 | _,lo,hi=>λns=>say (near lo hi ns.sum)
def ED (K:PySem.W.Frag) (C cN cW:Addr) (i:Nat):Sp:=λvs H Q _=>∃ (x c o:Addr) (n:Int) (ns:List Int) (b:Int × Int),vs=[.ref x,.ref c,.ref o]/\Wy C H x/\Dom cN cW H o b/\b.1<=b.2/\SqL K H c ((n :: ns).map V.int)/\ns.length < 900/\∀ (r:Addr) (H' : Hp),aq H H'->SqT K H' r (tp (wf i b.1 b.2 (n :: ns)))->Q (.ref r) H'
def EE (K:PySem.W.Frag) (C cN cW:Addr) (i:Nat):Sp:=λvs H Q _=>∃ (x c o:Addr) (ns:List Int) (b:Int × Int),vs=[.ref x,.ref c,.ref o]/\Wy C H x/\Dom cN cW H o b/\b.1<=b.2/\SqL K H c (ns.map V.int)/\ns.length < 900/\∀ (r:Addr) (H' : Hp),aq H H'->SqT K H' r (tp (ver (wf i b.1 b.2) ns))->Q (.ref r) H'
def msk (f:Nat->Bool):Nat->Nat
 | 0=>0
 | n+1=>(if f n then 2 ^ n else 0)+msk f n
def DM (m:Int) (k:Nat):Bool:=Builtin.bitAnd (m / 2 ^ k) 1 != 0
def pkF (rws:List Rw) (f:Nat->Bool) (n:Nat):List Int:=((List.range n).filter f).map λk=>(rws.getD k ([],0)).2
def Tbl (cT cN cW:Addr) (H:Hp) (t:Addr) (rws:List Rw) (i:Nat) (o:Int × Int):Prop:=∃ (rl ou dx:Addr) (fs:List (Str × V)) (xs:List V) (wy:Str),H t=some (.ins cT dx fs)/\fs.lookup (Str.ofString "rows")=some (.ref rl)/\fs.lookup (Str.ofString "way")=some (.str wy)/\fs.lookup (Str.ofString "outcome")=some (.ref ou)/\H rl=some (.lst xs)/\RL NT H xs rws/\six[i]?=some wy/\Dom cN cW H ou o/\o.1<=o.2/\xs.length<=200
def EF (rws:List Rw) (cs:List Int) (k:Nat):Bool:=yJ (rws.getD k ([],0)).1 cs
def fl (rws:List Rw) (cs:List Int):List Int:=(rws.filter λw=>yJ w.1 cs).map (·.2)
def ord:List Nat:=[3,4,2,1,0,5]
def w6:List Str:=[Str.ofString "low",Str.ofString "high",Str.ofString "like",Str.ofString "only",Str.ofString "first",Str.ofString "sum"]
def EG (lo hi:Int) (ns:List Int):List SI:=ord.map λi=>ver (wf i lo hi) ns
def DL (H:Hp) (xs:List V) (ps:List SI):Prop:=ao xs ps λr p=>H r=some (.tup (tp p))
def EH (cT:Addr) (H:Hp) (t:Addr) (nm wy:Str) (ou:Addr) (zs:List Str) (dv:List V):Prop:=∃ (dx na dl:Addr) (fs:List (Str × V)),H t=some (.ins cT dx fs)/\fs.lookup (Str.ofString "name")=some (.str nm)/\fs.lookup (Str.ofString "way")=some (.str wy)/\fs.lookup (Str.ofString "outcome")=some (.ref ou)/\fs.lookup (Str.ofString "names")=some (.ref na)/\fs.lookup (Str.ofString "domains")=some (.ref dl)/\H na=some (.lst (zs.map V.str))/\H dl=some (.lst dv)
theorem uH {K:PySem.W.Frag} {H:Hp} {n:Nat} {a b:Addr} {xs ys:List V} (ha:SqL K H a xs) (hb:SqL K H b ys) (hl:xs.length=ys.length) (h:∀ (j:Nat) (x y:V),xs[j]?=some x->ys[j]?=some y->DEq K H n x y true):DEq K H (n+1) (.ref a) (.ref b) true:=by
 by_cases e:a=b
 ·subst e;exact .same a
 ·have:=DEq.lst (f:=λ_=>true) e ha hb hl h
  rw [show (List.range xs.length).all (λ_=>true)=true by simp] at this
  exact this
theorem uI {K:PySem.W.Frag} {H:Hp} {n:Nat} {a b:Addr} {xs ys:List V} (ha:SqT K H a xs) (hb:SqT K H b ys) (hl:xs.length=ys.length) (h:∀ (j:Nat) (x y:V),xs[j]?=some x->ys[j]?=some y->DEq K H n x y true):DEq K H (n+1) (.ref a) (.ref b) true:=by
 by_cases e:a=b
 ·subst e;exact .same a
 ·have:=DEq.tup (f:=λ_=>true) e ha hb h
  rw [show ((List.range (min xs.length ys.length)).all (λ_=>true) && xs.length == ys.length)=true by simp [hl]] at this
  exact this
theorem mE {K:PySem.W.Frag} {H:Hp} {n:Nat} (i:Int):DEq K H n (.int i) (.int i) true:=by
 have:=DEq.flat (K:=K) (H:=H) (n:=n) (x:=.int i) (y:=.int i) rfl rfl
 rw [show eqV (.int i) (.int i)=true by simp [eqV]] at this
 exact this
theorem fS {K:PySem.W.Frag} {H:Hp} {Q:VK} {a b:Addr} {xs ys:List V} (ha:SqL K H a xs) (hb:SqL K H b ys) (hl:xs.length=ys.length) (h:∀ (j:Nat) (x y:V),xs[j]?=some x->ys[j]?=some y->DEq K H 60 x y true) (q:Q (.bl false) H):ve K true (.ref a) (.ref b) H Q:=by
 refine ⟨a,b,xs,ys,rfl,rfl,ha,hb,.inr ⟨hl,λ_=>true,h,?_⟩⟩
 rw [show (List.range xs.length).all (λ_=>true)=true by simp]
 exact q
structure Col where
 prs:Prs
 w:Bool
 sd:Int
def A1 (N:Addr->Prop) (H:Hp) (l:Addr) (c:Col):Prop:=∃ (pl:Addr) (ts:List V),N l/\N pl/\H l=some (.lst [.ref pl,.bl c.w,.int c.sd])/\H pl=some (.lst ts)/\PL H ts c.prs
def DN (N:Addr->Prop) (H:Hp) (xs:List V) (cs:List Col):Prop:=ao xs cs (A1 N H)
structure Ch (ps:Prs):Prop where
 le:∀ (i:Nat) (p:Int × Int),ps[i]?=some p->p.1<=p.2
 nxt:∀ (i:Nat) (p q:Int × Int),ps[i]?=some p->ps[i+1]?=some q->q.1=p.2+1
structure DO (c:Col):Prop where
 some_:1<=c.prs.length
 few:c.prs.length<=6
 ch:Ch c.prs
 w0:c.w=true->∀ p,c.prs[0]?=some p->p.1=0
 wl:c.w=true->∀ (i:Nat) (p:Int × Int),c.prs[i]?=some p->p.2 < 40
def Col.lo (c:Col):Int:=(c.prs.headD (0,0)).1
def Col.hi (c:Col):Int:=(c.prs.getLastD (0,0)).2
def Col.b (c:Col):Int × Int:=(c.lo,c.hi)
structure Srt (ps:Prs):Prop where
 le:∀ (i:Nat) (p:Int × Int),ps[i]?=some p->p.1<=p.2
 lt:∀ (i j:Nat) (p q:Int × Int),i < j->ps[i]?=some p->ps[j]?=some q->p.2 < q.1
structure A2 (prs:Prs) (b n:Nat) (ps:Prs):Prop where
 srt:Srt ps
 iff:∀ x:Int,inP ps x=true↔∃ (k:Nat) (p:Int × Int),k < n/\prs[k]?=some p/\b.testBit k=true/\p.1<=x/\x<=p.2
def mrg (prs:Prs) (b:Nat):Nat->Prs
 | 0=>[]
 | n+1=>if b.testBit n then (if (decide (0 < n) && b.testBit (n - 1)) then (mrg prs b n).dropLast ++ [(((mrg prs b n).getLastD (0,0)).1,(prs.getD n (0,0)).2)] else mrg prs b n ++ [prs.getD n (0,0)]) else mrg prs b n
abbrev BW:=List Nat × Int
def vN (bs:List Nat):List V:=bs.map λb:Nat=>V.int (b:Int)
theorem bG (bs:List Nat):(vN bs).length=bs.length:=by unfold vN;rw [List.length_map]
theorem vk {bs:List Nat} {j b:Nat} (e:bs[j]?=some b):(vN bs)[j]?=some (.int (b:Int)):=by unfold vN;rw [List.getElem?_map,e];rfl
theorem ir {bs:List Nat} {j:Nat} {x:V} (e:(vN bs)[j]?=some x):∃ b:Nat,x=.int (b:Int)/\bs[j]?=some b:=by
 unfold vN at e
 rw [List.getElem?_map] at e
 cases q:bs[j]? with
 | none=>rw [q] at e;cases e
 | some b=>rw [q] at e;cases e;exact ⟨b,rfl,rfl⟩
theorem kr (bs cs:List Nat):vN bs ++ vN cs=vN (bs ++ cs):=by unfold vN;rw [List.map_append]
def yY (N:Addr->Prop) (H:Hp) (r:Addr) (w:BW):Prop:=∃ bl,H r=some (.tup [.ref bl,.int w.2])/\N bl/\H bl=some (.lst (vN w.1))
def BRL (N:Addr->Prop) (H:Hp) (xs:List V) (ws:List BW):Prop:=ao xs ws (yY N H)
structure DP (cs:List Col) (o:Col) (w:BW):Prop where
 len:w.1.length=cs.length
 lt:∀ (j b:Nat) (c:Col),w.1[j]?=some b->cs[j]?=some c->b < 2 ^ c.prs.length
 lo:o.lo<=w.2
 hi:w.2<=o.hi
structure A3 (cs:List Col) (w:BW) (x:Rw):Prop where
 code:x.2=w.2
 len:x.1.length=cs.length
 sp:∀ (j:Nat) (ps:Prs) (c:Col) (b:Nat),x.1[j]?=some ps->cs[j]?=some c->w.1[j]?=some b->A2 c.prs b c.prs.length ps
 is:∀ (j:Nat) (ps:Prs) (c:Col) (b:Nat),x.1[j]?=some ps->cs[j]?=some c->w.1[j]?=some b->ps=mrg c.prs b c.prs.length
def DQ (cs:List Col) (ws:List BW) (rws:List Rw):Prop:=rws.length=ws.length/\∀ (k:Nat) (w:BW) (x:Rw),ws[k]?=some w->rws[k]?=some x->A3 cs w x
def grow (pts:List (List Nat)) (n:Nat):List (List Nat):=pts.flatMap λp=>(List.range n).map λk=>p ++ [k]
def DR (ls:List Nat):List (List Nat):=ls.foldl grow [[]]
def EI (ls:List Nat) (p:List Nat):Prop:=p.length=ls.length/\∀ (j a m:Nat),p[j]?=some a->ls[j]?=some m->a < m
def PtL (N:Addr->Prop) (H:Hp) (xs:List V) (pts:List (List Nat)):Prop:=ao xs pts λr p=>N r/\H r=some (.lst (vN p))
def EJ (cs:List Col):List Nat:=cs.map λc=>c.prs.length
def AtP (cs:List Col) (p:List Nat) (cd:List Int):Prop:=cd.length=cs.length/\∀ (j:Nat) (x:Int) (c:Col) (a:Nat),cd[j]?=some x->cs[j]?=some c->p[j]?=some a->∃ pr,c.prs[a]?=some pr/\(x=pr.1\/x=pr.2)
def yZ (bs p:List Nat):Bool:=(List.range p.length).all λj=>(bs.getD j 0).testBit (p.getD j 0)
def bF (ws:List BW) (p:List Nat) (k:Nat):Bool:=yZ (ws.getD k ([],0)).1 p
def cnt (ws:List BW) (p:List Nat):List Nat:=(List.range ws.length).filter (bF ws p)
def EK (cN cW:Addr) (H:Hp) (a:Addr) (c:Col):Prop:=(c.w=false/\∃ dx fs,H a=some (.ins cN dx fs)/\fs.lookup (Str.ofString "low")=some (.int c.lo)/\fs.lookup (Str.ofString "high")=some (.int c.hi)/\fs.lookup (Str.ofString "has_code")=none) \/
 (c.w=true/\∃ dx fs l,H a=some (.ins cW dx fs)/\fs.lookup (Str.ofString "low")=some (.int c.lo)/\fs.lookup (Str.ofString "high")=some (.int c.hi)/\fs.lookup (Str.ofString "has_code")=none/\fs.lookup (Str.ofString "words")=some (.ref l)/\H l=some (.lst ((wds c.sd (c.hi+1).toNat).map V.str)))
def prm {α:Type} (os:List Nat) (xs:List α):List α:=os.filterMap (xs[·]?)
structure Pm (os:List Nat) (n:Nat):Prop where
 len:os.length=n
 lt:∀ k ∈ os,k < n
 nd:os.Nodup
 all:∀ k,k < n->k ∈ os
theorem ku {α:Type} {o:Nat} {os:List Nat} {xs:List α} (h:o < xs.length):prm (o :: os) xs=xs[o] :: prm os xs:=by
 unfold prm
 rw [List.filterMap_cons,E3 h]
theorem bL {α:Type} : ∀ {os:List Nat} {xs:List α},(∀ k ∈ os,k < xs.length)->(prm os xs).length=os.length/\∀ (j k:Nat),os[j]?=some k->(prm os xs)[j]?=xs[k]?
 | [],xs,_=>⟨rfl,λj k e=>by simp at e⟩
 | o :: os,xs,h=>by
  obtain ⟨h1,h2⟩:=bL (os:=os) (xs:=xs) λk hk=>h k (List.mem_cons_of_mem _ hk)
  have ho:=h o List.mem_cons_self
  rw [ku ho]
  refine ⟨by rw [List.length_cons,List.length_cons,h1],λj k f=>?_⟩
  match j,f with
  | 0,f =>
   have:o=k:=by simpa using f
   subst this
   rw [E3 ho];rfl
  | j+1,f=>exact h2 j k (by simpa using f)
theorem sx {α:Type} {os:List Nat} {k:Nat} {xs:List α} {x:α} (e:xs[k]?=some x):prm (os ++ [k]) xs=prm os xs ++ [x]:=by
 unfold prm
 rw [List.filterMap_append]
 simp [e]
theorem uJ {α β:Type} (f:α->β) (os:List Nat) (xs:List α):prm os (xs.map f)=(prm os xs).map f:=by
 unfold prm
 rw [List.map_filterMap]
 congr 1
 funext k
 rw [List.getElem?_map]
theorem qk {α:Type} {os:List Nat} {xs:List α} {x:α} (h:x ∈ prm os xs):x ∈ xs:=by
 unfold prm at h
 obtain ⟨k,_,e⟩:=List.mem_filterMap.mp h
 exact E5 e
theorem cH {α:Type} {xs:List α} (h:xs.Nodup) {i j:Nat} {x:α} (e:xs[i]?=some x) (f:xs[j]?=some x):i=j:=by
 obtain ⟨hi,ei⟩:=E4.mp e
 obtain ⟨hj,ej⟩:=E4.mp f
 have p:=List.pairwise_iff_getElem.mp (List.nodup_iff_pairwise_ne.mp h)
 rcases Nat.lt_trichotomy i j with q | q | q
 ·exact absurd (ei.trans ej.symm) (p i j hi hj q)
 ·exact q
 ·exact absurd (ej.trans ei.symm) (p j i hj hi q)
theorem lV {α:Type} {os:List Nat} {xs:List α} (ho:os.Nodup) (hx:xs.Nodup) (hl:∀ k ∈ os,k < xs.length):(prm os xs).Nodup:=by
 induction os with
 | nil=>exact List.nodup_nil
 | cons o os ih =>
  rw [List.nodup_cons] at ho
  have hi:=ih ho.2 λk hk=>hl k (List.mem_cons_of_mem _ hk)
  have h0:=hl o List.mem_cons_self
  rw [ku h0,List.nodup_cons]
  refine ⟨λhm=>?_,hi⟩
  unfold prm at hm
  obtain ⟨k,hk,f⟩:=List.mem_filterMap.mp hm
  have:k=o:=cH hx f (E3 h0)
  subst this
  exact ho.1 hk
def TF (cT:Addr) (H:Hp) (t:Addr) (nm wy:Str) (ou:Addr) (zs:List Str) (dv:List V) (rws:List Rw):Prop:=∃ (rl dx na dl:Addr) (fs:List (Str × V)) (xs:List V),H t=some (.ins cT dx fs)/\fs.lookup (Str.ofString "rows")=some (.ref rl)/\fs.lookup (Str.ofString "name")=some (.str nm)/\fs.lookup (Str.ofString "way")=some (.str wy)/\fs.lookup (Str.ofString "outcome")=some (.ref ou)/\fs.lookup (Str.ofString "names")=some (.ref na)/\fs.lookup (Str.ofString "domains")=some (.ref dl)/\H na=some (.lst (zs.map V.str))/\H dl=some (.lst dv)/\H rl=some (.lst xs)/\RL NT H xs rws/\xs.length<=200
theorem TF.same {cT:Addr} {H H' : Hp} {t:Addr} {nm wy:Str} {ou:Addr} {zs:List Str} {dv:List V} {rws:List Rw} (h:TF cT H t nm wy ou zs dv rws) (s:aq H H'):TF cT H' t nm wy ou zs dv rws:=by
 obtain ⟨rl,dx,na,dl,fs,xs,h1,h2,h3,h4,h5,h6,h7,h8,h9,h10,h11,r⟩:=h
 exact ⟨rl,dx,na,dl,fs,xs,s _ _ h1,h2,h3,h4,h5,h6,h7,s _ _ h8,s _ _ h9,s _ _ h10,h11.same s,r⟩
def trn (os:List Nat) (x:Rw):Rw:=(prm os x.1,x.2)
structure TOk (cN cW:Addr) (H:Hp) (nm wy:Str) (ou:Addr) (zs:List Str) (dv:List V) (rws:List Rw) (bs:Prs) (o:Int × Int):Prop where
 words:∀ z ∈ nm :: zs,isw z=true
 once:(nm :: zs).Nodup
 one:1<=zs.length
 four:zs.length<=4
 way:wy ∈ six
 sum:wy=Str.ofString "sum" -> ∃ dx fs,H ou=some (.ins cN dx fs)
 doms:ao dv bs (Dom cN cW H)
 out:Dom cN cW H ou o
 len:bs.length=zs.length
 rows:∀ w ∈ rws,qj bs o w
 few:rws.length<=200
theorem oq {H:Hp} {D:Addr} {o:HO} : hide (upd H D o) D=hide H D:=by
 funext b
 unfold hide
 by_cases h:b=D
 ·rw [if_pos h,if_pos h]
 ·rw [if_neg h,if_neg h,au h]
theorem lW {H H' : Hp} {D:Addr} (s:aq H H'):aq (hide H D) (hide H' D):=λb o e=>by
 unfold hide at e ⊢
 by_cases h:b=D
 ·rw [if_pos h] at e;cases e
 ·rw [if_neg h] at e ⊢;exact s b o e
theorem jx (H:Hp) (D:Addr):aq (hide H D) H:=λb o e=>by
 unfold hide at e
 by_cases h:b=D
 ·rw [if_pos h] at e;cases e
 ·rw [if_neg h] at e;exact e
theorem q0 {H H' : Hp} {D:Addr} (s:aq H H') (n:H D=none):aq H (hide H' D):=λb o e=>cm (s b o e) (bq e n)
def pc (ws:List BW) (p:List Nat):List Int:=(ws.filter λw=>yZ w.1 p).map (·.2)
def sy (C:Addr) (H:Hp) (a:Addr) (zs:List Str):Prop:=∃ dx l,H a=some (.ins C dx [("low",.int 0),("high",.int (hiW zs)),("words",.ref l)])/\H l=some (.lst (zs.map V.str))
def ot (C:Addr) (H:Hp) (a:Addr) (lo hi:Int):Prop:=∃ dx,H a=some (.ins C dx [("low",.int lo),("high",.int hi)])
theorem sy.same {C:Addr} {H H' : Hp} {a:Addr} {zs:List Str} (h:sy C H a zs) (s:aq H H'):sy C H' a zs:=by obtain ⟨dx,l,e,f⟩:=h;exact ⟨dx,l,s _ _ e,s _ _ f⟩
theorem ot.same {C:Addr} {H H' : Hp} {a:Addr} {lo hi:Int} (h:ot C H a lo hi) (s:aq H H'):ot C H' a lo hi:=by obtain ⟨dx,e⟩:=h;exact ⟨dx,s _ _ e⟩
def bnd (i:Int):Prop:=i.natAbs < 10 ^ 60
def DS (cN cW:Addr) (H:Hp) (d:Addr) (c:Int) (z:Str):Prop :=
 (∃ lo hi,ot cN H d lo hi/\lo<=c/\c<=hi/\bnd c/\z=toString c)\/∃ zs,sy cW H d zs/\0<=c/\zs[c.toNat]?=some z
theorem wx {l:List Nat} (h1:1<=l.length) (h2:l.length<=12) (h3:∀ x ∈ l,97<=x/\x<=122) (h4:l ≠ [110,111,116]):isw ⟨l.toArray⟩=true:=by
 have ha:kf ⟨l.toArray⟩ lets=true:=by
  unfold kf
  rw [List.all_eq_true]
  intro x hx
  exact wt (h3 x (by simpa using hx))
 have hn:¬ (V.str ⟨l.toArray⟩=V.str (Str.ofString "not")):=λh=>by
  injection h with h
  have e:Str.ofString "not" = ⟨[110,111,116].toArray⟩:=by decide +kernel
  rw [e] at h
  injection h with h
  exact h4 (by simpa using congrArg Array.toList h)
 have hl:(⟨l.toArray⟩:Str).length=l.length:=by simp [Str.length]
 unfold isw
 rw [ha,decide_eq_true (show (1:Int)<=(((⟨l.toArray⟩:Str).length:Nat):Int) by omega),decide_eq_true (show (((⟨l.toArray⟩:Str).length:Nat):Int)<=12 by omega)]
 show (true && (true && (!decide (V.str ⟨l.toArray⟩=V.str (Str.ofString "not")) && true)))=true
 rw [decide_eq_false hn];rfl
def pz (t:Int):List Nat:=[122,117,118].take t.toNat
def l2w (c k:Int):List Nat:=[97+(k % 8).toNat,97+((k / 8+c / 80) % 8).toNat]
def w92 (c k:Int):Str:=⟨(pz (c / 80 % 4) ++ l2w c k).toArray⟩
def EL (c:Int) (n:Nat):List Str:=(List.range n).map λj:Nat=>w92 c (0+(j:Int))
theorem y9 {k:Int} (h0:0<=k) (h1:k < 40):bnd k:=by
 unfold bnd
 have e:(40:Nat)<=10 ^ 60:=by decide
 generalize (10 ^ 60:Nat)=W at e ⊢
 omega
abbrev Dk:=Option (List Str) × Int × Int
def fV (cN cW:Addr) (H:Hp) (d:Addr) (k:Dk):Prop:=match k.1 with
 | none=>ot cN H d k.2.1 k.2.2
 | some zs=>sy cW H d zs/\k.2.1=0/\k.2.2=hiW zs/\Good zs
theorem fV.same {cN cW:Addr} {H H' : Hp} {d:Addr} {k:Dk} (h:fV cN cW H d k) (s:aq H H'):fV cN cW H' d k:=by
 obtain ⟨w,lo,hi⟩:=k
 cases w with
 | none=>exact ot.same h s
 | some zs=>exact ⟨h.1.same s,h.2⟩
def za (zs:List Str) (lo hi:Option Int):List Str:=(zs.drop (HT.sIx zs.length 0 lo)).take (HT.sIx zs.length zs.length hi - HT.sIx zs.length 0 lo)
def shT (k:Dk) (p:Pr):Str :=
 if p=k.2 then Str.ofString "-" else match k.1 with
 | some zs=>Txt.join (Str.ofString ", ") (za zs (some p.1) (some (p.2+1)))
 | none=>if p.1=p.2 then Str.ofString (toString p.1) else if p.1=k.2.1 then Str.ofString ".." ++ Str.ofString (toString p.2) else if p.2=k.2.2 then Str.ofString (toString p.1) ++ Str.ofString ".." else Str.ofString (toString p.1) ++ Str.ofString ".." ++ Str.ofString (toString p.2)
structure A4 (k:Dk) (p:Pr):Prop where
 lo:k.2.1<=p.1
 le:p.1<=p.2
 hi:p.2<=k.2.2
 b1:bnd p.1
 b2:bnd p.2
def GdK (k:Dk):Prop:=match k.1 with
 | none=>True
 | some zs=>Good zs
def EM (H:Hp) (wv:V) (k:Dk):Prop:=match k.1 with
 | none=>wv=.non
 | some zs=>∃ l,wv=.ref l/\H l=some (.lst (zs.map V.str))/\Good zs
def eW (N:Addr->Prop) (cN cW:Addr) (H:Hp) (d:Addr) (k:Dk):Prop:=match k.1 with
 | none=>ot cN H d k.2.1 k.2.2
 | some zs=>(∃ dx l,N l/\H d=some (.ins cW dx [("low",.int 0),("high",.int (hiW zs)),("words",.ref l)])/\H l=some (.lst (zs.map V.str)))/\k.2.1=0/\k.2.2=hiW zs/\Good zs
theorem eW.dom {N:Addr->Prop} {cN cW:Addr} {H:Hp} {d:Addr} {k:Dk} (h:eW N cN cW H d k):fV cN cW H d k:=by
 obtain ⟨w,lo,hi⟩:=k
 cases w with
 | none=>exact h
 | some zs=>obtain ⟨⟨dx,l,_,e,f⟩,r⟩:=h;exact ⟨⟨dx,l,e,f⟩,r⟩
theorem eW.same {N:Addr->Prop} {cN cW:Addr} {H H' : Hp} {d:Addr} {k:Dk} (h:eW N cN cW H d k) (s:aq H H'):eW N cN cW H' d k:=by
 obtain ⟨w,lo,hi⟩:=k
 cases w with
 | none=>exact ot.same h s
 | some zs=>obtain ⟨⟨dx,l,n,e,f⟩,r⟩:=h;exact ⟨⟨dx,l,n,s _ _ e,s _ _ f⟩,r⟩
theorem eW.upd {N:Addr->Prop} {cN cW:Addr} {H:Hp} {d D:Addr} {k:Dk} {o:HO} {zs:List V} (h:eW N cN cW H d k) (n:¬ N D) (e:H D=some (.lst zs)):eW N cN cW (upd H D o) d k:=by
 obtain ⟨w,lo,hi⟩:=k
 cases w with
 | none =>
  obtain ⟨dx,f⟩:=h
  exact ⟨dx,(au (bV f e (by intro z;cases z))).trans f⟩
 | some ws =>
  obtain ⟨⟨dx,l,m,f,g⟩,r⟩:=h
  exact ⟨⟨dx,l,m,(au (bV f e (by intro z;cases z))).trans f,(au (λ(z:l=D)=>n (by rw [← z];exact m))).trans g⟩,r⟩
def WvN (N:Addr->Prop) (H:Hp) (wv:V) (k:Dk):Prop:=match k.1 with
 | none=>wv=.non
 | some zs=>∃ l,N l/\wv=.ref l/\H l=some (.lst (zs.map V.str))/\Good zs
theorem ql {z:Str} (h:isw z=true):z.length<=12:=by
 unfold isw at h
 simp only [Bool.and_eq_true,decide_eq_true_eq] at h
 omega
theorem wz {zs:List Str} {m:Nat} (h:∀ z ∈ zs,z.length<=m):(zs.map (·.length)).sum<=zs.length * m:=by
 induction zs with
 | nil=>simp
 | cons z zs ih =>
  have h1:=h z (by simp)
  have h2:=ih λy hy=>h y (List.mem_cons_of_mem _ hy)
  rw [List.map_cons,List.sum_cons,List.length_cons,Nat.succ_mul]
  omega
theorem uK {zs:List Str} {m n:Nat} (h:∀ z ∈ zs,z.length<=m) (hl:zs.length<=n) (hm:n * m+n * 64<=16777216):(zs.map (·.length)).sum+zs.length * 64<=16777216:=by
 have h1:=wz h
 have h2:zs.length * m<=n * m:=Nat.mul_le_mul_right m hl
 have h3:zs.length * 64<=n * 64:=Nat.mul_le_mul_right 64 hl
 omega
def pairEq (p q:Pr):Bool:=eqV (.int p.1) (.int q.1) && eqV (.int p.2) (.int q.2)
def shN (lo hi:Int) (p:Pr):Str:=if p.1=p.2 then Str.ofString (toString p.1) else if p.1=lo then Str.ofString ".." ++ Str.ofString (toString p.2) else if p.2=hi then Str.ofString (toString p.1) ++ Str.ofString ".." else Str.ofString (toString p.1) ++ Str.ofString ".." ++ Str.ofString (toString p.2)
theorem wA (a b:Str):(a ++ b).length=a.length+b.length:=by
 show (Str.append a b).length=_
 unfold Str.append Str.length
 simp
def hcs (c:Int):List Nat:=(List.range (c % 6).toNat).map λj:Nat=>97+(c / (3 * (0+(j:Int))+1) % 13).toNat
def tcs (c:Int):List Nat:=(List.range (c / 7 % 6).toNat).map λj:Nat=>97+(c / (5 * (0+(j:Int))+2) % 13).toNat
def lwc (c k:Int):List Nat:=hcs c ++ ([97+((c / 11+3 * k) % 26).toNat] ++ tcs c)
def lw (c k:Int):Str:=⟨(lwc c k).toArray⟩
def lws (c:Int) (n:Nat):List Str:=(List.range n).map λj:Nat=>lw c (0+(j:Int))
theorem sC (c:Int) (n:Nat):lws c (n+1)=lws c n ++ [lw c (0+(n:Int))]:=by unfold lws;rw [List.range_succ,List.map_append];rfl
theorem iu (c:Int) (n:Nat):(lws c n).length=n:=by unfold lws;simp
theorem jy {c k:Int} {x:Nat} (h:x ∈ lwc c k):(97<=x/\x<=109)\/x=97+((c / 11+3 * k) % 26).toNat:=by
 unfold lwc at h
 rcases List.mem_append.mp h with h | h
 ·unfold hcs at h
  obtain ⟨j,_,rfl⟩:=List.mem_map.mp h
  have:=Int.emod_lt_of_pos (c / (3 * (0+(j:Int))+1)) (show (0:Int) < 13 by decide)
  omega
 ·rcases List.mem_append.mp h with h | h
  ·exact .inr (by simpa using h)
  ·unfold tcs at h
   obtain ⟨j,_,rfl⟩:=List.mem_map.mp h
   have:=Int.emod_lt_of_pos (c / (5 * (0+(j:Int))+2)) (show (0:Int) < 13 by decide)
   omega
theorem mF (c:Int):(hcs c).length<=5:=by
 unfold hcs
 rw [List.length_map,List.length_range]
 have:=Int.emod_lt_of_pos c (show (0:Int) < 6 by decide)
 omega
theorem mG (c:Int):(tcs c).length<=5:=by
 unfold tcs
 rw [List.length_map,List.length_range]
 have:=Int.emod_lt_of_pos (c / 7) (show (0:Int) < 6 by decide)
 omega
theorem sD (c k:Int):isw (lw c k)=true:=by
 have h1:=mF c
 have h2:=mG c
 have m1:=Int.emod_lt_of_pos (c / 11+3 * k) (show (0:Int) < 26 by decide)
 refine wx (by unfold lwc;simp;omega) (by unfold lwc;simp;omega) (λx hx=>?_) (λh=>?_)
 ·rcases jy hx with hx | hx <;> omega
 ·have a:(110:Nat) ∈ lwc c k:=by rw [h];simp
  have b:(111:Nat) ∈ lwc c k:=by rw [h];simp
  rcases jy a with a | a
  ·omega
  ·rcases jy b with b | b <;> omega
theorem wB {c k k' : Int} (h0:0<=k) (h1:k < 8) (h2:0<=k') (h3:k' < 8) (e:lw c k=lw c k'):k=k':=by
 unfold lw at e
 injection e with e
 have e:lwc c k=lwc c k':=by simpa using congrArg Array.toList e
 unfold lwc at e
 have e:=List.append_cancel_left e
 injection e with e1 e2
 have:=Int.emod_nonneg (c / 11+3 * k) (show (26:Int) ≠ 0 by decide)
 have:=Int.emod_nonneg (c / 11+3 * k') (show (26:Int) ≠ 0 by decide)
 generalize c / 11=d at *
 omega
theorem lX {c:Int} {n:Nat} (h:n<=8):(lws c n).Nodup:=by
 unfold lws
 rw [List.nodup_iff_pairwise_ne,List.pairwise_map]
 refine List.Pairwise.imp_of_mem (R:=λa b=>a ≠ b) (λ{a b} ha hb hab e=>?_) List.nodup_range
 have ha:=List.mem_range.mp ha
 have hb:=List.mem_range.mp hb
 have:=wB (by omega) (by omega) (by omega) (by omega) e
 omega
theorem qm {c:Int} {n:Nat} {z:Str} (hz:z ∈ lws c n):isw z=true:=by
 unfold lws at hz
 obtain ⟨j,_,rfl⟩:=List.mem_map.mp hz
 exact sD _ _
theorem sG {c:Int} {n:Nat} (h1:1<=n) (h2:n<=8):Good (lws c n):=⟨by rw [iu];exact h1,by rw [iu];omega,λz hz=>qm hz,lX h2⟩
theorem kx:∀ xs:List Nat,Txt.join (Str.ofString "") (xs.map λx=>(⟨#[x]⟩:Str))=⟨xs.toArray⟩:=λxs=>by
 rw [show Txt.join (Str.ofString "") (xs.map λx=>(⟨#[x]⟩:Str))=(Str.ofString "").join (xs.map λx=>(⟨#[x]⟩:Str)) from StrLaws.glued_eq_join _ _]
 have e0:Str.ofString "" = Str.empty:=by decide +kernel
 rw [e0]
 induction xs with
 | nil=>rfl
 | cons x xs ih =>
  cases xs with
  | nil=>rfl
  | cons y ys =>
   show (⟨#[x]⟩:Str) ++ Str.empty ++ Str.join Str.empty ((y :: ys).map λx=>(⟨#[x]⟩:Str))=_
   rw [ih]
   show Str.append (Str.append _ _) _=_
   unfold Str.append Str.empty
   simp
theorem ox (xs:List Nat) (h:xs.length<=5):((xs.map λx=>(⟨#[x]⟩:Str)).map (·.length)).sum+(xs.map λx=>(⟨#[x]⟩:Str)).length * 64<=16777216 :=
 uK (m:=1) (n:=5) (λz hz=>by obtain ⟨x,_,rfl⟩:=List.mem_map.mp hz;exact Nat.le_refl 1) (by rw [List.length_map];exact h) (by decide)
structure PD where
 lo:Int
 hi:Int
 ws:List Str
 pool:List Int
def EdP (p:PD) (x:Int × Int):Prop:=(x.1=p.lo\/x.1 ∈ p.pool\/x.1 - 1 ∈ p.pool)/\(x.2=p.hi\/x.2 ∈ p.pool\/x.2+1 ∈ p.pool)
def PDA (N:Addr->Prop) (H:Hp) (r:Addr) (p:PD):Prop:=∃ l:Addr,N r/\N l/\H r=some (.tup [.int p.lo,.int p.hi,.ref l])/\H l=some (.lst (p.ws.map V.str))
theorem PDA.same {N:Addr->Prop} {H H' : Hp} {r:Addr} {p:PD} (h:PDA N H r p) (s:aq H H'):PDA N H' r p:=by obtain ⟨l,n,m,e,f⟩:=h;exact ⟨l,n,m,s _ _ e,s _ _ f⟩
theorem PDA.wk {N N' : Addr->Prop} {H:Hp} {r:Addr} {p:PD} (h:PDA N H r p) (w:∀ x,N x->N' x):PDA N' H r p:=by obtain ⟨l,n,m,e,f⟩:=h;exact ⟨l,w _ n,w _ m,e,f⟩
def PD.k (p:PD):Dk:=(if p.ws=[] then none else some p.ws,p.lo,p.hi)
structure pF (p:PD):Prop where
 le:p.lo<=p.hi
 wd:p.ws ≠ []->Good p.ws/\p.lo=0/\p.hi=hiW p.ws
 bd:∀ x:Int,p.lo<=x->x<=p.hi->bnd x
theorem p30:(10:Int) ^ (30:Int).toNat=((10 ^ 30:Nat):Int):=by decide
theorem p29:(10:Int) ^ (29:Int).toNat=((10 ^ 29:Nat):Int):=by decide
theorem zb {x:Int} (h0 : -((10 ^ 31:Nat):Int)<=x) (h1:x<=((10 ^ 31:Nat):Int)):bnd x:=by
 unfold bnd
 have k:(10 ^ 31:Nat) < 10 ^ 60:=by decide
 generalize (10 ^ 31:Nat)=A at h0 h1 k
 generalize (10 ^ 60:Nat)=W at k ⊢
 omega
theorem gC {i j:Int} (h:0 < j) (h2:j < 1000):yc i j:=⟨h,by omega⟩
theorem pl1 {H:Hp} {t l:Addr} {a b:Int} (ht:H t=none) (hl:upd H t (.tup [.int a,.int b]) l=none):aq H (upd (upd H t (.tup [.int a,.int b])) l (.lst [.ref t]))/\upd (upd H t (.tup [.int a,.int b])) l (.lst [.ref t]) l=some (.lst [.ref t])/\PL (upd (upd H t (.tup [.int a,.int b])) l (.lst [.ref t])) [.ref t] [(a,b)] :=
 ⟨(ah ht _).trans (ah hl _),ae,.cons ⟨t,rfl,ah hl _ _ _ ae⟩ .nil⟩
theorem pl2 {H:Hp} {t u l:Addr} {a b c d:Int} (ht:H t=none) (hu:upd H t (.tup [.int a,.int b]) u=none) (hl:upd (upd H t (.tup [.int a,.int b])) u (.tup [.int c,.int d]) l=none):aq H (upd (upd (upd H t (.tup [.int a,.int b])) u (.tup [.int c,.int d])) l (.lst [.ref t,.ref u]))/\upd (upd (upd H t (.tup [.int a,.int b])) u (.tup [.int c,.int d])) l (.lst [.ref t,.ref u]) l=some (.lst [.ref t,.ref u])/\PL (upd (upd (upd H t (.tup [.int a,.int b])) u (.tup [.int c,.int d])) l (.lst [.ref t,.ref u])) [.ref t,.ref u] [(a,b),(c,d)] :=
 ⟨((ah ht _).trans (ah hu _)).trans (ah hl _),ae,.cons ⟨t,rfl,ah hl _ _ _ (ah hu _ _ _ ae)⟩ (.cons ⟨u,rfl,ah hl _ _ _ ae⟩ .nil)⟩
def SPI (p:PD) (H H' : Hp) (pl:Addr):Prop:=aq H H'/\∃ (ts:List V) (ps:Prs),H' pl=some (.lst ts)/\PL H' ts ps/\(∀ x ∈ ps,p.lo<=x.1/\x.2<=p.hi)/\ps.length<=2
def PoA (N:Addr->Prop) (H:Hp) (a:Addr) (p:PD):Prop:=N a/\∃ xs:List Int,H a=some (.lst (xs.map V.int))/\xs.length=3/\∀ x ∈ xs,p.lo<=x/\x<=p.hi
structure mH (ds:List PD) (cols:List Nat) (ow:Nat) (w:Rw):Prop where
 len:w.1.length=cols.length
 inn:∀ (j k:Nat) (ps:Prs) (p:PD),w.1[j]?=some ps->cols[j]?=some k->ds[k]?=some p->∀ x ∈ ps,p.lo<=x.1/\x.1<=x.2/\x.2<=p.hi
 few:∀ ps ∈ w.1,ps.length<=2
 code:∀ p,ds[ow]?=some p->p.lo<=w.2/\w.2<=p.hi
 pool:∀ (j k:Nat) (ps:Prs) (p:PD),w.1[j]?=some ps->cols[j]?=some k->ds[k]?=some p->∀ x ∈ ps,EdP p x
theorem PDA.updN {N:Addr->Prop} {H:Hp} {r D:Addr} {p:PD} {zs:List V} {o:HO} (h:PDA N H r p) (n:¬ N D) (e:H D=some (.lst zs)):PDA N (upd H D o) r p:=by
 obtain ⟨l,n1,n2,f,g⟩:=h
 exact ⟨l,n1,n2,(au (bV f e (by intro z;cases z))).trans f,(au (λ(z:l=D)=>n (by rw [← z];exact n2))).trans g⟩
def hideL (H:Hp) (F:List Addr):Hp:=λb=>if b ∈ F then none else H b
theorem cg {H:Hp} {F:List Addr} {b:Addr} {o:HO} (e:H b=some o) (n:b ∉ F):hideL H F b=some o:=by unfold hideL;rw [if_neg n];exact e
theorem cQ (H:Hp) (F:List Addr):aq (hideL H F) H:=λb o e=>by
 unfold hideL at e
 by_cases h:b ∈ F
 ·rw [if_pos h] at e;cases e
 ·rw [if_neg h] at e;exact e
theorem eA {H H' : Hp} {F:List Addr} (s:aq H H'):aq (hideL H F) (hideL H' F):=λb o e=>by
 by_cases h:b ∈ F
 ·unfold hideL at e;rw [if_pos h] at e;cases e
 ·exact cg (s b o (cQ H F b o e)) h
theorem lY {H:Hp} {F:List Addr} {D:Addr} {o:HO} (h:D ∈ F):hideL (upd H D o) F=hideL H F:=by
 funext b
 unfold hideL
 by_cases hb:b ∈ F
 ·rw [if_pos hb,if_pos hb]
 ·rw [if_neg hb,if_neg hb]
  exact au λz=>hb (by rw [z];exact h)
theorem pG {H H' : Hp} {F:List Addr} (s:aq H H') (n:∀ D ∈ F,H D=none):aq H (hideL H' F):=λb o e=>cg (s b o e) λhb=>by rw [n b hb] at e;cases e
theorem ky {H:Hp} {F:List Addr} (hF:∀ D ∈ F,∃ zs,H D=some (.lst zs)):fi H (hideL H F):=λb t e=>cg e λhb=>by
 obtain ⟨zs,ez⟩:=hF b hb
 rw [ez] at e
 cases e
theorem dS.hideL {H H2:Hp} {F:List Addr} {r:Addr} {w:Rw} (h:dS (λa=>H a=none) H2 r w) (hF:∀ D ∈ F,∃ zs,H D=some (.lst zs)) (s:aq H H2):dS NT (My.hideL H2 F) r w:=by
 obtain ⟨ce,cs,e,n,f,c⟩:=h
 have hF2:∀ D ∈ F,∃ zs,H2 D=some (.lst zs):=λD hD=>let ⟨zs,ez⟩:=hF D hD;⟨zs,s _ _ ez⟩
 have out:∀ x,H x=none->x ∉ F:=λx hx hm=>by obtain ⟨zs,ez⟩:=hF x hm;rw [ez] at hx;cases hx
 refine ⟨ce,cs,ky hF2 _ _ e,trivial,cg f (out _ n),ao.mono c λl ps h=>?_⟩
 obtain ⟨n1,ys,g,pl⟩:=h
 exact ⟨trivial,ys,cg g (out _ n1),pl.mono (ky hF2)⟩
def TT (H:Hp) (r:Addr) (t:(List Nat × Str) × Addr):Prop:=∃ cl:Addr,H r=some (.tup [.ref cl,.str t.1.2,.ref t.2])/\H cl=some (.lst (vN t.1.1))
theorem TT.same {H H' : Hp} {r:Addr} {t:(List Nat × Str) × Addr} (h:TT H r t) (s:aq H H'):TT H' r t:=by obtain ⟨cl,e,f⟩:=h;exact ⟨cl,s _ _ e,s _ _ f⟩
structure wC (fN:Nat) (ds:List PD) (j:Nat) (t:List Nat × Str):Prop where
 some_:1<=t.1.length
 few:t.1.length<=3
 lt:∀ k ∈ t.1,k < fN+j
 nd:t.1.Nodup
 way:t.2 ∈ six
 sum:t.2=Str.ofString "sum" -> ∀ p,ds[fN+j]?=some p->p.ws=[]
def clm (c:Int) (ow:Nat) (m:Nat):List Nat:=(List.range m).map λj:Nat=>((c / 3+(0+(j:Int))) % (ow:Int)).toNat
theorem wD {c:Int} {ow m:Nat} (h:1<=ow):∀ k ∈ clm c ow m,k < ow:=λk hk=>by
 unfold clm at hk
 obtain ⟨j,_,rfl⟩:=List.mem_map.mp hk
 have h1:=Int.emod_lt_of_pos (c / 3+(0+(j:Int))) (show (0:Int) < (ow:Int) by omega)
 have h0:=Int.emod_nonneg (c / 3+(0+(j:Int))) (show (ow:Int) ≠ 0 by omega)
 omega
theorem q8 {x i j n:Int} (h0:0<=i) (h1:i < n) (h2:0<=j) (h3:j < n) (e:(x+i) % n=(x+j) % n):i=j:=by
 have key:∀ a b:Int,0<=a->a < n->0<=b->b < n->b<=a->(x+a) % n=(x+b) % n->a=b:=λa b a0 a1 b0 b1 hab e=>by
  have h:=Int.emod_eq_emod_iff_emod_sub_eq_zero.mp e
  rw [show x+a - (x+b)=a - b by omega,Int.emod_eq_of_lt (by omega) (by omega)] at h
  omega
 by_cases h:j<=i
 ·exact key i j h0 h1 h2 h3 h e
 ·exact (key j i h2 h3 h0 h1 (by omega) e.symm).symm
theorem wF {c:Int} {ow m:Nat} (h:1<=ow) (hm:m<=ow):(clm c ow m).Nodup:=by
 unfold clm
 rw [List.nodup_iff_pairwise_ne,List.pairwise_map]
 refine List.Pairwise.imp_of_mem (R:=λa b=>a ≠ b) (λ{a b} ha hb hab e=>?_) List.nodup_range
 have ha:=List.mem_range.mp ha
 have hb:=List.mem_range.mp hb
 have a0:=Int.emod_nonneg (c / 3+(0+(a:Int))) (show (ow:Int) ≠ 0 by omega)
 have b0:=Int.emod_nonneg (c / 3+(0+(b:Int))) (show (ow:Int) ≠ 0 by omega)
 have:=q8 (x:=c / 3) (i:=0+(a:Int)) (j:=0+(b:Int)) (n:=(ow:Int)) (by omega) (by omega) (by omega) (by omega) (by omega)
 omega
theorem mI (c:Int) (ow m:Nat):(clm c ow m).length=m:=by unfold clm;simp
theorem sH (c:Int) (ow m:Nat):vN (clm c ow (m+1))=vN (clm c ow m) ++ [.int ((((c / 3+(0+(m:Int))) % (ow:Int)).toNat:Nat):Int)]:=by
 unfold clm vN
 rw [List.range_succ,List.map_append,List.map_append]
 rfl
structure PT where
 cols:List Nat
 way:Str
 rows:List Rw
def PTA (H:Hp) (r:Addr) (t:PT):Prop:=∃ (cl rl:Addr) (zs:List V),H r=some (.tup [.ref cl,.str t.way,.ref rl])/\H cl=some (.lst (vN t.cols))/\H rl=some (.lst zs)/\RL NT H zs t.rows
theorem PTA.same {H H' : Hp} {r:Addr} {t:PT} (h:PTA H r t) (s:aq H H'):PTA H' r t:=by obtain ⟨cl,rl,zs,e,f,g,k⟩:=h;exact ⟨cl,rl,zs,s _ _ e,s _ _ f,s _ _ g,k.same s⟩
structure A5 (fN:Nat) (ds:List PD) (j:Nat) (t:PT):Prop where
 ok:wC fN ds j (t.cols,t.way)
 rows:∀ w ∈ t.rows,mH ds t.cols (fN+j) w
 few:t.rows.length<=200
def PlA (H:Hp) (r:Addr) (zs:List Str) (ds:List PD) (ts:List PT):Prop:=∃ (nl dl tl_:Addr) (dv tv:List V),H r=some (.tup [.ref nl,.ref dl,.ref tl_])/\H nl=some (.lst (zs.map V.str))/\H dl=some (.lst dv)/\ao dv ds (PDA NT H)/\H tl_=some (.lst tv)/\ao tv ts (PTA H)
theorem PlA.same {H H' : Hp} {r:Addr} {zs:List Str} {ds:List PD} {ts:List PT} (h:PlA H r zs ds ts) (s:aq H H'):PlA H' r zs ds ts:=by
 obtain ⟨nl,dl,tl_,dv,tv,e1,e2,e3,h1,e4,h2⟩:=h
 exact ⟨nl,dl,tl_,dv,tv,s _ _ e1,s _ _ e2,s _ _ e3,ao.mono h1 (λ_ _ p=>p.same s),s _ _ e4,ao.mono h2 λ_ _ p=>p.same s⟩
structure cY (zs:List Str) (ds:List PD) (ts:List PT) (fN:Nat):Prop where
 words:∀ z ∈ zs,isw z=true
 nd:zs.Nodup
 len:zs.length=ds.length
 n7:ds.length<=7
 tab:fN+ts.length=ds.length
 some_:1<=ts.length
 doms:∀ p ∈ ds,pF p
 tabs:∀ (j:Nat) (t:PT),ts[j]?=some t->A5 fN ds j t
theorem lZ {H H9:Hp} {F F' : List Addr} (h:∀ b o,b ∉ F->H b=some o->H9 b=some o/\b ∉ F'):aq (hideL H F) (hideL H9 F'):=λb o e=>by
 by_cases hb:b ∈ F
 ·unfold hideL at e;rw [if_pos hb] at e;cases e
 ·obtain ⟨e9,n9⟩:=h b o hb (cQ H F b o e)
  exact cg e9 n9
def rls (ts:List ((List Nat × Str) × Addr)):List Addr:=ts.map (·.2)
theorem sI (ts:List ((List Nat × Str) × Addr)) (t:(List Nat × Str) × Addr):rls (ts ++ [t])=rls ts ++ [t.2]:=by unfold rls;rw [List.map_append];rfl
theorem uL {c:Int} {ow:Nat} (h1:1<=ow):∃ m:Nat,(if (ow:Int) < 1+c % 3 then (ow:Int) else 1+c % 3)=(m:Int)/\1<=m/\m<=3/\m<=ow:=by
 have c0:=Int.emod_nonneg c (show (3:Int) ≠ 0 by decide)
 have c1:=Int.emod_lt_of_pos c (show (0:Int) < 3 by decide)
 refine ⟨(if (ow:Int) < 1+c % 3 then (ow:Int) else 1+c % 3).toNat,?_,?_,?_,?_⟩ <;> split <;> omega
theorem jz {ts:List ((List Nat × Str) × Addr)} {j:Nat} {t:(List Nat × Str) × Addr} (e:ts[j]?=some t):(rls ts)[j]?=some t.2:=by unfold rls;rw [List.getElem?_map,e];rfl
theorem jA {ts:List ((List Nat × Str) × Addr)} {j:Nat} {t:(List Nat × Str) × Addr} (e:ts[j]?=some t):t.2 ∈ rls ts:=E5 (jz e)
def mkT (t:(List Nat × Str) × Addr) (rs:List Rw):PT:=⟨t.1.1,t.1.2,rs⟩
def RwI (H:Hp) (F:List Addr) (fN:Nat) (ds:List PD) (ts:List ((List Nat × Str) × Addr)) (rss:List (List Rw)) (n:Nat):Prop:=rss.length=ts.length/\∀ (j:Nat) (t:(List Nat × Str) × Addr) (rs:List Rw),ts[j]?=some t->rss[j]?=some rs->(∃ zs,H t.2=some (.lst zs)/\RL NT (hideL H F) zs rs)/\(∀ w ∈ rs,mH ds t.1.1 (fN+j) w)/\rs.length<=n
theorem RwI.grow {H H2:Hp} {fN n jj:Nat} {ds:List PD} {ts:List ((List Nat × Str) × Addr)} {rss:List (List Rw)} {t:(List Nat × Str) × Addr} {rs:List Rw} {zs:List V} {r:Addr} {w:Rw} (h:RwI H (rls ts) fN ds ts rss n) (hnd:(rls ts).Nodup) (s:aq H H2) (et:ts[jj]?=some t) (er:rss[jj]?=some rs) (ez:H t.2=some (.lst zs)) (hz:RL NT (hideL H (rls ts)) zs rs) (hw:dS NT (hideL H2 (rls ts)) r w) (hf:mH ds t.1.1 (fN+jj) w):RwI (upd H2 t.2 (.lst (zs ++ [.ref r]))) (rls ts) fN ds ts (rss.set jj (rs ++ [w])) (n+1):=by
 refine ⟨by rw [List.length_set];exact h.1,λj t' rs' e1 e2=>?_⟩
 have hh:hideL (upd H2 t.2 (.lst (zs ++ [.ref r]))) (rls ts)=hideL H2 (rls ts):=lY (jA et)
 rw [hh]
 by_cases hj:jj=j
 ·subst hj
  rw [et] at e1
  cases e1
  rw [List.getElem?_set_self (E4.mp er).1] at e2
  cases e2
  obtain ⟨_,h2,h3⟩:=h.2 jj t rs et er
  refine ⟨⟨_,ae,ao.snoc (hz.same (eA s)) hw⟩,λw' hw'=>?_,by rw [List.length_append,List.length_singleton];omega⟩
  rcases List.mem_append.mp hw' with hw' | hw'
  ·exact h2 w' hw'
  ·rw [show w'=w by simpa using hw'];exact hf
 ·rw [List.getElem?_set_ne hj] at e2
  obtain ⟨⟨zs',f1,f2⟩,h2,h3⟩:=h.2 j t' rs' e1 e2
  refine ⟨⟨zs',(au λz=>?_).trans (s _ _ f1),f2.same (eA s)⟩,h2,by omega⟩
  have a1:=jz e1
  have a2:=jz et
  rw [z] at a1
  exact hj (cH hnd a2 a1)
abbrev ofS:=Str.ofString
def A6 (zs:List Str) (p:Pr):List Str:=za zs (some p.1) (some (p.2+1))
def zc (k:Dk) (p:Pr):Str:=match k.1 with
 | some zs=>Txt.join (ofS ", ") (A6 zs p)
 | none=>shN k.2.1 k.2.2 p
def wG (k:Dk) (ps:Prs):Str:=if ps=[] then ofS "not -" else if ps=[k.2] then ofS "-" else Txt.join (ofS ", ") (ps.map (zc k))
def zd (k:Dk):Str:=match k.1 with
 | some zs=>Txt.join (ofS ", ") zs
 | none=>Str.ofString (toString k.2.1) ++ ofS ".." ++ Str.ofString (toString k.2.2)
structure A7 (k:Dk) (ps:Prs):Prop where
 few:ps.length<=2
 inn:∀ p ∈ ps,A4 k p
 gd:GdK k
 w0:∀ zs,k.1=some zs->k.2=(0,hiW zs)
theorem PD.k_none {p:PD} (h:p.ws=[]):p.k=(none,p.lo,p.hi):=by unfold PD.k;rw [if_pos h]
theorem PD.k_some {p:PD} (h:p.ws ≠ []):p.k=(some p.ws,p.lo,p.hi):=by unfold PD.k;rw [if_neg h]
theorem fV.dom {cN cW:Addr} {H:Hp} {d:Addr} {k:Dk} (h:fV cN cW H d k):Dom cN cW H d k.2:=by
 obtain ⟨w,lo,hi⟩:=k
 cases w with
 | none=>obtain ⟨dx,e⟩:=h;exact ⟨cN,.inl rfl,dx,_,e,rfl,rfl,rfl⟩
 | some zs =>
  obtain ⟨⟨dx,l,e,_⟩,h0,h1,_⟩:=h
  have h0:lo=0:=h0
  have h1:hi=hiW zs:=h1
  subst h0 h1
  exact ⟨cW,.inr rfl,dx,_,e,rfl,rfl,rfl⟩
def A8 (k:Dk) (c:Int):Str:=match k.1 with
 | some zs=>zs.getD c.toNat Str.empty
 | none=>Str.ofString (toString c)
def DT (nm:Str) (zs:List Str) (k:Dk) (wy:Str):Str:=ofS "table " ++ nm ++ ofS ": " ++ Txt.join (ofS ", ") zs ++ ofS " -> " ++ zd k ++ ofS " by " ++ wy
def EN (ks:List Dk) (w:Rw) (ko:Dk):Str:=ofS "when " ++ Txt.join (ofS " | ") (List.zipWith wG ks w.1) ++ ofS " -> " ++ A8 ko w.2
theorem cY.own {zs:List Str} {ds:List PD} {ts:List PT} {fN:Nat} (h:cY zs ds ts fN) {k:Nat} {t:PT} (e:ts[k]?=some t):fN+k < ds.length:=by
 have:=(E4.mp e).1
 have:=h.tab
 omega
theorem cY.lt {zs:List Str} {ds:List PD} {ts:List PT} {fN:Nat} (h:cY zs ds ts fN) {k:Nat} {t:PT} (e:ts[k]?=some t):∀ j ∈ t.cols,j < ds.length:=λj hj=>by
 have h1:=(h.tabs k t e).ok.lt j hj
 have h2:=h.own e
 omega
theorem cY.rows {zs:List Str} {ds:List PD} {ts:List PT} {fN:Nat} (h:cY zs ds ts fN) {k:Nat} {t:PT} (e:ts[k]?=some t) {po:PD} (eo:ds[fN+k]?=some po):∀ w ∈ t.rows,qj (prm t.cols (ds.map λp=>(p.lo,p.hi))) (po.lo,po.hi) w:=λw hw=>by
 have f:=(h.tabs k t e).rows w hw
 have lt:=h.lt e
 have lt2:∀ j ∈ t.cols,j < (ds.map λp=>(p.lo,p.hi)).length:=λj hj=>by rw [List.length_map];exact lt j hj
 have g:=bL (os:=t.cols) (xs:=ds.map λp=>(p.lo,p.hi)) lt2
 have c:=f.code po eo
 refine ⟨by rw [f.len,g.1],λj ps b e1 e2 p hp=>?_,c.1,c.2⟩
 have hj:j < t.cols.length:=by rw [← f.len];exact (E4.mp e1).1
 have ec:=E3 hj
 rw [g.2 j _ ec,List.getElem?_map] at e2
 have ed:=E3 (lt _ (E5 ec))
 rw [ed] at e2
 cases e2
 have:=f.inn j _ ps _ e1 ec ed p hp
 exact ⟨this.1,this.2.2⟩
theorem l5 {H:Hp} {D:Addr} {zs:List V} (e:H D=some (.lst zs)):fi H (hide H D):=λb t f=>cm f (bV f e (by intro z;cases z))
theorem q9 {α:Type} {os:List Nat} {o:Nat} {xs:List α} {x:α} (e:xs[o]?=some x):prm (os ++ [o]) xs=prm os xs ++ [x]:=by
 unfold prm
 rw [List.filterMap_append]
 simp [e]
theorem eW.wk {N N' : Addr->Prop} {cN cW:Addr} {H:Hp} {d:Addr} {k:Dk} (h:eW N cN cW H d k) (w:∀ x,N x->N' x):eW N' cN cW H d k:=by
 obtain ⟨w_,lo,hi⟩:=k
 cases w_ with
 | none=>exact h
 | some zs=>obtain ⟨⟨dx,l,n,e,f⟩,r⟩:=h;exact ⟨⟨dx,l,w _ n,e,f⟩,r⟩
def FcT (P:Nat->Addr->Prop) (H:Hp) (zs:List Str) (r:Addr) (k:Nat):Prop:=∃ (nm:Str) (d:Addr),zs[k]?=some nm/\P k d/\H r=some (.tup [.str nm,.ref d])
theorem FcT.tups {P:Nat->Addr->Prop} {H H' : Hp} {zs:List Str} {r:Addr} {k:Nat} (h:FcT P H zs r k) (s:fi H H'):FcT P H' zs r k:=by
 obtain ⟨nm,d,h1,h2,h3⟩:=h
 exact ⟨nm,d,h1,h2,s _ _ h3⟩
theorem FcT.mono {P P' : Nat->Addr->Prop} {H:Hp} {zs:List Str} {r:Addr} {k:Nat} (h:FcT P H zs r k) (w:∀ k d,P k d->P' k d):FcT P' H zs r k:=by
 obtain ⟨nm,d,h1,h2,h3⟩:=h
 exact ⟨nm,d,h1,w _ _ h2,h3⟩
def DmP (cN cW:Addr) (H:Hp) (ds:List PD) (k:Nat) (d:Addr):Prop:=∃ po:PD,ds[k]?=some po/\fV cN cW H d po.k
theorem dU {H:Hp} {D:Addr} {zs:List V} {o:HO} (e:H D=some (.lst zs)):fi H (upd H D o):=λb t f=>(au (bV f e (by intro z;cases z))).trans f
theorem l6 {H:Hp} {D C dx:Addr} {fs:List (Str × V)} {o:HO} (e:H D=some (.ins C dx fs)):fi H (upd H D o):=λb t f=>(au (bV f e (by intro z;cases z))).trans f
def akc (fN:Nat) (cols:List Nat):List Nat:=(cols.filter λc=>decide (fN<=c)).map λc=>c - fN
def akT (ts:List PT) (fN k:Nat):List Nat:=match ts[k]? with
 | some t=>akc fN t.cols
 | none=>[]
theorem gD {zs:List Str} {ds:List PD} {ts:List PT} {fN:Nat} (ok:cY zs ds ts fN):∀ k,∀ j ∈ akT ts fN k,j < k:=λk j hj=>by
 unfold akT at hj
 cases e:ts[k]? with
 | none=>rw [e] at hj;cases hj
 | some t =>
  rw [e] at hj
  obtain ⟨c,hc,rfl⟩:=List.mem_map.mp (show j ∈ akc fN t.cols from hj)
  obtain ⟨h1,h2⟩:=List.mem_filter.mp hc
  have h2:fN<=c:=of_decide_eq_true h2
  have h3:=(ok.tabs k t e).ok.lt c h1
  omega
def fW (ak:Nat->List Nat):Nat->Nat->List Nat->List Nat
 | 0,_,told=>told
 | n+1,k,told=>if told.contains k then told else (ak k).foldl (λt j=>fW ak n j t) told ++ [k]
theorem gE {α β:Type} {f g:β->α->β} : ∀ {l:List α} {b:β},(∀ b a,a ∈ l->f b a=g b a)->l.foldl f b=l.foldl g b
 | [],_,_=>rfl
 | x :: l,b,h=>by
  rw [List.foldl_cons,List.foldl_cons,h b x List.mem_cons_self]
  exact gE λb a ha=>h b a (List.mem_cons_of_mem _ ha)
theorem l7 {ak:Nat->List Nat} (h:∀ k,∀ j ∈ ak k,j < k):∀ (n m k:Nat) (told:List Nat),k < n->k < m->fW ak n k told=fW ak m k told
 | 0,_,_,_,h1,_=>absurd h1 (Nat.not_lt_zero _)
 | _+1,0,_,_,_,h2=>absurd h2 (Nat.not_lt_zero _)
 | n+1,m+1,k,told,h1,h2=>by
  show (if told.contains k then told else (ak k).foldl (λt j=>fW ak n j t) told ++ [k])=(if told.contains k then told else (ak k).foldl (λt j=>fW ak m j t) told ++ [k])
  rw [gE (f:=λt j=>fW ak n j t) (g:=λt j=>fW ak m j t) λt j hj=>l7 h n m j t (by have:=h k j hj;omega) (by have:=h k j hj;omega)]
def odr (ak:Nat->List Nat) (k:Nat) (told:List Nat):List Nat:=fW ak (k+1) k told
theorem pH {ak:Nat->List Nat} (h:∀ k,∀ j ∈ ak k,j < k) (k:Nat) (told:List Nat):odr ak k told=if told.contains k then told else (ak k).foldl (λt j=>odr ak j t) told ++ [k]:=by
 show (if told.contains k then told else (ak k).foldl (λt j=>fW ak k j t) told ++ [k])=_
 rw [gE (f:=λt j=>fW ak k j t) (g:=λt j=>odr ak j t) λt j hj=>l7 h k (j+1) j t (h k j hj) (by omega)]
theorem wH {ak:Nat->List Nat} (h:∀ k,∀ j ∈ ak k,j < k) {k:Nat} {told:List Nat} (hk:told.contains k=true):odr ak k told=told:=by rw [pH h,if_pos hk]
theorem kz {f:List Nat->Nat->List Nat} (hf:∀ t j x,x ∈ f t j->x ∈ t\/x<=j):∀ {l:List Nat} {t:List Nat} {x:Nat},x ∈ l.foldl f t->x ∈ t\/∃ j ∈ l,x<=j
 | [],_,_,hx=>.inl hx
 | j :: l,t,x,hx=>by
  rw [List.foldl_cons] at hx
  rcases kz hf hx with hx | ⟨i,hi,hx⟩
  ·rcases hf t j x hx with hx | hx
   ·exact .inl hx
   ·exact .inr ⟨j,List.mem_cons_self,hx⟩
  ·exact .inr ⟨i,List.mem_cons_of_mem _ hi,hx⟩
theorem kA {ak:Nat->List Nat} (h:∀ k,∀ j ∈ ak k,j < k):∀ (n k:Nat) (told:List Nat) (x:Nat),x ∈ fW ak n k told->x ∈ told\/x<=k
 | 0,_,_,_,hx=>.inl hx
 | n+1,k,told,x,hx=>by
  have hx:x ∈ (if told.contains k then told else (ak k).foldl (λt j=>fW ak n j t) told ++ [k]):=hx
  split at hx
  ·exact .inl hx
  ·rcases List.mem_append.mp hx with hx | hx
   ·rcases kz (λt j x hx=>kA h n j t x hx) hx with hx | ⟨j,hj,hx⟩
    ·exact .inl hx
    ·have:=h k j hj
     exact .inr (by omega)
   ·exact .inr (by rw [List.mem_singleton.mp hx];exact Nat.le_refl _)
theorem qo {f:List Nat->Nat->List Nat} (hf:∀ t j,t.Nodup->(f t j).Nodup):∀ {l:List Nat} {t:List Nat},t.Nodup->(l.foldl f t).Nodup
 | [],_,h=>h
 | j :: l,t,h=>by rw [List.foldl_cons];exact qo hf (hf t j h)
theorem qp {ak:Nat->List Nat} (h:∀ k,∀ j ∈ ak k,j < k):∀ (n k:Nat) (told:List Nat),told.Nodup->(fW ak n k told).Nodup
 | 0,_,_,ht=>ht
 | n+1,k,told,ht=>by
  show (if told.contains k then told else (ak k).foldl (λt j=>fW ak n j t) told ++ [k]).Nodup
  split
  ·exact ht
  ·next hc =>
   refine List.nodup_append.mpr ⟨qo (λt j ht=>qp h n j t ht) ht,by simp,λa ha b hb e=>?_⟩
   rw [List.mem_singleton.mp hb] at e
   subst e
   rcases kz (λt j x hx=>kA h n j t x hx) ha with ha | ⟨j,hj,ha⟩
   ·exact hc (by simpa using ha)
   ·have:=h a j hj
    omega
structure Tld (m:Nat) (told:List Nat):Prop where
 nd:told.Nodup
 lt:∀ x ∈ told,x < m
theorem Tld.odr {ak:Nat->List Nat} (h:∀ k,∀ j ∈ ak k,j < k) {m k:Nat} {told:List Nat} (ht:Tld m told) (hk:k < m):Tld m (My.odr ak k told) :=
 ⟨qp h _ _ _ ht.nd,λx hx=>(kA h _ _ _ x hx).elim (ht.lt x) λg=>by omega⟩
theorem Tld.fold {ak:Nat->List Nat} (h:∀ k,∀ j ∈ ak k,j < k) {m:Nat} : ∀ {l:List Nat} {told:List Nat},(∀ j ∈ l,j < m)->Tld m told->Tld m (l.foldl (λt j=>My.odr ak j t) told)
 | [],_,_,ht=>ht
 | j :: l,_,hl,ht=>by rw [List.foldl_cons];exact Tld.fold h (λi hi=>hl i (List.mem_cons_of_mem _ hi)) (ht.odr h (hl j List.mem_cons_self))
theorem Tld.len {m:Nat} {told:List Nat} (h:Tld m told):told.length<=m:=by
 have h1:told.Nodup:=h.nd
 have h2:told ⊆ List.range m:=λx hx=>List.mem_range.mpr (h.lt x hx)
 have:=List.Nodup.length_le_of_subset h1 h2
 rwa [List.length_range] at this
theorem Tld.nil {m:Nat} : Tld m []:=⟨List.nodup_nil,λx hx=>by cases hx⟩
theorem dW (z:Str) (ns:List Str):inV (.str z) (ns.map V.str)=ns.contains z:=by
 unfold inV
 induction ns with
 | nil=>rfl
 | cons n ns ih =>
  rw [List.map_cons,List.any_cons,List.contains_cons,ih]
  congr 1
  show (n == z)=(z == n)
  rw [Bool.eq_iff_iff,beq_iff_eq,beq_iff_eq]
  exact ⟨Eq.symm,Eq.symm⟩
def TbA (cT cN cW:Addr) (H:Hp) (zs:List Str) (ds:List PD) (ts:List PT) (fN:Nat) (a:Addr) (k:Nat):Prop:=∃ (t:PT) (nm:Str) (po:PD) (ou:Addr) (dv:List V),ts[k]?=some t/\zs[fN+k]?=some nm/\ds[fN+k]?=some po/\TF cT H a nm t.way ou (prm t.cols zs) dv t.rows/\ao dv (prm t.cols (ds.map PD.k)) (fV cN cW H)/\fV cN cW H ou po.k
theorem TbA.same {cT cN cW:Addr} {H H' : Hp} {zs:List Str} {ds:List PD} {ts:List PT} {fN:Nat} {a:Addr} {k:Nat} (h:TbA cT cN cW H zs ds ts fN a k) (s:aq H H'):TbA cT cN cW H' zs ds ts fN a k:=by
 obtain ⟨t,nm,po,ou,dv,h1,h2,h3,h4,h5,h6⟩:=h
 exact ⟨t,nm,po,ou,dv,h1,h2,h3,h4.same s,ao.mono h5 (λ_ _ p=>p.same s),h6.same s⟩
def FcA (cN cW:Addr) (H:Hp) (zs:List Str) (ds:List PD) (r:Addr) (k:Nat):Prop:=∃ (nm:Str) (po:PD) (d:Addr),zs[k]?=some nm/\ds[k]?=some po/\H r=some (.tup [.str nm,.ref d])/\fV cN cW H d po.k
theorem FcA.same {cN cW:Addr} {H H' : Hp} {zs:List Str} {ds:List PD} {r:Addr} {k:Nat} (h:FcA cN cW H zs ds r k) (s:aq H H'):FcA cN cW H' zs ds r k:=by
 obtain ⟨nm,po,d,h1,h2,h3,h4⟩:=h
 exact ⟨nm,po,d,h1,h2,s _ _ h3,h4.same s⟩
def tnm (zs:List Str) (fN k:Nat):Str:=zs.getD (fN+k) Str.empty
theorem cw {zs:List Str} {fN k:Nat} {nm:Str} (e:zs[fN+k]?=some nm):tnm zs fN k=nm:=by unfold tnm;rw [List.getD_eq_getElem?_getD,e];rfl
structure BkI (cT cN cW:Addr) (H:Hp) (zs:List Str) (ds:List PD) (ts:List PT) (fN:Nat) (fv mv:List V) (L:List Nat):Prop where
 ok:cY zs ds ts fN
 facts:ao fv (List.range fN) (FcA cN cW H zs ds)
 tabs:ao mv L (TbA cT cN cW H zs ds ts fN)
 lt:∀ k ∈ L,k < ts.length
 nd:L.Nodup
 len:L.length=ts.length
 all:∀ k,k < ts.length->k ∈ L
theorem BkI.same {cT cN cW:Addr} {H H' : Hp} {zs:List Str} {ds:List PD} {ts:List PT} {fN:Nat} {fv mv:List V} {L:List Nat} (h:BkI cT cN cW H zs ds ts fN fv mv L) (s:aq H H'):BkI cT cN cW H' zs ds ts fN fv mv L :=
 ⟨h.ok,ao.mono h.facts (λ_ _ p=>p.same s),ao.mono h.tabs (λ_ _ p=>p.same s),h.lt,h.nd,h.len,h.all⟩
def bnm (zs:List Str) (fN:Nat) (L:List Nat):List Str:=zs.take fN ++ L.map (tnm zs fN)
section
variable {cT cN cW:Addr} {H:Hp} {zs:List Str} {ds:List PD} {ts:List PT} {fN:Nat} {fv mv:List V} {L:List Nat}
theorem BkI.few (h:BkI cT cN cW H zs ds ts fN fv mv L):L.length<=7/\fN<=7/\fN<=zs.length:=by
 have h1:=h.ok.n7
 have h2:=h.ok.tab
 have h3:=h.ok.len
 have h4:=h.len
 omega
theorem BkI.tn (h:BkI cT cN cW H zs ds ts fN fv mv L) {k:Nat} (hk:k ∈ L):zs[fN+k]?=some (tnm zs fN k):=by
 have h1:=h.lt k hk
 have h2:=h.ok.tab
 have h3:=h.ok.len
 have e:=E3 (l:=zs) (i:=fN+k) (by omega)
 rw [e,cw e]
theorem BkI.bnd_ (h:BkI cT cN cW H zs ds ts fN fv mv L):(bnm zs fN L).Nodup:=by
 have hz:=h.ok.nd
 unfold bnm
 refine List.nodup_append.mpr ⟨hz.sublist (List.take_sublist _ _),?_,λa ha b hb e=>?_⟩
 ·rw [List.nodup_iff_pairwise_ne,List.pairwise_map]
  refine List.Pairwise.imp_of_mem (R:=λa b=>a ≠ b) (λ{a b} ha hb hab e=>?_) h.nd
  have e1:=h.tn ha
  have e2:=h.tn hb
  rw [e] at e1
  have:=cH hz e1 e2
  omega
 ·subst e
  obtain ⟨k,hk,e⟩:=List.mem_map.mp hb
  obtain ⟨j,hj⟩:=List.getElem?_of_mem ha
  rw [List.getElem?_take] at hj
  split at hj
  ·have e2:=h.tn hk
   rw [e] at e2
   have:=cH hz hj e2
   omega
  ·cases hj
theorem BkI.has (h:BkI cT cN cW H zs ds ts fN fv mv L) {z:Str} (hz:z ∈ zs):z ∈ bnm zs fN L:=by
 obtain ⟨j,ej⟩:=List.getElem?_of_mem hz
 unfold bnm
 by_cases hj:j < fN
 ·exact List.mem_append_left _ (E5 (by rw [List.getElem?_take,if_pos hj];exact ej))
 ·refine List.mem_append_right _ (List.mem_map.mpr ⟨j - fN,h.all _ ?_,?_⟩)
  ·have:=(E4.mp ej).1
   have h2:=h.ok.tab
   have h3:=h.ok.len
   omega
  ·exact cw (by rw [show fN+(j - fN)=j by omega];exact ej)
end
def FcN (N:Addr->Prop) (cN cW:Addr) (H:Hp) (zs:List Str) (ds:List PD) (r:Addr) (k:Nat):Prop:=∃ (nm:Str) (po:PD) (d:Addr),zs[k]?=some nm/\ds[k]?=some po/\H r=some (.tup [.str nm,.ref d])/\eW N cN cW H d po.k
theorem FcN.same {N:Addr->Prop} {cN cW:Addr} {H H' : Hp} {zs:List Str} {ds:List PD} {r:Addr} {k:Nat} (h:FcN N cN cW H zs ds r k) (s:aq H H'):FcN N cN cW H' zs ds r k:=by
 obtain ⟨nm,po,d,h1,h2,h3,h4⟩:=h
 exact ⟨nm,po,d,h1,h2,s _ _ h3,h4.same s⟩
theorem FcN.upd {N:Addr->Prop} {cN cW:Addr} {H:Hp} {zs:List Str} {ds:List PD} {r D:Addr} {k:Nat} {o:HO} {ys:List V} (h:FcN N cN cW H zs ds r k) (n:¬ N D) (e:H D=some (.lst ys)):FcN N cN cW (L2.upd H D o) zs ds r k:=by
 obtain ⟨nm,po,d,h1,h2,h3,h4⟩:=h
 exact ⟨nm,po,d,h1,h2,(au (bV h3 e (by intro z;cases z))).trans h3,h4.upd n e⟩
theorem FcN.fc {N:Addr->Prop} {cN cW:Addr} {H:Hp} {zs:List Str} {ds:List PD} {r:Addr} {k:Nat} (h:FcN N cN cW H zs ds r k):FcA cN cW H zs ds r k:=by
 obtain ⟨nm,po,d,h1,h2,h3,h4⟩:=h
 exact ⟨nm,po,d,h1,h2,h3,h4.dom⟩
theorem jB {n j k:Nat} (e:(List.range n)[j]?=some k):k=j/\j < n:=by
 have hj:=(E4.mp e).1
 rw [List.length_range] at hj
 rw [List.getElem?_range hj] at e
 cases e
 exact ⟨rfl,hj⟩
section
variable {cT cN cW:Addr} {H:Hp} {zs:List Str} {ds:List PD} {ts:List PT} {fN:Nat} {fv mv:List V} {L:List Nat}
def A9 (cN cW:Addr) (H:Hp) (zs:List Str) (ds:List PD) (kvs:List (Str × V)):Prop:=∀ (j:Nat) (z:Str) (p:PD),zs[j]?=some z->ds[j]?=some p->∃ d,kvs.lookup z=some (.ref d)/\fV cN cW H d p.k
theorem uM {kvs:List (Str × V)} (hn:(kvs.map (·.1)).Nodup):∀ {j:Nat} {k:Str} {v:V},kvs[j]?=some (k,v)->kvs.lookup k=some v:=by
 induction kvs with
 | nil=>intro j k v e;simp at e
 | cons p kvs ih =>
  intro j k v e
  obtain ⟨k0,v0⟩:=p
  rw [List.map_cons] at hn
  have hn':=List.nodup_cons.mp hn
  cases j with
  | zero =>
   cases e
   rw [List.lookup_cons,beq_self_eq_true]
  | succ j =>
   have e:kvs[j]?=some (k,v):=by simpa using e
   have hk:k ≠ k0:=λz=>hn'.1 (List.mem_map.mpr ⟨(k,v),E5 e,z⟩)
   rw [List.lookup_cons,beq_eq_false_iff_ne.mpr hk]
   exact ih hn'.2 e
end
def wts (ts:List PT) (fN:Nat) (L:List Nat) (k:Nat):Bool:=match ts[k]? with
 | some t=>t.cols.any λc=>decide (fN<=c) && L.contains (c - fN)
 | none=>false
theorem sJ:∀ {L:List Nat},L ≠ []->∃ k ∈ L,∀ j ∈ L,k<=j
 | [],h=>absurd rfl h
 | [x],_=>⟨x,by simp,λj hj=>by rw [show j=x by simpa using hj];exact Nat.le_refl _⟩
 | x :: y :: r,_=>by
  obtain ⟨k,hk,hm⟩:=sJ (L:=y :: r) (by simp)
  by_cases h:x<=k
  ·refine ⟨x,by simp,λj hj=>?_⟩
   rcases List.mem_cons.mp hj with rfl | hj
   ·exact Nat.le_refl _
   ·exact Nat.le_trans h (hm j hj)
  ·refine ⟨k,List.mem_cons_of_mem _ hk,λj hj=>?_⟩
   rcases List.mem_cons.mp hj with rfl | hj
   ·omega
   ·exact hm j hj
theorem sL {zs:List Str} {ds:List PD} {ts:List PT} {fN:Nat} (ok:cY zs ds ts fN) {L:List Nat} (hL:L ≠ []):(L.filter (wts ts fN L)).length < L.length:=by
 obtain ⟨k,hk,hm⟩:=sJ hL
 have hw:wts ts fN L k=false:=by
  unfold wts
  cases e:ts[k]? with
  | none=>rfl
  | some t =>
   show (t.cols.any λc=>decide (fN<=c) && L.contains (c - fN))=false
   rw [List.any_eq_false]
   intro c hc hb
   rw [Bool.and_eq_true,decide_eq_true_iff] at hb
   have h1:=(ok.tabs k t e).ok.lt c hc
   have h2:=hm (c - fN) (by simpa using hb.2)
   omega
 have h1:=List.length_filter_le (wts ts fN L) L
 by_cases h:(L.filter (wts ts fN L)).length=L.length
 ·have:=List.length_filter_eq_length_iff.mp h k hk
  rw [hw] at this
  cases this
 ·omega
theorem rf {zs:List Str} {ds:List PD} {ts:List PT} {fN:Nat} (ok:cY zs ds ts fN) {L:List Nat} (hL:∀ k ∈ L,k < ts.length) {k:Nat} {t:PT} (e:ts[k]?=some t):(!((prm t.cols zs).filter λz=>(L.map (tnm zs fN)).contains z).isEmpty)=wts ts fN L k:=by
 have hlt:=ok.lt e
 have hl1:=ok.len
 have hl2:=ok.tab
 have ltz:∀ j ∈ t.cols,j < zs.length:=λj hj=>by rw [hl1];exact hlt j hj
 have gz:=bL (os:=t.cols) (xs:=zs) ltz
 have tn:∀ k ∈ L,zs[fN+k]?=some (tnm zs fN k):=λk hk=>by
  have:=hL k hk
  have e:=E3 (l:=zs) (i:=fN+k) (by omega)
  rw [e,cw e]
 rw [Bool.eq_iff_iff]
 unfold wts
 rw [e]
 show _↔(t.cols.any λc=>decide (fN<=c) && L.contains (c - fN))=true
 rw [List.any_eq_true]
 constructor
 ·intro h
  have hne:((prm t.cols zs).filter λz=>(L.map (tnm zs fN)).contains z) ≠ []:=λz=>by rw [z] at h;cases h
  obtain ⟨z,hz⟩:=List.exists_mem_of_ne_nil _ hne
  obtain ⟨hz1,hz2⟩:=List.mem_filter.mp hz
  have hz2:z ∈ L.map (tnm zs fN):=by simpa using hz2
  obtain ⟨k',hk',rfl⟩:=List.mem_map.mp hz2
  obtain ⟨j,ej⟩:=List.getElem?_of_mem hz1
  have hj:j < t.cols.length:=by rw [← gz.1];exact (E4.mp ej).1
  have ec:=E3 hj
  rw [gz.2 j _ ec] at ej
  have:=cH ok.nd ej (tn k' hk')
  refine ⟨_,E5 ec,?_⟩
  rw [this,Bool.and_eq_true,decide_eq_true_iff]
  refine ⟨by omega,?_⟩
  rw [show fN+k' - fN=k' by omega]
  simpa using hk'
 ·rintro ⟨c,hc,hb⟩
  rw [Bool.and_eq_true,decide_eq_true_iff] at hb
  have hm:c - fN ∈ L:=by simpa using hb.2
  have hz:=tn _ hm
  rw [show fN+(c - fN)=c by omega] at hz
  obtain ⟨j,ej⟩:=List.getElem?_of_mem hc
  have e1:=gz.2 j c ej
  rw [hz] at e1
  have hin:tnm zs fN (c - fN) ∈ (prm t.cols zs).filter λz=>(L.map (tnm zs fN)).contains z:=List.mem_filter.mpr ⟨E5 e1,by simpa using ⟨_,hm,rfl⟩⟩
  cases h:(prm t.cols zs).filter λz=>(L.map (tnm zs fN)).contains z with
  | nil=>rw [h] at hin;cases hin
  | cons _ _=>rfl
def SmB (z:Str):Prop:=z.length<=1000/\∀ n ∈ z.cps.toList,n < 16 ^ 8
def BkA (cN cW cB:Addr) (H:Hp) (b:Addr) (zs:List Str) (ds:List PD) (fN:Nat) (mv:List V):Prop:=∃ (dx:Addr) (fs:List (Str × V)) (ta fb:Addr) (gv:List V),H b=some (.ins cB dx fs)/\fs.lookup (Str.ofString "tables")=some (.ref ta)/\H ta=some (.lst mv)/\fs.lookup (Str.ofString "facts")=some (.ref fb)/\H fb=some (.lst gv)/\ao gv (List.range fN) (FcT (DmP cN cW H ds) H zs)
theorem BkA.same {cN cW cB:Addr} {H H' : Hp} {b:Addr} {zs:List Str} {ds:List PD} {fN:Nat} {mv:List V} (h:BkA cN cW cB H b zs ds fN mv) (s:aq H H'):BkA cN cW cB H' b zs ds fN mv:=by
 obtain ⟨dx,fs,ta,fb,gv,h1,h2,h3,h4,h5,h6⟩:=h
 exact ⟨dx,fs,ta,fb,gv,s _ _ h1,h2,s _ _ h3,h4,s _ _ h5,ao.mono h6 λ_ _ p=>(p.tups s.tups).mono λ_ _ ⟨po,h1,h2⟩=>⟨po,h1,h2.same s⟩⟩
structure BkT (cT cN cW cB:Addr) (H:Hp) (b:Addr) (zs:List Str) (ds:List PD) (ts:List PT) (fN:Nat) (mv:List V) (L:List Nat):Prop where
 bk:BkA cN cW cB H b zs ds fN mv
 ok:cY zs ds ts fN
 tabs:ao mv L (TbA cT cN cW H zs ds ts fN)
 lt:∀ k ∈ L,k < ts.length
 few:L.length<=7
theorem BkT.same {cT cN cW cB:Addr} {H H' : Hp} {b:Addr} {zs:List Str} {ds:List PD} {ts:List PT} {fN:Nat} {mv:List V} {L:List Nat} (h:BkT cT cN cW cB H b zs ds ts fN mv L) (s:aq H H'):BkT cT cN cW cB H' b zs ds ts fN mv L :=
 ⟨h.bk.same s,h.ok,ao.mono h.tabs (λ_ _ p=>p.same s),h.lt,h.few⟩
theorem fT {H H' : Hp} {x a:Addr} {o:HO} (k:∀ b o,b ≠ x->H b=some o->H' b=some o) (hx:H' x=some o) (h:H' a=none):H a=none:=by
 cases e:H a with
 | none=>rfl
 | some u =>
  have n:a ≠ x:=λz=>by rw [z,hx] at h;cases h
  rw [k a u n e] at h
  cases h
theorem RL.hideN {N:Addr->Prop} {H:Hp} {x C dx:Addr} {fs:List (Str × V)} (hx:H x=some (.ins C dx fs)) {xs:List V} {rws:List Rw} (h:RL N H xs rws):RL N (My.hide H x) xs rws :=
 ao.mono h λr w ⟨ce,cs,e,n,f,c⟩=>⟨ce,cs,cm e (bV e hx (by intro z;cases z)),n,cm f (bV f hx (by intro z;cases z)),ao.mono c λl ps ⟨m,ys,g,p⟩=>⟨m,ys,cm g (bV g hx (by intro z;cases z)),PL.hide hx p⟩⟩
def TbN (N:Addr->Prop) (cT cN cW:Addr) (H:Hp) (zs:List Str) (ds:List PD) (ts:List PT) (fN:Nat) (a:Addr) (k:Nat):Prop:=∃ (t:PT) (nm:Str) (po:PD) (ou:Addr) (dv:List V) (rl dx na dl:Addr) (fs:List (Str × V)) (xs:List V),ts[k]?=some t/\zs[fN+k]?=some nm/\ds[fN+k]?=some po/\H a=some (.ins cT dx fs)/\fs.lookup (Str.ofString "rows")=some (.ref rl)/\fs.lookup (Str.ofString "name")=some (.str nm)/\fs.lookup (Str.ofString "way")=some (.str t.way)/\fs.lookup (Str.ofString "outcome")=some (.ref ou)/\fs.lookup (Str.ofString "names")=some (.ref na)/\fs.lookup (Str.ofString "domains")=some (.ref dl)/\N na/\N dl/\N rl/\H na=some (.lst ((prm t.cols zs).map V.str))/\H dl=some (.lst dv)/\H rl=some (.lst xs)/\RL N H xs t.rows/\xs.length<=200/\ao dv (prm t.cols (ds.map PD.k)) (eW N cN cW H)/\eW N cN cW H ou po.k
section
variable {N N' : Addr->Prop} {cT cN cW:Addr} {H H' : Hp} {zs:List Str} {ds:List PD} {ts:List PT} {fN:Nat} {a:Addr} {k:Nat}
theorem TbN.tb (h:TbN N cT cN cW H zs ds ts fN a k):TbA cT cN cW H zs ds ts fN a k:=by
 obtain ⟨t,nm,po,ou,dv,rl,dx,na,dl,fs,xs,h1,h2,h3,h4,h5,h6,h7,h8,h9,h10,_,_,_,h11,h12,h13,h14,h15,h16,h17⟩:=h
 exact ⟨t,nm,po,ou,dv,h1,h2,h3,⟨rl,dx,na,dl,fs,xs,h4,h5,h6,h7,h8,h9,h10,h11,h12,h13,h14.any,h15⟩,ao.mono h16 (λ_ _ p=>p.dom),h17.dom⟩
theorem TbN.same (h:TbN N cT cN cW H zs ds ts fN a k) (s:aq H H'):TbN N cT cN cW H' zs ds ts fN a k:=by
 obtain ⟨t,nm,po,ou,dv,rl,dx,na,dl,fs,xs,h1,h2,h3,h4,h5,h6,h7,h8,h9,h10,n1,n2,n3,h11,h12,h13,h14,h15,h16,h17⟩:=h
 exact ⟨t,nm,po,ou,dv,rl,dx,na,dl,fs,xs,h1,h2,h3,s _ _ h4,h5,h6,h7,h8,h9,h10,n1,n2,n3,s _ _ h11,s _ _ h12,s _ _ h13,h14.same s,h15,ao.mono h16 (λ_ _ p=>p.same s),h17.same s⟩
theorem TbN.wk (h:TbN N cT cN cW H zs ds ts fN a k) (w:∀ x,N x->N' x):TbN N' cT cN cW H zs ds ts fN a k:=by
 obtain ⟨t,nm,po,ou,dv,rl,dx,na,dl,fs,xs,h1,h2,h3,h4,h5,h6,h7,h8,h9,h10,n1,n2,n3,h11,h12,h13,h14,h15,h16,h17⟩:=h
 exact ⟨t,nm,po,ou,dv,rl,dx,na,dl,fs,xs,h1,h2,h3,h4,h5,h6,h7,h8,h9,h10,w _ n1,w _ n2,w _ n3,h11,h12,h13,ao.mono h14 (λ_ _ p=>p.wk w),h15,ao.mono h16 (λ_ _ p=>p.wk w),h17.wk w⟩
theorem TbN.upd {D:Addr} {zz:List V} {o:HO} (h:TbN N cT cN cW H zs ds ts fN a k) (n:¬ N D) (e:H D=some (.lst zz)):TbN N cT cN cW (L2.upd H D o) zs ds ts fN a k:=by
 obtain ⟨t,nm,po,ou,dv,rl,dx,na,dl,fs,xs,h1,h2,h3,h4,h5,h6,h7,h8,h9,h10,n1,n2,n3,h11,h12,h13,h14,h15,h16,h17⟩:=h
 have ne:∀ {b:Addr},N b->b ≠ D:=λhb z=>n (z ▸ hb)
 exact ⟨t,nm,po,ou,dv,rl,dx,na,dl,fs,xs,h1,h2,h3,(au (bV h4 e (by intro z;cases z))).trans h4,h5,h6,h7,h8,h9,h10,n1,n2,n3,(au (ne n1)).trans h11,(au (ne n2)).trans h12,(au (ne n3)).trans h13,h14.updN n e,h15,ao.mono h16 (λ_ _ p=>p.upd n e),h17.upd n e⟩
end
theorem wI {c:Int} {n:Nat} : ∀ z ∈ lws c n,SmB z:=λz hz=>by
 obtain ⟨i,_,rfl⟩:=List.mem_map.mp hz
 refine ⟨Nat.le_trans (ql (sD c _)) (by decide),λx hx=>?_⟩
 have hx:x ∈ lwc c (0+(i:Int)):=by simpa [lw] using hx
 have m0:=Int.emod_nonneg (c / 11+3 * (0+(i:Int))) (show (26:Int) ≠ 0 by decide)
 have m1:=Int.emod_lt_of_pos (c / 11+3 * (0+(i:Int))) (show (0:Int) < 26 by decide)
 show x < 4294967296
 rcases jy hx with h | h <;> omega
theorem BkT.mem {cT cN cW cB:Addr} {H:Hp} {b:Addr} {zs:List Str} {ds:List PD} {ts:List PT} {fN:Nat} {mv:List V} {L:List Nat} (h:BkT cT cN cW cB H b zs ds ts fN mv L) (all:∀ k,k < ts.length->k ∈ L) {j:Nat} {z:Str} (e:zs[j]?=some z):(L.map (tnm zs fN)).contains z=decide (fN<=j):=by
 have hl1:=h.ok.len
 have hl2:=h.ok.tab
 have hj:=(E4.mp e).1
 rw [Bool.eq_iff_iff,decide_eq_true_iff]
 constructor
 ·intro hc
  have hc:z ∈ L.map (tnm zs fN):=by simpa using hc
  obtain ⟨k,hk,rfl⟩:=List.mem_map.mp hc
  have hk2:=h.lt k hk
  have e2:=E3 (l:=zs) (i:=fN+k) (by omega)
  rw [cw e2] at e
  have:=cH h.ok.nd e e2
  omega
 ·intro hf
  have hm:=all (j - fN) (by omega)
  have:tnm zs fN (j - fN)=z:=cw (by rw [show fN+(j - fN)=j by omega];exact e)
  have:z ∈ L.map (tnm zs fN):=List.mem_map.mpr ⟨_,hm,this⟩
  simpa using this
section
variable {cT cN cW cB:Addr} {H:Hp} {b:Addr} {zs:List Str} {ds:List PD} {ts:List PT} {fN:Nat} {mv:List V} {L:List Nat}
theorem BkT.nmz (h:BkT cT cN cW cB H b zs ds ts fN mv L) {k:Nat} (hk:k < ts.length):zs[fN+k]?=some (tnm zs fN k):=by
 have h2:=h.ok.tab
 have h3:=h.ok.len
 have e:=E3 (l:=zs) (i:=fN+k) (by omega)
 rw [e,cw e]
theorem BkT.one (h:BkT cT cN cW cB H b zs ds ts fN mv L) {j k:Nat} (hj:j < ts.length) (hk:k < ts.length) (e:tnm zs fN j=tnm zs fN k):j=k:=by
 have e1:=h.nmz hj
 have e2:=h.nmz hk
 rw [e] at e1
 have:=cH h.ok.nd e1 e2
 omega
theorem BkT.ins (h:BkT cT cN cW cB H b zs ds ts fN mv L) {told:List Nat} (ht:Tld ts.length told) {j:Nat} (hj:j < ts.length):(told.map (tnm zs fN)).contains (tnm zs fN j)=told.contains j:=by
 rw [Bool.eq_iff_iff,List.contains_iff_mem,List.contains_iff_mem]
 constructor
 ·intro hm
  obtain ⟨i,hi,e⟩:=List.mem_map.mp hm
  rw [← h.one (ht.lt i hi) hj e]
  exact hi
 ·intro hm
  exact List.mem_map.mpr ⟨j,hm,rfl⟩
theorem BkT.aks (h:BkT cT cN cW cB H b zs ds ts fN mv L) (all:∀ k,k < ts.length->k ∈ L) {k:Nat} {t:PT} (et:ts[k]?=some t):((prm t.cols zs).filter λz=>(L.map (tnm zs fN)).contains z)=(akc fN t.cols).map (tnm zs fN):=by
 have hlt:=h.ok.lt et
 rw [← h.ok.len] at hlt
 revert hlt
 generalize t.cols=cs
 intro hlt
 induction cs with
 | nil=>rfl
 | cons c cs ih =>
  have hc:=hlt c List.mem_cons_self
  have e:=E3 hc
  rw [ku hc,List.filter_cons]
  have hm:=h.mem all e
  have ih:=ih λj hj=>hlt j (List.mem_cons_of_mem _ hj)
  unfold akc at ih ⊢
  rw [List.filter_cons,hm]
  by_cases hf:fN<=c
  ·rw [if_pos (decide_eq_true hf),if_pos (decide_eq_true hf),List.map_cons,List.map_cons,ih]
   congr 1
   exact (cw (by rw [show fN+(c - fN)=c by omega];exact e)).symm
  ·rw [if_neg (by simpa using hf),if_neg (by simpa using hf),ih]
end
inductive Rch (ak:Nat->List Nat):Nat->Nat->Prop
 | self (k:Nat):Rch ak k k
 | step {k j x:Nat} : j ∈ ak k->Rch ak j x->Rch ak k x
theorem l8 {R:Nat->Nat->Prop} {f:List Nat->Nat->List Nat} (hf:∀ t j x,x ∈ f t j->x ∈ t\/R j x):∀ {l:List Nat} {t:List Nat} {x:Nat},x ∈ l.foldl f t->x ∈ t\/∃ j ∈ l,R j x
 | [],_,_,hx=>.inl hx
 | j :: l,t,x,hx=>by
  rw [List.foldl_cons] at hx
  rcases l8 hf hx with hx | ⟨i,hi,hx⟩
  ·rcases hf t j x hx with hx | hx
   ·exact .inl hx
   ·exact .inr ⟨j,List.mem_cons_self,hx⟩
  ·exact .inr ⟨i,List.mem_cons_of_mem _ hi,hx⟩
theorem oy {ak:Nat->List Nat} : ∀ (n k:Nat) (told:List Nat) (x:Nat),x ∈ fW ak n k told->x ∈ told\/Rch ak k x
 | 0,_,_,_,hx=>.inl hx
 | n+1,k,told,x,hx=>by
  have hx:x ∈ (if told.contains k then told else (ak k).foldl (λt j=>fW ak n j t) told ++ [k]):=hx
  split at hx
  ·exact .inl hx
  ·rcases List.mem_append.mp hx with hx | hx
   ·rcases l8 (λt j x hx=>oy n j t x hx) hx with hx | ⟨j,hj,hx⟩
    ·exact .inl hx
    ·exact .inr (.step hj hx)
   ·rw [List.mem_singleton.mp hx]
    exact .inr (.self _)
def rg (ak:Nat->List Nat) (told:List Nat):Prop:=∀ y ∈ told,∀ x,Rch ak y x->x ∈ told
theorem oz {ak:Nat->List Nat} {f:List Nat->Nat->List Nat} : ∀ {l:List Nat} {told:List Nat},(∀ j ∈ l,∀ t,rg ak t->rg ak (f t j)/\(∀ x ∈ t,x ∈ f t j)/\∀ x,Rch ak j x->x ∈ f t j)->rg ak told->rg ak (l.foldl f told)/\(∀ x ∈ told,x ∈ l.foldl f told)/\∀ j ∈ l,∀ x,Rch ak j x->x ∈ l.foldl f told
 | [],_,_,hc=>⟨hc,λ_ h=>h,λ_ h=>by cases h⟩
 | i :: l,told,h,hc=>by
  obtain ⟨c1,c2,c3⟩:=h i List.mem_cons_self told hc
  obtain ⟨d1,d2,d3⟩:=oz (l:=l) (λj hj=>h j (List.mem_cons_of_mem _ hj)) c1
  rw [List.foldl_cons]
  refine ⟨d1,λx hx=>d2 x (c2 x hx),λj hj x hx=>?_⟩
  rcases List.mem_cons.mp hj with rfl | hj
  ·exact d2 x (c3 x hx)
  ·exact d3 j hj x hx
theorem qq {ak:Nat->List Nat} (h:∀ k,∀ j ∈ ak k,j < k):∀ (n k:Nat),k < n->∀ told,rg ak told->rg ak (odr ak k told)/\(∀ x ∈ told,x ∈ odr ak k told)/\∀ x,Rch ak k x->x ∈ odr ak k told
 | 0,_,hk,_,_=>absurd hk (Nat.not_lt_zero _)
 | n+1,k,hk,told,hc=>by
  rw [pH h]
  split
  ·next hm =>
   have hm:k ∈ told:=by simpa using hm
   exact ⟨hc,λ_ h=>h,λx hx=>hc k hm x hx⟩
  ·obtain ⟨d1,d2,d3⟩:=oz (l:=ak k) (f:=λt j=>odr ak j t) (told:=told) (λj hj t ht=>qq h n j (by have:=h k j hj;omega) t ht) hc
   have hk2:∀ x,Rch ak k x->x ∈ (ak k).foldl (λt j=>odr ak j t) told ++ [k]:=λx hx=>by
    cases hx with
    | self=>exact List.mem_append_right _ (List.mem_singleton.mpr rfl)
    | step hj hx=>exact List.mem_append_left _ (d3 _ hj x hx)
   refine ⟨λy hy x hx=>?_,λx hx=>List.mem_append_left _ (d2 x hx),hk2⟩
   rcases List.mem_append.mp hy with hy | hy
   ·exact List.mem_append_left _ (d1 y hy x hx)
   ·rw [List.mem_singleton.mp hy] at hx
    exact hk2 x hx
theorem jC {ak:Nat->List Nat} (h:∀ k,∀ j ∈ ak k,j < k) (k x:Nat):x ∈ odr ak k []↔Rch ak k x :=
 ⟨λhx=>(oy _ _ _ _ hx).elim (λz=>by cases z) id,λhx=>(qq h (k+1) k (by omega) [] (λy hy=>by cases hy)).2.2 x hx⟩
def nmT (ts:List PT) (zs:List Str) (j:Nat):List Str:=match ts[j]? with
 | some t=>prm t.cols zs
 | none=>[]
def bh (ts:List PT) (zs:List Str) (fN k:Nat) (z:Str):Bool:=(odr (akT ts fN) k []).any λj=>(nmT ts zs j).contains z
theorem mJ {α β:Type} {f:α->List β} {l:List α} {a:α} : (l ++ [a]).flatMap f=l.flatMap f ++ f a:=by
 rw [List.flatMap_append]
 simp
theorem rh {ts:List PT} {zs:List Str} {fN k:Nat} {z:Str} : ((odr (akT ts fN) k []).flatMap (nmT ts zs)).contains z=bh ts zs fN k z:=by
 unfold bh
 rw [Bool.eq_iff_iff,List.contains_iff_mem,List.mem_flatMap,List.any_eq_true]
 constructor
 ·rintro ⟨j,hj,hz⟩;exact ⟨j,hj,by simpa using hz⟩
 ·rintro ⟨j,hj,hz⟩;exact ⟨j,hj,by simpa using hz⟩
theorem kB {ts:List PT} {zs:List Str} (h:∀ j,(nmT ts zs j).length<=4):∀ l:List Nat,(l.flatMap (nmT ts zs)).length<=4 * l.length
 | []=>Nat.zero_le _
 | j :: l=>by
  rw [List.flatMap_cons,List.length_append,List.length_cons]
  have h1:=h j
  have h2:=kB h l
  omega
theorem BkT.nm4 {cT cN cW cB:Addr} {H:Hp} {b:Addr} {zs:List Str} {ds:List PD} {ts:List PT} {fN:Nat} {mv:List V} {L:List Nat} (h:BkT cT cN cW cB H b zs ds ts fN mv L):∀ j,(nmT ts zs j).length<=4:=λj=>by
 unfold nmT
 cases e:ts[j]? with
 | none=>exact Nat.zero_le _
 | some t =>
  have h1:t.cols.length<=3:=(h.ok.tabs j t e).ok.few
  have h2:=(bL (os:=t.cols) (xs:=zs) λc hc=>by rw [h.ok.len];exact h.ok.lt e c hc).1
  show (prm t.cols zs).length<=4
  omega
theorem sM {c:Int} {n:Nat} : ∀ z ∈ lws c n,∀ y ∈ lws c n,z.length=y.length:=λz hz y hy=>by
 obtain ⟨i,_,rfl⟩:=List.mem_map.mp hz
 obtain ⟨j,_,rfl⟩:=List.mem_map.mp hy
 show (lwc c _).toArray.size=(lwc c _).toArray.size
 unfold lwc
 simp
def SPJ (p:PD) (one two:Int) (H H' : Hp) (pl:Addr):Prop:=aq H H'/\∃ (ts:List V) (ps:Prs),H' pl=some (.lst ts)/\PL H' ts ps/\(∀ x ∈ ps,p.lo<=x.1/\x.2<=p.hi)/\ps.length<=2/\∀ x ∈ ps,(x.1=p.lo\/x.1=one\/x.1=two\/x.1=two+1)/\(x.2=p.hi\/x.2=one\/x.2=two\/x.2=one - 1)
theorem SPJ.one {p:PD} {one two:Int} {H H1 H2:Hp} {l t:Addr} {a b:Int} (s:aq H H1) (h:aq H1 H2/\H2 l=some (.lst [.ref t])/\PL H2 [.ref t] [(a,b)]) (h1:p.lo<=a) (h2:b<=p.hi) (h3:(a=p.lo\/a=one\/a=two\/a=two+1)/\(b=p.hi\/b=one\/b=two\/b=one - 1)):SPJ p one two H H2 l :=
 ⟨s.trans h.1,_,_,h.2.1,h.2.2,(λx hx=>by rw [show x=(a,b) by simpa using hx];exact ⟨h1,h2⟩),by simp,(λx hx=>by rw [show x=(a,b) by simpa using hx];exact h3)⟩
theorem SPJ.two {p:PD} {one two:Int} {H H1 H2:Hp} {l t u:Addr} {a b c d:Int} (s:aq H H1) (h:aq H1 H2/\H2 l=some (.lst [.ref t,.ref u])/\PL H2 [.ref t,.ref u] [(a,b),(c,d)]) (h1:p.lo<=a) (h2:b<=p.hi) (h3:p.lo<=c) (h4:d<=p.hi) (h5:(a=p.lo\/a=one\/a=two\/a=two+1)/\(b=p.hi\/b=one\/b=two\/b=one - 1)) (h6:(c=p.lo\/c=one\/c=two\/c=two+1)/\(d=p.hi\/d=one\/d=two\/d=one - 1)):SPJ p one two H H2 l :=
 ⟨s.trans h.1,_,_,h.2.1,h.2.2,(λx hx=>by
  rcases List.mem_cons.mp hx with rfl | hx
  ·exact ⟨h1,h2⟩
  ·rw [show x=(c,d) by simpa using hx];exact ⟨h3,h4⟩),by simp,(λx hx=>by
  rcases List.mem_cons.mp hx with rfl | hx
  ·exact h5
  ·rw [show x=(c,d) by simpa using hx];exact h6)⟩
def PoB (N:Addr->Prop) (H:Hp) (a:Addr) (p:PD):Prop:=N a/\H a=some (.lst (p.pool.map V.int))/\1<=p.pool.length/\p.pool.length<=3/\∀ x ∈ p.pool,p.lo<=x/\x<=p.hi
theorem PoB.same {N:Addr->Prop} {H H' : Hp} {a:Addr} {p:PD} (h:PoB N H a p) (s:aq H H'):PoB N H' a p:=by obtain ⟨n,e,r⟩:=h;exact ⟨n,s _ _ e,r⟩
theorem PoB.pick {N:Addr->Prop} {H:Hp} {a:Addr} {p:PD} (h:PoB N H a p) (m:Int):∃ x,atI (p.pool.map V.int) (m % ((p.pool.length:Nat):Int))=some (.int x)/\x ∈ p.pool/\p.lo<=x/\x<=p.hi:=by
 obtain ⟨_,e,h1,h3,hb⟩:=h
 have hp:(0:Int) < ((p.pool.length:Nat):Int):=by omega
 have m0:=Int.emod_nonneg m (Int.ne_of_gt hp)
 have m1:=Int.emod_lt_of_pos m hp
 obtain ⟨k,ek⟩:∃ k:Nat,m % ((p.pool.length:Nat):Int)=(k:Int):=⟨_,(Int.toNat_of_nonneg m0).symm⟩
 have ex:=E3 (l:=p.pool) (i:=k) (by omega)
 refine ⟨p.pool[k],?_,E5 ex,hb _ (E5 ex)⟩
 rw [ek]
 exact aN (by rw [List.getElem?_map,ex];rfl)
theorem pI {fN:Nat} {x y z:Int} (h1:1<=fN) (h3:fN<=3) (hx:1<=x/\x<=8) (hy:1<=y/\y<=x) (hz:1<=z/\z<=x):∃ v:Int,atI [V.int x,.int y,.int z] ((fN:Int) - 1)=some (.int v)/\1<=v/\v<=x:=by
 match fN,h1,h3 with
 | 1,_,_=>exact ⟨x,rfl,by omega,by omega⟩
 | 2,_,_=>exact ⟨y,rfl,by omega,by omega⟩
 | 3,_,_=>exact ⟨z,rfl,by omega,by omega⟩
def PlB (N:Addr->Prop) (H:Hp) (l:Addr) (P:List Int):Prop:=N l/\H l=some (.lst (P.map V.int))
theorem kC {ds:List PD} {pls:List (List Int)} {j:Nat} {p:PD} (e:(List.zipWith (λ(p:PD) P=>{ p with pool:=P }) ds pls)[j]?=some p):∃ p0 P,ds[j]?=some p0/\pls[j]?=some P/\p = { p0 with pool:=P }:=by
 rw [List.getElem?_zipWith] at e
 cases e1:ds[j]? with
 | none=>rw [e1] at e;cases e
 | some p0 =>
  cases e2:pls[j]? with
  | none=>rw [e1,e2] at e;cases e
  | some P =>
   rw [e1,e2] at e
   cases e
   exact ⟨p0,P,rfl,rfl,rfl⟩
def MkT (t:PT) (c:Nat) (p:PD) (x:Int):Prop:=∃ w ∈ t.rows,∃ ps:Prs,w.1[c]?=some ps/\∃ y ∈ ps,(x=y.1\/x=y.2+1)/\p.lo < x/\x<=p.hi
def MkK (ts:List PT) (k f:Nat) (p:PD) (x:Int):Prop:=∃ (t:PT) (c:Nat),ts[k]?=some t/\t.cols[c]?=some f/\MkT t c p x
def Lp (p:PD):List Int:=p.pool ++ p.pool.map (· + 1)
theorem kD {p:PD} (h:p.pool.length<=3):(Lp p).length<=6:=by unfold Lp;rw [List.length_append,List.length_map];omega
theorem MkT.pool {zs:List Str} {ds:List PD} {ts:List PT} {fN k c f:Nat} {t:PT} {p:PD} {x:Int} (ok:cY zs ds ts fN) (et:ts[k]?=some t) (ec:t.cols[c]?=some f) (ep:ds[f]?=some p) (h:MkT t c p x):x ∈ Lp p:=by
 obtain ⟨w,hw,ps,eps,y,hy,hx,h1,h2⟩:=h
 obtain ⟨E1,E2⟩:=((ok.tabs k t et).rows w hw).pool c f ps p eps ec ep y hy
 unfold Lp
 rcases hx with rfl | rfl
 ·rcases E1 with E | E | E
  ·omega
  ·exact List.mem_append_left _ E
  ·exact List.mem_append_right _ (List.mem_map.mpr ⟨_,E,by omega⟩)
 ·rcases E2 with E | E | E
  ·omega
  ·exact List.mem_append_right _ (List.mem_map.mpr ⟨_,E,rfl⟩)
  ·exact List.mem_append_left _ E
theorem oA {R:List (Int × Int)} {lo hi x:Int} : x ∈ (ends R).filter (λt=>decide (lo < t) && decide (t<=hi))↔∃ y ∈ R,(x=y.1\/x=y.2+1)/\lo < x/\x<=hi:=by
 rw [List.mem_filter]
 unfold ends
 rw [List.mem_flatMap]
 constructor
 ·rintro ⟨⟨y,hy,hx⟩,hb⟩
  have hb:lo < x/\x<=hi:=by simpa using hb
  exact ⟨y,hy,by simpa using hx,hb.1,hb.2⟩
 ·rintro ⟨y,hy,hx,h1,h2⟩
  exact ⟨⟨y,hy,by simpa using hx⟩,by simpa using ⟨h1,h2⟩⟩
theorem sN (R:List (Int × Int)):(ends R).length=2 * R.length:=by
 unfold ends
 induction R with
 | nil=>rfl
 | cons y R ih =>
  rw [List.flatMap_cons,List.length_append,ih,List.length_cons (as:=R)]
  show 2+2 * R.length=2 * (R.length+1)
  omega
theorem i7 {α:Type} {l:List (List α)} {a:List α} : (l ++ [a]).flatten=l.flatten ++ a:=by rw [List.flatten_append];simp
theorem mK {α:Type} {n:Nat} : ∀ {l:List (List α)},(∀ a ∈ l,a.length<=n)->l.flatten.length<=n * l.length
 | [],_=>Nat.zero_le _
 | a :: l,h=>by
  rw [List.flatten_cons,List.length_append,List.length_cons,Nat.mul_succ]
  have h1:=h a List.mem_cons_self
  have h2:=mK (l:=l) λb hb=>h b (List.mem_cons_of_mem _ hb)
  omega
theorem sO {n:Nat} (h:n<=100000):n < sizeLine:=Nat.lt_of_le_of_lt h (by decide)
theorem oB {cN cW:Addr} {H:Hp} {d:Addr} {k:Dk} (h:fV cN cW H d k):∃ C,(C=cN\/C=cW)/\∃ dx fs,H d=some (.ins C dx fs)/\fs.lookup (Str.ofString "low")=some (.int k.2.1)/\fs.lookup (Str.ofString "high")=some (.int k.2.2):=by
 obtain ⟨C,hC,dx,fs,h1,h2,h3,_⟩:=h.dom
 exact ⟨C,hC,dx,fs,h1,h2,h3⟩
def MsA (N:Addr->Prop) (H:Hp) (zs:List Str) (ds:List PD) (ts:List PT) (od:List Nat) (r:Addr) (z:Str):Prop:=N r/\∃ cs:List Int,H r=some (.lst (cs.map V.int))/\cs.Pairwise (· < ·)/\∀ (f:Nat) (p:PD),zs[f]?=some z->ds[f]?=some p->∀ x,x ∈ cs↔∃ k ∈ od,MkK ts k f p x
theorem sP {zs:List Str} {ts:List PT} {fN k i:Nat} {z:Str} (hi:i < fN) (ez:zs[i]?=some z):((zs.take fN).filter (bh ts zs fN k)).contains z=bh ts zs fN k z:=by
 rw [Bool.eq_iff_iff,List.contains_iff_mem,List.mem_filter]
 exact ⟨λh=>h.2,λh=>⟨E5 (show (zs.take fN)[i]?=some z by rw [List.getElem?_take,if_pos hi];exact ez),h⟩⟩
theorem sQ {zs:List Str} {ts:List PT} {fN k:Nat} {z:Str} (h:z ∈ (zs.take fN).filter (bh ts zs fN k)):∃ f,f < fN/\zs[f]?=some z:=by
 obtain ⟨j,ej⟩:=List.getElem?_of_mem (List.mem_filter.mp h).1
 rw [List.getElem?_take] at ej
 split at ej
 ·exact ⟨j,by assumption,ej⟩
 ·cases ej
def FN (ts:List PT) (fN k f:Nat):Prop:=(k < fN/\f=k)\/(fN<=k/\f < fN/\∃ (x:Nat) (t:PT),Rch (akT ts fN) (k - fN) x/\ts[x]?=some t/\f ∈ t.cols)
theorem mL {ts:List PT} {fN k:Nat} {t:PT} (e:ts[k]?=some t) {j:Nat} : j ∈ akT ts fN k↔fN+j ∈ t.cols:=by
 unfold akT
 rw [e]
 show j ∈ akc fN t.cols↔_
 unfold akc
 rw [List.mem_map]
 constructor
 ·rintro ⟨c,hc,rfl⟩
  obtain ⟨h1,h2⟩:=List.mem_filter.mp hc
  have h2:fN<=c:=of_decide_eq_true h2
  rw [show fN+(c - fN)=c by omega]
  exact h1
 ·intro h
  exact ⟨fN+j,List.mem_filter.mpr ⟨h,by simp⟩,by omega⟩
theorem wJ {ts:List PT} {fN k f:Nat} {t:PT} (hk:fN<=k) (e:ts[k - fN]?=some t):FN ts fN k f↔∃ j ∈ t.cols,FN ts fN j f:=by
 constructor
 ·rintro (⟨h,_⟩ | ⟨_,hf,x,t',hr,ex,hc⟩)
  ·omega
  ·cases hr with
   | self =>
    rw [e] at ex
    cases ex
    exact ⟨f,hc,.inl ⟨hf,rfl⟩⟩
   | step hj hr =>
    rename_i j
    exact ⟨fN+j,(mL e).mp hj,.inr ⟨by omega,hf,x,t',by rw [show fN+j - fN=j by omega];exact hr,ex,hc⟩⟩
 ·rintro ⟨j,hj,⟨h1,rfl⟩ | ⟨h1,hf,x,t',hr,ex,hc⟩⟩
  ·exact .inr ⟨hk,h1,_,t,.self _,e,hj⟩
  ·exact .inr ⟨hk,hf,x,t',.step ((mL e).mpr (by rw [show fN+(j - fN)=j by omega];exact hj)) hr,ex,hc⟩
theorem FN.lt {ts:List PT} {fN k f:Nat} (h:FN ts fN k f):f < fN:=by
 rcases h with ⟨h,rfl⟩ | ⟨_,h,_⟩ <;> exact h
theorem sR (rs:List Nat):vN rs=(rs.map λb:Nat=>(b:Int)).map V.int:=by unfold vN;rw [List.map_map];rfl
theorem qr {cs:List Int} (h:∀ c ∈ cs,0<=c) (hp:cs.Pairwise (· < ·)):∃ js:List Nat,cs.map V.int=vN js/\js.Pairwise (· < ·)/\∀ f:Nat,f ∈ js↔(f:Int) ∈ cs:=by
 refine ⟨cs.map Int.toNat,?_,?_,λf=>?_⟩
 ·unfold vN
  rw [List.map_map]
  exact List.map_congr_left λc hc=>by
   show V.int c=V.int ((c.toNat:Nat):Int)
   rw [Int.toNat_of_nonneg (h c hc)]
 ·rw [List.pairwise_map]
  refine List.Pairwise.imp_of_mem (R:=λa b:Int=>a < b) (λ{a b} ha hb hab=>?_) hp
  have:=h a ha
  omega
 ·rw [List.mem_map]
  constructor
  ·rintro ⟨c,hc,rfl⟩
   rw [Int.toNat_of_nonneg (h c hc)]
   exact hc
  ·intro hf
   exact ⟨(f:Int),hf,by omega⟩
theorem pJ {js:List Nat} {m:Nat} (hp:js.Pairwise (· < ·)) (h:∀ f ∈ js,f < m):js.length<=m:=Tld.len ⟨hp.imp λh=>Nat.ne_of_lt h,h⟩
def RcM (ts:List PT) (fN k x:Nat):Prop:=fN<=x/\Rch (akT ts fN) (k - fN) (x - fN)
theorem uN {ak:Nat->List Nat} {a b:Nat} : Rch ak a b↔b=a\/∃ j ∈ ak a,Rch ak j b :=
 ⟨λh=>by
  cases h with
  | self=>exact .inl rfl
  | step hj h=>exact .inr ⟨_,hj,h⟩,λh=>by
  rcases h with rfl | ⟨j,hj,h⟩
  ·exact .self _
  ·exact .step hj h⟩
theorem Rch.le {ak:Nat->List Nat} (h:∀ k,∀ j ∈ ak k,j < k) {a b:Nat} (r:Rch ak a b):b<=a:=by
 induction r with
 | self=>exact Nat.le_refl _
 | step hj _ ih=>have:=h _ _ hj;omega
theorem sS {cols:List Nat} {f c i:Nat} (nd:cols.Nodup) (ec:cols[c]?=some f) (hi:i<=c):f ∉ cols.take i:=λhm=>by
 obtain ⟨j,ej⟩:=List.getElem?_of_mem hm
 rw [List.getElem?_take] at ej
 split at ej
 ·have:=cH nd ej ec
  omega
 ·cases ej
def oC (p:PD) (ps:Prs):List Int:=((ps.filter λy=>decide (p.lo < y.1)).map λy=>y.1) ++ ((ps.filter λy=>decide (y.2 < p.hi)).map λy=>y.2+1)
theorem rj {p:PD} {ps:Prs} (hb:∀ y ∈ ps,p.lo<=y.1/\y.1<=y.2/\y.2<=p.hi) (x:Int):x ∈ oC p ps↔∃ y ∈ ps,(x=y.1\/x=y.2+1)/\p.lo < x/\x<=p.hi:=by
 unfold oC
 rw [List.mem_append,List.mem_map,List.mem_map]
 constructor
 ·rintro (⟨y,hy,rfl⟩ | ⟨y,hy,rfl⟩)
  ·obtain ⟨h1,h2⟩:=List.mem_filter.mp hy
   have h2:p.lo < y.1:=of_decide_eq_true h2
   have:=hb y h1
   exact ⟨y,h1,.inl rfl,h2,by omega⟩
  ·obtain ⟨h1,h2⟩:=List.mem_filter.mp hy
   have h2:y.2 < p.hi:=of_decide_eq_true h2
   have:=hb y h1
   exact ⟨y,h1,.inr rfl,by omega,by omega⟩
 ·rintro ⟨y,hy,rfl | rfl,h1,h2⟩
  ·exact .inl ⟨y,List.mem_filter.mpr ⟨hy,decide_eq_true h1⟩,rfl⟩
  ·exact .inr ⟨y,List.mem_filter.mpr ⟨hy,decide_eq_true (by omega)⟩,rfl⟩
theorem oE:∀ {A B:List Nat},A.Pairwise (· < ·)->B.Pairwise (· < ·)->(∀ c,c ∈ A↔c ∈ B)->A=B
 | [],[],_,_,_=>rfl
 | [],b :: B,_,_,h=>by have:=(h b).mpr List.mem_cons_self;cases this
 | a :: A,[],_,_,h=>by have:=(h a).mp List.mem_cons_self;cases this
 | a :: A,b :: B,hA,hB,h=>by
  obtain ⟨a1,a2⟩:=List.pairwise_cons.mp hA
  obtain ⟨b1,b2⟩:=List.pairwise_cons.mp hB
  have hab:a=b:=by
   rcases List.mem_cons.mp ((h a).mp List.mem_cons_self) with e | e
   ·exact e
   ·rcases List.mem_cons.mp ((h b).mpr List.mem_cons_self) with e' | e'
    ·exact e'.symm
    ·have:=b1 a e;have:=a1 b e';omega
  subst hab
  rw [oE a2 b2 λc=>⟨λhc=>by
   rcases List.mem_cons.mp ((h c).mp (List.mem_cons_of_mem _ hc)) with e | e
   ·have:=a1 c hc;omega
   ·exact e,λhc=>by
   rcases List.mem_cons.mp ((h c).mpr (List.mem_cons_of_mem _ hc)) with e | e
   ·have:=b1 c hc;omega
   ·exact e⟩]
theorem oF:∀ {A B:List Int},A.Pairwise (· < ·)->B.Pairwise (· < ·)->(∀ c,c ∈ A↔c ∈ B)->A=B
 | [],[],_,_,_=>rfl
 | [],b :: B,_,_,h=>by have:=(h b).mpr List.mem_cons_self;cases this
 | a :: A,[],_,_,h=>by have:=(h a).mp List.mem_cons_self;cases this
 | a :: A,b :: B,hA,hB,h=>by
  obtain ⟨a1,a2⟩:=List.pairwise_cons.mp hA
  obtain ⟨b1,b2⟩:=List.pairwise_cons.mp hB
  have hab:a=b:=by
   rcases List.mem_cons.mp ((h a).mp List.mem_cons_self) with e | e
   ·exact e
   ·rcases List.mem_cons.mp ((h b).mpr List.mem_cons_self) with e' | e'
    ·exact e'.symm
    ·have:=b1 a e;have:=a1 b e';omega
  subst hab
  rw [oF a2 b2 λc=>⟨λhc=>by
   rcases List.mem_cons.mp ((h c).mp (List.mem_cons_of_mem _ hc)) with e | e
   ·have:=a1 c hc;omega
   ·exact e,λhc=>by
   rcases List.mem_cons.mp ((h c).mpr (List.mem_cons_of_mem _ hc)) with e | e
   ·have:=b1 c hc;omega
   ·exact e⟩]
theorem qt {zs:List Str} {ds:List PD} {ts:List PT} {fN kk f:Nat} {z:Str} (ok:cY zs ds ts fN) (hf:f < fN) (ez:zs[f]?=some z):bh ts zs fN kk z=true↔FN ts fN (fN+kk) f:=by
 have hak:=gD ok
 unfold bh
 rw [List.any_eq_true]
 constructor
 ·rintro ⟨x,hx,hz⟩
  rw [jC hak] at hx
  unfold nmT at hz
  cases e:ts[x]? with
  | none=>rw [e] at hz;cases hz
  | some t =>
   rw [e] at hz
   have hz:z ∈ prm t.cols zs:=by simpa using hz
   have ltz:∀ j ∈ t.cols,j < zs.length:=λj hj=>by rw [ok.len];exact ok.lt e j hj
   have gz:=bL (os:=t.cols) (xs:=zs) ltz
   obtain ⟨c,ec0⟩:=List.getElem?_of_mem hz
   have hcl:c < t.cols.length:=by rw [← gz.1];exact (E4.mp ec0).1
   have ecc:=E3 hcl
   rw [gz.2 c _ ecc] at ec0
   have efc:=cH ok.nd ec0 ez
   exact .inr ⟨by omega,hf,x,t,by rw [show fN+kk - fN=kk by omega];exact hx,e,by rw [← efc];exact E5 ecc⟩
 ·rintro (⟨h,_⟩ | ⟨_,_,x,t,hr,e,hc⟩)
  ·omega
  ·rw [show fN+kk - fN=kk by omega] at hr
   refine ⟨x,(jC hak _ _).mpr hr,?_⟩
   unfold nmT
   rw [e]
   show (prm t.cols zs).contains z=true
   have ltz:∀ j ∈ t.cols,j < zs.length:=λj hj=>by rw [ok.len];exact ok.lt e j hj
   have gz:=bL (os:=t.cols) (xs:=zs) ltz
   obtain ⟨c,ec⟩:=List.getElem?_of_mem hc
   have:z ∈ prm t.cols zs:=E5 (show (prm t.cols zs)[c]?=some z by rw [gz.2 c _ ec];exact ez)
   simpa using this
theorem ze {zs:List Str} {ds:List PD} {ts:List PT} {fN kk:Nat} {js:List Nat} (ok:cY zs ds ts fN) (pw:js.Pairwise (· < ·)) (mem:∀ f,f ∈ js↔FN ts fN (fN+kk) f):((zs.take fN).filter (bh ts zs fN kk)).length=js.length/\∀ (j:Nat) (z:Str),((zs.take fN).filter (bh ts zs fN kk))[j]?=some z->∃ f,js[j]?=some f/\zs[f]?=some z:=by
 have hl1:=ok.len
 have hl2:=ok.tab
 have hg:∀ f,f < fN->zs[f]?=some (zs.getD f Str.empty):=λf hf=>by
  have e:=E3 (l:=zs) (i:=f) (by omega)
  rw [List.getD_eq_getElem?_getD,e]
  rfl
 have ejs:js=(List.range fN).filter (λf=>bh ts zs fN kk (zs.getD f Str.empty)):=by
  refine oE pw (List.Pairwise.sublist List.filter_sublist List.pairwise_lt_range) λc=>?_
  rw [mem c,List.mem_filter,List.mem_range]
  constructor
  ·intro h
   have hc:=h.lt
   exact ⟨hc,(qt ok hc (hg c hc)).mpr h⟩
  ·rintro ⟨hc,h⟩
   exact (qt ok hc (hg c hc)).mp h
 have etk:zs.take fN=(List.range fN).map λf=>zs.getD f Str.empty:=by
  refine List.ext_getElem? λj=>?_
  rw [List.getElem?_take,List.getElem?_map]
  by_cases hj:j < fN
  ·rw [if_pos hj,List.getElem?_range hj,hg j hj]
   rfl
  ·rw [if_neg hj,List.getElem?_eq_none (by rw [List.length_range];omega)]
   rfl
 have enl:(zs.take fN).filter (bh ts zs fN kk)=js.map λf=>zs.getD f Str.empty:=by
  rw [etk,List.filter_map,ejs]
  rfl
 rw [enl]
 refine ⟨List.length_map _,λj z e=>?_⟩
 rw [List.getElem?_map] at e
 cases ej:js[j]? with
 | none=>rw [ej] at e;cases e
 | some f =>
  rw [ej] at e
  cases e
  exact ⟨f,rfl,hg f ((mem f).mp (E5 ej)).lt⟩
def BdZ (H:Hp) (zs:List Str) (ds:List PD) (r:Addr) (z:Str):Prop:=∃ (f:Nat) (p:PD),zs[f]?=some z/\ds[f]?=some p/\H r=some (.tup [.int p.lo,.int p.hi])
def BdF (H:Hp) (ds:List PD) (r:Addr) (f:Nat):Prop:=∃ p:PD,ds[f]?=some p/\H r=some (.tup [.int p.lo,.int p.hi])
theorem BdZ.tups {H H' : Hp} {zs:List Str} {ds:List PD} {r:Addr} {z:Str} (h:BdZ H zs ds r z) (s:fi H H'):BdZ H' zs ds r z:=by obtain ⟨f,p,e1,e2,e3⟩:=h;exact ⟨f,p,e1,e2,s _ _ e3⟩
theorem BdF.tups {H H' : Hp} {ds:List PD} {r:Addr} {f:Nat} (h:BdF H ds r f) (s:fi H H'):BdF H' ds r f:=by obtain ⟨p,e2,e3⟩:=h;exact ⟨p,e2,s _ _ e3⟩
def MsF (N:Addr->Prop) (H:Hp) (ds:List PD) (ts:List PT) (fN kk:Nat) (r:Addr) (f:Nat):Prop:=N r/\∃ cs:List Int,H r=some (.lst (cs.map V.int))/\cs.Pairwise (· < ·)/\∀ p:PD,ds[f]?=some p->∀ x,x ∈ cs↔∃ x',Rch (akT ts fN) kk x'/\MkK ts x' f p x
theorem qu {K:PySem.W.Frag} {H:Hp} {n:Nat} {r r' : Addr} {a b:Int} (h1:H r=some (.tup [.int a,.int b])) (h2:H r'=some (.tup [.int a,.int b])):DEq K H (n+1) (.ref r) (.ref r') true:=by
 refine uI (SqT.of h1) (SqT.of h2) rfl λj x y f1 f2=>?_
 rw [f1] at f2
 cases f2
 match j,f1 with
 | 0,f1=>cases f1;exact mE _
 | 1,f1=>cases f1;exact mE _
 | j+2,f1=>simp at f1
theorem sT {K:PySem.W.Frag} {H:Hp} {n:Nat} {r r' : Addr} {cs:List Int} (h1:H r=some (.lst (cs.map V.int))) (h2:H r'=some (.lst (cs.map V.int))):DEq K H (n+1) (.ref r) (.ref r') true:=by
 refine uH (SqL.of h1) (SqL.of h2) rfl λj x y f1 f2=>?_
 rw [f1] at f2
 cases f2
 obtain ⟨c,rfl,_⟩:=of_map f1
 exact mE _
theorem sU (xs:List V) (x:V):ll (xs ++ [x]) none (some (-1))=xs:=by
 unfold ll
 simp [HT.sIx]
 rw [show (-1+((xs.length:Int)+1)).toNat=xs.length by omega,List.take_append_of_le_length (Nat.le_refl _),List.take_length]
def J21 (K:W.Frag):Sp:=λvs H Q _=>∃ (z g:Str),vs=[.str z,.str g]/\Q (.bl (kf z g)) H
def J29 (K:W.Frag):Sp:=λvs H Q _=>∃ i:Int,vs=[.int i]/\Q (.bl true) H
def J20 (K:W.Frag) (yV yW:Addr):Sp:=λvs H Q _=>∃ (a b:Addr) (k:Dk),vs=[.ref a,.ref b]/\fV yV yW H a k/\fV yV yW H b k/\Q (.bl true) H
def J53 (K:W.Frag):Sp:=λvs H Q _=>∃ (fa ma:Addr) (fv mv:List V),vs=[.ref fa,.ref ma]/\H fa=some (.lst fv)/\H ma=some (.lst mv)/\fv.length<=20/\mv.length<=30/\Q .non H
def J47 (K:W.Frag) (yX:Addr):Sp:=λvs H Q _=>∃ (t na ou:Addr) (nm wy:Str) (zs ns:List Str) (dv:List V) (rws:List Rw),vs=[.ref t,.ref na]/\TF yX H t nm wy ou zs dv rws/\H na=some (.lst (ns.map V.str))/\zs.length<=100/\∀ (l:Addr) (H' : Hp),aq H H'->H l=none->H' l=some (.lst ((zs.filter λz=>ns.contains z).map V.str))->Q (.ref l) H'
def J61 (K:W.Frag) (yE yV yW yX af:Addr):Sp:=λvs H Q E=>∃ (b:Addr) (nm:Str) (zs:List Str) (ds:List PD) (ts:List PT) (fN:Nat) (mv:List V) (L:List Nat),vs=[.ref b,.str nm]/\BkT yX yV yW af H b zs ds ts fN mv L/\SmB nm/\(∀ (a:Addr) (k i:Nat),mv[i]?=some (.ref a)->L[i]?=some k->k ∈ L->tnm zs fN k=nm->TbA yX yV yW H zs ds ts fN a k->Q (.ref a) H)/\((∀ k ∈ L,tnm zs fN k ≠ nm)->E (.ref yE) none H)
def J26 (K:W.Frag):Sp:=λvs H Q _=>∃ (a:Addr) (xs:List V) (R:List (Int × Int)) (lo hi:Int),vs=[.ref a,.int lo,.int hi]/\SqL K H a xs/\PL H xs R/\xs.length<=400 /\
 ∀ (r:Addr) (H' : Hp) (es:List Int),aq H H'->H r=none->H' r=some (.lst (es.map V.int))->es=(ends R).filter (λt=>decide (lo < t) && decide (t<=hi))->Q (.ref r) H'
def J54 (K:W.Frag):Sp:=λvs H Q _=>∃ (p r:Addr) (xs ys:List V),vs=[.ref p,.ref r]/\SqL K H p xs/\SqL K H r ys/\1<=xs.length/\xs.length<=4/\ys.length<=200/\Q .non H
def J51 (K:W.Frag):Sp:=λvs H Q _=>∃ (cl:Addr) (xs:List V) (w:Rw),vs=[.ref cl,.int w.2]/\H cl=some (.lst xs)/\CL NT H xs w.1/\w.1.length<=100/\∀ (r:Addr) (H' : Hp),aq H H'->H r=none->dS (λa=>H a=none) H' r w->Q (.ref r) H'
def J28 (K:W.Frag):Sp:=λvs H Q _=>∃ (a:Addr) (av:List V) (xss:List (List Int)) (L:List Int),vs=[.ref a]/\H a=some (.lst av)/\ao av xss (PlB NT H)/\xss.flatten.length<=1000/\L.length < 64/\(∀ x ∈ xss.flatten,x ∈ L)/\∀ (l:Addr) (cs:List Int) (H' : Hp),aq H H'->H l=none->H' l=some (.lst (cs.map V.int))->cs.Pairwise (· < ·)->(∀ x,x ∈ cs↔x ∈ xss.flatten)->Q (.ref l) H'
def J32 (K:W.Frag):Sp:=λvs H Q _=>∃ (a:Addr) (ns:List Int) (k:Int),vs=[.ref a,.int k]/\SqL K H a (ns.map V.int)/\0<=k/\∀ r:Int,Q (.int r) H
def J46 (K:W.Frag):Sp:=λvs H Q _=>∃ (c:Int) (n:Nat),vs=[.int c,.int (n:Int)]/\n<=40/\∀ (l:Addr) (H' : Hp),aq H H'->H l=none->H' l=some (.lst ((lws c n).map V.str))->Q (.ref l) H'
def J41 (K:W.Frag):Sp:=λvs H Q _=>∃ (r:Addr) (p:PD) (c:Int) (n:Nat),vs=[.ref r,.int c,.int (n:Int)]/\PDA NT H r p/\pF p/\n<=3/\∀ (l:Addr) (xs:List Int) (H' : Hp),aq H H'->H l=none->H' l=some (.lst (xs.map V.int))->xs.length=n->(∀ x ∈ xs,p.lo<=x/\x<=p.hi)->Q (.ref l) H'
def J44 (K:W.Frag):Sp:=λvs H Q _=>∃ (kd one two:Int) (r:Addr) (p:PD),vs=[.int kd,.int one,.int two,.ref r]/\PDA NT H r p/\p.lo<=one/\one<=two/\two<=p.hi/\∀ (l:Addr) (ps:Prs) (H' : Hp),aq H H'->SpA (λa=>H a=none) H' l ps->(∀ x ∈ ps,p.lo<=x.1/\x.1<=x.2/\x.2<=p.hi)->ps.length<=2->(∀ x ∈ ps,(x.1=p.lo\/x.1=one\/x.1=two\/x.1=two+1)/\(x.2=p.hi\/x.2=one\/x.2=two\/x.2=one - 1))->Q (.ref l) H'
def J40 (K:W.Frag):Sp:=λvs H Q _=>∃ (a:Addr) (ns:List Int) (m:Nat),vs=[.ref a,.int (m:Int)]/\SqL K H a (ns.map V.int)/\ns.length<=63/\1<=m/\m<=100/\∀ (l:Addr) (ms:List Int) (H' : Hp),aq H H'->H l=none->H' l=some (.lst (ms.map V.int))->ms.length<=m->Q (.ref l) H'
def J1 (K:W.Frag) (yV:Addr):Sp:=λvs H Q _=>∃ (x dx:Addr) (lo hi:Int),vs=[.ref x,.int lo,.int hi]/\H x=some (.ins yV dx [])/\Q .non (mkd yV H x dx lo hi)
def J2 (K:W.Frag) (yW:Addr):Sp:=λvs H Q _=>∃ (x dx:Addr) (lo hi:Int),vs=[.ref x,.int lo,.int hi]/\H x=some (.ins yW dx [])/\Q .non (mkd yW H x dx lo hi)
def J13 (K:W.Frag) (yO:Addr):Sp:=λvs H Q _=>∃ (x dx:Addr) (z:Str),vs=[.ref x,.str z]/\H x=some (.ins yO dx [])/\Q .non (upd H x (.ins yO dx [("called",.str z)]))
def J17 (K:W.Frag) (yP:Addr):Sp:=λvs H Q _=>∃ (x dx:Addr) (z:Str),vs=[.ref x,.str z]/\H x=some (.ins yP dx [])/\Q .non (upd H x (.ins yP dx [("called",.str z)]))
def J15 (K:W.Frag) (yQ:Addr):Sp:=λvs H Q _=>∃ (x dx:Addr) (z:Str),vs=[.ref x,.str z]/\H x=some (.ins yQ dx [])/\Q .non (upd H x (.ins yQ dx [("called",.str z)]))
def J16 (K:W.Frag) (yR:Addr):Sp:=λvs H Q _=>∃ (x dx:Addr) (z:Str),vs=[.ref x,.str z]/\H x=some (.ins yR dx [])/\Q .non (upd H x (.ins yR dx [("called",.str z)]))
def J14 (K:W.Frag) (yS:Addr):Sp:=λvs H Q _=>∃ (x dx:Addr) (z:Str),vs=[.ref x,.str z]/\H x=some (.ins yS dx [])/\Q .non (upd H x (.ins yS dx [("called",.str z)]))
def J18 (K:W.Frag) (yT:Addr):Sp:=λvs H Q _=>∃ (x dx:Addr) (z:Str),vs=[.ref x,.str z]/\H x=some (.ins yT dx [])/\Q .non (upd H x (.ins yT dx [("called",.str z)]))
def J30 (K:W.Frag):Sp:=λvs H Q _=>∃ (z:Str),vs=[.str z]/\z.length<=1000/\Q (.bl (isw z)) H
def J55 (K:W.Frag) (yV yW yX:Addr):Sp:=λvs H Q _=>∃ (fa ma:Addr) (fv mv:List V) (zs:List Str) (ds:List PD) (ts:List PT) (fN:Nat) (L:List Nat),vs=[.ref fa,.ref ma]/\H fa=some (.lst fv)/\H ma=some (.lst mv)/\BkI yX yV yW H zs ds ts fN fv mv L/\∀ H',aq H H'->Q .non H'
def J58 (K:W.Frag) (yV yW yX:Addr):Sp:=λvs H Q _=>∃ (ma:Addr) (mv:List V) (zs:List Str) (ds:List PD) (ts:List PT) (fN:Nat) (L:List Nat),vs=[.ref ma]/\H ma=some (.lst mv)/\cY zs ds ts fN/\ao mv L (TbA yX yV yW H zs ds ts fN)/\(∀ k ∈ L,k < ts.length)/\L.length<=7/\∀ H',aq H H'->Q .non H'
def J22 (K:W.Frag) (yE yV yW yX af:Addr):Sp:=λvs H Q E=>∃ (b:Addr) (nm:Str) (zs:List Str) (ds:List PD) (ts:List PT) (fN:Nat) (mv:List V) (L:List Nat),vs=[.ref b,.str nm]/\BkT yX yV yW af H b zs ds ts fN mv L/\SmB nm/\(∀ (k:Nat) (t:PT) (l:Addr) (H' : Hp),k ∈ L->tnm zs fN k=nm->ts[k]?=some t->aq H H'->H l=none->H' l=some (.lst (((prm t.cols zs).filter λz=>(L.map (tnm zs fN)).contains z).map V.str))->Q (.ref l) H')/\((∀ k ∈ L,tnm zs fN k ≠ nm)->E (.ref yE) none H)
def J25 (K:W.Frag) (yV yW yX:Addr):Sp:=λvs H Q _=>∃ (a:Addr) (c k f:Nat) (zs:List Str) (ds:List PD) (ts:List PT) (fN:Nat) (t:PT) (p:PD),vs=[.ref a,.int (c:Int)]/\cY zs ds ts fN/\TbA yX yV yW H zs ds ts fN a k/\ts[k]?=some t/\t.cols[c]?=some f/\ds[f]?=some p/\p.pool.length<=3/\∀ (l:Addr) (cs:List Int) (H' : Hp),aq H H'->H l=none->H' l=some (.lst (cs.map V.int))->cs.Pairwise (· < ·)->(∀ x,x ∈ cs↔MkT t c p x)->Q (.ref l) H'
def J34 (K:W.Frag):Sp:=λvs H Q _=>∃ c:Int,vs=[.int c]/\∀ (r:Addr) (p:PD) (H' : Hp),aq H H'->PDA (λa=>H a=none) H' r p->pF p->Q (.ref r) H'
def J43 (K:W.Frag):Sp:=λvs H Q _=>∃ (cl dl pl:Addr) (ow:Nat) (n:Int) (cols:List Nat) (dv pvs:List V) (ds:List PD),vs=[.ref cl,.ref dl,.ref pl,.int (ow:Int),.int n]/\H cl=some (.lst (vN cols))/\H dl=some (.lst dv)/\ao dv ds (PDA NT H)/\H pl=some (.lst pvs)/\ao pvs ds (PoB NT H)/\(∀ k ∈ cols,k < ds.length)/\ow < ds.length/\cols.length<=10/\∀ (r:Addr) (w:Rw) (H' : Hp),aq H H'->dS (λa=>H a=none) H' r w->mH ds cols ow w->Q (.ref r) H'
def J9 (K:W.Frag) (yV:Addr):Sp:=λvs H Q _=>∃ (x dx:Addr) (lo hi:Int),vs=[.ref x,.int lo,.int hi]/\H x=some (.ins yV dx [])/\lo<=hi/\Q .non (mkd yV H x dx lo hi)
def J5 (K:W.Frag) (yO:Addr):Sp:=qZ yO (Str.ofString "first")
def J10 (K:W.Frag) (yP:Addr):Sp:=qZ yP (Str.ofString "only")
def J7 (K:W.Frag) (yQ:Addr):Sp:=qZ yQ (Str.ofString "like")
def J8 (K:W.Frag) (yR:Addr):Sp:=qZ yR (Str.ofString "low")
def J6 (K:W.Frag) (yS:Addr):Sp:=qZ yS (Str.ofString "high")
def J11 (K:W.Frag) (yT:Addr):Sp:=qZ yT (Str.ofString "sum")
def J3 (K:W.Frag) (yV:Addr):Sp:=λvs H Q _=>∃ (a:Addr) (b:Int × Int) (i:Int),vs=[.ref a,.int i]/\wq yV H a b.1 b.2/\b.1<=i/\i<=b.2/\Q (.bl true) H
def J4 (K:W.Frag) (yW:Addr):Sp:=λvs H Q _=>∃ (a:Addr) (b:Int × Int) (i:Int),vs=[.ref a,.int i]/\wq yW H a b.1 b.2/\b.1<=i/\i<=b.2/\Q (.bl true) H
def J56 (K:W.Frag) (yV yW yX:Addr):Sp:=λvs H Q _=>∃ (fa ma:Addr) (fv mv:List V) (zs:List Str) (ds:List PD) (ts:List PT) (fN:Nat) (L:List Nat),vs=[.ref fa,.ref ma]/\H fa=some (.lst fv)/\H ma=some (.lst mv)/\BkI yX yV yW H zs ds ts fN fv mv L/\∀ H',aq H H'->Q .non H'
def J57 (K:W.Frag):Sp:=λvs H Q _=>∃ (p:Addr) (zs:List Str),vs=[.ref p]/\SqL K H p (zs.map V.str)/\(∀ z ∈ zs,isw z=true)/\zs.Nodup/\zs.length<=100/\∀ H',aq H H'->Q .non H'
def J59 (K:W.Frag) (yV yW:Addr):Sp:=λvs H Q _=>∃ (dl ou cl:Addr) (dv xs:List V) (bs:Prs) (o:Int × Int) (w:Rw),vs=[.ref dl,.ref ou,.ref cl,.int w.2]/\SqL K H dl dv/\ao dv bs (Dom yV yW H)/\Dom yV yW H ou o/\H cl=some (.lst xs)/\CL NT H xs w.1/\qj bs o w/\∀ H',aq H H'->Q .non H'
def J27 (K:W.Frag) (yV yW yX:Addr):Sp:=λvs H Q _=>∃ (tl:Addr) (tv:List V) (od:List Nat) (z:Str) (f:Nat) (zs:List Str) (ds:List PD) (ts:List PT) (fN:Nat) (p:PD),vs=[.ref tl,.str z]/\H tl=some (.lst tv)/\cY zs ds ts fN/\ao tv od (TbA yX yV yW H zs ds ts fN)/\od.length<=7/\zs[f]?=some z/\ds[f]?=some p/\p.pool.length<=3/\∀ (l:Addr) (cs:List Int) (H' : Hp),aq H H'->H l=none->H' l=some (.lst (cs.map V.int))->cs.Pairwise (· < ·)->(∀ x,x ∈ cs↔∃ k ∈ od,MkK ts k f p x)->Q (.ref l) H'
def J33 (K:W.Frag):Sp:=λvs H Q _=>∃ (a:Addr) (ns:List Int),vs=[.ref a]/\SqL K H a (ns.map V.int)/\ns.length<=63/\∀ (r:Addr) (zs:List Str) (ds:List PD) (ts:List PT) (fN:Nat) (H' : Hp),aq H H'->PlA H' r zs ds ts->cY zs ds ts fN->(∀ p ∈ ds,p.pool.length<=3)->(∀ t ∈ ts,t.rows.length<=32)->ts.length<=4->1<=fN->(∀ z ∈ zs,∀ y ∈ zs,z.length=y.length)->(∀ z ∈ zs,SmB z)->Q (.ref r) H'
def J19 (K:W.Frag) (yW:Addr):Sp:=λvs H Q _=>∃ (x dx p:Addr) (zs:List Str),vs=[.ref x,.ref p]/\H x=some (.ins yW dx [])/\H p=some (.lst (zs.map V.str))/\Good zs /\
 ∀ (H' : Hp) (l:Addr),(∀ b o,b ≠ x->H b=some o->H' b=some o)->H' x=some (.ins yW dx [("low",.int 0),("high",.int (hiW zs)),("words",.ref l)])->H' l=some (.lst (zs.map V.str))->H l=none->Q .non H'
def J63 (K:W.Frag) (yO yP yQ yR yS yT:Addr):Sp:=λvs H Q _=>∃ z:Str,vs=[.str z]/\z ∈ six/\(∀ i:Nat,six[i]?=some z->∀ (x C:Addr) (H' : Hp),aq H H'->(cl6 yO yP yQ yR yS yT)[i]?=some C->WyN C H' x z->Q (.ref x) H')
def J0 (K:W.Frag) (yV yW yX af:Addr):Sp:=λvs H Q _=>∃ (x dx fa ma:Addr) (fv mv:List V) (zs:List Str) (ds:List PD) (ts:List PT) (fN:Nat) (L:List Nat) (P:Nat->Addr->Prop),vs=[.ref x,.ref fa,.ref ma]/\H x=some (.ins af dx [])/\H fa=some (.lst fv)/\H ma=some (.lst mv)/\BkI yX yV yW H zs ds ts fN fv mv L/\ao fv (List.range fN) (FcT P H zs)/\∀ (H' : Hp) (fs:List (Str × V)) (ta fb:Addr) (gv:List V),(∀ b o,b ≠ x->H b=some o->H' b=some o)->H' x=some (.ins af dx fs)->fs.lookup (Str.ofString "tables")=some (.ref ta)->H' ta=some (.lst mv)->fs.lookup (Str.ofString "facts")=some (.ref fb)->H' fb=some (.lst gv)->ao gv (List.range fN) (FcT P H' zs)->Q .non H'
def J60 (K:W.Frag) (yV:Addr):Sp:=λvs H Q _=>∃ (z:Str) (ou:Addr),vs=[.str z,.ref ou]/\z ∈ six/\(z=Str.ofString "sum" -> ∃ dx fs,H ou=some (.ins yV dx fs))/\∀ H',aq H H'->Q .non H'
def J36 (K:W.Frag) (yV yW:Addr):Sp:=λvs H Q _=>∃ (r:Addr) (p:PD),vs=[.ref r]/\PDA NT H r p/\pF p/\∀ (a:Addr) (H' : Hp),aq H H'->eW (λx=>H x=none) yV yW H' a p.k->Q (.ref a) H'
def J35 (K:W.Frag) (yV yW:Addr):Sp:=λvs H Q _=>∃ (r:Addr) (zs:List Str) (ds:List PD) (ts:List PT) (fN:Nat),vs=[.ref r]/\PlA H r zs ds ts/\cY zs ds ts fN/\∀ (l:Addr) (fv:List V) (H' : Hp),aq H H'->H' l=some (.lst fv)->ao fv (List.range fN) (FcA yV yW H' zs ds)->Q (.ref l) H'
def J12 (K:W.Frag) (yV yW yX:Addr):Sp:=λvs H Q _=>∃ (x dx na dl ou rl:Addr) (nm wy:Str) (zs:List Str) (dv rx:List V) (bs:Prs) (o:Int × Int) (rws:List Rw),vs=[.ref x,.str nm,.ref na,.ref dl,.ref ou,.str wy,.ref rl]/\H x=some (.ins yX dx [])/\H na=some (.lst (zs.map V.str))/\(∀ z ∈ nm :: zs,isw z=true)/\(nm :: zs).Nodup/\1<=zs.length/\zs.length<=4/\wy ∈ six/\(wy=Str.ofString "sum" -> ∃ dx fs,H ou=some (.ins yV dx fs))/\H dl=some (.lst dv)/\ao dv bs (Dom yV yW H)/\Dom yV yW H ou o/\H rl=some (.lst rx)/\RL NT H rx rws/\rx.length<=200/\bs.length<=4/\(∀ w ∈ rws,qj bs o w) /\
 ∀ (H' : Hp) (fs:List (Str × V)) (rl' : Addr) (xs' : List V),(∀ b o,b ≠ x->H b=some o->H' b=some o)->H' x=some (.ins yX dx fs)->fs.lookup (Str.ofString "rows")=some (.ref rl')->fs.lookup (Str.ofString "way")=some (.str wy)->fs.lookup (Str.ofString "outcome")=some (.ref ou)->fs.lookup (Str.ofString "name")=some (.str nm)->(∃ na' dl' : Addr,H na'=none/\H dl'=none/\fs.lookup (Str.ofString "names")=some (.ref na')/\fs.lookup (Str.ofString "domains")=some (.ref dl')/\H' na'=some (.lst (zs.map V.str))/\H' dl'=some (.lst dv))->H rl'=none->H' rl'=some (.lst xs')->RL (λa=>H a=none) H' xs' rws->Q .non H'
def J45 (K:W.Frag) (yV yW yX:Addr):Sp:=λvs H Q _=>∃ (r:Addr) (k:Nat) (zs:List Str) (ds:List PD) (ts:List PT) (fN:Nat) (t:PT) (nm:Str) (po:PD),vs=[.ref r,.int (k:Int)]/\PlA H r zs ds ts/\cY zs ds ts fN/\ts[k]?=some t/\zs[fN+k]?=some nm/\ds[fN+k]?=some po/\∀ (x:Addr) (H' : Hp),aq H H'->TbN (λa=>H a=none) yX yV yW H' zs ds ts fN x k->Q (.ref x) H'
def J38 (K:PySem.W.Frag) (yA yE yN yO yP yQ yR yS yT yU yV yW yX af:Addr) (n:Nat):Sp:=λvs H Q _=>∃ (r:Addr) (k:Nat) (zs:List Str) (ds:List PD) (ts:List PT) (fN:Nat),vs=[.ref r,.int (k:Int)]/\PlA H r zs ds ts/\cY zs ds ts fN/\k < zs.length/\k+1<=n/\∀ (l:Addr) (js:List Nat) (H' : Hp),aq H H'->H l=none->H' l=some (.lst (vN js))->js.Pairwise (· < ·)->(∀ f,f ∈ js↔FN ts fN k f)->Q (.ref l) H'
theorem mM {K:PySem.W.Frag} {yA yE yN yO yP yQ yR yS yT yU yV yW yX af:Addr} {vs:List V} {H:Hp} {Q:VK} {E:XK} (h:J38 K yA yE yN yO yP yQ yR yS yT yU yV yW yX af 0 vs H Q E):False:=by
 obtain ⟨r,k,zs,ds,ts,fN,rfl,hPl,ok,hk,hn,q⟩:=h
 omega
def J42 (K:PySem.W.Frag) (yA yE yN yO yP yQ yR yS yT yU yV yW yX af:Addr) (n:Nat):Sp:=λvs H Q _=>∃ (r:Addr) (k:Nat) (zs:List Str) (ds:List PD) (ts:List PT) (fN:Nat),vs=[.ref r,.int (k:Int)]/\PlA H r zs ds ts/\cY zs ds ts fN/\k < zs.length/\fN<=k/\k+1<=n/\∀ (l:Addr) (rs:List Nat) (H' : Hp),aq H H'->H l=none->H' l=some (.lst (vN rs))->rs.length<=4 ^ (k - fN+1)->(∀ x,x ∈ rs↔RcM ts fN k x)->Q (.ref l) H'
theorem kE {K:PySem.W.Frag} {yA yE yN yO yP yQ yR yS yT yU yV yW yX af:Addr} {vs:List V} {H:Hp} {Q:VK} {E:XK} (h:J42 K yA yE yN yO yP yQ yR yS yT yU yV yW yX af 0 vs H Q E):False:=by
 obtain ⟨r,k,zs,ds,ts,fN,rfl,hPl,ok,hk,g,hn,q⟩:=h
 omega
def J37 (K:W.Frag):Sp:=λvs H Q _=>∃ (r:Addr) (k f_:Nat) (zs:List Str) (ds:List PD) (ts:List PT) (fN:Nat) (p:PD),vs=[.ref r,.int (k:Int),.int (f_:Int)]/\PlA H r zs ds ts/\cY zs ds ts fN/\k < zs.length/\fN<=k/\ds[f_]?=some p/\p.pool.length<=3/\(∀ t ∈ ts,t.rows.length<=32)/\ts.length<=4/\∀ (l:Addr) (cs:List Int) (H' : Hp),aq H H'->H l=none->H' l=some (.lst (cs.map V.int))->cs.Pairwise (· < ·)->(∀ x,x ∈ cs↔∃ x',Rch (akT ts fN) (k - fN) x'/\MkK ts x' f_ p x)->Q (.ref l) H'
def J52 (K:PySem.W.Frag) (yA yE yN yO yP yQ yR yS yT yU yV yW yX af:Addr) (n:Nat):Sp:=λvs H Q E=>∃ (b o:Addr) (nm:Str) (zs:List Str) (ds:List PD) (ts:List PT) (fN:Nat) (mv:List V) (L:List Nat) (told:List Nat) (k:Nat),vs=[.ref b,.str nm,.ref o]/\BkT yX yV yW af (hide H o) b zs ds ts fN mv L/\(∀ k,k < ts.length->k ∈ L)/\H o=some (.lst ((told.map (tnm zs fN)).map V.str))/\Tld ts.length told/\SmB nm/\(∀ z ∈ zs,SmB z)/\k+1<=n /\
 ((k < ts.length/\tnm zs fN k=nm/\k ∉ told/\∀ H',aq (hide H o) (hide H' o)->H' o=some (.lst (((odr (akT ts fN) k told).map (tnm zs fN)).map V.str))->Q .non H')\/((∀ k ∈ L,tnm zs fN k ≠ nm)/\E (.ref yE) none H))
theorem lr {K:PySem.W.Frag} {yA yE yN yO yP yQ yR yS yT yU yV yW yX af:Addr} {vs:List V} {H:Hp} {Q:VK} {E:XK} (h:J52 K yA yE yN yO yP yQ yR yS yT yU yV yW yX af 0 vs H Q E):False:=by
 obtain ⟨b,o,nm,zs,ds,ts,fN,mv,L,told,k,rfl,hB,bJ,ho,htd,hs,hsz,hn,hq⟩:=h
 omega
def J50 (K:W.Frag) (yE yV yW yX af:Addr):Sp:=λvs H Q E=>∃ (b:Addr) (nm:Str) (zs:List Str) (ds:List PD) (ts:List PT) (fN:Nat) (mv:List V) (L:List Nat) (k:Nat),vs=[.ref b,.str nm]/\BkT yX yV yW af H b zs ds ts fN mv L/\(∀ k,k < ts.length->k ∈ L)/\SmB nm/\(∀ z ∈ zs,SmB z)/\k<=12 /\
 ((k < ts.length/\tnm zs fN k=nm/\∀ (l:Addr) (H' : Hp),aq H H'->H l=none->H' l=some (.lst (((odr (akT ts fN) k []).map (tnm zs fN)).map V.str))->Q (.ref l) H')\/((∀ k ∈ L,tnm zs fN k ≠ nm)/\∀ H',aq H H'->E (.ref yE) none H'))
def J62 (K:W.Frag) (yE yV yW yX af:Addr):Sp:=λvs H Q E=>∃ (b:Addr) (nm:Str) (zs:List Str) (ds:List PD) (ts:List PT) (fN:Nat) (mv:List V) (L:List Nat) (k:Nat),vs=[.ref b,.str nm]/\BkT yX yV yW af H b zs ds ts fN mv L/\(∀ k,k < ts.length->k ∈ L)/\SmB nm/\(∀ z ∈ zs,SmB z)/\k<=12 /\
 ((k < ts.length/\tnm zs fN k=nm/\∀ (l:Addr) (xs:List V) (H' : Hp),aq H H'->H l=none->H' l=some (.lst xs)->ao xs (odr (akT ts fN) k []) (λr j=>∃ i:Nat,mv[i]?=some (.ref r)/\L[i]?=some j)->Q (.ref l) H')\/((∀ k ∈ L,tnm zs fN k ≠ nm)/\∀ H',aq H H'->E (.ref yE) none H'))
def J49 (K:W.Frag) (yE yV yW yX af:Addr):Sp:=λvs H Q E=>∃ (b:Addr) (nm:Str) (zs:List Str) (ds:List PD) (ts:List PT) (fN:Nat) (mv:List V) (L:List Nat) (k:Nat),vs=[.ref b,.str nm]/\BkT yX yV yW af H b zs ds ts fN mv L/\(∀ k,k < ts.length->k ∈ L)/\SmB nm/\(∀ z ∈ zs,SmB z)/\k<=12 /\
 ((k < ts.length/\tnm zs fN k=nm/\∀ (l:Addr) (H' : Hp),aq H H'->H l=none->H' l=some (.lst (((zs.take fN).filter (bh ts zs fN k)).map V.str))->Q (.ref l) H')\/((∀ k ∈ L,tnm zs fN k ≠ nm)/\∀ H',aq H H'->E (.ref yE) none H'))
def J48 (K:W.Frag) (yE yV yW yX af:Addr):Sp:=λvs H Q E=>∃ (b:Addr) (nm:Str) (zs:List Str) (ds:List PD) (ts:List PT) (fN:Nat) (mv:List V) (L:List Nat) (k:Nat),vs=[.ref b,.str nm]/\BkT yX yV yW af H b zs ds ts fN mv L/\(∀ k,k < ts.length->k ∈ L)/\SmB nm/\(∀ z ∈ zs,SmB z)/\k<=12 /\
 ((k < ts.length/\tnm zs fN k=nm/\∀ (l:Addr) (lv:List V) (H' : Hp),aq H H'->H l=none->H' l=some (.lst lv)->ao lv ((zs.take fN).filter (bh ts zs fN k)) (λd z=>∃ f,zs[f]?=some z/\DmP yV yW H ds f d)->Q (.ref l) H')\/((∀ k ∈ L,tnm zs fN k ≠ nm)/\∀ H',aq H H'->E (.ref yE) none H'))
def J24 (K:W.Frag) (yE yV yW yX af:Addr):Sp:=λvs H Q E=>∃ (b:Addr) (nm:Str) (zs:List Str) (ds:List PD) (ts:List PT) (fN:Nat) (mv:List V) (L:List Nat) (k:Nat),vs=[.ref b,.str nm]/\BkT yX yV yW af H b zs ds ts fN mv L/\(∀ k,k < ts.length->k ∈ L)/\SmB nm/\(∀ z ∈ zs,SmB z)/\(∀ p ∈ ds,p.pool.length<=3)/\k<=12 /\
 ((k < ts.length/\tnm zs fN k=nm/\∀ (l:Addr) (lv:List V) (H' : Hp),aq H H'->H l=none->H' l=some (.lst lv)->ao lv ((zs.take fN).filter (bh ts zs fN k)) (MsA (λa=>H a=none) H' zs ds ts (odr (akT ts fN) k []))->Q (.ref l) H')\/((∀ k ∈ L,tnm zs fN k ≠ nm)/\∀ H',aq H H'->E (.ref yE) none H'))
def J23 (K:W.Frag) (yE yV yW yX af:Addr):Sp:=λvs H Q E=>∃ (b:Addr) (nm:Str) (zs:List Str) (ds:List PD) (ts:List PT) (fN:Nat) (mv:List V) (L:List Nat) (k:Nat),vs=[.ref b,.str nm]/\BkT yX yV yW af H b zs ds ts fN mv L/\(∀ k,k < ts.length->k ∈ L)/\SmB nm/\(∀ z ∈ zs,SmB z)/\k<=12 /\
 ((k < ts.length/\tnm zs fN k=nm/\∀ (l:Addr) (lv:List V) (H' : Hp),aq H H'->H l=none->H' l=some (.lst lv)->ao lv ((zs.take fN).filter (bh ts zs fN k)) (λr z=>∃ (f:Nat) (p:PD),zs[f]?=some z/\ds[f]?=some p/\H' r=some (.tup [.int p.lo,.int p.hi]))->Q (.ref l) H')\/((∀ k ∈ L,tnm zs fN k ≠ nm)/\∀ H',aq H H'->E (.ref yE) none H'))
def J39 (K:W.Frag) (yV yW yX af:Addr):Sp:=λvs H Q _=>∃ (dd_:Int) (b:Addr) (nm:Str) (zs:List Str) (ds:List PD) (ts:List PT) (fN:Nat) (mv:List V) (L:List Nat),vs=[.int dd_,.ref b,.str nm]/\BkT yX yV yW af H b zs ds ts fN mv L/\(∀ k,k < ts.length->k ∈ L)/\SmB nm/\(∀ z ∈ zs,SmB z)/\(∀ p ∈ ds,p.pool.length<=3)/\(∀ k ∈ L,tnm zs fN k ≠ nm)/\∀ H',aq H H'->Q (.bl true) H'
def J31 (K:PySem.W.Frag):Sp:=λvs H Q _=>∃ (a:Addr) (ns:List Int),vs=[.ref a]/\SqL K H a (ns.map V.int)/\ns.length<=63/\∀ H',Q (.bl true) H'
section
variable {P:Program} {w:World} {K:PySem.W.Frag} {mg:Str->Option Value} {base:Heap} {f:Addr} {fd:FuncData} {yA yE yN yO yP yQ yR yS yT yU yV yW yX af:Addr}
theorem Ba (F:Fun K "all_among" "all_among" Y21 f fd) (bl:Bl K mg yA yE yN yO yP yQ yR yS yT yU yV yW yX af)  : aQ P w K mg base CX0 1 f fd ["text", "signs"] (J21 K):=by
 refine F.ok Z21 (λvs H Q E h=>?_) (λcdv A outer s H vs Q E hr h=>?_)
 ·obtain ⟨z,g,rfl,q⟩:=h
  rfl
 obtain ⟨z,g,rfl,q⟩:=h
 refine ⟨_,(az (bp PassesOwn.never rfl (vU (pv 0)) (aE (i:=2) Z21.nd rfl (Or.inl rfl))
  (ai (ba (aL mf (pv 2) (pv 1) (by with_unfolding_all rfl))
  (ai (aP ia))
  aM)))
  (ai (aP ia))),?_⟩
 refine ⟨_,rfl,z,rfl,uv (λi σ H'=>(∃ c2:Option V,σ=[some (.str z),some (.str g),c2])/\H'=H/\(z.cps.toList.take i).all (sg g)=true) ⟨⟨_,rfl⟩,rfl,rfl⟩ (λi c σ H' e h=>?_) (λσ H' h=>?_)⟩
 ·obtain ⟨⟨c2,rfl⟩,e0,ha⟩:=h
  rw [e0]
  refine ⟨_,rfl,_,rfl,_,_,rfl,rfl,_,rfl,?_⟩
  refine cP (λd=>?_) (λd=>?_)
  ·have z2:kf z g=false:=wm e (wo d)
   rw [z2] at q;exact q
  ·exact ⟨⟨_,rfl⟩,rfl,all_succ e (yH d) ha⟩
 ·obtain ⟨⟨c2,rfl⟩,e0,ha⟩:=h
  rw [e0]
  rw [sr ha] at q;exact q
theorem Bb (F:Fun K "is_whole" "is_whole" Y29 f fd) (bl:Bl K mg yA yE yN yO yP yQ yR yS yT yU yV yW yX af)  : aQ P w K mg base CX0 1 f fd ["value"] (J29 K):=by
 refine F.ok Z29 (λvs H Q E h=>?_) (λcdv A outer s H vs Q E hr h=>?_)
 ·obtain ⟨i,rfl,q⟩:=h
  rfl
 obtain ⟨i,rfl,q⟩:=h
 refine ⟨_,(ai (aP (gu (aC b8 rfl bl.isinstance_ PyProof.Rows.boot_isinstance (aa (pv 0) (aa (jq (v:=.ty "int") rfl bl.int_ PyProof.Rows.boot_int rfl) ag))) (iO (vz (aC b8 rfl bl.isinstance_ PyProof.Rows.boot_isinstance (aa (pv 0) (aa (jq (v:=.ty "bool") rfl bl.bool_ PyProof.Rows.boot_bool rfl) ag)))))))),?_⟩
 exact ⟨_,rfl,_,_,_,_,true,rfl,.ty _,.inl (.int _),(by first | rfl | with_unfolding_all rfl | decide +kernel),_,rfl,fU ⟨_,rfl,_,_,_,_,false,rfl,.ty _,.inl (.int _),(by first | rfl | with_unfolding_all rfl | decide +kernel),_,rfl,q⟩⟩
theorem Bc (F:Fun K "alike" "alike" Y20 f fd) (bl:Bl K mg yA yE yN yO yP yQ yR yS yT yU yV yW yX af)  : aQ P w K mg base CX0 1 f fd ["one", "other"] (J20 K yV yW):=by
 refine F.ok Z20 (λvs H Q E h=>?_) (λcdv A outer s H vs Q E hr h=>?_)
 ·obtain ⟨a,b,k,rfl,ha,hb,q⟩:=h
  rfl
 obtain ⟨a,b,k,rfl,ha,hb,q⟩:=h
 refine ⟨_,(az (ba (PW.pt (jT (cR (aC b8 rfl bl.isinstance_ PyProof.Rows.boot_isinstance (aa (pv 0) (aa (fG (v:=.ref yV) rfl bl.Numbers_ rfl) ag)))) (ib (cR (aC b8 rfl bl.isinstance_ PyProof.Rows.boot_isinstance (aa (pv 1) (aa (fG (v:=.ref yV) rfl bl.Numbers_ rfl) ag)))))))
  (ai (aP (gu (jr cO (bu (pv 0) rfl) (bu (pv 1) rfl) (aS _)) (iO (jr cO (bu (pv 0) rfl) (bu (pv 1) rfl) (aS _))))))
  aM)
  (az (ba (PW.pt (jT (cR (aC b8 rfl bl.isinstance_ PyProof.Rows.boot_isinstance (aa (pv 0) (aa (fG (v:=.ref yW) rfl bl.Words_ rfl) ag)))) (ib (cR (aC b8 rfl bl.isinstance_ PyProof.Rows.boot_isinstance (aa (pv 1) (aa (fG (v:=.ref yW) rfl bl.Words_ rfl) ag)))))))
  (ai (aP (jr (vT hr) (bu (pv 0) rfl) (bu (pv 1) rfl) (aS _))))
  aM)
  (ai (aP ia)))),?_⟩
 obtain ⟨w,lo,hi⟩:=k
 cases w with
 | none =>
  obtain ⟨dx,e⟩:=ha
  obtain ⟨dx2,e2⟩:=hb
  refine ⟨_,rfl,_,_,_,_,true,rfl,.ref _,bl.t_Numbers.ty e,bl.f_nn,_,rfl,fU ?_⟩
  refine ⟨_,rfl,_,_,_,_,true,rfl,.ref _,bl.t_Numbers.ty e2,bl.f_nn,_,rfl,fU ?_⟩
  refine ⟨_,rfl,a,_,_,_,_,rfl,e,bl.k_Numbers,bl.na_Numbers_low,rfl,_,rfl,b,_,_,_,_,rfl,e2,bl.k_Numbers,bl.na_Numbers_low,rfl,rfl,_,rfl,gn rfl ?_⟩
  refine ⟨_,rfl,a,_,_,_,_,rfl,e,bl.k_Numbers,bl.na_Numbers_high,rfl,_,rfl,b,_,_,_,_,rfl,e2,bl.k_Numbers,bl.na_Numbers_high,rfl,rfl,?_⟩
  rw [decide_eq_true rfl]
  exact q
 | some zs =>
  obtain ⟨⟨dx,l,e,f⟩,_⟩:=ha
  obtain ⟨⟨dx2,l2,e2,f2⟩,_⟩:=hb
  refine ⟨_,rfl,_,_,_,_,false,rfl,.ref _,bl.t_Words.ty e,bl.f_wn,_,rfl,cz (cz ?_)⟩
  refine ⟨_,rfl,_,_,_,_,true,rfl,.ref _,bl.t_Words.ty e,bl.f_ww,_,rfl,fU ?_⟩
  refine ⟨_,rfl,_,_,_,_,true,rfl,.ref _,bl.t_Words.ty e2,bl.f_ww,_,rfl,fU ?_⟩
  refine ⟨_,rfl,a,_,_,_,_,rfl,e,bl.k_Words,bl.na_Words_words,rfl,_,rfl,b,_,_,_,_,rfl,e2,bl.k_Words,bl.na_Words_words,rfl,?_⟩
  exact qV (SqL.of f) (SqL.of f2) (λx hx=>.inl (List.all_eq_true.mp (cy zs) x hx)) q
theorem Be (F:Fun K "refuse_counts" "refuse_counts" Y53 f fd) (bl:Bl K mg yA yE yN yO yP yQ yR yS yT yU yV yW yX af)  : aQ P w K mg base CX0 1 f fd ["facts", "tables"] (J53 K):=by
 refine F.ok Z53 (λvs H Q E h=>?_) (λcdv A outer s H vs Q E hr h=>?_)
 ·obtain ⟨fa,ma,fv,mv,rfl,e1,e2,h1,h2,q⟩:=h
  rfl
 obtain ⟨fa,ma,fv,mv,rfl,e1,e2,h1,h2,q⟩:=h
 refine ⟨_,(az (ba (aL jV (aC aw rfl bl.len_ PySem.boot_len (aa (pv 0) ag)) (ke rfl bl.MOST_FACTS_) (aS _))
  (ai bf)
  aM)
  (ai (ba (aL jV (aC aw rfl bl.len_ PySem.boot_len (aa (pv 1) ag)) (ke rfl bl.MOST_TABLES_) (aS _))
  (ai bf)
  aM))),?_⟩
 refine ⟨_,rfl,fa,_,rfl,.inl (SqL.of e1),_,_,rfl,rfl,_,rfl,dh (by omega) ?_⟩
 exact ⟨_,rfl,ma,_,rfl,.inl (SqL.of e2),_,_,rfl,rfl,_,rfl,dh (by omega) q⟩
theorem Bf (F:Fun K "named_among" "named_among" Y47 f fd) (bl:Bl K mg yA yE yN yO yP yQ yR yS yT yU yV yW yX af)  : aQ P w K mg base CX0 1 f fd ["table", "names"] (J47 K yX):=by
 refine F.ok Z47 (λvs H Q E h=>?_) (λcdv A outer s H vs Q E hr h=>?_)
 ·obtain ⟨t,na,ou,nm,wy,zs,ns,dv,rws,rfl,⟨rl,dx,tna,dl,fs,xs,ht,f1,f2,f3,f4,f5,f6,ena,edl,erl,hR,fX⟩,hna,wK,q⟩:=h
  rfl
 obtain ⟨t,na,ou,nm,wy,zs,ns,dv,rws,rfl,⟨rl,dx,tna,dl,fs,xs,ht,f1,f2,f3,f4,f5,f6,ena,edl,erl,hR,fX⟩,hna,wK,q⟩:=h
 refine ⟨_,(ai (aP (aZ (aK (bu (pv 0) rfl)) (aR (N:=["name", "names"]) (fr:=[1]) (cl:=[("names",s.heap.objs.size+1)]) rfl rfl (by decide +kernel) (by decide +kernel) rfl (by decide +kernel) rfl rfl rfl (List.forall_mem_cons.mpr ⟨rfl,List.forall_mem_nil _⟩) rfl) rfl (λ_ _ _ _=>(cX (aL (ee (K:=K) rfl) (pv 0) (pv 1) (by with_unfolding_all rfl)))) (λ_ _ _ _=>(pv 0))))),?_⟩
 have hzl:(zs.map V.str).length=zs.length:=List.length_map _
 refine ⟨_,rfl,t,_,_,_,_,rfl,ht,bl.k_Table,bl.na_Table_names,f5,tna,rfl,⟨_,SqL.of ena⟩,aX (xs:=zs.map V.str) (λD i ys H'=>aq H H'/\H' D=some (.lst ys)/\ys=((zs.take i).filter λz=>ns.contains z).map V.str) (λD hD=>⟨ah hD _,ae,rfl⟩) (λD i ys H' hD _ h=>SqL.of (h.1 _ _ ena)) (λD i y ys H' hD e h=>?_) (λD ys H' hD h=>?_)⟩
 ·obtain ⟨sm,eD,rfl⟩:=h
  obtain ⟨z,rfl,ez⟩:=cG e
  have hi:i < (zs.map V.str).length:=(E4.mp e).1
  have hfl:((zs.take i).filter λz=>ns.contains z).length<=i:=Nat.le_trans (List.length_filter_le ..) (by rw [List.length_take];omega)
  refine ⟨_,rfl,_,rfl,na,_,rfl,.inl (SqL.of (sm _ _ hna)),rfl,cy ns,_,rfl,?_⟩
  rw [show (if false=true then !inV (V.str z) (ns.map V.str) else inV (V.str z) (ns.map V.str))=ns.contains z by rw [if_neg Bool.false_ne_true,dW]]
  have hf:((zs.take (i+1)).filter λz=>ns.contains z)=((zs.take i).filter λz=>ns.contains z) ++ (if ns.contains z then [z] else []):=by
   rw [take_snoc ez,List.filter_append]
   congr 1
   cases h:ns.contains z with
   | true=>rw [List.filter_cons_of_pos h,List.filter_nil];rfl
   | false=>rw [List.filter_cons_of_neg (by rw [h];exact Bool.false_ne_true),List.filter_nil];rfl
  cases hc:ns.contains z with
  | true =>
   rw [hc] at hf
   refine fU ⟨_,rfl,bK.mk hi eD (ay (by rw [List.length_map];omega)) ⟨sm.upd hD,ae,?_⟩⟩
   rw [hf,List.map_append]
   rfl
  | false =>
   rw [hc] at hf
   refine cz (cU.mk (zs:=((zs.take i).filter λz=>ns.contains z).map V.str) hi ⟨sm,eD,?_⟩)
   rw [hf]
   simp
 ·obtain ⟨sm,eD,rfl⟩:=h
  rw [hzl,List.take_length] at eD
  exact q D H' sm hD eD
theorem Bg (F:Fun K "table_of" "table_of" Y61 f fd) (bl:Bl K mg yA yE yN yO yP yQ yR yS yT yU yV yW yX af)  : aQ P w K mg base (CX1 P w) 1 f fd ["book", "name"] (J61 K yE yV yW yX af):=by
 refine F.okE Z61 (λvs H Q E h=>?_) (λcdv A outer s H vs Q E hr h=>?_)
 ·obtain ⟨b,nm,zs,ds,ts,fN,mv,L,rfl,hB,hs,q,qE⟩:=h
  rfl
 obtain ⟨b,nm,zs,ds,ts,fN,mv,L,rfl,hB,hs,q,qE⟩:=h
 refine ⟨_,(az (bp (iY rfl rfl rfl) rfl (aK (bu (pv 0) rfl)) (aE (i:=2) Z61.nd rfl (Or.inl rfl))
  (ai (ba (aL cO (bu (pv 2) rfl) (pv 1) (aS _))
  (ai (aP (pv 2)))
  aM)))
  (ai (qU bl.x_NoTable hr.hd rfl bl.NoTable_ (aa (we (pv 1)) ag)))),?_⟩
 obtain ⟨dx,fs,ta,fb,gv,hb,ft,eta,_⟩:=hB.bk
 have hml:mv.length=L.length:=hB.tabs.1
 refine ⟨_,rfl,b,_,_,_,_,rfl,hb,bl.k_Book,bl.na_Book_tables,ft,ta,rfl,⟨_,SqL.of eta⟩,bg (xs:=mv) (λi σ H'=>H'=H/\(∀ k ∈ L.take i,tnm zs fN k ≠ nm)/\∃ c2:Option V,σ=[some (.ref b),some (.str nm),c2]) ⟨rfl,λk hk=>by simp at hk,_,rfl⟩ (λi σ H' _ h=>by rw [h.1];exact SqL.of eta) (λi y σ H' e h=>?_) (λσ H' h=>?_)⟩
 ·obtain ⟨e0,hn,c2,rfl⟩:=h
  rw [e0]
  obtain ⟨t_,k,rfl,ek,hT⟩:=ao.get hB.tabs e
  obtain ⟨tt,nm2,po,ou,dv,g1,g2,g3,g4,g5,g6⟩:=id hT
  obtain ⟨rl,dx2,na,dl,fs2,xs,ht,f1,f2,f3,f4,f5,f6,ena,edl,erl,hR,fX⟩:=g4
  refine ⟨_,rfl,t_,_,_,_,_,rfl,ht,bl.k_Table,bl.na_Table_name,f2,_,rfl,rfl,_,rfl,?_⟩
  by_cases h:nm2=nm
  ·exact gn (by rw [h]) ⟨_,rfl,q t_ k i e ek (E5 ek) (by rw [cw g2,h]) hT⟩
  ·refine dh (λz=>by injection z with z;exact h z) ⟨rfl,λj hj=>?_,_,rfl⟩
   rw [take_snoc ek] at hj
   rcases List.mem_append.mp hj with hj | hj
   ·exact hn j hj
   ·rw [List.mem_singleton.mp hj,cw g2];exact h
 ·obtain ⟨e0,hn,c2,rfl⟩:=h
  rw [e0]
  rw [hml,List.take_length] at hn
  exact ⟨(by decide +kernel),_,rfl,nm,rfl,hs.1,hs.2,(by decide +kernel),λ_=>⟨(by show 1<=sizeLine;decide),qE hn⟩⟩
theorem Bh (F:Fun K "edges" "edges" Y26 f fd) (bl:Bl K mg yA yE yN yO yP yQ yR yS yT yU yV yW yX af)  : aQ P w K mg base CX0 1 f fd ["spans", "low", "high"] (J26 K):=by
 refine F.ok Z26 (λvs H Q E h=>?_) (λcdv A outer s H vs Q E hr h=>?_)
 ·obtain ⟨a,xs,R,lo,hi,rfl,hS,hP,hl,q⟩:=h
  rfl
 obtain ⟨a,xs,R,lo,hi,rfl,hS,hP,hl,q⟩:=h
 refine ⟨_,(az (aI (i:=3) Z26.nd rfl (Or.inl rfl) (bz ag))
  (az (bp PassesOwn.never rfl (aK (pv 0)) (cA rfl (aH (aE (i:=4) Z26.nd rfl (Or.inl rfl)) (aH (aE (i:=5) Z26.nd rfl (Or.inl rfl)) bA)))
  (az (aT (cS PySem.F.plainAttrs_list PySem.F.slot_list_append PySem.F.type_list_append bO (pv 3) (aa (pv 4) ag)))
  (ai (aT (cS PySem.F.plainAttrs_list PySem.F.slot_list_append PySem.F.type_list_append bO (pv 3) (aa (aG bB (pv 5) aj) ag))))))
  (ai (aP (aZ (aK (pv 3)) (aR (N:=["turn", "low", "high"]) (fr:=[1,2]) (cl:=[("low",s.heap.objs.size+1),("high",s.heap.objs.size+1+1)]) rfl rfl (by decide +kernel) (by decide +kernel) rfl (by decide +kernel) rfl rfl rfl (List.forall_mem_cons.mpr ⟨rfl,List.forall_mem_cons.mpr ⟨rfl,List.forall_mem_nil _⟩⟩) rfl) rfl (λ_ _ _ _=>(cX (jX gh dO (pv 1) (pv 0) (pv 2)))) (λ_ _ _ _=>(pv 0))))))),?_⟩
 refine ⟨(by show 0<=sizeLine;decide),λtn htn=>?_⟩
 have s0:aq H (upd H tn (.lst [])):=ah htn _
 refine ⟨_,rfl,a,rfl,⟨_,s0.seq hS⟩,bg (xs:=xs) (λi σ H'=>∃ (c4 c5:Option V),σ=[some (.ref a),some (.int lo),some (.int hi),some (.ref tn),c4,c5]/\aq H H'/\H' tn=some (.lst ((ends (R.take i)).map V.int))/\(ends (R.take i)).length<=2 * i)
  ⟨none,none,rfl,s0,ae,Nat.le_refl _⟩ (λi σ H' _ h=>by obtain ⟨_,_,_,sm,_⟩:=h;exact sm.seq hS) (λi x σ H' e h=>?_) (λσ H' h=>?_)⟩
 ·obtain ⟨c4,c5,rfl,sm,ht,hle⟩:=h
  obtain ⟨p,r,e1,rfl,hr'⟩:=(hP.mono sm.tups).get e
  have hi' : i < xs.length:=(E4.mp e).1
  refine ⟨r,_,rfl,SqT.of hr',rfl,_,_,rfl,_,_,rfl,rfl,?_⟩
  refine ⟨_,rfl,.inl ⟨rfl,_,SqL.of ht⟩,_,rfl,tn,_,_,rfl,rfl,ht,ay (by rw [List.length_map];omega),?_⟩
  refine ⟨_,rfl,.inl ⟨rfl,_,SqL.of ae⟩,_,rfl,_,_,rfl,rfl,tn,_,_,rfl,rfl,ae,ay (by rw [List.length_append,List.length_map,List.length_singleton];omega),?_⟩
  rw [tY]
  refine ⟨_,_,rfl,sm.upd htn,?_,?_⟩
  ·rw [ae,take_snoc e1,lL];simp
  ·rw [take_snoc e1,lL,List.length_append];simp;omega
 ·obtain ⟨c4,c5,rfl,sm,ht,hle⟩:=h
  rw [hP.length,List.take_length] at ht hle
  refine ⟨_,rfl,tn,rfl,⟨_,SqL.of ht⟩,aX (xs:=(ends R).map V.int) (λD i zs H2=>aq H' H2/\H2 D=some (.lst zs)/\zs=(((ends R).take i).filter (λt=>decide (lo < t) && decide (t<=hi))).map V.int/\zs.length<=i)
   (λD hD=>⟨ah hD _,ae,rfl,Nat.zero_le _⟩) (λD i zs H2 hD _ h=>SqL.of (h.1 _ _ ht)) (λD i x zs H2 hD e h=>?_) (λD zs H2 hD h=>?_)⟩
  ·obtain ⟨sm2,eD,hz,hlz⟩:=h
   obtain ⟨c,rfl,ec⟩:=of_map e
   have hi' : i < ((ends R).map V.int).length:=(E4.mp e).1
   have hi2:i < (ends R).length:=by rw [List.length_map] at hi';exact hi'
   have hno:(decide (lo < c) && decide (c<=hi))=false->cU (λD i zs H2=>aq H' H2/\H2 D=some (.lst zs)/\zs=(((ends R).take i).filter (λt=>decide (lo < t) && decide (t<=hi))).map V.int/\zs.length<=i) D i ((ends R).map V.int).length H2:=λhf=>by
    refine cU.mk (zs:=zs) hi' ⟨sm2,eD,?_,by omega⟩
    rw [take_snoc ec,List.filter_append,List.filter_cons_of_neg (by simpa using hf)]
    simpa using hz
   refine ⟨_,rfl,_,rfl,_,_,rfl,rfl,_,rfl,?_⟩
   refine cP (λg1=>?_) (λg1=>?_)
   ·refine ⟨_,rfl,_,_,rfl,rfl,_,rfl,?_⟩
    refine cP (λg2=>?_) (λg2=>hno (by rw [Bool.eq_false_iff.mpr g2,Bool.and_false]))
    have hpl:=hP.length
    refine ⟨_,rfl,bK.mk hi' eD (ay (by omega)) ⟨sm2.upd hD,ae,?_,by rw [List.length_append,List.length_singleton];omega⟩⟩
    rw [take_snoc ec,List.filter_append,List.filter_cons_of_pos (by rw [g1,g2];rfl),hz]
    simp
   ·exact ⟨_,rfl,cz (hno (by rw [Bool.eq_false_iff.mpr g1,Bool.false_and]))⟩
  ·obtain ⟨sm2,eD,hz,hlz⟩:=h
   rw [List.length_map,List.take_length] at hz
   rw [hz] at eD
   exact q D H2 _ (sm.trans sm2) (sm.free hD) eD rfl
theorem Bi (F:Fun K "refuse_counts" "refuse_counts" Y54 f fd) (bl:Bl K mg yA yE yN yO yP yQ yR yS yT yU yV yW yX af)  : aQ P w K mg base CX0 1 f fd ["names", "rows"] (J54 K):=by
 refine F.ok Z54 (λvs H Q E h=>?_) (λcdv A outer s H vs Q E hr h=>?_)
 ·obtain ⟨p,r,xs,ys,rfl,hP,hR,h1,h4,fX,q⟩:=h
  rfl
 obtain ⟨p,r,xs,ys,rfl,hP,hR,h1,h4,fX,q⟩:=h
 refine ⟨_,(az (ba (d8 (jX dO dO aj (aC aw rfl bl.len_ PySem.boot_len (aa (pv 0) ag)) (ke rfl bl.MOST_COLUMNS_)))
  (ai bf)
  aM)
  (ai (ba (aL jV (aC aw rfl bl.len_ PySem.boot_len (aa (pv 1) ag)) (ke rfl bl.MOST_ROWS_) (aS _))
  (ai bf)
  aM))),?_⟩
 refine ⟨_,rfl,p,_,rfl,.inl (hP),_,_,rfl,rfl,_,rfl,gn (by omega) ?_⟩
 refine ⟨_,_,rfl,rfl,_,rfl,?_⟩
 rw [decide_eq_true (show ((xs.length:Nat):Int)<=4 by omega)]
 refine cz ?_
 exact ⟨_,rfl,r,_,rfl,.inl (hR),_,_,rfl,rfl,_,rfl,dh (by omega) q⟩
theorem Bj (F:Fun K "own_row" "own_row" Y51 f fd) (bl:Bl K mg yA yE yN yO yP yQ yR yS yT yU yV yW yX af)  : aQ P w K mg base CX0 1 f fd ["cells", "code"] (J51 K):=by
 refine F.ok Z51 (λvs H Q E h=>?_) (λcdv A outer s H vs Q E hr h=>?_)
 ·obtain ⟨cl,xs,w_,rfl,hC,hcl,wK,q⟩:=h
  rfl
 obtain ⟨cl,xs,w_,rfl,hC,hcl,wK,q⟩:=h
 refine ⟨_,(ai (aP (bN (aa (aZ (aK (pv 0)) (bP rfl (by decide +kernel) (by decide +kernel) (by decide +kernel) rfl) rfl (λ_ _ _ _=>aW) (λ_ _ _ _=>(bw (gp (K:=K) rfl) rfl bl.list_ PyProof.Rows.boot_list (aa (pv 0) ag)))) (aa (pv 1) ag))))),?_⟩
 refine ⟨_,rfl,cl,rfl,⟨_,SqL.of hC⟩,aX (xs:=xs) (λD i zs H'=>aq H H'/\H' D=some (.lst zs)/\CL (Fr H D) H' zs (w_.1.take i))
  (λD hD=>⟨ah hD _,ae,ao.nil⟩) (λD i zs H' hD _ h=>SqL.of (h.1 _ _ hC)) (λD i x zs H' hD e h=>?_) (λD zs H' hD h=>?_)⟩
 ·obtain ⟨sm,eD,hz⟩:=h
  obtain ⟨l,ps,rfl,ep,hl⟩:=ao.get hcl e
  obtain ⟨_,ys,el,hp⟩:=hl.same sm
  have hi:i < xs.length:=(E4.mp e).1
  have hlz:zs.length < sizeLine:=by
   have h1:=hz.1
   rw [List.length_take] at h1
   exact ay (by omega)
  refine ⟨_,rfl,l,_,rfl,.inl (SqL.of el),λl2 hl2=>?_⟩
  have s2:=ah hl2 (.lst ys)
  have e2:upd H' l2 (.lst ys) l2=some (.lst ys):=ae
  have eD2:=s2 _ _ eD
  generalize upd H' l2 (.lst ys)=H2 at s2 e2 eD2 ⊢
  have n2:H l2=none:=sm.free hl2
  have nD:l2 ≠ D:=λz=>by rw [z,eD] at hl2;cases hl2
  refine bK.mk hi eD2 hlz ⟨(sm.trans s2).upd hD,ae,?_⟩
  rw [take_snoc ep]
  exact CL.updN (ao.snoc (hz.same s2) ⟨⟨n2,nD⟩,ys,e2,hp.mono s2.tups⟩) Fr.out eD2
 ·obtain ⟨sm,eD,hz⟩:=h
  rw [hcl.1,List.take_length] at hz
  refine ⟨_,rfl,bS,λr hr'=>q r _ (sm.trans (ah hr' _)) (sm.free hr') ⟨D,zs,ae,hD,ah hr' _ _ _ eD,?_⟩⟩
  exact (hz.same (ah hr' _)).wk λa h=>h.1
theorem Bk (F:Fun K "gathered" "gathered" Y28 f fd) (bl:Bl K mg yA yE yN yO yP yQ yR yS yT yU yV yW yX af)  : aQ P w K mg base CX0 1 f fd ["lists"] (J28 K):=by
 refine F.ok Z28 (λvs H Q E h=>?_) (λcdv A outer s H vs Q E hr h=>?_)
 ·obtain ⟨a,av,xss,L,rfl,ea,hav,hlen,hL,mr,q⟩:=h
  rfl
 obtain ⟨a,av,xss,L,rfl,ea,hav,hlen,hL,mr,q⟩:=h
 refine ⟨_,(az (aI (i:=1) Z28.nd rfl (Or.inl rfl) (bz ag))
  (az (bp PassesOwn.never rfl (aK (pv 0)) (aE (i:=2) Z28.nd rfl (Or.inl rfl))
  (ai (aT (cS PySem.F.plainAttrs_list PySem.F.slot_list_extend PySem.F.type_list_extend fH (pv 1) (aa (pv 2) ag)))))
  (ai (aP (aC (b9 (w:=w) rfl rfl) rfl bl.sorted_ PyProof.Rows.boot_sorted (aa (bw (fK (w:=w) rfl rfl) rfl bl.set_ PyProof.Rows.boot_set (aa (pv 1) ag)) ag)))))),?_⟩
 refine ⟨(by show 0<=sizeLine;decide),λnb hnb=>?_⟩
 have s0:aq H (upd H nb (.lst [])):=ah hnb _
 have e0:upd H nb (.lst []) nb=some (.lst [] ):=ae
 generalize upd H nb (.lst [])=H0 at s0 e0 ⊢
 refine ⟨_,rfl,a,rfl,⟨_,SqL.of (s0 _ _ ea)⟩,bg (xs:=av) (λi σ H'=>aq H H'/\H' nb=some (.lst ((xss.take i).flatten.map V.int))/\∃ c2:Option V,σ=[some (.ref a),some (.ref nb),c2]) ⟨s0,e0,_,rfl⟩ (λi σ H' _ h=>SqL.of (h.1 _ _ ea)) (λi y σ H' e h=>?_) (λσ H' h=>?_)⟩
 ·obtain ⟨sm,enb,c2,rfl⟩:=h
  obtain ⟨r,xs,rfl,ex,_,hr⟩:=ao.get hav e
  have hle:(xss.take i).flatten.length+xs.length<=1000:=by
   have h0:xss.flatten=(xss.take (i+1)).flatten ++ (xss.drop (i+1)).flatten:=by rw [← List.flatten_append,List.take_append_drop]
   have h1:((xss.take (i+1)).flatten).length<=xss.flatten.length:=by rw [h0,List.length_append];omega
   rw [take_snoc ex,i7,List.length_append] at h1
   omega
  refine ⟨_,rfl,.inl ⟨rfl,_,SqL.of enb⟩,_,rfl,nb,r,_,_,rfl,rfl,enb,sm _ _ hr,Nat.le_of_lt (sO (by rw [List.length_map,List.length_map];omega)),sm.upd hnb,?_,_,rfl⟩
  rw [ae,take_snoc ex,i7,List.map_append]
 ·obtain ⟨sm,enb,c2,rfl⟩:=h
  rw [hav.1,List.take_length] at enb
  refine ⟨_,rfl,nb,xss.flatten,rfl,SqL.of enb,(by omega),λl hl'=>?_⟩
  have s3:=ah hl' (mz w l xss.flatten)
  refine ⟨l,xss.flatten,L,rfl,ae,hL,mr,λD2 cs hD2 pw mem=>?_⟩
  exact q D2 cs _ ((sm.trans s3).trans (ah hD2 _)) (sm.free (s3.free hD2)) ae pw mem
theorem Bm (F:Fun K "_law_at" "_law_at" Y32 f fd) (bl:Bl K mg yA yE yN yO yP yQ yR yS yT yU yV yW yX af)  : aQ P w K mg base CX0 1 f fd ["script", "k"] (J32 K):=by
 refine F.ok Z32 (λvs H Q E h=>?_) (λcdv A outer s H vs Q E hr h=>?_)
 ·obtain ⟨a,ns,k,rfl,hS,h0,q⟩:=h
  rfl
 obtain ⟨a,ns,k,rfl,hS,h0,q⟩:=h
 refine ⟨_,(az (ba (aL gh (pv 1) (aC aw rfl bl.len_ PySem.boot_len (aa (pv 0) ag)) (aS _))
  (ai (aP (aJ aO (pv 0) (pv 1) (λ_ _=>rfl))))
  aM)
  (ai (aP aj))),?_⟩
 refine ⟨_,rfl,_,rfl,a,_,rfl,.inl hS,_,_,rfl,rfl,_,rfl,?_⟩
 refine cP (λc=>?_) (λc=>?_)
 ·have c' : k < (((ns.map V.int).length:Nat):Int):=rN c
  rw [List.length_map] at c'
  have hk:k.toNat < ns.length:=by omega
  have hv:atI (ns.map V.int) k=some (.int ns[k.toNat]):=by
   have z:atI (ns.map V.int) ((k.toNat:Nat):Int)=some (.int ns[k.toNat]):=aN (by rw [List.getElem?_map,E3 hk];rfl)
   rw [show ((k.toNat:Nat):Int)=k by omega] at z
   exact z
  exact ⟨_,rfl,_,rfl,a,_,_,_,rfl,rfl,hS,hv,q _⟩
 ·exact q 0
theorem Bo (F:Fun K "_law_words" "_law_words" Y46 f fd) (bl:Bl K mg yA yE yN yO yP yQ yR yS yT yU yV yW yX af)  : aQ P w K mg base CX0 1 f fd ["cell", "count"] (J46 K):=by
 refine F.ok Z46 (λvs H Q E h=>?_) (λcdv A outer s H vs Q E hr h=>?_)
 ·obtain ⟨c,n,rfl,h40,q⟩:=h
  rfl
 obtain ⟨c,n,rfl,h40,q⟩:=h
 refine ⟨_,(az (aI (i:=2) Z46.nd rfl (Or.inr rfl) bM)
  (aD (aI (i:=3) Z46.nd rfl (Or.inr rfl) (cS PySem.F.plainAttrs_str PySem.F.slot_str_join PySem.F.type_str_join qd bM (aa (aZ (bC rfl bl.range_ (aa (aG br (pv 0) aj) ag)) (aR (N:=["j", "cell", "letters"]) (fr:=[0,2]) (cl:=[("letters",s.heap.objs.size+1+1),("cell",s.heap.objs.size+1)]) rfl rfl (by decide +kernel) (by decide +kernel) rfl (by decide +kernel) rfl rfl rfl (List.forall_mem_cons.mpr ⟨rfl,List.forall_mem_cons.mpr ⟨rfl,List.forall_mem_nil _⟩⟩) rfl) rfl (λ_ _ _ _=>aW) (λ_ _ _ _=>(aJ o6 (pv 2) (aG br (aG bI (pv 1) (aG bB (aG fh aj (pv 0)) aj)) aj) (λ_ _=>rfl)))) ag)))
  (aD (aI (i:=4) Z46.nd rfl (Or.inr rfl) (cS PySem.F.plainAttrs_str PySem.F.slot_str_join PySem.F.type_str_join qd bM (aa (aZ (bC rfl bl.range_ (aa (aG br (aG bI (pv 0) aj) aj) ag)) (aR (N:=["j", "cell", "letters"]) (fr:=[0,2]) (cl:=[("letters",s.heap.objs.size+1+1),("cell",s.heap.objs.size+1)]) rfl rfl (by decide +kernel) (by decide +kernel) rfl (by decide +kernel) rfl rfl rfl (List.forall_mem_cons.mpr ⟨rfl,List.forall_mem_cons.mpr ⟨rfl,List.forall_mem_nil _⟩⟩) rfl) rfl (λ_ _ _ _=>aW) (λ_ _ _ _=>(aJ o6 (pv 2) (aG br (aG bI (pv 1) (aG bB (aG fh aj (pv 0)) aj)) aj) (λ_ _=>rfl)))) ag)))
  (ai (aP (aZ (bC rfl bl.range_ (aa (pv 1) ag)) (aR (N:=["k", "cell", "letters", "head", "tail"]) (fr:=[0,2,3,4]) (cl:=[("tail",s.heap.objs.size+1+1+1+1),("letters",s.heap.objs.size+1+1),("head",s.heap.objs.size+1+1+1),("cell",s.heap.objs.size+1)]) rfl rfl (by decide +kernel) (by decide +kernel) rfl (by decide +kernel) rfl rfl rfl (List.forall_mem_cons.mpr ⟨rfl,List.forall_mem_cons.mpr ⟨rfl,List.forall_mem_cons.mpr ⟨rfl,List.forall_mem_cons.mpr ⟨rfl,List.forall_mem_nil _⟩⟩⟩⟩) rfl) rfl (λ_ _ _ _=>aW) (λ_ _ _ _=>(aG jZ (aG jZ (pv 3) (aJ o6 (pv 2) (aG br (aG bB (aG bI (pv 1) aj) (aG fh aj (pv 0))) aj) (λ_ _=>rfl))) (pv 4))))))))),?_⟩
 have c0:=Int.emod_nonneg c (show (6:Int) ≠ 0 by decide)
 have c1:=Int.emod_lt_of_pos c (show (0:Int) < 6 by decide)
 have d0:=Int.emod_nonneg (c / 7) (show (6:Int) ≠ 0 by decide)
 have d1:=Int.emod_lt_of_pos (c / 7) (show (0:Int) < 6 by decide)
 refine ⟨λσ' H'=>aq H H'/\σ'=[some (.int c),some (.int (n:Int)),some (.str (Str.ofString "abcdefghijklmnopqrstuvwxyz")),some (.str ⟨(hcs c).toArray⟩),none],?_,?_⟩
 ·refine ⟨rfl,_,rfl,_,_,rfl,rfl,(by show (0:Int) < 6;decide),_,rfl,(by show -(2 ^ 62)<=c % 6;omega),(by show c % 6 < 2 ^ 62;omega),bE (λD i zs H'=>aq H H'/\H' D=some (.lst zs)/\zs=(((List.range i).map λj:Nat=>97+(c / (3 * (0+(j:Int))+1) % 13).toNat).map λx=>(⟨#[x]⟩:Str)).map V.str) (λD hD=>⟨ah hD _,ae,rfl⟩) (λD i zs H' hD hi h=>?_) (λD zs H' hD h=>?_)⟩
  ·obtain ⟨sm,eD,rfl⟩:=h
   have a0:=Int.emod_nonneg (c / (3 * (0+(i:Int))+1)) (show (13:Int) ≠ 0 by decide)
   have a1:=Int.emod_lt_of_pos (c / (3 * (0+(i:Int))+1)) (show (0:Int) < 13 by decide)
   refine ⟨_,rfl,_,rfl,_,rfl,_,_,rfl,rfl,.inl ⟨by decide,by decide⟩,_,_,rfl,rfl,_,_,rfl,rfl,gC (by omega) (by omega),_,_,rfl,rfl,(by show (0:Int) < 13;decide),_,_,_,rfl,rfl,(by decide),mD sv a0 (by omega),bK.mk hi eD (ay (by simp;omega)) ⟨sm.upd hD,ae,?_⟩⟩
   rw [List.range_succ,List.map_append,List.map_append,List.map_append]
   rfl
  ·obtain ⟨sm,eD,rfl⟩:=h
   have el:=mF c
   have ec:((List.range (c % 6).toNat).map λj:Nat=>97+(c / (3 * (0+(j:Int))+1) % 13).toNat)=hcs c:=rfl
   rw [ec] at eD
   refine ⟨_,D,_,rfl,rfl,SqL.of eD,(by decide +kernel),ox _ el,sm,?_⟩
   rw [kx]
   rfl
 rintro σ1 H1 ⟨s1,rfl⟩
 refine ⟨λσ' H'=>aq H1 H'/\σ'=[some (.int c),some (.int (n:Int)),some (.str (Str.ofString "abcdefghijklmnopqrstuvwxyz")),some (.str ⟨(hcs c).toArray⟩),some (.str ⟨(tcs c).toArray⟩)],?_,?_⟩
 ·refine ⟨rfl,_,rfl,_,_,rfl,rfl,⟨by decide,by decide⟩,_,_,rfl,rfl,(by show (0:Int) < 6;decide),_,rfl,(by show -(2 ^ 62)<=c / 7 % 6;omega),(by show c / 7 % 6 < 2 ^ 62;omega),bE (λD i zs H'=>aq H1 H'/\H' D=some (.lst zs)/\zs=(((List.range i).map λj:Nat=>97+(c / (5 * (0+(j:Int))+2) % 13).toNat).map λx=>(⟨#[x]⟩:Str)).map V.str) (λD hD=>⟨ah hD _,ae,rfl⟩) (λD i zs H' hD hi h=>?_) (λD zs H' hD h=>?_)⟩
  ·obtain ⟨sm,eD,rfl⟩:=h
   have a0:=Int.emod_nonneg (c / (5 * (0+(i:Int))+2)) (show (13:Int) ≠ 0 by decide)
   have a1:=Int.emod_lt_of_pos (c / (5 * (0+(i:Int))+2)) (show (0:Int) < 13 by decide)
   refine ⟨_,rfl,_,rfl,_,rfl,_,_,rfl,rfl,.inl ⟨by decide,by decide⟩,_,_,rfl,rfl,_,_,rfl,rfl,gC (by omega) (by omega),_,_,rfl,rfl,(by show (0:Int) < 13;decide),_,_,_,rfl,rfl,(by decide),mD sv a0 (by omega),bK.mk hi eD (ay (by simp;omega)) ⟨sm.upd hD,ae,?_⟩⟩
   rw [List.range_succ,List.map_append,List.map_append,List.map_append]
   rfl
  ·obtain ⟨sm,eD,rfl⟩:=h
   have el:=mG c
   have ec:((List.range (c / 7 % 6).toNat).map λj:Nat=>97+(c / (5 * (0+(j:Int))+2) % 13).toNat)=tcs c:=rfl
   rw [ec] at eD
   refine ⟨_,D,_,rfl,rfl,SqL.of eD,(by decide +kernel),ox _ el,sm,?_⟩
   rw [kx]
   rfl
 rintro σ2 H2 ⟨s2,rfl⟩
 have s12:=s1.trans s2
 have n1:(⟨(hcs c).toArray⟩:Str).length<=5:=by have:=mF c;simpa [Str.length] using this
 have n2:(⟨(tcs c).toArray⟩:Str).length<=5:=by have:=mG c;simpa [Str.length] using this
 have o1:∀ x:Nat,(⟨#[x]⟩:Str).length=1:=λ_=>rfl
 refine ⟨_,rfl,_,rfl,(by omega),(by omega),bE (λD i zs H'=>aq H2 H'/\H' D=some (.lst zs)/\zs=(lws c i).map V.str) (λD hD=>⟨ah hD _,ae,rfl⟩) (λD i zs H' hD hi h=>?_) (λD zs H' hD h=>?_)⟩
 ·obtain ⟨sm,eD,rfl⟩:=h
  have a0:=Int.emod_nonneg (c / 11+3 * (0+(i:Int))) (show (26:Int) ≠ 0 by decide)
  have a1:=Int.emod_lt_of_pos (c / 11+3 * (0+(i:Int))) (show (0:Int) < 26 by decide)
  have ew:(⟨(hcs c).toArray⟩:Str) ++ (⟨#[97+((c / 11+3 * (0+(i:Int))) % 26).toNat]⟩:Str) ++ (⟨(tcs c).toArray⟩:Str)=lw c (0+(i:Int)):=by
   show Str.append (Str.append _ _) _=_
   unfold Str.append lw lwc
   simp
  refine ⟨_,rfl,_,rfl,_,rfl,_,_,rfl,rfl,⟨by decide,by decide⟩,_,rfl,_,_,rfl,rfl,.inl ⟨by decide,by decide⟩,_,_,rfl,rfl,_,_,rfl,rfl,(by show (0:Int) < 26;decide),_,_,_,rfl,rfl,(by decide),mD sv a0 a1,_,_,rfl,rfl,big (by rw [o1];omega),_,rfl,_,_,rfl,rfl,big (by rw [wA,o1];omega),?_⟩
  rw [ew]
  refine bK.mk hi eD (ay (by rw [List.length_map,iu];omega)) ⟨sm.upd hD,ae,?_⟩
  rw [sC,List.map_append]
  rfl
 ·obtain ⟨sm,eD,rfl⟩:=h
  rw [Int.toNat_natCast] at eD
  exact q D H' (s12.trans sm) (s12.free hD) eD
theorem Bp (F:Fun K "_law_pool" "_law_pool" Y41 f fd) (bl:Bl K mg yA yE yN yO yP yQ yR yS yT yU yV yW yX af)  : aQ P w K mg base CX0 1 f fd ["domain", "cell", "most"] (J41 K):=by
 refine F.ok Z41 (λvs H Q E h=>?_) (λcdv A outer s H vs Q E hr h=>?_)
 ·obtain ⟨r,p,c,n,rfl,⟨wl,_,_,er,ewl⟩,ok,hn3,q⟩:=h
  rfl
 obtain ⟨r,p,c,n,rfl,⟨wl,_,_,er,ewl⟩,ok,hn3,q⟩:=h
 refine ⟨_,(az (aI (i:=3) Z41.nd rfl (Or.inr rfl) (aG bB (aG bQ (aJ bD (pv 0) aj (λ_ _=>rfl)) (aJ bD (pv 0) aj (λ_ _=>rfl))) aj))
  (ai (aP (aZ (bC rfl bl.range_ (aa (pv 2) ag)) (aR (N:=["j", "domain", "cell", "width"]) (fr:=[0,1,3]) (cl:=[("width",s.heap.objs.size+1+1+1),("domain",s.heap.objs.size+1),("cell",s.heap.objs.size+1+1)]) rfl rfl (by decide +kernel) (by decide +kernel) rfl (by decide +kernel) rfl rfl rfl (List.forall_mem_cons.mpr ⟨rfl,List.forall_mem_cons.mpr ⟨rfl,List.forall_mem_cons.mpr ⟨rfl,List.forall_mem_nil _⟩⟩⟩) rfl) rfl (λ_ _ _ _=>aW) (λ_ _ _ _=>(aG bB (aJ (cC (K:=K) rfl) (pv 1) aj (λ_ _=>rfl)) (aG br (aG bB (aG bI (pv 2) (aG bB (aG fh aj (pv 0)) aj)) (aG fh (pv 0) (pv 2))) (pv 3)))))))),?_⟩
 have hle:=ok.le
 refine ⟨_,rfl,r,_,_,_,rfl,rfl,SqT.of er,rfl,_,rfl,r,_,_,_,rfl,rfl,SqT.of er,rfl,_,_,rfl,rfl,_,_,rfl,rfl,?_⟩
 have hw:0 < p.hi - p.lo+1:=by omega
 refine ⟨_,rfl,_,rfl,(by omega),(by omega),bE (λD i zs H'=>aq H H'/\H' D=some (.lst zs)/\∃ xs:List Int,zs=xs.map V.int/\xs.length=i/\∀ x ∈ xs,p.lo<=x/\x<=p.hi) (λD hD=>⟨ah hD _,ae,[],rfl,rfl,(λx hx=>by cases hx)⟩) (λD i zs H' hD hi h=>?_) (λD zs H' hD h=>?_)⟩
 ·obtain ⟨sm,eD,xs,rfl,hl,hx⟩:=h
  rw [Int.toNat_natCast] at hi
  have a0:=Int.emod_nonneg (c / (3 * (0+(i:Int))+1)+(0+(i:Int)) * c) (Int.ne_of_gt hw)
  have a1:=Int.emod_lt_of_pos (c / (3 * (0+(i:Int))+1)+(0+(i:Int)) * c) hw
  refine ⟨_,rfl,r,_,_,_,rfl,rfl,SqT.of (sm _ _ er),rfl,_,rfl,_,rfl,_,_,rfl,rfl,.inl ⟨by decide,by decide⟩,_,_,rfl,rfl,_,_,rfl,rfl,gC (by omega) (by omega),_,rfl,_,rfl,_,_,rfl,rfl,.inl ⟨by omega,by omega⟩,_,_,rfl,rfl,_,rfl,_,_,rfl,rfl,hw,_,_,rfl,rfl,bK.mk (by rw [Int.toNat_natCast];exact hi) eD (ay (by rw [List.length_map];omega)) ⟨sm.upd hD,ae,xs ++ [_],by rw [List.map_append];rfl,by rw [List.length_append,hl];rfl,λx hx'=>?_⟩⟩
  rcases List.mem_append.mp hx' with hx' | hx'
  ·exact hx x hx'
  ·have e:x=p.lo+(c / (3 * (0+(i:Int))+1)+(0+(i:Int)) * c) % (p.hi - p.lo+1):=by simpa using hx'
   generalize (c / (3 * (0+(i:Int))+1)+(0+(i:Int)) * c) % (p.hi - p.lo+1)=m at a0 a1 e
   omega
 ·obtain ⟨sm,eD,xs,rfl,hl,hx⟩:=h
  rw [Int.toNat_natCast] at hl
  exact q D xs H' sm hD eD hl hx
theorem Bq (F:Fun K "_law_spans" "_law_spans" Y44 f fd) (bl:Bl K mg yA yE yN yO yP yQ yR yS yT yU yV yW yX af)  : aQ P w K mg base CX0 1 f fd ["kind", "one", "two", "domain"] (J44 K):=by
 refine F.ok Z44 (λvs H Q E h=>?_) (λcdv A outer s H vs Q E hr h=>?_)
 ·obtain ⟨kd,one,two,r,p,rfl,⟨wl,_,_,er,ewl⟩,h1,h2,h3,q⟩:=h
  rfl
 obtain ⟨kd,one,two,r,p,rfl,⟨wl,_,_,er,ewl⟩,h1,h2,h3,q⟩:=h
 refine ⟨_,(aD (aI (i:=4) Z44.nd rfl (Or.inl rfl) (bz (aa (bN (aa (aJ bD (pv 3) aj (λ_ _=>rfl)) (aa (aJ bD (pv 3) aj (λ_ _=>rfl)) ag))) ag)))
  (aD (ba (PW.pt (p3 (aL cO (pv 0) aj (aS _)) (md (PW.pt (jT (aL cO (pv 0) aj (aS _)) (ib (aL dO (pv 2) (aG bB (pv 1) aj) (aS _))))))))
  (ai (aI (i:=4) Z44.nd rfl (Or.inl rfl) (bz (aa (bN (aa (pv 1) (aa (pv 2) ag))) ag))))
  (ai (ba (aL cO (pv 0) aj (aS _))
  (ai (aI (i:=4) Z44.nd rfl (Or.inl rfl) (bz (aa (bN (aa (pv 1) (aa (pv 1) ag))) (aa (bN (aa (pv 2) (aa (pv 2) ag))) ag)))))
  aM)))
  (aD (ba (aL cO (pv 0) aj (aS _))
  (ai (aI (i:=4) Z44.nd rfl (Or.inl rfl) (bz (aa (bN (aa (pv 1) (aa (pv 1) ag))) ag))))
  aM)
  (aD (ba (aL cO (pv 0) aj (aS _))
  (ai (aI (i:=4) Z44.nd rfl (Or.inl rfl) (bz (aa (bN (aa (aJ bD (pv 3) aj (λ_ _=>rfl)) (aa (aG bQ (pv 1) aj) ag))) (aa (bN (aa (aG bB (pv 2) aj) (aa (aJ bD (pv 3) aj (λ_ _=>rfl)) ag))) ag)))))
  aM)
  (aD (ba (aL cO (pv 0) aj (aS _))
  (ai (aI (i:=4) Z44.nd rfl (Or.inl rfl) (bz ag)))
  aM)
  (ai (aP (aZ (aK (pv 4)) (bP rfl (by decide +kernel) (by decide +kernel) (by decide +kernel) rfl) rfl (λ_ _ _ _=>(cX (aL dO (aJ (cC (K:=K) rfl) (pv 0) aj (λ_ _=>rfl)) (aJ (cC (K:=K) rfl) (pv 0) aj (λ_ _=>rfl)) (aS _)))) (λ_ _ _ _=>(pv 0)))))))))),?_⟩
 refine ⟨λσ' H'=>∃ pl,SPJ p one two H H' pl/\σ'=[some (.int kd),some (.int one),some (.int two),some (.ref r),some (.ref pl)],⟨_,rfl,r,_,_,_,rfl,rfl,SqT.of er,rfl,_,rfl,r,_,_,_,rfl,rfl,SqT.of er,rfl,bS,λt ht=>⟨(by show 1<=sizeLine;decide),λl hl=>⟨l,SPJ.one (aq.refl H) (pl1 ht hl) (Int.le_refl _) (Int.le_refl _) ⟨.inl rfl,.inl rfl⟩,rfl⟩⟩⟩,?_⟩
 rintro σ1 H1 ⟨pl,hs,rfl⟩
 refine ⟨λσ' H'=>∃ pl,SPJ p one two H H' pl/\σ'=[some (.int kd),some (.int one),some (.int two),some (.ref r),some (.ref pl)],?_,?_⟩
 ·have s1:=hs.1
  have both:∀ t l,H1 t=none->upd H1 t (.tup [.int one,.int two]) l=none->SPJ p one two H (upd (upd H1 t (.tup [.int one,.int two])) l (.lst [.ref t])) l:=λt l ht hl=>SPJ.one s1 (pl1 ht hl) h1 h3 ⟨.inr (.inl rfl),.inr (.inr (.inl rfl))⟩
  refine ⟨_,rfl,rfl,_,rfl,cP (λ_=>fU ?_) (λ_=>?_)⟩
  ·exact ⟨_,rfl,_,rfl,bS,λt ht=>⟨(by show 1<=sizeLine;decide),λl hl=>⟨l,both t l ht hl,rfl⟩⟩⟩
  ·refine ⟨_,rfl,rfl,_,rfl,cP (λ_=>?_) (λ_=>cz ?_)⟩
   ·refine ⟨_,rfl,_,rfl,_,_,rfl,rfl,_,_,rfl,rfl,_,rfl,cP (λ_=>?_) (λ_=>?_)⟩
    ·exact ⟨_,rfl,_,rfl,bS,λt ht=>⟨(by show 1<=sizeLine;decide),λl hl=>⟨l,both t l ht hl,rfl⟩⟩⟩
    ·refine ⟨_,rfl,rfl,_,rfl,cP (λ_=>?_) (λ_=>⟨pl,hs,rfl⟩)⟩
     exact ⟨_,rfl,_,rfl,bS,λt ht=>⟨_,rfl,_,rfl,bS,λu hu=>⟨(by show 2<=sizeLine;decide),λl hl=>⟨l,SPJ.two s1 (pl2 ht hu hl) h1 (by omega) (by omega) h3 ⟨.inr (.inl rfl),.inr (.inl rfl)⟩ ⟨.inr (.inr (.inl rfl)),.inr (.inr (.inl rfl))⟩,rfl⟩⟩⟩⟩
   ·refine ⟨_,rfl,rfl,_,rfl,cP (λ_=>?_) (λ_=>⟨pl,hs,rfl⟩)⟩
    exact ⟨_,rfl,_,rfl,bS,λt ht=>⟨_,rfl,_,rfl,bS,λu hu=>⟨(by show 2<=sizeLine;decide),λl hl=>⟨l,SPJ.two s1 (pl2 ht hu hl) h1 (by omega) (by omega) h3 ⟨.inr (.inl rfl),.inr (.inl rfl)⟩ ⟨.inr (.inr (.inl rfl)),.inr (.inr (.inl rfl))⟩,rfl⟩⟩⟩⟩
 clear hs pl
 rintro σ2 H2 ⟨pl,hs,rfl⟩
 refine ⟨λσ' H'=>∃ pl,SPJ p one two H H' pl/\σ'=[some (.int kd),some (.int one),some (.int two),some (.ref r),some (.ref pl)],?_,?_⟩
 ·refine ⟨_,rfl,rfl,_,rfl,cP (λ_=>?_) (λ_=>⟨pl,hs,rfl⟩)⟩
  have s1:=hs.1
  exact ⟨_,rfl,_,rfl,bS,λt ht=>⟨(by show 1<=sizeLine;decide),λl hl=>⟨l,SPJ.one s1 (pl1 ht hl) (by omega) (by omega) ⟨.inr (.inl rfl),.inr (.inl rfl)⟩,rfl⟩⟩⟩
 clear hs pl
 rintro σ3 H3 ⟨pl,hs,rfl⟩
 refine ⟨λσ' H'=>∃ pl,SPJ p one two H H' pl/\σ'=[some (.int kd),some (.int one),some (.int two),some (.ref r),some (.ref pl)],?_,?_⟩
 ·refine ⟨_,rfl,rfl,_,rfl,cP (λ_=>?_) (λ_=>⟨pl,hs,rfl⟩)⟩
  have s1:=hs.1
  refine ⟨_,rfl,r,_,_,_,rfl,rfl,SqT.of (s1 _ _ er),rfl,_,rfl,_,_,rfl,rfl,bS,λt ht=>⟨_,rfl,_,_,rfl,rfl,_,rfl,r,_,_,_,rfl,rfl,SqT.of (((s1.trans (ah ht _)) _ _ er)),rfl,bS,λu hu=>⟨(by show 2<=sizeLine;decide),λl hl=>⟨l,SPJ.two s1 (pl2 ht hu hl) (Int.le_refl _) (by omega) (by omega) (Int.le_refl _) ⟨.inl rfl,.inr (.inr (.inr rfl))⟩ ⟨.inr (.inr (.inr rfl)),.inl rfl⟩,rfl⟩⟩⟩⟩
 clear hs pl
 rintro σ6 H6 ⟨pl,hs,rfl⟩
 refine ⟨λσ' H'=>∃ pl,SPJ p one two H H' pl/\σ'=[some (.int kd),some (.int one),some (.int two),some (.ref r),some (.ref pl)],?_,?_⟩
 ·refine ⟨_,rfl,rfl,_,rfl,cP (λ_=>?_) (λ_=>⟨pl,hs,rfl⟩)⟩
  have s1:=hs.1
  exact ⟨(by show 0<=sizeLine;decide),λl hl=>⟨l,⟨s1.trans (ah hl _),[],[],ae,.nil,(λx hx=>by cases hx),by simp,(λx hx=>by cases hx)⟩,rfl⟩⟩
 clear hs pl
 rintro σ7 H7 ⟨pl,hs,rfl⟩
 obtain ⟨s7,ts,ps,epl,hP,hb,hl2,hE⟩:=hs
 have htl:=hP.length
 refine ⟨_,rfl,pl,rfl,⟨_,SqL.of epl⟩,aX (xs:=ts) (λD i zs H'=>aq H7 H'/\H' D=some (.lst zs)/\∃ ps' : Prs,PL H' zs ps'/\(∀ x ∈ ps',p.lo<=x.1/\x.1<=x.2/\x.2<=p.hi)/\ps'.length<=i/\∀ x ∈ ps',x ∈ ps) (λD hD=>⟨ah hD _,ae,[],.nil,(λx hx=>by cases hx),Nat.zero_le _,(λx hx=>by cases hx)⟩) (λD i zs H' hD _ h=>SqL.of (h.1 _ _ epl)) (λD i y zs H' hD e h=>?_) (λD zs H' hD h=>?_)⟩
 ·obtain ⟨sm,eD,ps',hP',hb',hl',hin⟩:=h
  obtain ⟨x,t,ex,rfl,et⟩:=hP.get e
  have hi:i < ts.length:=(E4.mp e).1
  have et':=sm _ _ et
  refine ⟨_,rfl,t,_,_,_,rfl,rfl,SqT.of et',rfl,_,rfl,t,_,_,_,rfl,rfl,SqT.of et',rfl,_,_,rfl,rfl,_,rfl,?_⟩
  refine cP (λg=>?_) (λg=>?_)
  ·have g' : x.1<=x.2:=rN g
   have st:fi H' (upd H' D (.lst (zs ++ [.ref t]))):=lI eD
   refine ⟨_,rfl,bK.mk hi eD (ay (by have:=hP'.length;omega)) ⟨sm.upd hD,ae,ps' ++ [x],(hP'.mono st).snoc (st _ _ et'),λy hy=>?_,by rw [List.length_append,List.length_singleton];omega,λy hy=>?_⟩⟩
   ·rcases List.mem_append.mp hy with hy | hy
    ·exact hb' y hy
    ·rw [show y=x by simpa using hy]
     have:=hb x (E5 ex)
     omega
   ·rcases List.mem_append.mp hy with hy | hy
    ·exact hin y hy
    ·rw [show y=x by simpa using hy]
     exact E5 ex
  ·exact cU.mk (zs:=zs) hi ⟨sm,eD,ps',hP',hb',by omega,hin⟩
 ·obtain ⟨sm,eD,ps',hP',hb',hl',hin⟩:=h
  have s:=s7.trans sm
  exact q D ps' H' s ⟨s7.free hD,zs,eD,hP'⟩ hb' (by omega) λx hx=>hE x (hin x hx)
theorem Br (F:Fun K "_law_numbers" "_law_numbers" Y40 f fd) (bl:Bl K mg yA yE yN yO yP yQ yR yS yT yU yV yW yX af)  : aQ P w K mg base CX0 1 f fd ["script", "most"] (J40 K):=by
 refine F.ok Z40 (λvs H Q E h=>?_) (λcdv A outer s H vs Q E hr h=>?_)
 ·obtain ⟨a,ns,m,rfl,hS,h63,hm1,hm2,q⟩:=h
  rfl
 obtain ⟨a,ns,m,rfl,hS,h63,hm1,hm2,q⟩:=h
 refine ⟨_,(aD (aI (i:=2) Z40.nd rfl (Or.inl rfl) (bz ag))
  (az (bp PassesOwn.never rfl (iQ rfl bl.range_ (aa aj (aa (aC aw rfl bl.len_ PySem.boot_len (aa (pv 0) ag)) ag))) (aE (i:=3) Z40.nd rfl (Or.inl rfl))
  (az (aI (i:=4) Z40.nd rfl (Or.inl rfl) (aG br (aJ aO (pv 0) (pv 3) (λ_ _=>rfl)) (aG jU aj aj)))
  (ai (ba (aL gh (aC aw rfl bl.len_ PySem.boot_len (aa (pv 2) ag)) (pv 1) (aS _))
  (ai (aT (cS PySem.F.plainAttrs_list PySem.F.slot_list_append PySem.F.type_list_append bO (pv 2) (aa (pv 4) ag))))
  (az (aI (i:=5) Z40.nd rfl (Or.inl rfl) (aG bB (aG fh (aJ aO (pv 2) (aG br (pv 3) (pv 1)) (λ_ _=>rfl)) aj) (pv 4)))
  (ai (fg (aG br (pv 5) (aG jU aj aj)) (vB (pv 2) (aG br (pv 3) (pv 1)) set_list))))))))
  (ai (aP (pv 2))))),?_⟩
 have hnl:(ns.map V.int).length=ns.length:=List.length_map _
 have hmp:(0:Int) < (m:Int):=by omega
 refine ⟨λσ' H'=>aq H H'/\∃ l:Addr,H l=none/\H' l=some (.lst [])/\σ'=[some (.ref a),some (.int (m:Int)),some (.ref l),none,none,none],⟨(by show 0<=sizeLine;decide),λl hl=>⟨ah hl _,l,hl,ae,rfl⟩⟩,?_⟩
 rintro σ1 H1 ⟨s1,l,nl,el,rfl⟩
 refine ⟨_,rfl,a,_,rfl,.inl (s1.seq hS),_,_,rfl,⟨by omega,by omega,by omega,by omega⟩,dN (λi σ H'=>aq H H'/\∃ (ms:List Int) (c3 c4 c5:Option V),H' l=some (.lst (ms.map V.int))/\ms.length<=m/\σ=[some (.ref a),some (.int (m:Int)),some (.ref l),c3,c4,c5]) ⟨s1,[],_,_,_,el,Nat.zero_le _,rfl⟩ (λi σ H' hi h=>?_) (λσ H' h=>?_)⟩
 ·obtain ⟨sm,ms,c3,c4,c5,el2,hl,rfl⟩:=h
  have hi2:i+2 < ns.length:=by omega
  have ix2:atI (ns.map V.int) (2+(i:Int))=some (.int ns[i+2]):=by
   have:=aN (get_map (E3 hi2))
   rw [show ((i+2:Nat):Int)=2+(i:Int) by omega] at this
   exact this
  have hml:(ms.map V.int).length=ms.length:=List.length_map _
  refine ⟨_,rfl,_,rfl,a,_,_,_,rfl,rfl,sm.seq hS,ix2,_,_,rfl,rfl,⟨by decide,by decide,by decide⟩,_,_,rfl,rfl,p10 _,_,rfl,l,_,rfl,.inl (SqL.of el2),_,rfl,_,_,rfl,rfl,_,rfl,cP (λg=>?_) (λg=>?_)⟩
  ·have g:((ms.length:Nat):Int) < (m:Int):=by have:=of_decide_eq_true g;rw [hml] at this;exact this
   refine ⟨_,rfl,.inl ⟨rfl,_,SqL.of el2⟩,_,rfl,l,_,_,rfl,rfl,el2,ay (by omega),sm.upd nl,ms ++ [_],_,_,_,by rw [ae,List.map_append];rfl,by rw [List.length_append];show _+1<=m;omega,rfl⟩
  ·have g:ms.length=m:=by
    have:¬ (((ms.map V.int).length:Nat):Int) < (m:Int):=λz=>g (decide_eq_true z)
    rw [hml] at this
    omega
   have j0:=Int.emod_nonneg (2+(i:Int)) (Int.ne_of_gt hmp)
   have j1:=Int.emod_lt_of_pos (2+(i:Int)) hmp
   obtain ⟨x,ex⟩:∃ x,ms[((2+(i:Int)) % (m:Int)).toNat]?=some x:=⟨_,E3 (by omega)⟩
   have ix:atI (ms.map V.int) ((2+(i:Int)) % (m:Int))=some (.int x):=by
    have:=aN (get_map ex)
    rw [Int.toNat_of_nonneg j0] at this
    exact this
   refine ⟨_,rfl,_,rfl,_,rfl,_,_,rfl,rfl,hmp,l,_,_,_,rfl,rfl,SqL.of el2,ix,_,_,rfl,rfl,.inr ⟨by decide,by decide⟩,_,rfl,_,_,rfl,rfl,?_⟩
   refine ⟨_,rfl,_,_,rfl,rfl,⟨by decide,by decide,by decide⟩,_,_,rfl,rfl,p10 _,_,rfl,_,rfl,_,rfl,_,_,rfl,rfl,hmp,l,_,_,((2+(i:Int)) % (m:Int)).toNat,rfl,rfl,el2,?_,?_⟩
   ·unfold ixN
    rw [if_pos j0,if_pos (by rw [hml];omega)]
   ·exact ⟨sm.upd nl,ms.set ((2+(i:Int)) % (m:Int)).toNat _,_,_,_,by rw [ae,List.map_set],by rw [List.length_set];exact hl,rfl⟩
 ·obtain ⟨sm,ms,c3,c4,c5,el2,hl,rfl⟩:=h
  exact ⟨_,rfl,q l ms H' sm nl el2 hl⟩
theorem O_1 (F:Fun K "__init__" "Domain.__init__" Y1 f fd) (bl:Bl K mg yA yE yN yO yP yQ yR yS yT yU yV yW yX af)  : aQ P w K mg base CX0 1 f fd ["self", "low", "high"] (J1 K yV):=by
 refine F.ok Z1 (λvs H Q E h=>?_) (λcdv A outer s H vs Q E hr h=>?_)
 ·obtain ⟨x,dx,lo,hi,rfl,hx,q⟩:=h
  rfl
 obtain ⟨x,dx,lo,hi,rfl,hx,q⟩:=h
 refine ⟨_,(az (bR (pv 0) (pv 1) rfl)
  (ai (bR (pv 0) (pv 2) rfl))),?_⟩
 refine ⟨_,rfl,_,rfl,x,_,dx,_,rfl,hx,bl.k_Numbers,bl.na_Numbers_low,(by show 0 < 1000;decide),_,rfl,_,rfl,x,_,dx,_,rfl,ae,bl.k_Numbers,bl.na_Numbers_high,(by show 1 < 1000;decide),?_⟩
 show Q .non (upd (upd H x (.ins yV dx [("low",.int lo)])) x (.ins yV dx (bj "high" (.int hi) [("low",.int lo)])))
 rw [put2]
 exact q
theorem O_2 (F:Fun K "__init__" "Domain.__init__" Y2 f fd) (bl:Bl K mg yA yE yN yO yP yQ yR yS yT yU yV yW yX af)  : aQ P w K mg base CX0 1 f fd ["self", "low", "high"] (J2 K yW):=by
 refine F.ok Z2 (λvs H Q E h=>?_) (λcdv A outer s H vs Q E hr h=>?_)
 ·obtain ⟨x,dx,lo,hi,rfl,hx,q⟩:=h
  rfl
 obtain ⟨x,dx,lo,hi,rfl,hx,q⟩:=h
 refine ⟨_,(az (bR (pv 0) (pv 1) rfl)
  (ai (bR (pv 0) (pv 2) rfl))),?_⟩
 refine ⟨_,rfl,_,rfl,x,_,dx,_,rfl,hx,bl.k_Words,bl.na_Words_low,(by show 0 < 1000;decide),_,rfl,_,rfl,x,_,dx,_,rfl,ae,bl.k_Words,bl.na_Words_high,(by show 1 < 1000;decide),?_⟩
 show Q .non (upd (upd H x (.ins yW dx [("low",.int lo)])) x (.ins yW dx (bj "high" (.int hi) [("low",.int lo)])))
 rw [put2]
 exact q
theorem Bs (F:Fun K "__init__" "Way.__init__" Y13 f fd) (bl:Bl K mg yA yE yN yO yP yQ yR yS yT yU yV yW yX af)  : aQ P w K mg base CX0 1 f fd ["self", "called"] (J13 K yO):=by
 refine F.ok Z13 (λvs H Q E h=>?_) (λcdv A outer s H vs Q E hr h=>?_)
 ·obtain ⟨x,dx,z,rfl,hx,q⟩:=h
  rfl
 obtain ⟨x,dx,z,rfl,hx,q⟩:=h
 refine ⟨_,(ai (bR (pv 0) (pv 1) rfl)),?_⟩
 exact ⟨_,rfl,_,rfl,x,_,dx,_,rfl,hx,bl.k_First,bl.na_First_called,(by show 0 < 1000;decide),q⟩
theorem Bt (F:Fun K "__init__" "Way.__init__" Y17 f fd) (bl:Bl K mg yA yE yN yO yP yQ yR yS yT yU yV yW yX af)  : aQ P w K mg base CX0 1 f fd ["self", "called"] (J17 K yP):=by
 refine F.ok Z17 (λvs H Q E h=>?_) (λcdv A outer s H vs Q E hr h=>?_)
 ·obtain ⟨x,dx,z,rfl,hx,q⟩:=h
  rfl
 obtain ⟨x,dx,z,rfl,hx,q⟩:=h
 refine ⟨_,(ai (bR (pv 0) (pv 1) rfl)),?_⟩
 exact ⟨_,rfl,_,rfl,x,_,dx,_,rfl,hx,bl.k_Only,bl.na_Only_called,(by show 0 < 1000;decide),q⟩
theorem Bu (F:Fun K "__init__" "Way.__init__" Y15 f fd) (bl:Bl K mg yA yE yN yO yP yQ yR yS yT yU yV yW yX af)  : aQ P w K mg base CX0 1 f fd ["self", "called"] (J15 K yQ):=by
 refine F.ok Z15 (λvs H Q E h=>?_) (λcdv A outer s H vs Q E hr h=>?_)
 ·obtain ⟨x,dx,z,rfl,hx,q⟩:=h
  rfl
 obtain ⟨x,dx,z,rfl,hx,q⟩:=h
 refine ⟨_,(ai (bR (pv 0) (pv 1) rfl)),?_⟩
 exact ⟨_,rfl,_,rfl,x,_,dx,_,rfl,hx,bl.k_Like,bl.na_Like_called,(by show 0 < 1000;decide),q⟩
theorem Bv (F:Fun K "__init__" "Way.__init__" Y16 f fd) (bl:Bl K mg yA yE yN yO yP yQ yR yS yT yU yV yW yX af)  : aQ P w K mg base CX0 1 f fd ["self", "called"] (J16 K yR):=by
 refine F.ok Z16 (λvs H Q E h=>?_) (λcdv A outer s H vs Q E hr h=>?_)
 ·obtain ⟨x,dx,z,rfl,hx,q⟩:=h
  rfl
 obtain ⟨x,dx,z,rfl,hx,q⟩:=h
 refine ⟨_,(ai (bR (pv 0) (pv 1) rfl)),?_⟩
 exact ⟨_,rfl,_,rfl,x,_,dx,_,rfl,hx,bl.k_Low,bl.na_Low_called,(by show 0 < 1000;decide),q⟩
theorem Bw (F:Fun K "__init__" "Way.__init__" Y14 f fd) (bl:Bl K mg yA yE yN yO yP yQ yR yS yT yU yV yW yX af)  : aQ P w K mg base CX0 1 f fd ["self", "called"] (J14 K yS):=by
 refine F.ok Z14 (λvs H Q E h=>?_) (λcdv A outer s H vs Q E hr h=>?_)
 ·obtain ⟨x,dx,z,rfl,hx,q⟩:=h
  rfl
 obtain ⟨x,dx,z,rfl,hx,q⟩:=h
 refine ⟨_,(ai (bR (pv 0) (pv 1) rfl)),?_⟩
 exact ⟨_,rfl,_,rfl,x,_,dx,_,rfl,hx,bl.k_High,bl.na_High_called,(by show 0 < 1000;decide),q⟩
theorem Bx (F:Fun K "__init__" "Way.__init__" Y18 f fd) (bl:Bl K mg yA yE yN yO yP yQ yR yS yT yU yV yW yX af)  : aQ P w K mg base CX0 1 f fd ["self", "called"] (J18 K yT):=by
 refine F.ok Z18 (λvs H Q E h=>?_) (λcdv A outer s H vs Q E hr h=>?_)
 ·obtain ⟨x,dx,z,rfl,hx,q⟩:=h
  rfl
 obtain ⟨x,dx,z,rfl,hx,q⟩:=h
 refine ⟨_,(ai (bR (pv 0) (pv 1) rfl)),?_⟩
 exact ⟨_,rfl,_,rfl,x,_,dx,_,rfl,hx,bl.k_Sum,bl.na_Sum_called,(by show 0 < 1000;decide),q⟩
theorem By (F:Fun K "is_word" "is_word" Y30 f fd) (bl:Bl K mg yA yE yN yO yP yQ yR yS yT yU yV yW yX af) (oG:Callee P w K mg base 1 "all_among" ["text", "signs"] (J21 K)):aQ P w K mg base CX0 2 f fd ["text"] (J30 K):=by
 refine F.ok Z30 (λvs H Q E h=>?_) (λcdv A outer s H vs Q E hr h=>?_)
 ·obtain ⟨z,rfl,hz,q⟩:=h
  rfl
 obtain ⟨z,rfl,hz,q⟩:=h
 refine ⟨_,(ai (aP (gu (jW dO dO aj (aC ml rfl bl.len_ PySem.boot_len (aa (pv 0) ag)) (ke rfl bl.MOST_SIGNS_)) (gu (jr u9 (pv 0) bM (aS _)) (iO (aU oG hr rfl (aa (pv 0) (aa (ke rfl bl.SMALL_LETTERS_) ag)))))))),?_⟩
 refine ⟨_,rfl,_,rfl,big hz,_,_,rfl,rfl,_,rfl,?_⟩
 refine cP (λg1=>?_) (λg1=>?_)
 ·refine ⟨_,_,rfl,rfl,_,rfl,?_⟩
  refine cP (λg2=>?_) (λg2=>?_)
  ·refine ⟨_,rfl,rfl,_,rfl,?_⟩
   refine cP (λg3=>?_) (λg3=>?_)
   ·refine ⟨_,rfl,z,lets,rfl,?_⟩
    have e:isw z=kf z lets:=by unfold isw;rw [g1,g2,g3];rfl
    rw [e] at q;exact q
   ·have e:isw z=false:=by unfold isw;rw [Bool.eq_false_iff.mpr g3,Bool.false_and,Bool.and_false,Bool.and_false]
    rw [e] at q;exact q
  ·have e:isw z=false:=by unfold isw;rw [Bool.eq_false_iff.mpr g2,Bool.false_and,Bool.and_false]
   rw [e] at q;exact q
 ·have e:isw z=false:=by unfold isw;rw [Bool.eq_false_iff.mpr g1,Bool.false_and]
  rw [e] at q;exact ⟨_,rfl,cz q⟩
theorem Bz (F:Fun K "refuse_domains" "refuse_domains" Y55 f fd) (bl:Bl K mg yA yE yN yO yP yQ yR yS yT yU yV yW yX af) (uO:Callee P w K mg base 1 "alike" ["one", "other"] (J20 K yV yW)):aQ P w K mg base CX0 2 f fd ["facts", "tables"] (J55 K yV yW yX):=by
 refine F.ok Z55 (λvs H Q E h=>?_) (λcdv A outer s H vs Q E hr h=>?_)
 ·obtain ⟨fa,ma,fv,mv,zs,ds,ts,fN,L,rfl,efa,ema,hB,q⟩:=h
  rfl
 obtain ⟨fa,ma,fv,mv,zs,ds,ts,fN,L,rfl,efa,ema,hB,q⟩:=h
 refine ⟨_,(aD (aI (i:=2) Z55.nd rfl (Or.inl rfl) (bw (pE rfl) rfl bl.dict_ PyProof.Rows.boot_dict (aa (aG iU (pv 0) (aZ (aK (pv 1)) (bP rfl (by decide +kernel) (by decide +kernel) (by decide +kernel) rfl) rfl (λ_ _ _ _=>aW) (λ_ _ _ _=>(bN (aa (cE (K:=K) rfl (pv 0) rfl) (aa (cE (K:=K) rfl (pv 0) rfl) ag)))))) ag)))
  (ai (bp PassesOwn.never rfl (aK (pv 1)) (aE (i:=3) Z55.nd rfl (Or.inl rfl))
  (ai (bp PassesOwn.never rfl (sf rfl bl.zip_ (aa (bu (pv 3) rfl) (aa (bu (pv 3) rfl) ag))) (cA rfl (aH (aE (i:=4) Z55.nd rfl (Or.inl rfl)) (aH (aE (i:=5) Z55.nd rfl (Or.inl rfl)) bA)))
  (ai (ba (d8 (cR (aU uO hr rfl (aa (pv 5) (aa (aJ uD (pv 2) (pv 4) (λ_ _=>rfl)) ag)))))
  (ai bf)
  aM))))))),?_⟩
 obtain ⟨b1,b2,b3⟩:=hB.few
 have hfl:fv.length=fN:=by rw [hB.facts.1,List.length_range]
 have hml:mv.length=L.length:=hB.tabs.1
 have hzd:=hB.ok.len
 refine ⟨λσ' H'=>aq H H'/\∃ (da:Addr) (kvs:List (Str × V)),H' da=some (.dK (kvT kvs))/\A9 yV yW H' zs ds kvs/\σ'=[some (.ref fa),some (.ref ma),some (.ref da),none,none,none],?_,?_⟩
 ·refine ⟨_,rfl,_,rfl,ma,rfl,⟨_,SqL.of ema⟩,aX (xs:=mv) (λD i ys H'=>aq H H'/\H' D=some (.lst ys)/\ys.length=i/\∀ (j k:Nat),j < i->L[j]?=some k->∃ (t:Addr) (po:PD) (d:Addr),ys[j]?=some (.ref t)/\ds[fN+k]?=some po/\H' t=some (.tup [.str (tnm zs fN k),.ref d])/\fV yV yW H d po.k) (λD hD=>⟨ah hD _,ae,rfl,λj k hj=>by omega⟩) (λD i ys H' hD _ h=>SqL.of (h.1 _ _ ema)) (λD i y ys H' hD e h=>?_) (λD ys H' hD h=>?_)⟩
  ·obtain ⟨sm,eD,hl,hy⟩:=h
   obtain ⟨t_,k,rfl,ek,tt,nm,po,ou,dv,g1,g2,g3,g4,g5,g6⟩:=ao.get hB.tabs e
   obtain ⟨rl,dx,na,dl,fs,xs,ht,f1,f2,f3,f4,f5,f6,ena,edl,erl,hR,fX⟩:=g4
   have hi:i < mv.length:=(E4.mp e).1
   refine ⟨_,rfl,t_,_,_,_,_,rfl,sm _ _ ht,bl.k_Table,bl.na_Table_name,f2,_,rfl,t_,_,_,_,_,rfl,sm _ _ ht,bl.k_Table,bl.na_Table_outcome,f4,bS,λp hp=>?_⟩
   have u:=ah hp (.tup [.str nm,.ref ou])
   have ep:upd H' p (.tup [.str nm,.ref ou]) p=some (.tup [.str nm,.ref ou]):=ae
   generalize upd H' p (.tup [.str nm,.ref ou])=H2 at u ep ⊢
   have eD2:=u _ _ eD
   refine bK.mk hi eD2 (ay (by omega)) ⟨(sm.trans u).upd hD,ae,by rw [List.length_append,hl];rfl,λj k' hj ek'=>?_⟩
   by_cases hji:j < i
   ·obtain ⟨t,po',d,h1,h2,h3,h4⟩:=hy j k' hji ek'
    have h3':=u _ _ h3
    exact ⟨t,po',d,by rw [List.getElem?_append_left (by omega)];exact h1,h2,(au (bV h3' eD2 (by intro z;cases z))).trans h3',h4⟩
   ·have hj2:j=i:=by omega
    subst hj2
    rw [ek] at ek'
    cases ek'
    refine ⟨p,po,ou,by rw [List.getElem?_append_right (by omega),hl,Nat.sub_self];rfl,g3,?_,g6⟩
    rw [cw g2]
    exact (au (bV ep eD2 (by intro z;cases z))).trans ep
  ·obtain ⟨sm,eD,hl,hy⟩:=h
   rw [hml] at hl
   refine ⟨fa,D,_,_,rfl,rfl,sm _ _ efa,eD,Nat.le_of_lt (ay (by omega)),λp hp=>?_⟩
   have u:=ah hp (.lst (fv ++ ys))
   have ep:upd H' p (.lst (fv ++ ys)) p=some (.lst (fv ++ ys)):=ae
   generalize upd H' p (.lst (fv ++ ys))=H2 at u ep ⊢
   have s2:=sm.trans u
   obtain ⟨kvs,hkl,hkv⟩:=mC (P:=λj (a:Str × V)=>∃ (t:Addr) (d:Addr) (po:PD),(fv ++ ys)[j]?=some (.ref t)/\H2 t=some (.tup [.str a.1,.ref d])/\a.2=.ref d/\(bnm zs fN L)[j]?=some a.1/\fV yV yW H2 d po.k/\∀ (i:Nat),zs[i]?=some a.1->ds[i]?=some po) (fN+L.length) λj hj=>by
    by_cases hjf:j < fN
    ·obtain ⟨r,er,nm,po,d,h1,h2,h3,h4⟩:=hB.facts.2 j j (List.getElem?_range hjf)
     refine ⟨(nm,.ref d),r,d,po,by rw [List.getElem?_append_left (by omega)];exact er,s2 _ _ h3,rfl,?_,h4.same s2,λi ei=>?_⟩
     ·unfold bnm
      rw [List.getElem?_append_left (by rw [List.length_take];omega),List.getElem?_take,if_pos hjf]
      exact h1
     ·rw [cH hB.ok.nd ei h1];exact h2
    ·have hjl:j - fN < L.length:=by omega
     have ek:=E3 hjl
     obtain ⟨t,po,d,h1,h2,h3,h4⟩:=hy (j - fN) _ (by omega) ek
     have htn:=hB.tn (E5 ek)
     refine ⟨(tnm zs fN L[j - fN],.ref d),t,d,po,by rw [List.getElem?_append_right (by omega),hfl];exact h1,u _ _ h3,rfl,?_,h4.same s2,λi ei=>?_⟩
     ·unfold bnm
      rw [List.getElem?_append_right (by rw [List.length_take];omega),List.length_take,show j - min fN zs.length=j - fN by omega,List.getElem?_map,ek]
      rfl
     ·rw [cH hB.ok.nd ei htn];exact h2
   have oo:kvs.map (·.1)=bnm zs fN L:=by
    refine List.ext_getElem? λj=>?_
    rw [List.getElem?_map]
    cases e:kvs[j]? with
    | none =>
     have hlj:kvs.length<=j:=by rw [List.getElem?_eq_none_iff] at e;exact e
     rw [List.getElem?_eq_none (by unfold bnm;rw [List.length_append,List.length_take,List.length_map];omega)]
     rfl
    | some a =>
     obtain ⟨t,d,po,_,_,_,e4,_⟩:=hkv j a e
     rw [e4];rfl
   refine ⟨p,fv ++ ys,kvs,rfl,ep,by rw [List.length_append,hkl];omega,λj a ea=>?_,by rw [oo];exact hB.bnd_,λda hda=>?_⟩
   ·obtain ⟨t,d,po,e1,e2,e3,_⟩:=hkv j a ea
    exact ⟨t,e1,by rw [e3];exact e2⟩
   ·have u2:=ah hda (.dK (kvT kvs))
    refine ⟨s2.trans u2,da,kvs,ae,λj z po ez ed=>?_,rfl⟩
    have hm:=hB.has (E5 ez)
    rw [← oo] at hm
    obtain ⟨a,ha,rfl⟩:=List.mem_map.mp hm
    obtain ⟨i,ei⟩:=List.getElem?_of_mem ha
    obtain ⟨t,d,po',e1,e2,e3,e4,e5,e6⟩:=hkv i a ei
    have:=e6 j ez
    rw [ed] at this
    cases this
    refine ⟨d,?_,e5.same u2⟩
    rw [← e3]
    exact uM (by rw [oo];exact hB.bnd_) ei
 rintro σ1 H1 ⟨s1,da,kvs,eda,BA,rfl⟩
 refine ⟨_,rfl,ma,rfl,⟨_,SqL.of (s1 _ _ ema)⟩,bg (xs:=mv) (λi σ H'=>aq H1 H'/\∃ c3 c4 c5:Option V,σ=[some (.ref fa),some (.ref ma),some (.ref da),c3,c4,c5]) ⟨aq.refl _,_,_,_,rfl⟩ (λi σ H' _ h=>SqL.of (h.1 _ _ (s1 _ _ ema))) (λi y σ H' e h=>?_) (λσ H' h=>q H' (s1.trans h.1))⟩
 obtain ⟨sm,c3,c4,c5,rfl⟩:=h
 obtain ⟨t_,k,rfl,ek,tt,nm,po,ou,dv,g1,g2,g3,g4,g5,g6⟩:=ao.get hB.tabs e
 obtain ⟨rl,dx,na,dl,fs,xs,ht,f1,f2,f3,f4,f5,f6,ena,edl,erl,hR,fX⟩:=g4
 have sA:=s1.trans sm
 have hlt:=hB.ok.lt g1
 have ltz:∀ j ∈ tt.cols,j < zs.length:=λj hj=>by rw [hzd];exact hlt j hj
 have gz:=bL (os:=tt.cols) (xs:=zs) ltz
 have gk:=bL (os:=tt.cols) (xs:=ds.map PD.k) λj hj=>by rw [List.length_map];exact hlt j hj
 refine ⟨_,rfl,t_,_,_,_,_,rfl,sA _ _ ht,bl.k_Table,bl.na_Table_names,f5,_,rfl,t_,_,_,_,_,rfl,sA _ _ ht,bl.k_Table,bl.na_Table_domains,f6,na,dl,rfl,⟨_,SqL.of (sA _ _ ena)⟩,⟨_,SqL.of (sA _ _ edl)⟩,qg (xs:=(prm tt.cols zs).map V.str) (ys:=dv) (λi σ H2=>aq H' H2/\∃ c4 c5:Option V,σ=[some (.ref fa),some (.ref ma),some (.ref da),some (.ref t_),c4,c5]) ⟨aq.refl _,_,_,rfl⟩ (λi σ H2 h=>⟨SqL.of ((sA.trans h.1) _ _ ena),SqL.of ((sA.trans h.1) _ _ edl)⟩) (λi x y σ H2 T ex ey h hT=>?_) (λσ H2 h=>⟨sm.trans h.1,let ⟨c4,c5,e⟩:=h.2;⟨_,c4,c5,e⟩⟩)⟩
 obtain ⟨s2,d4,d5,rfl⟩:=h
 obtain ⟨z,rfl,ez⟩:=cG ex
 obtain ⟨a,kk,rfl,ekk,ha⟩:=ao.get g5 ey
 have hi:i < tt.cols.length:=by rw [← gz.1];exact (E4.mp ez).1
 have ec:=E3 hi
 rw [gz.2 i _ ec] at ez
 rw [gk.2 i _ ec,List.getElem?_map] at ekk
 obtain ⟨p,ep⟩:∃ p,ds[tt.cols[i]]?=some p:=⟨_,E3 (hlt _ (E5 ec))⟩
 rw [ep] at ekk
 cases ekk
 obtain ⟨d,hd1,hd2⟩:=BA _ z p ez ep
 have u:=ah hT (.tup [.str z,.ref a])
 have eT:upd H2 T (.tup [.str z,.ref a]) T=some (.tup [.str z,.ref a]):=ae
 generalize upd H2 T (.tup [.str z,.ref a])=H3 at u eT ⊢
 have sB:=(sm.trans s2).trans u
 refine ⟨T,_,rfl,SqT.of eT,rfl,_,_,rfl,_,_,rfl,rfl,?_⟩
 exact ⟨_,rfl,_,rfl,_,rfl,da,kvs,z,.ref d,rfl,rfl,sB _ _ eda,hd1,a,d,p.k,rfl,(ha.same s1).same sB,hd2.same sB,_,rfl,cz ⟨s2.trans u,_,_,rfl⟩⟩
theorem BB (F:Fun K "refuse_rings" "refuse_rings" Y58 f fd) (bl:Bl K mg yA yE yN yO yP yQ yR yS yT yU yV yW yX af) (dM:Callee P w K mg base 1 "named_among" ["table", "names"] (J47 K yX)):aQ P w K mg base CX0 2 f fd ["tables"] (J58 K yV yW yX):=by
 refine F.ok Z58 (λvs H Q E h=>?_) (λcdv A outer s H vs Q E hr h=>?_)
 ·obtain ⟨ma,mv,zs,ds,ts,fN,L,rfl,ema,ok,hm,hlt,h7,q⟩:=h
  rfl
 obtain ⟨ma,mv,zs,ds,ts,fN,L,rfl,ema,ok,hm,hlt,h7,q⟩:=h
 refine ⟨_,(az (aI (i:=1) Z58.nd rfl (Or.inl rfl) (pv 0))
  (ai (rA PassesOwn.never (nO (pv 1) (by intro _;rfl))
  (aD (aI (i:=2) Z58.nd rfl (Or.inr rfl) (aZ (aK (pv 1)) (bP rfl (by decide +kernel) (by decide +kernel) (by decide +kernel) rfl) rfl (λ_ _ _ _=>aW) (λ_ _ _ _=>(cE (K:=K) rfl (pv 0) rfl))))
  (aD (il (i:=3) Z58.nd rfl (Or.inl rfl) (aK (pv 1)) (aR (N:=["table", "names"]) (fr:=[2]) (cl:=[("names",s.heap.objs.size+1)]) rfl rfl (by decide +kernel) (by decide +kernel) rfl (by decide +kernel) rfl rfl rfl (List.forall_mem_cons.mpr ⟨rfl,List.forall_mem_nil _⟩) rfl) rfl (λ_ _ _ _=>(cX (qW (K:=K) rfl (aU dM hr rfl (aa (pv 0) (aa (pv 1) ag)))))) (λ_ _ _ _=>(pv 0)))
  (az (ba (aL cO (aC aw rfl bl.len_ PySem.boot_len (aa (pv 3) ag)) (aC aw rfl bl.len_ PySem.boot_len (aa (pv 1) ag)) (aS _))
  (ai bf)
  aM)
  (ai (aI (i:=1) Z58.nd rfl (Or.inl rfl) (pv 3))))))))),?_⟩
 refine ⟨_,rfl,?_⟩
 refine ⟨λm σ H'=>aq H H'/\∃ (la:Addr) (lv:List V) (L' : List Nat) (c2 c3:Option V),H' la=some (.lst lv)/\ao lv L' (TbA yX yV yW H zs ds ts fN)/\(∀ k ∈ L',k < ts.length)/\L'.length=m/\m<=7/\σ=[some (.ref ma),some (.ref la),c2,c3],⟨_,aq.refl _,ma,mv,L,_,_,ema,hm,hlt,rfl,h7,rfl⟩,?_⟩
 rintro m σ H1 ⟨s1,la,lv,L',c2,c3,ela,hv,zf,hlen,hm7,rfl⟩
 have hvl:lv.length=L'.length:=hv.1
 by_cases hne:L'=[]
 ·have elv:lv=[]:=List.length_eq_zero_iff.mp (by rw [hvl,hne];rfl)
  subst elv
  exact ⟨_,rfl,false,.inl ⟨_,SqL.of ela,rfl⟩,cz (q H1 s1)⟩
 have hb:(!lv.isEmpty)=true:=by
  cases lv with
  | nil=>exact absurd (List.length_eq_zero_iff.mp hvl.symm) hne
  | cons=>rfl
 refine ⟨_,rfl,true,.inl ⟨_,SqL.of ela,hb.symm⟩,fU ⟨λσ' H'=>∃ m',m' < m/\aq H H'/\∃ (la:Addr) (lv:List V) (L' : List Nat) (c2 c3:Option V),H' la=some (.lst lv)/\ao lv L' (TbA yX yV yW H zs ds ts fN)/\(∀ k ∈ L',k < ts.length)/\L'.length=m'/\m'<=7/\σ'=[some (.ref ma),some (.ref la),c2,c3],λ_ _ h=>h,?_⟩⟩
 refine ⟨λσ' H'=>aq H1 H'/\∃ na:Addr,H' na=some (.lst ((L'.map (tnm zs fN)).map V.str))/\σ'=[some (.ref ma),some (.ref la),some (.ref na),c3],?_,?_⟩
 ·refine ⟨_,rfl,la,rfl,⟨_,SqL.of ela⟩,aX (xs:=lv) (λD2 i ys H2=>aq H1 H2/\H2 D2=some (.lst ys)/\ys=((L'.take i).map (tnm zs fN)).map V.str) (λD2 hD2=>⟨ah hD2 _,ae,rfl⟩) (λD2 i ys H2 hD2 _ h=>SqL.of (h.1 _ _ ela)) (λD2 i y ys H2 hD2 e h=>?_) (λD2 ys H2 hD2 h=>?_)⟩
  ·obtain ⟨s2,eD2,rfl⟩:=h
   obtain ⟨t_,k,rfl,ek,tt,nm,po,ou,dv,g1,g2,g3,g4,g5,g6⟩:=ao.get hv e
   obtain ⟨rl,dx,na,dl,fs,xs,ht,f1,f2,f3,f4,f5,f6,ena,edl,erl,hR,fX⟩:=g4
   have hi:i < lv.length:=(E4.mp e).1
   refine ⟨_,rfl,t_,_,_,_,_,rfl,(s1.trans s2) _ _ ht,bl.k_Table,bl.na_Table_name,f2,bK.mk hi eD2 (ay (by rw [List.length_map,List.length_map,List.length_take];omega)) ⟨s2.upd hD2,ae,?_⟩⟩
   rw [take_snoc ek,List.map_append,List.map_append]
   show _ ++ [V.str nm]=_ ++ [V.str (tnm zs fN k)]
   rw [cw g2]
  ·obtain ⟨s2,eD2,rfl⟩:=h
   rw [hvl,List.take_length] at eD2
   exact ⟨s2,D2,eD2,rfl⟩
 rintro σ2 H2 ⟨s2,na,ena,rfl⟩
 have s12:=s1.trans s2
 refine ⟨λσ' H'=>aq H2 H'/\∃ (wa:Addr) (wv:List V),H' wa=some (.lst wv)/\ao wv (L'.filter (wts ts fN L')) (TbA yX yV yW H zs ds ts fN)/\σ'=[some (.ref ma),some (.ref la),some (.ref na),some (.ref wa)],?_,?_⟩
 ·refine ⟨_,rfl,la,rfl,⟨_,SqL.of (s2 _ _ ela)⟩,aX (xs:=lv) (λD2 i ys H3=>aq H2 H3/\H3 D2=some (.lst ys)/\ao ys ((L'.take i).filter (wts ts fN L')) (TbA yX yV yW H zs ds ts fN)) (λD2 hD2=>⟨ah hD2 _,ae,ao.nil⟩) (λD2 i ys H3 hD2 _ h=>SqL.of ((s2.trans h.1) _ _ ela)) (λD2 i y ys H3 hD2 e h=>?_) (λD2 ys H3 hD2 h=>?_)⟩
  ·obtain ⟨s3,eD2,hy⟩:=h
   obtain ⟨t_,k,rfl,ek,hT⟩:=ao.get hv e
   obtain ⟨tt,nm,po,ou,dv,g1,g2,g3,g4,g5,g6⟩:=id hT
   have hi:i < lv.length:=(E4.mp e).1
   have sA:=s12.trans s3
   have hcl:=(ok.tabs k tt g1).ok.few
   have hcl:tt.cols.length<=3:=hcl
   have hpl:(prm tt.cols zs).length=tt.cols.length:=(bL (os:=tt.cols) (xs:=zs) λj hj=>by rw [ok.len];exact ok.lt g1 j hj).1
   refine ⟨_,rfl,_,rfl,t_,na,ou,nm,tt.way,prm tt.cols zs,L'.map (tnm zs fN),dv,tt.rows,rfl,g4.same sA,s3 _ _ ena,by omega,λl H4 s4 nl el=>?_⟩
   have hw:=rf ok zf g1
   have eD4:=s4 _ _ eD2
   have hfl:((L'.take i).filter (wts ts fN L')).length<=i:=Nat.le_trans (List.length_filter_le ..) (by rw [List.length_take];omega)
   have hf:((L'.take (i+1)).filter (wts ts fN L'))=((L'.take i).filter (wts ts fN L')) ++ (if wts ts fN L' k then [k] else []):=by
    rw [take_snoc ek,List.filter_append]
    congr 1
    cases h:wts ts fN L' k with
    | true=>rw [List.filter_cons_of_pos h,List.filter_nil];rfl
    | false=>rw [List.filter_cons_of_neg (by rw [h];exact Bool.false_ne_true),List.filter_nil];rfl
   refine ⟨wts ts fN L' k,.inl ⟨_,SqL.of el,?_⟩,?_⟩
   ·rw [← hw]
    cases (prm tt.cols zs).filter λz=>(L'.map (tnm zs fN)).contains z <;> rfl
   cases hc:wts ts fN L' k with
   | true =>
    rw [hc] at hf
    refine fU ⟨_,rfl,bK.mk hi eD4 (ay (by rw [hy.1];omega)) ⟨(s3.trans s4).upd hD2,ae,?_⟩⟩
    rw [hf]
    exact ao.snoc hy hT
   | false =>
    rw [hc] at hf
    refine cz (cU.mk (zs:=ys) hi ⟨s3.trans s4,eD4,?_⟩)
    rw [hf]
    simpa using hy
  ·obtain ⟨s3,eD2,hy⟩:=h
   rw [hvl,List.take_length] at hy
   exact ⟨s3,D2,ys,eD2,hy,rfl⟩
 rintro σ3 H3 ⟨s3,wa,wv,ewa,hw,rfl⟩
 have zg:=sL ok hne
 have hwl:wv.length=(L'.filter (wts ts fN L')).length:=hw.1
 refine ⟨_,rfl,wa,_,rfl,.inl (SqL.of ewa),_,rfl,la,_,rfl,.inl (SqL.of (s3 _ _ (s2 _ _ ela))),rfl,_,rfl,dh (λz=>by injection z with z;omega) ?_⟩
 exact ⟨_,rfl,_,by rw [← hlen];exact zg,s12.trans s3,wa,wv,_,_,_,ewa,hw,(λk hk=>zf k (List.mem_filter.mp hk).1),rfl,by omega,rfl⟩
theorem BC (F:Fun K "asks" "asks" Y22 f fd) (bl:Bl K mg yA yE yN yO yP yQ yR yS yT yU yV yW yX af) (dM:Callee P w K mg base 1 "named_among" ["table", "names"] (J47 K yX)) (gF:CalleeX P w K mg base 1 "table_of" ["book", "name"] (J61 K yE yV yW yX af)):aQ P w K mg base (CX1 P w) 2 f fd ["book", "name"] (J22 K yE yV yW yX af):=by
 refine F.okE Z22 (λvs H Q E h=>?_) (λcdv A outer s H vs Q E hr h=>?_)
 ·obtain ⟨b,nm,zs,ds,ts,fN,mv,L,rfl,hB,hs,q,qE⟩:=h
  rfl
 obtain ⟨b,nm,zs,ds,ts,fN,mv,L,rfl,hB,hs,q,qE⟩:=h
 refine ⟨_,(ai (aP (aU dM hr rfl (aa (cq gF gm hr rfl (aa (pv 0) (aa (pv 1) ag))) (aa (aZ (aK (bu (pv 0) rfl)) (bP rfl (by decide +kernel) (by decide +kernel) (by decide +kernel) rfl) rfl (λ_ _ _ _=>aW) (λ_ _ _ _=>(cE (K:=K) rfl (pv 0) rfl))) ag))))),?_⟩
 obtain ⟨dx,fs,ta,fb,gv,hb,ft,eta,_⟩:=hB.bk
 have hml:mv.length=L.length:=hB.tabs.1
 have h7:=hB.few
 refine ⟨_,rfl,_,rfl,b,nm,zs,ds,ts,fN,mv,L,rfl,hB,hs,λa k _ _ _ hk hn hT=>?_,qE⟩
 obtain ⟨tt,nm2,po,ou,dv,g1,g2,g3,g4,g5,g6⟩:=id hT
 have hcl:tt.cols.length<=3:=(hB.ok.tabs k tt g1).ok.few
 have hpl:(prm tt.cols zs).length=tt.cols.length:=(bL (os:=tt.cols) (xs:=zs) λj hj=>by rw [hB.ok.len];exact hB.ok.lt g1 j hj).1
 refine ⟨_,rfl,b,_,_,_,_,rfl,hb,bl.k_Book,bl.na_Book_tables,ft,ta,rfl,⟨_,SqL.of eta⟩,aX (xs:=mv) (λD2 i ys H2=>aq H H2/\H2 D2=some (.lst ys)/\ys=((L.take i).map (tnm zs fN)).map V.str) (λD2 hD2=>⟨ah hD2 _,ae,rfl⟩) (λD2 i ys H2 hD2 _ h=>SqL.of (h.1 _ _ eta)) (λD2 i y ys H2 hD2 e h=>?_) (λD2 ys H2 hD2 h=>?_)⟩
 ·obtain ⟨s2,eD2,rfl⟩:=h
  obtain ⟨t_,k,rfl,ek,tt,nm,po,ou,dv,g1,g2,g3,g4,g5,g6⟩:=ao.get hB.tabs e
  obtain ⟨rl,dx,na,dl,fs,xs,ht,f1,f2,f3,f4,f5,f6,ena,edl,erl,hR,fX⟩:=g4
  have hi:i < mv.length:=(E4.mp e).1
  refine ⟨_,rfl,t_,_,_,_,_,rfl,s2 _ _ ht,bl.k_Table,bl.na_Table_name,f2,bK.mk hi eD2 (ay (by rw [List.length_map,List.length_map,List.length_take];omega)) ⟨s2.upd hD2,ae,?_⟩⟩
  rw [take_snoc ek,List.map_append,List.map_append]
  show _ ++ [V.str nm]=_ ++ [V.str (tnm zs fN k)]
  rw [cw g2]
 ·obtain ⟨s2,eD2,rfl⟩:=h
  rw [hml,List.take_length] at eD2
  exact ⟨a,D2,ou,nm2,tt.way,prm tt.cols zs,L.map (tnm zs fN),dv,tt.rows,rfl,g4.same s2,eD2,by omega,λl H4 s4 nl el=>q k tt l H4 hk hn g1 (s2.trans s4) (s2.free nl) el⟩
theorem BD (F:Fun K "column_marks" "column_marks" Y25 f fd) (bl:Bl K mg yA yE yN yO yP yQ yR yS yT yU yV yW yX af) (gG:Callee P w K mg base 1 "gathered" ["lists"] (J28 K)) (uP:Callee P w K mg base 1 "edges" ["spans", "low", "high"] (J26 K)):aQ P w K mg base CX0 2 f fd ["table", "column"] (J25 K yV yW yX):=by
 refine F.ok Z25 (λvs H Q E h=>?_) (λcdv A outer s H vs Q E hr h=>?_)
 ·obtain ⟨a,c,k,f_,zs,ds,ts,fN,t,p,rfl,ok,hT,et,ec,ep,hp3,q⟩:=h
  rfl
 obtain ⟨a,c,k,f_,zs,ds,ts,fN,t,p,rfl,ok,hT,et,ec,ep,hp3,q⟩:=h
 refine ⟨_,(az (aI (i:=2) Z25.nd rfl (Or.inr rfl) (aJ aO (bu (pv 0) rfl) (pv 1) (λ_ _=>rfl)))
  (ai (aP (aU gG hr rfl (aa (df (aK (bu (pv 0) rfl)) (fq (N:=["cells", "code", "column", "domain"]) (k:=2) (fr:=[1,2]) (cl:=[("domain",s.heap.objs.size+1+1),("column",s.heap.objs.size+1)]) rfl rfl (by decide +kernel) (by decide +kernel) rfl rfl (List.forall_mem_cons.mpr ⟨rfl,List.forall_mem_cons.mpr ⟨rfl,List.forall_mem_nil _⟩⟩) rfl) rfl (λ_ _ _ _=>(lK (K:=K) (n:=2) rfl rfl (aH (aE (i:=0) (show (["cells", "code", "column", "domain"]:List Str).Nodup by decide +kernel) rfl (Or.inl rfl) (Or.inr rfl)) (aH (aE (i:=1) (show (["cells", "code", "column", "domain"]:List Str).Nodup by decide +kernel) rfl (Or.inl rfl) (Or.inr rfl)) bA)))) (λ_ _ _ _=>aW) (λ_ _ _ _=>(aU uP hr rfl (aa (aJ (cc (K:=K) rfl) (pv 0) (pv 2) (λ_ _=>rfl)) (aa (cE (K:=K) rfl (pv 3) rfl) (aa (cE (K:=K) rfl (pv 3) rfl) ag)))))) ag))))),?_⟩
 have hdf:∀ (C:Addr),(C=yV\/C=yW)->Cls K C/\aY K C (Str.ofString "low")/\aY K C (Str.ofString "high"):=λC h=>by
  rcases h with rfl | rfl
  ·exact ⟨bl.k_Numbers,bl.na_Numbers_low,bl.na_Numbers_high⟩
  ·exact ⟨bl.k_Words,bl.na_Words_low,bl.na_Words_high⟩
 obtain ⟨tt,nm,po,ou,dv,g1,g2,g3,g4,g5,g6⟩:=hT
 rw [et] at g1
 cases g1
 obtain ⟨rl,dx,na,dl,fs,xs,ht,f1,f2,f3,f4,f5,f6,ena,edl,erl,hR,fX⟩:=g4
 have hlt:=ok.lt et
 have hc:c < t.cols.length:=(E4.mp ec).1
 have gk:=bL (os:=t.cols) (xs:=ds.map PD.k) λj hj=>by rw [List.length_map];exact hlt j hj
 have epk:(prm t.cols (ds.map PD.k))[c]?=some p.k:=by rw [gk.2 c f_ ec,List.getElem?_map,ep];rfl
 obtain ⟨d,ed,hd⟩:=g5.2 c _ epk
 obtain ⟨C,hC,dx2,fs2,hd2,l1,l2⟩:=oB hd
 obtain ⟨k1,k2,k3⟩:=hdf C hC
 refine ⟨_,rfl,a,_,_,_,_,rfl,ht,bl.k_Table,bl.na_Table_domains,f6,_,rfl,dl,_,_,_,rfl,rfl,SqL.of edl,aN ed,?_⟩
 have hxl:xs.length=t.rows.length:=hR.1
 refine ⟨_,rfl,a,_,_,_,_,rfl,ht,bl.k_Table,bl.na_Table_rows,f1,rl,rfl,⟨_,SqL.of erl⟩,bX (xs:=xs) (λD i ys H'=>aq H H'/\H' D=some (.lst ys)/\∃ ess:List (List Int),ao ys ess (PlB (Fr H D) H')/\ess.length=i/\(∀ es ∈ ess,es.length<=4)/\∀ (j:Nat) (es:List Int) (w:Rw) (ps:Prs),ess[j]?=some es->t.rows[j]?=some w->w.1[c]?=some ps->es=(ends ps).filter (λt=>decide (p.lo < t) && decide (t<=p.hi))) (λD hD=>⟨ah hD _,ae,[],ao.nil,rfl,(λes he=>by cases he),(λj es w ps e=>by simp at e)⟩) (λD i ys H' hD _ h=>SqL.of (h.1 _ _ erl)) (λD i y ys H' hD e h ts_ hts=>?_) (λD ys H' hD h=>?_)⟩
 ·obtain ⟨sm,eD,ess,hy,hel,h4,hes⟩:=h
  obtain ⟨r,w_,rfl,ew,ce,cv,q1,_,q2,q3⟩:=ao.get (hR.same sm) e
  have hi:i < xs.length:=(E4.mp e).1
  obtain ⟨t0,t1,rfl⟩:∃ t0 t1,ts_=[t0,t1]:=by
   match ts_,hts with
   | [t0,t1],_=>exact ⟨t0,t1,rfl⟩
  have fit:=(ok.tabs k t et).rows w_ (E5 ew)
  have hcw:c < w_.1.length:=by rw [fit.len];exact hc
  have eps:=E3 hcw
  generalize w_.1[c]=ps at eps
  obtain ⟨lc,elc,_,yv,eyv,hyv⟩:=q3.2 c ps eps
  have BE:=fit.few ps (E5 eps)
  have hyl:=hyv.length
  refine ⟨r,_,rfl,SqT.of q1,rfl,_,_,rfl,_,_,rfl,rfl,⟨[some (.ref ce),some (.int w_.2)],rfl,rfl⟩,?_⟩
  refine ⟨_,rfl,_,rfl,ce,_,_,_,rfl,rfl,SqL.of q2,aN elc,_,rfl,d,_,_,_,_,rfl,sm _ _ hd2,k1,k2,l1,_,rfl,d,_,_,_,_,rfl,sm _ _ hd2,k1,k3,l2,lc,yv,ps,p.lo,p.hi,rfl,SqL.of eyv,hyv,by omega,λr2 H2 es s2 n2 e2 he=>?_⟩
  have eD2:=s2 _ _ eD
  have BF:es.length<=4:=by
   rw [he]
   have h1:=List.length_filter_le (λt=>decide (p.lo < t) && decide (t<=p.hi)) (ends ps)
   rw [sN] at h1
   omega
  have hy2:ao (ys ++ [.ref r2]) (ess ++ [es]) (PlB (Fr H D) H2):=ao.snoc (ao.mono hy λ_ _ p=>⟨p.1,s2 _ _ p.2⟩) ⟨⟨sm.free n2,λz=>by rw [z,eD] at n2;cases n2⟩,e2⟩
  refine bK.mk hi eD2 (ay (by have:=hy.1;omega)) ⟨(sm.trans s2).upd hD,ae,ess ++ [es],ao.mono hy2 (λ_ _ p=>⟨p.1,(au p.1.2).trans p.2⟩),by rw [List.length_append,hel];rfl,λz hz=>?_,λj es' w' ps' b1 b2 b3=>?_⟩
  ·rcases List.mem_append.mp hz with hz | hz
   ·exact h4 z hz
   ·rw [List.mem_singleton.mp hz];exact BF
  ·by_cases hj:j < ess.length
   ·rw [List.getElem?_append_left hj] at b1
    exact hes j es' w' ps' b1 b2 b3
   ·have hj2:j=ess.length:=by have:=(E4.mp b1).1;simp at this;omega
    subst hj2
    simp at b1
    subst b1
    rw [hel,ew] at b2
    cases b2
    rw [eps] at b3
    cases b3
    exact he
 ·obtain ⟨sm,eD,ess,hy,hel,h4,hes⟩:=h
  have mO:∀ x,x ∈ ess.flatten↔MkT t c p x:=λx=>by
   rw [List.mem_flatten]
   constructor
   ·rintro ⟨es,he,hx⟩
    obtain ⟨j,ej⟩:=List.getElem?_of_mem he
    have hj:j < t.rows.length:=by have:=(E4.mp ej).1;omega
    have ew:=E3 hj
    have fit:=(ok.tabs k t et).rows _ (E5 ew)
    have hcw:c < (t.rows[j]).1.length:=by rw [fit.len];exact hc
    have eps:=E3 hcw
    rw [hes j es _ _ ej ew eps] at hx
    obtain ⟨y,hy,h1,h2,h3⟩:=oA.mp hx
    exact ⟨_,E5 ew,_,eps,y,hy,h1,h2,h3⟩
   ·rintro ⟨w_,hw,ps,eps,y,hy,h1,h2,h3⟩
    obtain ⟨j,ew⟩:=List.getElem?_of_mem hw
    have hj:j < ess.length:=by have:=(E4.mp ew).1;omega
    have ej:=E3 hj
    refine ⟨ess[j],E5 ej,?_⟩
    rw [hes j _ w_ ps ej ew eps]
    exact oA.mpr ⟨y,hy,h1,h2,h3⟩
  have hfl:=mK h4
  refine ⟨D,ys,ess,Lp p,rfl,eD,ao.mono hy (λ_ _ p=>⟨trivial,p.2⟩),by omega,by have:=kD hp3;omega,(λx hx=>((mO x).mp hx).pool ok et ec ep),λl cs H4 s4 nl el pw mem=>q l cs H4 (sm.trans s4) (sm.free nl) el pw λx=>(mem x).trans (mO x)⟩
theorem BG (F:Fun K "_law_domain" "_law_domain" Y34 f fd) (bl:Bl K mg yA yE yN yO yP yQ yR yS yT yU yV yW yX af) (eB:Callee P w K mg base 1 "_law_words" ["cell", "count"] (J46 K)):aQ P w K mg base CX0 2 f fd ["cell"] (J34 K):=by
 refine F.ok Z34 (λvs H Q E h=>?_) (λcdv A outer s H vs Q E hr h=>?_)
 ·obtain ⟨c,rfl,q⟩:=h
  rfl
 obtain ⟨c,rfl,q⟩:=h
 refine ⟨_,(aD (aI (i:=1) Z34.nd rfl (Or.inl rfl) (aG bQ (aG br (aG bI (pv 0) aj) (aG jU aj aj)) (aG fh aj (aG jU aj aj))))
  (aD (aI (i:=2) Z34.nd rfl (Or.inl rfl) (aG br (aG bI (pv 0) aj) (aG jU aj aj)))
  (az (ba (aL cO (aG br (pv 0) aj) aj (aS _))
  (az (aI (i:=3) Z34.nd rfl (Or.inl rfl) (aU eB hr rfl (aa (aG bI (pv 0) aj) (aa (aG bB aj (aG br (aG bI (pv 0) aj) aj)) ag))))
  (ai (aP (bN (aa aj (aa (aG bQ (aC aw rfl bl.len_ PySem.boot_len (aa (pv 3) ag)) aj) (aa (pv 3) ag)))))))
  aM)
  (aD (ba (aL cO (aG br (pv 0) aj) aj (aS _))
  (ai (aI (i:=2) Z34.nd rfl (Or.inl rfl) (aG br (aG bI (pv 0) aj) aj)))
  aM)
  (ai (aP (bN (aa (pv 1) (aa (aG bB (pv 1) (pv 2)) (aa (bz ag) ag)))))))))),?_⟩
 have k1:(10 ^ 30:Nat) * 10=10 ^ 31:=by decide
 have k2:(10 ^ 29:Nat) * 100=10 ^ 31:=by decide
 have k3:(1000:Nat)<=10 ^ 31:=by decide
 refine ⟨λσ' H'=>H'=H/\∃ lo:Int,-(5 * ((10 ^ 29:Nat):Int))<=lo/\lo < ((10 ^ 30:Nat):Int)/\σ'=[some (.int c),some (.int lo),none,none],?_,?_⟩
 ·have x0:=Int.emod_nonneg (c / 3) (Int.ne_of_gt (p10 (30:Int).toNat))
  have x1:=Int.emod_lt_of_pos (c / 3) (p10 (30:Int).toNat)
  refine ⟨_,rfl,_,_,rfl,rfl,⟨by decide,by decide⟩,_,_,rfl,rfl,⟨by decide,by decide,by decide⟩,_,_,rfl,rfl,p10 _,_,_,rfl,rfl,⟨by decide,by decide,by decide⟩,_,_,rfl,rfl,.inl ⟨by decide,by decide⟩,_,_,rfl,rfl,rfl,_,?_,?_,rfl⟩
  ·rw [p30] at x0 x1 ⊢
   rw [p29]
   generalize ((10 ^ 30:Nat):Int)=A at x0 x1 ⊢
   generalize ((10 ^ 29:Nat):Int)=B at *
   omega
  ·rw [p30] at x0 x1 ⊢
   rw [p29]
   have:(0:Int)<=((10 ^ 29:Nat):Int):=Int.natCast_nonneg _
   generalize ((10 ^ 30:Nat):Int)=A at x0 x1 ⊢
   generalize ((10 ^ 29:Nat):Int)=B at *
   omega
 rintro σ1 H1 ⟨rfl,lo,g0,g1,rfl⟩
 refine ⟨λσ' H'=>H'=H1/\∃ w:Int,0<=w/\w < ((10 ^ 30:Nat):Int)/\σ'=[some (.int c),some (.int lo),some (.int w),none],?_,?_⟩
 ·have x0:=Int.emod_nonneg (c / 7) (Int.ne_of_gt (p10 (30:Int).toNat))
  have x1:=Int.emod_lt_of_pos (c / 7) (p10 (30:Int).toNat)
  refine ⟨_,rfl,_,_,rfl,rfl,⟨by decide,by decide⟩,_,_,rfl,rfl,⟨by decide,by decide,by decide⟩,_,_,rfl,rfl,p10 _,rfl,_,x0,?_,rfl⟩
  rw [p30] at x1 ⊢
  exact x1
 rintro σ2 H2 ⟨rfl,w,w0,w1,rfl⟩
 refine ⟨_,rfl,_,_,rfl,rfl,(by show (0:Int) < 3;decide),rfl,_,rfl,?_⟩
 refine cP (λ_=>?_) (λ_=>?_)
 ·have y0:=Int.emod_nonneg (c / 3) (show (6:Int) ≠ 0 by decide)
  have y1:=Int.emod_lt_of_pos (c / 3) (show (0:Int) < 6 by decide)
  obtain ⟨n,en⟩:∃ n:Nat,1+c / 3 % 6=(n:Int):=⟨_,(Int.toNat_of_nonneg (by omega)).symm⟩
  refine ⟨_,rfl,_,_,rfl,rfl,⟨by decide,by decide⟩,_,rfl,_,_,rfl,rfl,⟨by decide,by decide⟩,_,_,rfl,rfl,(by show (0:Int) < 6;decide),_,_,rfl,rfl,c / 18,n,by rw [← en],by omega,λl H3 s3 nl el=>?_⟩
  have hg:=sG (c:=c / 18) (n:=n) (by omega) (by omega)
  have hl:=iu (c / 18) n
  generalize lws (c / 18) n=zs at el hg hl
  have hm:(zs.map V.str).length=zs.length:=List.length_map _
  refine ⟨_,rfl,l,_,rfl,.inl (SqL.of el),_,_,rfl,rfl,_,rfl,(by show 3<=sizeLine;decide),λr hr=>?_⟩
  refine q r ⟨0,((zs.map V.str).length:Int) - 1,zs,[]⟩ _ (s3.trans (ah hr _)) ⟨l,s3.free hr,nl,ae,ah hr _ _ _ el⟩ ⟨by show (0:Int)<=((zs.map V.str).length:Int) - 1;omega,λ_=>⟨hg,rfl,by show ((zs.map V.str).length:Int) - 1=hiW zs;unfold hiW;rw [hm]⟩,λx x0 x1=>?_⟩
  have x0:0<=x:=x0
  have x1:x<=((zs.map V.str).length:Int) - 1:=x1
  exact y9 x0 (by omega)
 refine ⟨λσ' H'=>H'=H2/\∃ w:Int,0<=w/\w < ((10 ^ 30:Nat):Int)/\σ'=[some (.int c),some (.int lo),some (.int w),none],?_,?_⟩
 ·refine ⟨_,rfl,_,_,rfl,rfl,(by show (0:Int) < 3;decide),rfl,_,rfl,?_⟩
  refine cP (λ_=>?_) (λ_=>⟨rfl,w,w0,w1,rfl⟩)
  have x0:=Int.emod_nonneg (c / 7) (show (9:Int) ≠ 0 by decide)
  have x1:=Int.emod_lt_of_pos (c / 7) (show (0:Int) < 9 by decide)
  refine ⟨_,rfl,_,_,rfl,rfl,⟨by decide,by decide⟩,_,_,rfl,rfl,(by show (0:Int) < 9;decide),rfl,_,x0,?_,rfl⟩
  have:(9:Int)<=((10 ^ 30:Nat):Int):=by decide
  exact Int.lt_of_lt_of_le x1 this
 clear w0 w1 w
 rintro σ3 H3 ⟨rfl,w,w0,w1,rfl⟩
 refine ⟨_,rfl,_,rfl,_,rfl,_,_,rfl,rfl,(by show 0<=sizeLine;decide),λl hl=>?_⟩
 have u1:=ah hl (.lst [])
 have e1:upd H3 l (.lst []) l=some (.lst []):=ae
 generalize upd H3 l (.lst [])=H4 at u1 e1 ⊢
 refine ⟨(by show 3<=sizeLine;decide),λr hr=>?_⟩
 refine q r ⟨lo,lo+w,[],[]⟩ _ (u1.trans (ah hr _)) ⟨l,u1.free hr,hl,ae,ah hr _ _ _ e1⟩ ⟨by show lo<=lo+w;omega,λh=>absurd rfl h,λx x0 x1=>?_⟩
 have x0:lo<=x:=x0
 have x1:x<=lo+w:=x1
 refine zb ?_ ?_
 ·generalize (10 ^ 30:Nat)=A at *
  generalize (10 ^ 29:Nat)=B at *
  generalize (10 ^ 31:Nat)=C at *
  omega
 ·generalize (10 ^ 30:Nat)=A at *
  generalize (10 ^ 29:Nat)=B at *
  generalize (10 ^ 31:Nat)=C at *
  omega
theorem BH (F:Fun K "_law_row" "_law_row" Y43 f fd) (bl:Bl K mg yA yE yN yO yP yQ yR yS yT yU yV yW yX af) (mP:Callee P w K mg base 1 "_law_spans" ["kind", "one", "two", "domain"] (J44 K)):aQ P w K mg base CX0 2 f fd ["columns", "domains", "pools", "own", "number"] (J43 K):=by
 refine F.ok Z43 (λvs H Q E h=>?_) (λcdv A outer s H vs Q E hr h=>?_)
 ·obtain ⟨cl,dl,pl,ow,n,cols,dv,pvs,ds,rfl,hcl,hdl,hds,hpl,hps,hlt,how,h10,q⟩:=h
  rfl
 obtain ⟨cl,dl,pl,ow,n,cols,dv,pvs,ds,rfl,hcl,hdl,hds,hpl,hps,hlt,how,h10,q⟩:=h
 refine ⟨_,(aD (aI (i:=5) Z43.nd rfl (Or.inl rfl) (bz ag))
  (aD (bp PassesOwn.never rfl (aK (pv 0)) (aE (i:=6) Z43.nd rfl (Or.inl rfl))
  (aD (aI (i:=7) Z43.nd rfl (Or.inl rfl) (aC aw rfl bl.len_ PySem.boot_len (aa (aJ aO (pv 2) (pv 6) (λ_ _=>rfl)) ag)))
  (aD (aI (i:=8) Z43.nd rfl (Or.inl rfl) (aJ aO (aJ aO (pv 2) (pv 6) (λ_ _=>rfl)) (aG br (pv 4) (pv 7)) (λ_ _=>rfl)))
  (aD (aI (i:=9) Z43.nd rfl (Or.inl rfl) (aJ aO (aJ aO (pv 2) (pv 6) (λ_ _=>rfl)) (aG br (aG bI (pv 4) (pv 7)) (pv 7)) (λ_ _=>rfl)))
  (aD (aI (i:=4) Z43.nd rfl (Or.inl rfl) (aG bI (aG bI (pv 4) (pv 7)) (pv 7)))
  (az (aT (cS PySem.F.plainAttrs_list PySem.F.slot_list_append PySem.F.type_list_append bO (pv 5) (aa (aU mP hr rfl (aa (aG br (pv 4) aj) (aa (aC (lB rfl) rfl bl.min_ PyProof.Rows.boot_min (aa (pv 8) (aa (pv 9) ag))) (aa (aC (qB rfl) rfl bl.max_ PyProof.Rows.boot_max (aa (pv 8) (aa (pv 9) ag))) (aa (aJ aO (pv 1) (pv 6) (λ_ _=>rfl)) ag))))) ag)))
  (ai (aI (i:=4) Z43.nd rfl (Or.inl rfl) (aG bI (pv 4) aj)))))))))
  (ai (aP (bN (aa (pv 5) (aa (aJ aO (aJ aO (pv 2) (pv 3) (λ_ _=>rfl)) (aG br (pv 4) (aC aw rfl bl.len_ PySem.boot_len (aa (aJ aO (pv 2) (pv 3) (λ_ _=>rfl)) ag))) (λ_ _=>rfl)) ag))))))),?_⟩
 refine ⟨λσ' H'=>aq H H'/\∃ pa:Addr,H pa=none/\H' pa=some (.lst [])/\σ'=[some (.ref cl),some (.ref dl),some (.ref pl),some (.int (ow:Int)),some (.int n),some (.ref pa),none,none,none,none],⟨(by show 0<=sizeLine;decide),λl hl=>⟨ah hl _,l,hl,ae,rfl⟩⟩,?_⟩
 rintro σ2 H2 ⟨s2,pa,npa,epa,rfl⟩
 refine ⟨λσ' H'=>aq H H'/\∃ (zs:List V) (pss:List Prs) (n:Int) (c6 c7 c8 c9:Option V),H' pa=some (.lst zs)/\CL (Fr H pa) H' zs pss/\pss.length=cols.length/\(∀ (j k:Nat) (ps:Prs) (p:PD),pss[j]?=some ps->cols[j]?=some k->ds[k]?=some p->∀ x ∈ ps,(p.lo<=x.1/\x.1<=x.2/\x.2<=p.hi)/\EdP p x)/\(∀ ps ∈ pss,ps.length<=2)/\σ'=[some (.ref cl),some (.ref dl),some (.ref pl),some (.int (ow:Int)),some (.int n),some (.ref pa),c6,c7,c8,c9],?_,?_⟩
 ·refine ⟨_,rfl,cl,rfl,⟨_,SqL.of (s2 _ _ hcl)⟩,bg (xs:=vN cols) (λi σ H'=>aq H H'/\∃ (zs:List V) (pss:List Prs) (n:Int) (c6 c7 c8 c9:Option V),H' pa=some (.lst zs)/\CL (Fr H pa) H' zs pss/\pss.length=i/\(∀ (j k:Nat) (ps:Prs) (p:PD),pss[j]?=some ps->cols[j]?=some k->ds[k]?=some p->∀ x ∈ ps,(p.lo<=x.1/\x.1<=x.2/\x.2<=p.hi)/\EdP p x)/\(∀ ps ∈ pss,ps.length<=2)/\σ=[some (.ref cl),some (.ref dl),some (.ref pl),some (.int (ow:Int)),some (.int n),some (.ref pa),c6,c7,c8,c9]) ⟨s2,[],[],n,_,_,_,_,epa,ao.nil,rfl,(λj k ps p e=>by simp at e),(λps h=>by cases h),rfl⟩ (λi σ H' _ h=>SqL.of (h.1 _ _ hcl)) (λi y σ H' ey hh=>?_) (λσ H' hh=>?_)⟩
  ·obtain ⟨sm,zs,pss,n,c6,c7,c8,c9,ez,hz,hl,hin,mm,rfl⟩:=hh
   obtain ⟨k,rfl,ek⟩:=ir ey
   have hk:=hlt k (E5 ek)
   have hi:i < cols.length:=(E4.mp ek).1
   have ep:=E3 hk
   obtain ⟨pa_,e1,hpo⟩:=hps.2 k _ ep
   obtain ⟨da,e2,hpd⟩:=hds.2 k _ ep
   generalize ds[k]=p at ep hpo hpd
   have hpo:=hpo.same sm
   have hpd:=hpd.same sm
   obtain ⟨_,epo,hp1,hp3,hpb⟩:=id hpo
   have wL:(p.pool.map V.int).length=p.pool.length:=List.length_map _
   have hsp:(0:Int) < ((p.pool.length:Nat):Int):=by omega
   have hss:((p.pool.length:Nat):Int) < 1073741824:=by omega
   refine ⟨λσ' H''=>H''=H'/\σ'=[some (.ref cl),some (.ref dl),some (.ref pl),some (.int (ow:Int)),some (.int n),some (.ref pa),some (.int (k:Int)),some (.int ((p.pool.length:Nat):Int)),c8,c9],?_,?_⟩
   ·refine ⟨_,rfl,_,rfl,pl,_,_,_,rfl,rfl,SqL.of (sm _ _ hpl),aN e1,pa_,_,rfl,.inl (SqL.of epo),rfl,?_⟩
    rw [← wL]
    rfl
   rintro σ3 H3 ⟨e3,rfl⟩
   subst e3
   obtain ⟨one,q1,q2,a1,a2⟩:=hpo.pick n
   refine ⟨λσ' H''=>H''=H3/\σ'=[some (.ref cl),some (.ref dl),some (.ref pl),some (.int (ow:Int)),some (.int n),some (.ref pa),some (.int (k:Int)),some (.int ((p.pool.length:Nat):Int)),some (.int one),c9],⟨_,rfl,_,rfl,pl,_,_,_,rfl,rfl,SqL.of (sm _ _ hpl),aN e1,_,rfl,_,rfl,_,_,rfl,rfl,hsp,pa_,_,_,_,rfl,rfl,SqL.of epo,q1,rfl,rfl⟩,?_⟩
   rintro σ4 H4 ⟨e4,rfl⟩
   subst e4
   obtain ⟨two,q3,q4,b1,b2⟩:=hpo.pick (n / ((p.pool.length:Nat):Int))
   refine ⟨λσ' H''=>H''=H4/\σ'=[some (.ref cl),some (.ref dl),some (.ref pl),some (.int (ow:Int)),some (.int n),some (.ref pa),some (.int (k:Int)),some (.int ((p.pool.length:Nat):Int)),some (.int one),some (.int two)],⟨_,rfl,_,rfl,pl,_,_,_,rfl,rfl,SqL.of (sm _ _ hpl),aN e1,_,rfl,_,rfl,_,_,rfl,rfl,⟨hsp,hss⟩,_,rfl,_,_,rfl,rfl,hsp,pa_,_,_,_,rfl,rfl,SqL.of epo,q3,rfl,rfl⟩,?_⟩
   rintro σ5 H5 ⟨e5,rfl⟩
   subst e5
   refine ⟨λσ' H''=>H''=H5/\∃ n:Int,σ'=[some (.ref cl),some (.ref dl),some (.ref pl),some (.int (ow:Int)),some (.int n),some (.ref pa),some (.int (k:Int)),some (.int ((p.pool.length:Nat):Int)),some (.int one),some (.int two)],⟨_,rfl,_,rfl,_,_,rfl,rfl,⟨hsp,hss⟩,_,rfl,_,_,rfl,rfl,⟨hsp,hss⟩,rfl,_,rfl⟩,?_⟩
   rintro σ6 H6 ⟨e6,n2,rfl⟩
   subst e6
   refine ⟨_,rfl,.inl ⟨rfl,_,SqL.of ez⟩,_,rfl,_,_,rfl,rfl,(by show (0:Int) < 8;decide),_,rfl,_,rfl,_,_,rfl,_,rfl,_,rfl,_,_,rfl,_,rfl,_,rfl,dl,_,_,_,rfl,rfl,SqL.of (sm _ _ hdl),aN e2,_,_,_,da,p,rfl,hpd,?_,?_,?_,λl ps H7 s7 zh hb hl2 hE=>?_⟩
   ·split <;> omega
   ·split <;> split <;> omega
   ·split <;> omega
   have ez5:=s7 _ _ ez
   have n4:H6 l=none:=zh.1
   have nl:l ≠ pa:=λz=>by rw [z,ez] at n4;cases n4
   have hz2:CL (Fr H pa) H7 (zs ++ [.ref l]) (pss ++ [ps]):=ao.snoc (hz.same s7) ⟨⟨sm.free n4,nl⟩,zh.2⟩
   have wM:(if two < one then two else one) ∈ p.pool:=by split <;> assumption
   have wN:(if two > one then two else one) ∈ p.pool:=by split <;> assumption
   refine ⟨pa,_,_,rfl,rfl,ez5,ay (by rw [hz.1];omega),_,rfl,_,_,rfl,rfl,⟨by decide,by decide⟩,(sm.trans s7).upd npa,zs ++ [.ref l],pss ++ [ps],_,_,_,_,_,ae,hz2.updN Fr.out ez5,by rw [List.length_append,hl];rfl,λj k' ps' p' f1 f2 f3=>?_,λps' h'=>?_,rfl⟩
   ·by_cases hj:j < pss.length
    ·rw [List.getElem?_append_left hj] at f1
     exact hin j k' ps' p' f1 f2 f3
    ·have hj2:j=pss.length:=by have:=(E4.mp f1).1;simp at this;omega
     subst hj2
     simp at f1
     subst f1
     rw [hl,ek] at f2
     cases f2
     rw [ep] at f3
     cases f3
     intro x hx
     refine ⟨hb x hx,?_⟩
     obtain ⟨E1,E2⟩:=hE x hx
     constructor
     ·rcases E1 with E1 | E1 | E1 | E1
      ·exact .inl E1
      ·exact .inr (.inl (by rw [E1];exact wM))
      ·exact .inr (.inl (by rw [E1];exact wN))
      ·exact .inr (.inr (by rw [E1,Int.add_sub_cancel];exact wN))
     ·rcases E2 with E2 | E2 | E2 | E2
      ·exact .inl E2
      ·exact .inr (.inl (by rw [E2];exact wM))
      ·exact .inr (.inl (by rw [E2];exact wN))
      ·exact .inr (.inr (by rw [E2,Int.sub_add_cancel];exact wM))
   ·rcases List.mem_append.mp h' with h' | h'
    ·exact mm ps' h'
    ·rw [show ps'=ps by simpa using h'];exact hl2
  ·obtain ⟨sm,zs,pss,n,c6,c7,c8,c9,ez,hz,hl,hin,mm,rfl⟩:=hh
   exact ⟨sm,zs,pss,n,_,_,_,_,ez,hz,by rw [hl,bG],hin,mm,rfl⟩
 rintro σ5 H5 ⟨s5,zs,pss,n,c6,c7,c8,c9,ez,hz,hl,hin,mm,rfl⟩
 have epw:=E3 how
 obtain ⟨po,e1,hpo⟩:=hps.2 ow _ epw
 have hpo:=hpo.same s5
 obtain ⟨_,epo,hp1,hp3,hpb⟩:=id hpo
 have wL:((ds[ow]).pool.map V.int).length=(ds[ow]).pool.length:=List.length_map _
 have hsp:(0:Int) < ((((ds[ow]).pool.map V.int).length:Nat):Int):=by omega
 obtain ⟨x,q1,_,q3,q4⟩:=hpo.pick n
 rw [← wL] at q1
 refine ⟨_,rfl,_,rfl,_,rfl,pl,_,_,_,rfl,rfl,SqL.of (s5 _ _ hpl),aN e1,_,rfl,_,rfl,_,rfl,pl,_,_,_,rfl,rfl,SqL.of (s5 _ _ hpl),aN e1,po,_,rfl,.inl (SqL.of epo),_,_,rfl,rfl,hsp,po,_,_,_,rfl,rfl,SqL.of epo,q1,bS,λr hr=>?_⟩
 have u:=ah hr (.tup [.ref pa,.int x])
 exact q r (pss,x) _ (s5.trans u) ⟨pa,zs,ae,npa,u _ _ ez,(hz.same u).wk λa h=>h.1⟩ ⟨hl,(λj k ps p f1 f2 f3 y hy=>(hin j k ps p f1 f2 f3 y hy).1),mm,(λp ep=>by rw [epw] at ep;cases ep;exact ⟨q3,q4⟩),(λj k ps p f1 f2 f3 y hy=>(hin j k ps p f1 f2 f3 y hy).2)⟩
theorem O_9 (F:Fun K "__init__" "Numbers.__init__" Y9 f fd) (bl:Bl K mg yA yE yN yO yP yQ yR yS yT yU yV yW yX af) (dq:BCallee CX0 P w K mg base 1 "Domain" "__init__" ["self", "low", "high"] (J1 K yV)):aQ P w K mg base CX0 2 f fd ["self", "low", "high"] (J9 K yV):=by
 refine F.ok Z9 (λvs H Q E h=>?_) (λcdv A outer s H vs Q E hr h=>?_)
 ·obtain ⟨x,dx,lo,hi,rfl,hx,hle,q⟩:=h
  rfl
 obtain ⟨x,dx,lo,hi,rfl,hx,hle,q⟩:=h
 refine ⟨_,(az (ba (aL jV (pv 1) (pv 2) (aS _))
  (ai bf)
  aM)
  (ai (aT (dB dq cx hr rfl (aa (pv 0) (aa (pv 1) (aa (pv 2) ag))))))),?_⟩
 exact ⟨_,rfl,_,rfl,_,_,rfl,rfl,_,rfl,dh (by omega) ⟨_,rfl,_,rfl,_,rfl,x,dx,lo,hi,rfl,hx,q⟩⟩
theorem O_5 (F:Fun K "__init__" "First.__init__" Y5 f fd) (bl:Bl K mg yA yE yN yO yP yQ yR yS yT yU yV yW yX af) (fw:BCallee CX0 P w K mg base 1 "Way" "__init__" ["self", "called"] (J13 K yO)):aQ P w K mg base CX0 2 f fd ["self"] (J5 K yO):=by
 refine F.ok Z5 (λvs H Q E h=>?_) (λcdv A outer s H vs Q E hr h=>?_)
 ·obtain ⟨x,dx,rfl,hx,q⟩:=h
  rfl
 obtain ⟨x,dx,rfl,hx,q⟩:=h
 refine ⟨_,(ai (aT (dB fw cx hr rfl (aa (pv 0) (aa bM ag))))),?_⟩
 exact ⟨_,rfl,x,dx,_,rfl,hx,q⟩
theorem BI (F:Fun K "__init__" "Only.__init__" Y10 f fd) (bl:Bl K mg yA yE yN yO yP yQ yR yS yT yU yV yW yX af) (fY:BCallee CX0 P w K mg base 1 "Way" "__init__" ["self", "called"] (J17 K yP)):aQ P w K mg base CX0 2 f fd ["self"] (J10 K yP):=by
 refine F.ok Z10 (λvs H Q E h=>?_) (λcdv A outer s H vs Q E hr h=>?_)
 ·obtain ⟨x,dx,rfl,hx,q⟩:=h
  rfl
 obtain ⟨x,dx,rfl,hx,q⟩:=h
 refine ⟨_,(ai (aT (dB fY cx hr rfl (aa (pv 0) (aa bM ag))))),?_⟩
 exact ⟨_,rfl,x,dx,_,rfl,hx,q⟩
theorem O_7 (F:Fun K "__init__" "Like.__init__" Y7 f fd) (bl:Bl K mg yA yE yN yO yP yQ yR yS yT yU yV yW yX af) (fZ:BCallee CX0 P w K mg base 1 "Way" "__init__" ["self", "called"] (J15 K yQ)):aQ P w K mg base CX0 2 f fd ["self"] (J7 K yQ):=by
 refine F.ok Z7 (λvs H Q E h=>?_) (λcdv A outer s H vs Q E hr h=>?_)
 ·obtain ⟨x,dx,rfl,hx,q⟩:=h
  rfl
 obtain ⟨x,dx,rfl,hx,q⟩:=h
 refine ⟨_,(ai (aT (dB fZ cx hr rfl (aa (pv 0) (aa bM ag))))),?_⟩
 exact ⟨_,rfl,x,dx,_,rfl,hx,q⟩
theorem O_8 (F:Fun K "__init__" "Low.__init__" Y8 f fd) (bl:Bl K mg yA yE yN yO yP yQ yR yS yT yU yV yW yX af) (gH:BCallee CX0 P w K mg base 1 "Way" "__init__" ["self", "called"] (J16 K yR)):aQ P w K mg base CX0 2 f fd ["self"] (J8 K yR):=by
 refine F.ok Z8 (λvs H Q E h=>?_) (λcdv A outer s H vs Q E hr h=>?_)
 ·obtain ⟨x,dx,rfl,hx,q⟩:=h
  rfl
 obtain ⟨x,dx,rfl,hx,q⟩:=h
 refine ⟨_,(ai (aT (dB gH cx hr rfl (aa (pv 0) (aa bM ag))))),?_⟩
 exact ⟨_,rfl,x,dx,_,rfl,hx,q⟩
theorem O_6 (F:Fun K "__init__" "High.__init__" Y6 f fd) (bl:Bl K mg yA yE yN yO yP yQ yR yS yT yU yV yW yX af) (gb:BCallee CX0 P w K mg base 1 "Way" "__init__" ["self", "called"] (J14 K yS)):aQ P w K mg base CX0 2 f fd ["self"] (J6 K yS):=by
 refine F.ok Z6 (λvs H Q E h=>?_) (λcdv A outer s H vs Q E hr h=>?_)
 ·obtain ⟨x,dx,rfl,hx,q⟩:=h
  rfl
 obtain ⟨x,dx,rfl,hx,q⟩:=h
 refine ⟨_,(ai (aT (dB gb cx hr rfl (aa (pv 0) (aa bM ag))))),?_⟩
 exact ⟨_,rfl,x,dx,_,rfl,hx,q⟩
theorem BJ (F:Fun K "__init__" "Sum.__init__" Y11 f fd) (bl:Bl K mg yA yE yN yO yP yQ yR yS yT yU yV yW yX af) (gI:BCallee CX0 P w K mg base 1 "Way" "__init__" ["self", "called"] (J18 K yT)):aQ P w K mg base CX0 2 f fd ["self"] (J11 K yT):=by
 refine F.ok Z11 (λvs H Q E h=>?_) (λcdv A outer s H vs Q E hr h=>?_)
 ·obtain ⟨x,dx,rfl,hx,q⟩:=h
  rfl
 obtain ⟨x,dx,rfl,hx,q⟩:=h
 refine ⟨_,(ai (aT (dB gI cx hr rfl (aa (pv 0) (aa bM ag))))),?_⟩
 exact ⟨_,rfl,x,dx,_,rfl,hx,q⟩
theorem O_3 (F:Fun K "has_code" "Domain.has_code" Y3 f fd) (bl:Bl K mg yA yE yN yO yP yQ yR yS yT yU yV yW yX af) (gJ:Callee P w K mg base 1 "is_whole" ["value"] (J29 K)):aQ P w K mg base CX0 2 f fd ["self", "value"] (J3 K yV):=by
 refine F.ok Z3 (λvs H Q E h=>?_) (λcdv A outer s H vs Q E hr h=>?_)
 ·obtain ⟨a,b,i,rfl,⟨dx,fs,ha,hl,hh,_⟩,h1,h2,q⟩:=h
  rfl
 obtain ⟨a,b,i,rfl,⟨dx,fs,ha,hl,hh,_⟩,h1,h2,q⟩:=h
 refine ⟨_,(ai (aP (gu (aU gJ hr rfl (aa (pv 1) ag)) (iO (jW dO dO (bu (pv 0) rfl) (pv 1) (bu (pv 0) rfl)))))),?_⟩
 refine ⟨_,rfl,i,rfl,_,rfl,fU ?_⟩
 refine ⟨_,rfl,a,_,_,_,_,rfl,ha,bl.k_Numbers,bl.na_Numbers_low,hl,_,rfl,_,_,rfl,rfl,_,rfl,gn h1 ?_⟩
 refine ⟨_,rfl,a,_,_,_,_,rfl,ha,bl.k_Numbers,bl.na_Numbers_high,hh,_,_,rfl,rfl,?_⟩
 show Q (.bl (decide (i<=b.2))) H
 rw [decide_eq_true h2]
 exact q
theorem O_4 (F:Fun K "has_code" "Domain.has_code" Y4 f fd) (bl:Bl K mg yA yE yN yO yP yQ yR yS yT yU yV yW yX af) (gJ:Callee P w K mg base 1 "is_whole" ["value"] (J29 K)):aQ P w K mg base CX0 2 f fd ["self", "value"] (J4 K yW):=by
 refine F.ok Z4 (λvs H Q E h=>?_) (λcdv A outer s H vs Q E hr h=>?_)
 ·obtain ⟨a,b,i,rfl,⟨dx,fs,ha,hl,hh,_⟩,h1,h2,q⟩:=h
  rfl
 obtain ⟨a,b,i,rfl,⟨dx,fs,ha,hl,hh,_⟩,h1,h2,q⟩:=h
 refine ⟨_,(ai (aP (gu (aU gJ hr rfl (aa (pv 1) ag)) (iO (jW dO dO (bu (pv 0) rfl) (pv 1) (bu (pv 0) rfl)))))),?_⟩
 refine ⟨_,rfl,i,rfl,_,rfl,fU ?_⟩
 refine ⟨_,rfl,a,_,_,_,_,rfl,ha,bl.k_Words,bl.na_Words_low,hl,_,rfl,_,_,rfl,rfl,_,rfl,gn h1 ?_⟩
 refine ⟨_,rfl,a,_,_,_,_,rfl,ha,bl.k_Words,bl.na_Words_high,hh,_,_,rfl,rfl,?_⟩
 show Q (.bl (decide (i<=b.2))) H
 rw [decide_eq_true h2]
 exact q
theorem BK (F:Fun K "refuse_names" "refuse_names" Y56 f fd) (bl:Bl K mg yA yE yN yO yP yQ yR yS yT yU yV yW yX af) (dX:Callee P w K mg base 2 "is_word" ["text"] (J30 K)):aQ P w K mg base CX0 3 f fd ["facts", "tables"] (J56 K yV yW yX):=by
 refine F.ok Z56 (λvs H Q E h=>?_) (λcdv A outer s H vs Q E hr h=>?_)
 ·obtain ⟨fa,ma,fv,mv,zs,ds,ts,fN,L,rfl,efa,ema,hB,q⟩:=h
  rfl
 obtain ⟨fa,ma,fv,mv,zs,ds,ts,fN,L,rfl,efa,ema,hB,q⟩:=h
 refine ⟨_,(aD (bp PassesOwn.never rfl (aK (pv 0)) (cA rfl (aH (aE (i:=2) Z56.nd rfl (Or.inl rfl)) (aH (aE (i:=3) Z56.nd rfl (Or.inl rfl)) bA)))
  (ai (ba (d8 (cR (aU dX hr rfl (aa (pv 2) ag))))
  (ai bf)
  aM)))
  (aD (aI (i:=4) Z56.nd rfl (Or.inl rfl) (aG iU (df (aK (pv 0)) (cD (N:=["name", "domain"]) (k:=2) rfl rfl (by decide +kernel) (by decide +kernel) (by decide +kernel)) rfl (λ_ _ _ _=>(lK (K:=K) (n:=2) rfl rfl (aH (aE (i:=0) (show (["name", "domain"]:List Str).Nodup by decide +kernel) rfl (Or.inl rfl) (Or.inr rfl)) (aH (aE (i:=1) (show (["name", "domain"]:List Str).Nodup by decide +kernel) rfl (Or.inl rfl) (Or.inr rfl)) bA)))) (λ_ _ _ _=>aW) (λ_ _ _ _=>(pv 0))) (aZ (aK (pv 1)) (bP rfl (by decide +kernel) (by decide +kernel) (by decide +kernel) rfl) rfl (λ_ _ _ _=>aW) (λ_ _ _ _=>(cE (K:=K) rfl (pv 0) rfl)))))
  (az (ba (aL gh (aC dJ rfl bl.len_ PySem.boot_len (aa (bw (dH rfl) rfl bl.set_ PyProof.Rows.boot_set (aa (pv 4) ag)) ag)) (aC aw rfl bl.len_ PySem.boot_len (aa (pv 4) ag)) (aS _))
  (ai bf)
  aM)
  (ai (bp PassesOwn.never rfl (aK (pv 1)) (aE (i:=5) Z56.nd rfl (Or.inl rfl))
  (ai (bp PassesOwn.never rfl (aK (bu (pv 5) rfl)) (aE (i:=2) Z56.nd rfl (Or.inl rfl))
  (ai (ba (aL ij (pv 2) (pv 4) (by with_unfolding_all rfl))
  (ai bf)
  aM))))))))),?_⟩
 obtain ⟨b1,b2,b3⟩:=hB.few
 have hfl:fv.length=fN:=by rw [hB.facts.1,List.length_range]
 have hml:mv.length=L.length:=hB.tabs.1
 refine ⟨λσ' H'=>H'=H/\∃ c2 c3:Option V,σ'=[some (.ref fa),some (.ref ma),c2,c3,none,none],?_,?_⟩
 ·refine ⟨_,rfl,fa,rfl,⟨_,SqL.of efa⟩,bg (xs:=fv) (λi σ H'=>H'=H/\∃ c2 c3:Option V,σ=[some (.ref fa),some (.ref ma),c2,c3,none,none]) ⟨rfl,_,_,rfl⟩ (λi σ H' _ h=>by rw [h.1];exact SqL.of efa) (λi y σ H' e h=>?_) (λσ H' h=>h)⟩
  obtain ⟨e0,c2,c3,rfl⟩:=h
  rw [e0]
  obtain ⟨r,k,rfl,ek,nm,po,d,h1,h2,h3,h4⟩:=ao.get hB.facts e
  have hw:=hB.ok.words nm (E5 h1)
  refine ⟨r,_,rfl,SqT.of h3,rfl,_,_,rfl,_,_,rfl,rfl,?_⟩
  refine ⟨_,rfl,nm,rfl,Nat.le_trans (ql hw) (by decide),_,rfl,?_⟩
  rw [hw]
  exact cz ⟨rfl,_,_,rfl⟩
 rintro σ1 H1 ⟨e1,c2,c3,rfl⟩
 rw [e1]
 clear e1
 refine ⟨λσ' H'=>aq H H'/\∃ na:Addr,H' na=some (.lst ((bnm zs fN L).map V.str))/\σ'=[some (.ref fa),some (.ref ma),c2,c3,some (.ref na),none],?_,?_⟩
 ·refine ⟨_,rfl,fa,rfl,⟨_,SqL.of efa⟩,bX (xs:=fv) (λD i ys H'=>aq H H'/\H' D=some (.lst ys)/\ys=(zs.take i).map V.str) (λD hD=>⟨ah hD _,ae,rfl⟩) (λD i ys H' hD _ h=>SqL.of (h.1 _ _ efa)) (λD i y ys H' hD e h ts_ hts=>?_) (λD ys H' hD h=>?_)⟩
  ·obtain ⟨sm,eD,rfl⟩:=h
   obtain ⟨r,k,rfl,ek,nm,po,d,h1,h2,h3,h4⟩:=ao.get hB.facts e
   obtain ⟨rfl,hi⟩:=jB ek
   obtain ⟨t0,t1,rfl⟩:∃ t0 t1,ts_=[t0,t1]:=by
    match ts_,hts with
    | [t0,t1],_=>exact ⟨t0,t1,rfl⟩
   refine ⟨r,_,rfl,SqT.of (sm _ _ h3),rfl,_,_,rfl,_,_,rfl,rfl,⟨[some (.str nm),some (.ref d)],rfl,rfl⟩,?_⟩
   refine ⟨_,rfl,bK.mk (by omega) eD (ay (by rw [List.length_map,List.length_take];omega)) ⟨sm.upd hD,ae,?_⟩⟩
   rw [take_snoc h1,List.map_append]
   rfl
  ·obtain ⟨sm,eD,rfl⟩:=h
   rw [hfl] at eD
   refine ⟨_,rfl,ma,rfl,⟨_,SqL.of (sm _ _ ema)⟩,aX (xs:=mv) (λD2 i ys H2=>aq H' H2/\H2 D2=some (.lst ys)/\ys=((L.take i).map (tnm zs fN)).map V.str) (λD2 hD2=>⟨ah hD2 _,ae,rfl⟩) (λD2 i ys H2 hD2 _ h=>SqL.of (h.1 _ _ (sm _ _ ema))) (λD2 i y ys H2 hD2 e h=>?_) (λD2 ys H2 hD2 h=>?_)⟩
   ·obtain ⟨s2,eD2,rfl⟩:=h
    obtain ⟨t_,k,rfl,ek,tt,nm,po,ou,dv,g1,g2,g3,g4,g5,g6⟩:=ao.get hB.tabs e
    obtain ⟨rl,dx,na,dl,fs,xs,ht,f1,f2,f3,f4,f5,f6,ena,edl,erl,hR,fX⟩:=g4
    have hi:i < mv.length:=(E4.mp e).1
    have sA:=sm.trans s2
    refine ⟨_,rfl,t_,_,_,_,_,rfl,sA _ _ ht,bl.k_Table,bl.na_Table_name,f2,bK.mk hi eD2 (ay (by rw [List.length_map,List.length_map,List.length_take];omega)) ⟨s2.upd hD2,ae,?_⟩⟩
    rw [take_snoc ek,List.map_append,List.map_append]
    show _ ++ [V.str nm]=_ ++ [V.str (tnm zs fN k)]
    rw [cw g2]
   ·obtain ⟨s2,eD2,rfl⟩:=h
    rw [hml,List.take_length] at eD2
    refine ⟨D,D2,_,_,rfl,rfl,s2 _ _ eD,eD2,Nat.le_of_lt (ay (by rw [List.length_map,List.length_map,List.length_map,List.length_take];omega)),λp hp=>⟨(sm.trans s2).trans (ah hp _),p,?_,rfl⟩⟩
    rw [ae]
    unfold bnm
    rw [List.map_append]
 rintro σ2 H2 ⟨s2,na,ena,rfl⟩
 have hbl:(bnm zs fN L).length<=14:=by unfold bnm;rw [List.length_append,List.length_take,List.length_map];omega
 have hnl:((bnm zs fN L).map V.str).length=(bnm zs fN L).length:=List.length_map _
 refine ⟨_,rfl,na,bnm zs fN L,rfl,SqL.of ena,by omega,λl hl2=>⟨l,bnm zs fN L,rfl,ae,by omega,_,rfl,na,_,rfl,.inl (SqL.of (ah hl2 _ _ _ ena)),_,_,rfl,rfl,_,rfl,?_⟩⟩
 have cf:=fJ (bnm zs fN L) (bnm zs fN L).length (Nat.le_refl _)
 rw [List.take_length] at cf
 refine dh (by rw [hnl,cf.mpr hB.bnd_];omega) ?_
 have s3:=s2.trans (ah hl2 (jl P w l (bnm zs fN L)))
 have BL:=ah hl2 (jl P w l (bnm zs fN L)) _ _ ena
 refine ⟨_,rfl,ma,rfl,⟨_,SqL.of (s3 _ _ ema)⟩,bg (xs:=mv) (λi σ H'=>aq H H'/\H' na=some (.lst ((bnm zs fN L).map V.str))/\∃ c2 c5:Option V,σ=[some (.ref fa),some (.ref ma),c2,c3,some (.ref na),c5]) ⟨s3,BL,_,_,rfl⟩ (λi σ H' _ h=>SqL.of (h.1 _ _ ema)) (λi y σ H' e h=>?_) (λσ H' h=>q H' h.1)⟩
 obtain ⟨s4,zi,d2,d5,rfl⟩:=h
 obtain ⟨t_,k,rfl,ek,tt,nm,po,ou,dv,g1,g2,g3,g4,g5,g6⟩:=ao.get hB.tabs e
 obtain ⟨rl,dx,na2,dl,fs,xs,ht,f1,f2,f3,f4,f5,f6,zj,edl,erl,hR,fX⟩:=g4
 refine ⟨_,rfl,t_,_,_,_,_,rfl,s4 _ _ ht,bl.k_Table,bl.na_Table_names,f5,na2,rfl,⟨_,SqL.of (s4 _ _ zj)⟩,bg (xs:=(prm tt.cols zs).map V.str) (λi σ H2=>H2=H'/\∃ c2:Option V,σ=[some (.ref fa),some (.ref ma),c2,c3,some (.ref na),some (.ref t_)]) ⟨rfl,_,rfl⟩ (λi σ H2 _ h=>by rw [h.1];exact SqL.of (s4 _ _ zj)) (λi y σ H2 e h=>?_) (λσ H2 h=>by rw [h.1];exact ⟨s4,zi,let ⟨c,e⟩:=h.2;⟨c,_,e⟩⟩)⟩
 obtain ⟨e0,d2',rfl⟩:=h
 rw [e0]
 obtain ⟨z,rfl,ez⟩:=cG e
 have hz:=hB.has (qk (E5 ez))
 refine ⟨_,rfl,_,rfl,na,_,rfl,.inl (SqL.of zi),rfl,cy _,_,rfl,?_⟩
 rw [show (if true=true then !inV (V.str z) ((bnm zs fN L).map V.str) else inV (V.str z) ((bnm zs fN L).map V.str))=false by rw [if_pos rfl,dW];simpa using hz]
 exact cz ⟨rfl,_,rfl⟩
theorem BM (F:Fun K "refuse_names" "refuse_names" Y57 f fd) (bl:Bl K mg yA yE yN yO yP yQ yR yS yT yU yV yW yX af) (dX:Callee P w K mg base 2 "is_word" ["text"] (J30 K)):aQ P w K mg base CX0 3 f fd ["names"] (J57 K):=by
 refine F.ok Z57 (λvs H Q E h=>?_) (λcdv A outer s H vs Q E hr h=>?_)
 ·obtain ⟨p,zs,rfl,hS,hw,hn,hl,q⟩:=h
  rfl
 obtain ⟨p,zs,rfl,hS,hw,hn,hl,q⟩:=h
 refine ⟨_,(aD (bp PassesOwn.never rfl (aK (pv 0)) (aE (i:=1) Z57.nd rfl (Or.inl rfl))
  (ai (ba (d8 (cR (aU dX hr rfl (aa (pv 1) ag))))
  (ai bf)
  aM)))
  (ai (ba (aL gh (aC dJ rfl bl.len_ PySem.boot_len (aa (bw (dH rfl) rfl bl.set_ PyProof.Rows.boot_set (aa (pv 0) ag)) ag)) (aC aw rfl bl.len_ PySem.boot_len (aa (pv 0) ag)) (aS _))
  (ai bf)
  aM))),?_⟩
 have hlen:(zs.map V.str).length=zs.length:=List.length_map _
 refine ⟨λσ' H'=>H'=H/\∃ c1:Option V,σ'=[some (.ref p),c1],?_,?_⟩
 ·refine ⟨_,rfl,p,rfl,⟨_,hS⟩,bg (xs:=zs.map V.str) (λi σ H'=>H'=H/\∃ c1:Option V,σ=[some (.ref p),c1]) ⟨rfl,_,rfl⟩ (λi σ H' _ h=>by rw [h.1];exact hS) (λi y σ H' e h=>?_) (λσ H' h=>h)⟩
  obtain ⟨e0,c1,rfl⟩:=h
  rw [e0]
  obtain ⟨z,rfl,ez⟩:=cG e
  have hz1:=hw z (E5 ez)
  have hz:z.length<=1000:=by
   have hw2:=hz1
   unfold isw at hw2
   simp only [Bool.and_eq_true,decide_eq_true_eq] at hw2
   omega
  refine ⟨_,rfl,z,rfl,hz,_,rfl,?_⟩
  rw [hz1]
  exact cz ⟨rfl,_,rfl⟩
 rintro σ2 H2 ⟨e2,c1,rfl⟩
 rw [e2]
 refine ⟨_,rfl,p,zs,rfl,hS,by omega,λl hl2=>⟨l,zs,rfl,ae,by omega,_,rfl,p,_,rfl,.inl ((ah hl2 _).seq hS),_,_,rfl,rfl,_,rfl,?_⟩⟩
 have cf:=fJ zs zs.length (Nat.le_refl _)
 rw [List.take_length] at cf
 exact dh (by rw [hlen,cf.mpr hn];omega) (q _ (ah hl2 _))
theorem BN (F:Fun K "refuse_row" "refuse_row" Y59 f fd) (bl:Bl K mg yA yE yN yO yP yQ yR yS yT yU yV yW yX af) (dr:MCallee CX0 P w K mg base 2 yV "has_code" ["self", "value"] (J3 K yV)) (dY:MCallee CX0 P w K mg base 2 yW "has_code" ["self", "value"] (J4 K yW)):aQ P w K mg base CX0 3 f fd ["domains", "outcome", "cells", "code"] (J59 K yV yW):=by
 refine F.ok Z59 (λvs H Q E h=>?_) (λcdv A outer s H vs Q E hr h=>?_)
 ·obtain ⟨dl,ou,cl,dv,xs,bs,o,w_,rfl,hD,hdv,hO,hC,hcl,ok,q⟩:=h
  rfl
 obtain ⟨dl,ou,cl,dv,xs,bs,o,w_,rfl,hD,hdv,hO,hC,hcl,ok,q⟩:=h
 refine ⟨_,(az (ba (aL u9 (aC aw rfl bl.len_ PySem.boot_len (aa (pv 2) ag)) (aC aw rfl bl.len_ PySem.boot_len (aa (pv 0) ag)) (aS _))
  (ai bf)
  aM)
  (aD (bp PassesOwn.never rfl (sf rfl bl.zip_ (aa (pv 0) (aa (pv 2) ag))) (cA rfl (aH (aE (i:=4) Z59.nd rfl (Or.inl rfl)) (aH (aE (i:=5) Z59.nd rfl (Or.inl rfl)) bA)))
  (ai (bp PassesOwn.never rfl (aK (pv 5)) (cA rfl (aH (aE (i:=6) Z59.nd rfl (Or.inl rfl)) (aH (aE (i:=7) Z59.nd rfl (Or.inl rfl)) bA)))
  (ai (ba (PW.pt (p3 (aL gh (pv 6) (bu (pv 4) rfl) (aS _)) (md (aL jV (pv 7) (bu (pv 4) rfl) (aS _)))))
  (ai bf)
  aM)))))
  (ai (ba (d8 (cR (wb (yD dr bl.k_Numbers (yD dY bl.k_Words AI)) cx hr (pv 1) (aa (pv 3) ag))))
  (ai bf)
  aM)))),?_⟩
 have hdf:∀ (C:Addr),(C=yV\/C=yW)->Cls K C/\aY K C (Str.ofString "low")/\aY K C (Str.ofString "high"):=λC h=>by
  rcases h with rfl | rfl
  ·exact ⟨bl.k_Numbers,bl.na_Numbers_low,bl.na_Numbers_high⟩
  ·exact ⟨bl.k_Words,bl.na_Words_low,bl.na_Words_high⟩
 have hlen:xs.length=dv.length:=by rw [hcl.1,ok.len,hdv.1]
 refine ⟨_,rfl,cl,_,rfl,.inl (SqL.of hC),_,rfl,dl,_,rfl,.inl (hD),rfl,_,rfl,yr (by rw [hlen]) ?_⟩
 refine ⟨λσ' H'=>aq H H'/\∃ c4 c5 c6 c7:Option V,σ'=[some (.ref dl),some (.ref ou),some (.ref cl),some (.int w_.2),c4,c5,c6,c7],?_,?_⟩
 ·refine ⟨_,rfl,_,rfl,dl,cl,rfl,⟨_,hD⟩,⟨_,SqL.of hC⟩,qg (xs:=dv) (ys:=xs) (λi σ H'=>aq H H'/\∃ c4 c5 c6 c7:Option V,σ=[some (.ref dl),some (.ref ou),some (.ref cl),some (.int w_.2),c4,c5,c6,c7]) ⟨aq.refl _,_,_,_,_,rfl⟩ (λi σ H' h=>⟨h.1.seq hD,SqL.of (h.1 _ _ hC)⟩) (λi x y σ H' T ex ey h hT=>?_) (λσ H' h=>h)⟩
  obtain ⟨sm,c4,c5,c6,c7,rfl⟩:=h
  have s2:=sm.trans (ah hT (.tup [x,y]))
  have eT:upd H' T (.tup [x,y]) T=some (.tup [x,y]):=ae
  generalize upd H' T (.tup [x,y])=H2 at s2 eT ⊢
  obtain ⟨a,b,rfl,eb,hb⟩:=hdv.get ex
  obtain ⟨l,ps,rfl,ep,hl⟩:=ao.get hcl ey
  obtain ⟨C,hC',dx,fs,ha,f1,f2,_⟩:=hb.same s2
  obtain ⟨k1,k2,k3⟩:=hdf C hC'
  obtain ⟨_,ys,el,hp⟩:=hl.same s2
  refine ⟨T,_,rfl,SqT.of eT,rfl,_,_,rfl,_,_,rfl,rfl,?_⟩
  refine ⟨_,rfl,l,rfl,⟨_,SqL.of el⟩,bg (xs:=ys) (λj σ H'=>H'=H2/\∃ c6 c7:Option V,σ=[some (.ref dl),some (.ref ou),some (.ref cl),some (.int w_.2),some (.ref a),some (.ref l),c6,c7]) ⟨rfl,_,_,rfl⟩ (λj σ H' _ h=>by rw [h.1];exact SqL.of el) (λj y σ H' e h=>?_) (λσ H' h=>?_)⟩
  ·obtain ⟨e0,c6,c7,rfl⟩:=h
   rw [e0]
   obtain ⟨p,r,e1,rfl,hr'⟩:=hp.get e
   obtain ⟨i1,i2⟩:=ok.inn i ps b ep eb p (E5 e1)
   refine ⟨r,_,rfl,SqT.of hr',rfl,_,_,rfl,_,_,rfl,rfl,?_⟩
   refine ⟨_,rfl,_,rfl,a,_,_,_,_,rfl,ha,k1,k2,f1,_,_,rfl,rfl,_,rfl,dh (by omega) ?_⟩
   exact ⟨_,rfl,_,rfl,a,_,_,_,_,rfl,ha,k1,k3,f2,_,_,rfl,rfl,_,rfl,dh (by omega) ⟨rfl,_,_,rfl⟩⟩
  ·obtain ⟨e0,c6,c7,rfl⟩:=h
   rw [e0]
   exact ⟨s2,_,_,_,_,rfl⟩
 rintro σ3 H3 ⟨s3,c4,c5,c6,c7,rfl⟩
 obtain ⟨C,hC',hd⟩:=hO.same s3
 obtain ⟨dx,fs,ha,f1,f2,f3⟩:=id hd
 rcases hC' with rfl | rfl
 ·exact ⟨_,rfl,ou,_,dx,fs,rfl,.head _,ha,f3,_,rfl,ou,o,w_.2,rfl,hd,ok.lo,ok.hi,_,rfl,cz (q _ s3)⟩
 ·exact ⟨_,rfl,ou,_,dx,fs,rfl,.tail _ (.head _),ha,f3,_,rfl,ou,o,w_.2,rfl,hd,ok.lo,ok.hi,_,rfl,cz (q _ s3)⟩
theorem BO (F:Fun K "fact_marks" "fact_marks" Y27 f fd) (bl:Bl K mg yA yE yN yO yP yQ yR yS yT yU yV yW yX af) (gG:Callee P w K mg base 2 "gathered" ["lists"] (J28 K)) (kF:Callee P w K mg base 2 "column_marks" ["table", "column"] (J25 K yV yW yX)):aQ P w K mg base CX0 3 f fd ["tables", "fact"] (J27 K yV yW yX):=by
 refine F.ok Z27 (λvs H Q E h=>?_) (λcdv A outer s H vs Q E hr h=>?_)
 ·obtain ⟨tl,tv,od,z,f_,zs,ds,ts,fN,p,rfl,etl,ok,htv,h7,ez,ep,hp3,q⟩:=h
  rfl
 obtain ⟨tl,tv,od,z,f_,zs,ds,ts,fN,p,rfl,etl,ok,htv,h7,ez,ep,hp3,q⟩:=h
 refine ⟨_,(ai (aP (aU gG hr rfl (aa (aZ (aK (pv 0)) (aR (N:=["table", "fact"]) (fr:=[1]) (cl:=[("fact",s.heap.objs.size+1)]) rfl rfl (by decide +kernel) (by decide +kernel) rfl (by decide +kernel) rfl rfl rfl (List.forall_mem_cons.mpr ⟨rfl,List.forall_mem_nil _⟩) rfl) rfl (λ_ _ _ _=>(cX (aL (ee (K:=K) rfl) (pv 1) (cE (K:=K) rfl (pv 0) rfl) (by with_unfolding_all rfl)))) (λ_ _ _ _=>(aU kF hr rfl (aa (pv 0) (aa (wg (K:=K) rfl PySem.F.plainAttrs_list PySem.F.slot_list_index PySem.F.type_list_index (qY (K:=K) rfl) (cE (K:=K) rfl (pv 0) rfl) (aa (pv 1) ag)) ag))))) ag)))),?_⟩
 have htl:tv.length=od.length:=htv.1
 refine ⟨_,rfl,tl,rfl,⟨_,SqL.of etl⟩,aX (xs:=tv) (λD i ys H'=>aq H H'/\H' D=some (.lst ys)/\∃ css:List (List Int),ao ys css (PlB (Fr H D) H')/\css.length<=i/\(∀ cs ∈ css,cs.length<=6)/\∀ x,x ∈ css.flatten↔∃ k ∈ od.take i,MkK ts k f_ p x) (λD hD=>⟨ah hD _,ae,[],ao.nil,Nat.le_refl _,(λcs h=>by cases h),λx=>⟨(λh=>by cases h),λ⟨k,h,_⟩=>by cases h⟩⟩) (λD i ys H' hD _ h=>SqL.of (h.1 _ _ etl)) (λD i y ys H' hD e h=>?_) (λD ys H' hD h=>?_)⟩
 ·obtain ⟨sm,eD,css,hy,hcl,h6,mO⟩:=h
  obtain ⟨r,k,rfl,ek,hT⟩:=ao.get htv e
  have hi:i < tv.length:=(E4.mp e).1
  obtain ⟨t,nm,po,ou,dv,g1,g2,g3,g4,g5,g6⟩:=id hT
  obtain ⟨rl,dx,na,dl,fs,xs,ht,f1,f2,f3,f4,f5,f6,ena,edl,erl,hR,fX⟩:=id g4
  have ltz:∀ j ∈ t.cols,j < zs.length:=λj hj=>by rw [ok.len];exact ok.lt g1 j hj
  have gz:=bL (os:=t.cols) (xs:=zs) ltz
  have ndc:=(ok.tabs k t g1).ok.nd
  have nds:=lV ndc ok.nd ltz
  refine ⟨_,rfl,_,rfl,r,_,_,_,_,rfl,sm _ _ ht,bl.k_Table,bl.na_Table_names,f5,na,_,rfl,.inl (SqL.of (sm _ _ ena)),rfl,cy _,_,rfl,?_⟩
  rw [if_neg Bool.false_ne_true,dW]
  have hyl:ys.length<=7:=by have:=hy.1;omega
  have vm:∀ x,(∃ k' ∈ od.take (i+1),MkK ts k' f_ p x)↔(∃ k' ∈ od.take i,MkK ts k' f_ p x)\/MkK ts k f_ p x:=λx=>by
   rw [take_snoc ek]
   constructor
   ·rintro ⟨k',hk',hm⟩
    rcases List.mem_append.mp hk' with hk' | hk'
    ·exact .inl ⟨k',hk',hm⟩
    ·rw [List.mem_singleton.mp hk'] at hm;exact .inr hm
   ·rintro (⟨k',hk',hm⟩ | hm)
    ·exact ⟨k',List.mem_append_left _ hk',hm⟩
    ·exact ⟨k,List.mem_append_right _ (List.mem_singleton.mpr rfl),hm⟩
  cases hc:(prm t.cols zs).contains z with
  | true =>
   have hzm:z ∈ prm t.cols zs:=by simpa using hc
   obtain ⟨c,ec0⟩:=List.getElem?_of_mem hzm
   have BP:c < t.cols.length:=by rw [← gz.1];exact (E4.mp ec0).1
   have ecc:=E3 BP
   have ec1:=ec0
   rw [gz.2 c _ ecc] at ec1
   have efc:=cH ok.nd ec1 ez
   have ec:t.cols[c]?=some f_:=by rw [ecc,efc]
   refine fU ⟨_,rfl,_,rfl,r,_,_,_,_,rfl,sm _ _ ht,bl.k_Table,bl.na_Table_names,f5,.inl ⟨rfl,_,SqL.of (sm _ _ ena)⟩,_,rfl,na,_,_,_,c,rfl,rfl,SqL.of (sm _ _ ena),rfl,cy _,dj ec0,j3 rfl,(λm u hm eu=>?_),r,c,k,f_,zs,ds,ts,fN,t,p,rfl,ok,hT.same sm,g1,ec,ep,hp3,λl cs H2 s2 nl el pw mem=>?_⟩
   ·obtain ⟨z2,rfl,ez2⟩:=cG eu
    have hne:z2 ≠ z:=λhz=>by rw [hz] at ez2;have:=cH nds ez2 ec0;omega
    show (z2 == z)=false
    exact beq_eq_false_iff_ne.mpr hne
   ·have eD2:=s2 _ _ eD
    have BQ:cs.length<=6:=Nat.le_trans (cL (pw.imp λh=>Int.ne_of_lt h) λx hx=>((mem x).mp hx).pool ok g1 ec ep) (kD hp3)
    have hy2:ao (ys ++ [.ref l]) (css ++ [cs]) (PlB (Fr H D) H2):=ao.snoc (ao.mono hy λ_ _ p=>⟨p.1,s2 _ _ p.2⟩) ⟨⟨sm.free nl,λz=>by rw [z,eD] at nl;cases nl⟩,el⟩
    refine bK.mk hi eD2 (ay (by omega)) ⟨(sm.trans s2).upd hD,ae,css ++ [cs],ao.mono hy2 (λ_ _ p=>⟨p.1,(au p.1.2).trans p.2⟩),by rw [List.length_append];show _+1<=_;omega,λa ha=>?_,λx=>?_⟩
    ·rcases List.mem_append.mp ha with ha | ha
     ·exact h6 a ha
     ·rw [List.mem_singleton.mp ha];exact BQ
    ·rw [i7,List.mem_append,mO x,mem x,vm x]
     constructor
     ·rintro (h | h)
      ·exact .inl h
      ·exact .inr ⟨t,c,g1,ec,h⟩
     ·rintro (h | ⟨t',c',b1,b2,h⟩)
      ·exact .inl h
      ·rw [g1] at b1
       cases b1
       rw [cH ndc b2 ec] at h
       exact .inr h
  | false =>
   refine cz (cU.mk (zs:=ys) hi ⟨sm,eD,css,hy,by omega,h6,λx=>?_⟩)
   rw [mO x,vm x]
   constructor
   ·exact .inl
   ·rintro (h | ⟨t',c',b1,b2,h⟩)
    ·exact h
    ·rw [g1] at b1
     cases b1
     have:z ∈ prm t.cols zs:=E5 (show (prm t.cols zs)[c']?=some z by rw [gz.2 c' _ b2];exact ez)
     have:(prm t.cols zs).contains z=true:=by simpa using this
     rw [hc] at this
     cases this
 ·obtain ⟨sm,eD,css,hy,hcl,h6,mO⟩:=h
  rw [htl,List.take_length] at mO
  have hfl:=mK h6
  refine ⟨D,ys,css,Lp p,rfl,eD,ao.mono hy (λ_ _ p=>⟨trivial,p.2⟩),by omega,by have:=kD hp3;omega,(λx hx=>by obtain ⟨k,_,t,c,b1,b2,h⟩:=(mO x).mp hx;exact h.pool ok b1 b2 ep),λl cs H4 s4 nl el pw mem=>q l cs H4 (sm.trans s4) (sm.free nl) el pw λx=>(mem x).trans (mO x)⟩
theorem BR (F:Fun K "_law_book" "_law_book" Y33 f fd) (bl:Bl K mg yA yE yN yO yP yQ yR yS yT yU yV yW yX af) (kG:Callee P w K mg base 2 "_law_numbers" ["script", "most"] (J40 K)) (lu:Callee P w K mg base 2 "_law_domain" ["cell"] (J34 K)) (oH:Callee P w K mg base 2 "_law_pool" ["domain", "cell", "most"] (J41 K)) (de:Callee P w K mg base 2 "_law_at" ["script", "k"] (J32 K)) (eB:Callee P w K mg base 2 "_law_words" ["cell", "count"] (J46 K)) (pK:Callee P w K mg base 2 "_law_row" ["columns", "domains", "pools", "own", "number"] (J43 K)):aQ P w K mg base CX0 3 f fd ["script"] (J33 K):=by
 refine F.ok Z33 (λvs H Q E h=>?_) (λcdv A outer s H vs Q E hr h=>?_)
 ·obtain ⟨a,ns,rfl,hS,h63,q⟩:=h
  rfl
 obtain ⟨a,ns,rfl,hS,h63,q⟩:=h
 refine ⟨_,(aD (aI (i:=1) Z33.nd rfl (Or.inr rfl) (aG bB aj (aG br (aU de hr rfl (aa (pv 0) (aa aj ag))) aj)))
  (aD (aI (i:=2) Z33.nd rfl (Or.inl rfl) (aG bB (aG bB (pv 1) aj) (aG br (aG bI (aU de hr rfl (aa (pv 0) (aa aj ag))) aj) (aJ aO (bz (aa aj (aa aj (aa aj ag)))) (aG bQ (pv 1) aj) (λ_ _=>rfl)))))
  (aD (aI (i:=3) Z33.nd rfl (Or.inr rfl) (aZ (bC rfl bl.range_ (aa (pv 2) ag)) (aR (N:=["k", "script"]) (fr:=[0]) (cl:=[("script",s.heap.objs.size+1)]) rfl rfl (by decide +kernel) (by decide +kernel) rfl (by decide +kernel) rfl rfl rfl (List.forall_mem_cons.mpr ⟨rfl,List.forall_mem_nil _⟩) rfl) rfl (λ_ _ _ _=>aW) (λ_ _ _ _=>(aU lu hr rfl (aa (aU de hr rfl (aa (pv 1) (aa (aG bB aj (pv 0)) ag))) ag)))))
  (aD (aI (i:=4) Z33.nd rfl (Or.inr rfl) (aG iU (aZ (bC rfl bl.range_ (aa (pv 1) ag)) (aR (N:=["k", "facts"]) (fr:=[1]) (cl:=[("facts",s.heap.objs.size+1+1)]) rfl rfl (by decide +kernel) (by decide +kernel) rfl (by decide +kernel) rfl rfl rfl (List.forall_mem_cons.mpr ⟨rfl,List.forall_mem_nil _⟩) rfl) rfl (λ_ _ _ _=>aW) (λ_ _ _ _=>(aJ (cc (K:=K) rfl) (bz (aa aj (aa aj (aa aj ag)))) (aG bQ (pv 1) aj) (λ_ _=>rfl)))) (aZ (bC rfl bl.range_ (aa (aG bQ (pv 2) (pv 1)) ag)) (bP rfl (by decide +kernel) (by decide +kernel) (by decide +kernel) rfl) rfl (λ_ _ _ _=>aW) (λ_ _ _ _=>aj))))
  (aD (il (i:=5) Z33.nd rfl (Or.inl rfl) (bC rfl bl.range_ (aa (pv 2) ag)) (aR (N:=["k", "script", "domains", "sizes"]) (fr:=[0,3,4]) (cl:=[("sizes",s.heap.objs.size+1+1+1+1),("script",s.heap.objs.size+1),("domains",s.heap.objs.size+1+1+1)]) rfl rfl (by decide +kernel) (by decide +kernel) rfl (by decide +kernel) rfl rfl rfl (List.forall_mem_cons.mpr ⟨rfl,List.forall_mem_cons.mpr ⟨rfl,List.forall_mem_cons.mpr ⟨rfl,List.forall_mem_nil _⟩⟩⟩) rfl) rfl (λ_ _ _ _=>aW) (λ_ _ _ _=>(aU oH hr rfl (aa (aJ (cc (K:=K) rfl) (pv 2) (pv 0) (λ_ _=>rfl)) (aa (aU de hr rfl (aa (pv 1) (aa (aG bB aj (pv 0)) ag))) (aa (aJ (cc (K:=K) rfl) (pv 3) (pv 0) (λ_ _=>rfl)) ag))))))
  (aD (aI (i:=6) Z33.nd rfl (Or.inl rfl) (bz ag))
  (aD (bp PassesOwn.never rfl (iQ rfl bl.range_ (aa (pv 1) (aa (pv 2) ag))) (aE (i:=7) Z33.nd rfl (Or.inr rfl))
  (aD (aI (i:=8) Z33.nd rfl (Or.inr rfl) (aU de hr rfl (aa (pv 0) (aa (aG bQ (aG bB aj (pv 7)) (pv 1)) ag))))
  (aD (il (i:=9) Z33.nd rfl (Or.inl rfl) (bC rfl bl.range_ (aa (aC (lB rfl) rfl bl.min_ PyProof.Rows.boot_min (aa (aG bB aj (aG br (pv 8) aj)) (aa (pv 7) ag))) ag)) (aR (N:=["j", "own", "cell"]) (fr:=[7,8]) (cl:=[("own",s.heap.objs.size+1+1+1+1+1),("cell",s.heap.objs.size+1+1+1+1+1+1)]) rfl rfl (by decide +kernel) (by decide +kernel) rfl (by decide +kernel) rfl rfl rfl (List.forall_mem_cons.mpr ⟨rfl,List.forall_mem_cons.mpr ⟨rfl,List.forall_mem_nil _⟩⟩) rfl) rfl (λ_ _ _ _=>aW) (λ_ _ _ _=>(aG br (aG bB (aG bI (pv 2) aj) (pv 0)) (pv 1))))
  (aD (aI (i:=10) Z33.nd rfl (Or.inl rfl) (aJ aO (bz (aa bM (aa bM (aa bM (aa bM (aa bM (aa bM ag))))))) (aG br (aG bI (pv 8) aj) aj) (λ_ _=>rfl)))
  (aD (ba (PW.pt (jT (aL cO (pv 10) bM (aS _)) (ib (aL jV (aC aw rfl bl.len_ PySem.boot_len (aa (aJ bD (aJ aO (pv 3) (pv 7) (λ_ _=>rfl)) aj (λ_ _=>rfl)) ag)) aj (aS _)))))
  (ai (aI (i:=10) Z33.nd rfl (Or.inl rfl) bM))
  aM)
  (ai (aT (cS PySem.F.plainAttrs_list PySem.F.slot_list_append PySem.F.type_list_append bO (pv 6) (aa (bN (aa (pv 9) (aa (pv 10) (aa (bz ag) ag)))) ag)))))))))
  (aD (aI (i:=11) Z33.nd rfl (Or.inl rfl) (aU kG hr rfl (aa (pv 0) (aa (aG fh (aC aw rfl bl.len_ PySem.boot_len (aa (pv 6) ag)) (aJ aO (bz (aa aj (aa aj (aa aj ag)))) (aG bQ (pv 1) aj) (λ_ _=>rfl))) ag))))
  (aD (bp PassesOwn.never rfl (bC rfl bl.range_ (aa (aC aw rfl bl.len_ PySem.boot_len (aa (pv 11) ag)) ag)) (aE (i:=12) Z33.nd rfl (Or.inl rfl))
  (aD (aI (i:=13) Z33.nd rfl (Or.inl rfl) (aJ aO (pv 6) (aG br (pv 12) (aC aw rfl bl.len_ PySem.boot_len (aa (pv 6) ag))) (λ_ _=>rfl)))
  (ai (aT (cS PySem.F.plainAttrs_list PySem.F.slot_list_append PySem.F.type_list_append bO (aJ bD (pv 13) aj (λ_ _=>rfl)) (aa (aU pK hr rfl (aa (aJ bD (pv 13) aj (λ_ _=>rfl)) (aa (pv 3) (aa (pv 5) (aa (aG bB (pv 1) (aG br (pv 12) (aC aw rfl bl.len_ PySem.boot_len (aa (pv 6) ag)))) (aa (aJ aO (pv 11) (pv 12) (λ_ _=>rfl)) ag)))))) ag))))))
  (ai (aP (bN (aa (aU eB hr rfl (aa (aU de hr rfl (aa (pv 0) (aa aj ag))) (aa (pv 2) ag))) (aa (pv 3) (aa (pv 6) ag))))))))))))))),?_⟩
 refine ⟨λσ' H'=>H'=H/\∃ fN:Nat,1<=fN/\fN<=3/\σ'=[some (.ref a),some (.int (fN:Int)),none,none,none,none,none,none,none,none,none,none,none,none],⟨_,rfl,a,ns,0,rfl,hS,Int.le_refl _,λr=>⟨_,_,rfl,rfl,(by show (0:Int) < 3;decide),_,_,rfl,rfl,rfl,(1+r % 3).toNat,?_,?_,?_⟩⟩,?_⟩
 ·have:=Int.emod_nonneg r (show (3:Int) ≠ 0 by decide);omega
 ·have:=Int.emod_lt_of_pos r (show (0:Int) < 3 by decide);omega
 ·rw [Int.toNat_of_nonneg (by have:=Int.emod_nonneg r (show (3:Int) ≠ 0 by decide);omega)];rfl
 rintro σ1 H1 ⟨rfl,fN,hf1,hf3,rfl⟩
 refine ⟨λσ' H'=>aq H1 H'/\∃ tN:Nat,fN < tN/\tN<=fN+4/\σ'=[some (.ref a),some (.int (fN:Int)),some (.int (tN:Int)),none,none,none,none,none,none,none,none,none,none,none],?_,?_⟩
 ·refine ⟨_,rfl,_,_,rfl,rfl,_,rfl,a,ns,0,rfl,hS,Int.le_refl _,λr=>⟨_,_,rfl,rfl,⟨by decide,by decide⟩,(by show 3<=sizeLine;decide),λl3 hl3=>?_⟩⟩
  obtain ⟨v,ev,hv1,hv4⟩:=pI (x:=4) (y:=3) (z:=2) hf1 hf3 (by decide) (by decide) (by decide)
  refine ⟨_,rfl,_,_,rfl,rfl,l3,_,_,_,rfl,rfl,SqL.of ae,ev,_,_,rfl,rfl,(by show (0:Int) < v;omega),_,_,rfl,rfl,ah hl3 _,((fN:Int)+1+r / 3 % v).toNat,?_,?_,?_⟩
  ·have:=Int.emod_nonneg (r / 3) (show v ≠ 0 by omega);omega
  ·have:=Int.emod_lt_of_pos (r / 3) (show (0:Int) < v by omega);omega
  ·rw [Int.toNat_of_nonneg (by have:=Int.emod_nonneg (r / 3) (show v ≠ 0 by omega);omega)];rfl
 rintro σ2 H2 ⟨s12,tN,ht1,ht4,rfl⟩
 replace hS:=s12.seq hS
 refine ⟨λσ' H'=>aq H2 H'/\∃ (dl:Addr) (dv:List V) (ds:List PD),H' dl=some (.lst dv)/\ao dv ds (PDA NT H')/\ds.length=tN/\(∀ p ∈ ds,pF p)/\σ'=[some (.ref a),some (.int (fN:Int)),some (.int (tN:Int)),some (.ref dl),none,none,none,none,none,none,none,none,none,none],?_,?_⟩
 ·refine ⟨_,rfl,_,rfl,(by omega),(by omega),bE (λD i zs H'=>aq H2 H'/\H' D=some (.lst zs)/\∃ ds:List PD,ao zs ds (PDA (· ≠ D) H')/\ds.length=i/\∀ p ∈ ds,pF p) (λD hD=>⟨ah hD _,ae,[],ao.nil,rfl,(λp hp=>by cases hp)⟩) (λD i zs H' hD hi hh=>?_) (λD zs H' hD hh=>?_)⟩
  ·obtain ⟨sm,eD,ds,hz,hl,hok⟩:=hh
   refine ⟨_,rfl,_,rfl,_,_,rfl,rfl,a,ns,_,rfl,sm.seq hS,(by show 0<=2+(0+(i:Int));omega),λr=>⟨r,rfl,λl p H3 s3 hp ok=>?_⟩⟩
   have eD3:=s3 _ _ eD
   have hp2:PDA (· ≠ D) H3 l p:=hp.wk λx hx z=>by rw [z,eD] at hx;cases hx
   have hz2:ao (zs ++ [.ref l]) (ds ++ [p]) (PDA (· ≠ D) H3):=ao.snoc (ao.mono hz λ_ _ p=>p.same s3) hp2
   refine bK.mk hi eD3 (ay (by have:=hz.1;omega)) ⟨(sm.trans s3).upd hD,ae,ds ++ [p],ao.mono hz2 λ_ _ p=>p.updN (λz=>z rfl) eD3,by rw [List.length_append,hl];rfl,λp' hp'=>?_⟩
   rcases List.mem_append.mp hp' with hp' | hp'
   ·exact hok p' hp'
   ·rw [show p'=p by simpa using hp'];exact ok
  ·obtain ⟨sm,eD,ds,hz,hl,hok⟩:=hh
   rw [Int.toNat_natCast] at hl
   exact ⟨sm,D,zs,ds,eD,ao.mono hz (λ_ _ p=>p.wk λ_ _=>trivial),hl,hok,rfl⟩
 rintro σ3 H3 ⟨s3,dl,dv,ds,edl,hds,hdn,sV,rfl⟩
 refine ⟨λσ' H'=>aq H3 H'/\∃ (sz:Addr) (sn:List Nat),H' sz=some (.lst (vN sn))/\sn.length=tN/\(∀ x ∈ sn,1<=x/\x<=3)/\σ'=[some (.ref a),some (.int (fN:Int)),some (.int (tN:Int)),some (.ref dl),some (.ref sz),none,none,none,none,none,none,none,none,none],?_,?_⟩
 ·obtain ⟨v,ev,hv1,hv3⟩:=pI (x:=3) (y:=3) (z:=2) hf1 hf3 (by decide) (by decide) (by decide)
  obtain ⟨k,rfl⟩:∃ k:Nat,v=(k:Int):=⟨v.toNat,by omega⟩
  refine ⟨_,rfl,_,rfl,(by omega),(by omega),bE (λD i zs H'=>aq H3 H'/\H' D=some (.lst zs)/\zs=vN (List.replicate i k)) (λD hD=>⟨ah hD _,ae,rfl⟩) (λD i zs H' hD hi hh=>?_) (λD zs H' hD hh=>?_)⟩
  ·obtain ⟨sm,eD,rfl⟩:=hh
   rw [Int.toNat_natCast] at hi
   refine ⟨(by show 3<=sizeLine;decide),λl3 hl3=>?_⟩
   have u3:=ah hl3 (.lst [.int 3,.int 3,.int 2])
   refine ⟨_,rfl,_,_,rfl,rfl,l3,_,_,_,rfl,rfl,SqL.of ae,ev,bK.mk (by rw [Int.toNat_natCast];exact hi) (u3 _ _ eD) (ay (by rw [bG,List.length_replicate];omega)) ⟨(sm.trans u3).upd hD,ae,?_⟩⟩
   rw [List.replicate_succ',← kr]
   rfl
  ·obtain ⟨sm,eD,rfl⟩:=hh
   rw [Int.toNat_natCast] at eD
   refine ⟨_,rfl,_,rfl,_,_,rfl,rfl,_,rfl,(by omega),(by omega),bE (λD2 i zs H2'=>aq H' H2'/\H2' D2=some (.lst zs)/\zs=vN (List.replicate i 3)) (λD2 hD2=>⟨ah hD2 _,ae,rfl⟩) (λD2 i zs H2' hD2 hi hh=>?_) (λD2 zs H2' hD2 hh=>?_)⟩
   ·obtain ⟨sm2,eD2,rfl⟩:=hh
    refine bK.mk hi eD2 (ay (by rw [bG,List.length_replicate];omega)) ⟨sm2.upd hD2,ae,?_⟩
    rw [List.replicate_succ',← kr]
    rfl
   ·obtain ⟨sm2,eD2,rfl⟩:=hh
    rw [show ((tN:Int) - (fN:Int)).toNat=tN - fN by omega] at eD2
    refine ⟨D,D2,_,_,rfl,rfl,sm2 _ _ eD,eD2,Nat.le_of_lt (ay (by rw [bG,bG,List.length_replicate,List.length_replicate];omega)),λp hp=>⟨(sm.trans sm2).trans (ah hp _),p,List.replicate fN k ++ List.replicate (tN - fN) 3,by rw [ae,kr],by rw [List.length_append,List.length_replicate,List.length_replicate];omega,λx hx=>?_,rfl⟩⟩
    rcases List.mem_append.mp hx with hx | hx
    ·rw [(List.mem_replicate.mp hx).2];omega
    ·rw [(List.mem_replicate.mp hx).2];omega
 rintro σs Hs ⟨ss,sz,sn,esz,hsl,hsn,rfl⟩
 replace s3:=s3.trans ss
 replace edl:=ss _ _ edl
 replace hds:ao dv ds (PDA NT Hs):=ao.mono hds λ_ _ p=>p.same ss
 clear ss
 refine ⟨λσ' H'=>aq Hs H'/\∃ (po:Addr) (pvs:List V) (ds2:List PD),H' po=some (.lst pvs)/\ao pvs ds2 (PoB NT H')/\ao dv ds2 (PDA NT H')/\ds2.length=tN/\(∀ p ∈ ds2,pF p)/\σ'=[some (.ref a),some (.int (fN:Int)),some (.int (tN:Int)),some (.ref dl),some (.ref sz),some (.ref po),none,none,none,none,none,none,none,none],?_,?_⟩
 ·refine ⟨_,rfl,_,rfl,(by omega),(by omega),bE (λD i zs H'=>aq Hs H'/\H' D=some (.lst zs)/\∃ pls:List (List Int),ao zs pls (PlB (· ≠ D) H')/\pls.length=i/\∀ (j:Nat) (P:List Int) (p:PD),pls[j]?=some P->ds[j]?=some p->1<=P.length/\P.length<=3/\∀ x ∈ P,p.lo<=x/\x<=p.hi) (λD hD=>⟨ah hD _,ae,[],ao.nil,rfl,(λj P p e=>by simp at e)⟩) (λD i zs H' hD hi hh=>?_) (λD zs H' hD hh=>?_)⟩
  ·obtain ⟨sm,eD,pls,hz,hpl,hpb⟩:=hh
   rw [Int.toNat_natCast] at hi
   have ep:=E3 (l:=ds) (i:=i) (by omega)
   obtain ⟨da,e2,hpd⟩:=hds.2 i _ ep
   generalize ds[i]=p at ep hpd
   have en:=E3 (l:=sn) (i:=i) (by omega)
   have hn:=hsn _ (E5 en)
   generalize sn[i]=nn at en hn
   have ix:atI dv (0+(i:Int))=some (.ref da):=by rw [Int.zero_add];exact aN e2
   have ix2:atI (vN sn) (0+(i:Int))=some (.int (nn:Int)):=by rw [Int.zero_add];exact aN (vk en)
   refine ⟨_,rfl,_,rfl,dl,_,_,_,rfl,rfl,SqL.of (sm _ _ edl),ix,_,rfl,_,rfl,_,_,rfl,rfl,a,ns,_,rfl,(s3.trans sm).seq hS,(by show 0<=9+(0+(i:Int));omega),λr=>⟨_,rfl,_,rfl,sz,_,_,_,rfl,rfl,SqL.of (sm _ _ esz),ix2,da,p,r,nn,rfl,hpd.same sm,sV p (E5 ep),hn.2,λl xs H4 s4 nl el hl hx=>?_⟩⟩
   have eD4:=s4 _ _ eD
   have nD:l ≠ D:=λz=>by rw [z,eD] at nl;cases nl
   have hz2:ao (zs ++ [.ref l]) (pls ++ [xs]) (PlB (· ≠ D) H4):=ao.snoc (ao.mono hz λ_ _ p=>⟨p.1,s4 _ _ p.2⟩) ⟨nD,el⟩
   refine bK.mk (by rw [Int.toNat_natCast];exact hi) eD4 (ay (by have:=hz.1;omega)) ⟨(sm.trans s4).upd hD,ae,pls ++ [xs],ao.mono hz2 (λ_ _ p=>⟨p.1,(au p.1).trans p.2⟩),by rw [List.length_append,hpl];rfl,λj P p' f1 f2=>?_⟩
   by_cases hj:j < pls.length
   ·rw [List.getElem?_append_left hj] at f1
    exact hpb j P p' f1 f2
   ·have hj2:j=pls.length:=by have:=(E4.mp f1).1;simp at this;omega
    subst hj2
    simp at f1
    subst f1
    rw [hpl,ep] at f2
    cases f2
    exact ⟨by omega,by omega,hx⟩
  ·obtain ⟨sm,eD,pls,hz,hpl,hpb⟩:=hh
   rw [Int.toNat_natCast] at hpl
   have hl2:pls.length=ds.length:=by omega
   refine ⟨sm,D,zs,List.zipWith (λ(p:PD) P=>{ p with pool:=P }) ds pls,eD,?_,?_,by rw [List.length_zipWith];omega,?_,rfl⟩
   ·refine ⟨by rw [List.length_zipWith,hz.1];omega,λj p e=>?_⟩
    obtain ⟨p0,P,e1,e2,rfl⟩:=kC e
    obtain ⟨l,el,nl,hl⟩:=hz.2 j P e2
    obtain ⟨g1,g2,g3⟩:=hpb j P p0 e2 e1
    exact ⟨l,el,trivial,hl,g1,g2,g3⟩
   ·refine ⟨by rw [List.length_zipWith,hds.1];omega,λj p e=>?_⟩
    obtain ⟨p0,P,e1,e2,rfl⟩:=kC e
    obtain ⟨l,el,hl⟩:=hds.2 j p0 e1
    exact ⟨l,el,hl.same sm⟩
   ·intro p hp
    obtain ⟨j,e⟩:=List.getElem?_of_mem hp
    obtain ⟨p0,P,e1,e2,rfl⟩:=kC e
    have h:=sV p0 (E5 e1)
    exact ⟨h.1,h.2,h.3⟩
 clear hds hdn sV
 rintro σ4 H4 ⟨s4,po,pvs,ds,epo,hpo,hds,hdn,sV,rfl⟩
 have s14:=s3.trans s4
 refine ⟨λσ' H'=>aq H4 H'/\∃ tb:Addr,H4 tb=none/\H' tb=some (.lst [])/\σ'=[some (.ref a),some (.int (fN:Int)),some (.int (tN:Int)),some (.ref dl),some (.ref sz),some (.ref po),some (.ref tb),none,none,none,none,none,none,none],⟨(by show 0<=sizeLine;decide),λl hl=>⟨ah hl _,l,hl,ae,rfl⟩⟩,?_⟩
 rintro σ5 H5 ⟨s5,tb,ntb,etb,rfl⟩
 have s25:=s14.trans s5
 refine ⟨λσ' H'=>aq H4 H'/\∃ (tv:List V) (ts:List ((List Nat × Str) × Addr)) (c6 c7 c8 c9:Option V),H' tb=some (.lst tv)/\ao tv ts (TT (hideL H' (tb :: rls ts)))/\ts.length=tN - fN/\(rls ts).Nodup/\(∀ x ∈ rls ts,H4 x=none/\x ≠ tb/\H' x=some (.lst []))/\(∀ (j:Nat) (t:(List Nat × Str) × Addr),ts[j]?=some t->wC fN ds j t.1)/\σ'=[some (.ref a),some (.int (fN:Int)),some (.int (tN:Int)),some (.ref dl),some (.ref sz),some (.ref po),some (.ref tb),c6,c7,c8,c9,none,none,none],?_,?_⟩
 ·refine ⟨_,rfl,_,rfl,_,_,rfl,⟨by omega,by omega,by omega,by omega⟩,dN (λi σ H'=>aq H4 H'/\∃ (tv:List V) (ts:List ((List Nat × Str) × Addr)) (c6 c7 c8 c9:Option V),H' tb=some (.lst tv)/\ao tv ts (TT (hideL H' (tb :: rls ts)))/\ts.length=i/\(rls ts).Nodup/\(∀ x ∈ rls ts,H4 x=none/\x ≠ tb/\H' x=some (.lst []))/\(∀ (j:Nat) (t:(List Nat × Str) × Addr),ts[j]?=some t->wC fN ds j t.1)/\σ=[some (.ref a),some (.int (fN:Int)),some (.int (tN:Int)),some (.ref dl),some (.ref sz),some (.ref po),some (.ref tb),c6,c7,c8,c9,none,none,none]) ⟨s5,[],[],_,_,_,_,etb,ao.nil,rfl,List.nodup_nil,(λx hx=>by cases hx),(λj t e=>by simp at e),rfl⟩ (λi σ H' hi hh=>?_) (λσ H' hh=>?_)⟩
  ·obtain ⟨sm,tv,ts,c6,c7,c8,c9,etv,htv,htl,hnd,hrl,uQ,rfl⟩:=hh
   have hi2:i < tN - fN:=by omega
   obtain ⟨ow,how⟩:∃ ow:Nat,(fN:Int)+(i:Int)=(ow:Int):=⟨fN+i,by omega⟩
   have EO:ow=fN+i:=by omega
   rw [how]
   refine ⟨λσ' H''=>H''=H'/\∃ c:Int,σ'=[some (.ref a),some (.int (fN:Int)),some (.int (tN:Int)),some (.ref dl),some (.ref sz),some (.ref po),some (.ref tb),some (.int (ow:Int)),some (.int c),c8,c9,none,none,none],⟨_,rfl,_,rfl,_,_,rfl,rfl,_,rfl,_,_,rfl,rfl,a,ns,_,rfl,(s14.trans sm).seq hS,(by show 0<=16+(ow:Int) - (fN:Int);omega),λr=>⟨rfl,r,rfl⟩⟩,?_⟩
   rintro σa Ha ⟨rfl,c,rfl⟩
   obtain ⟨m,em,m1,m3,mo⟩:=uL (c:=c) (ow:=ow) (by omega)
   refine ⟨λσ' H''=>aq Ha H''/\∃ cl:Addr,Ha cl=none/\H'' cl=some (.lst (vN (clm c ow m)))/\σ'=[some (.ref a),some (.int (fN:Int)),some (.int (tN:Int)),some (.ref dl),some (.ref sz),some (.ref po),some (.ref tb),some (.int (ow:Int)),some (.int c),some (.ref cl),c9,none,none,none],?_,?_⟩
   ·refine ⟨_,rfl,_,_,rfl,rfl,(by show (0:Int) < 3;decide),_,_,rfl,rfl,_,rfl,_,_,rfl,_,rfl,(by rw [em];omega),(by rw [em];omega),bE (λD i zs H''=>aq Ha H''/\H'' D=some (.lst zs)/\zs=vN (clm c ow i)) (λD hD=>⟨ah hD _,ae,rfl⟩) (λD i zs H'' hD hi hh=>?_) (λD zs H'' hD hh=>?_)⟩
    ·obtain ⟨sm2,eD,rfl⟩:=hh
     rw [em,Int.toNat_natCast] at hi
     have v0:=Int.emod_nonneg (c / 3+(0+(i:Int))) (show (ow:Int) ≠ 0 by omega)
     refine ⟨_,rfl,_,_,rfl,rfl,⟨by decide,by decide⟩,_,rfl,_,_,rfl,rfl,_,rfl,_,_,rfl,rfl,(by show (0:Int) < (ow:Int);omega),bK.mk (by rw [em,Int.toNat_natCast];exact hi) eD (ay (by rw [bG,mI];omega)) ⟨sm2.upd hD,ae,?_⟩⟩
     rw [sH,Int.toNat_of_nonneg v0]
    ·obtain ⟨sm2,eD,rfl⟩:=hh
     rw [em,Int.toNat_natCast] at eD
     exact ⟨sm2,D,hD,eD,rfl⟩
   rintro σb Hb ⟨sb,cl,ncl,ecl,rfl⟩
   refine ⟨λσ' H''=>aq Hb H''/\∃ wy:Str,wy ∈ six/\σ'=[some (.ref a),some (.int (fN:Int)),some (.int (tN:Int)),some (.ref dl),some (.ref sz),some (.ref po),some (.ref tb),some (.int (ow:Int)),some (.int c),some (.ref cl),some (.str wy),none,none,none],?_,?_⟩
   ·refine ⟨(by show 6<=sizeLine;decide),λp6 hp6=>?_⟩
    have w0:=Int.emod_nonneg (c / 50) (show (6:Int) ≠ 0 by decide)
    have w1:=Int.emod_lt_of_pos (c / 50) (show (0:Int) < 6 by decide)
    obtain ⟨k,ek⟩:∃ k:Nat,c / 50 % 6=(k:Int):=⟨_,(Int.toNat_of_nonneg w0).symm⟩
    have hk:k < six.length:=by show k < 6;omega
    have e6:=E3 hk
    have ex:atI [V.str (Str.ofString "first"),.str (Str.ofString "only"),.str (Str.ofString "like"),.str (Str.ofString "low"),.str (Str.ofString "high"),.str (Str.ofString "sum")] (c / 50 % 6)=some (.str six[k]):=by
     rw [ek]
     exact aN (xs:=six.map V.str) (by rw [List.getElem?_map,e6];rfl)
    exact ⟨_,rfl,_,_,rfl,rfl,⟨by decide,by decide⟩,_,_,rfl,rfl,(by show (0:Int) < 6;decide),p6,_,_,_,rfl,rfl,SqL.of ae,ex,ah hp6 _,_,E5 e6,rfl⟩
   rintro σc Hc ⟨sc,wy0,hw6,rfl⟩
   have sac:=sb.trans sc
   have ep:=E3 (l:=ds) (i:=ow) (by omega)
   obtain ⟨da,e2,hpd⟩:=hds.2 ow _ ep
   generalize ds[ow]=p at ep hpd
   have s3c:=(s4.trans sm).trans sac
   obtain ⟨wl,_,_,f1,f2⟩:=hpd.same (sm.trans sac)
   refine ⟨λσ' H''=>H''=Hc/\∃ wy:Str,wy ∈ six/\(wy=Str.ofString "sum" -> p.ws=[])/\σ'=[some (.ref a),some (.int (fN:Int)),some (.int (tN:Int)),some (.ref dl),some (.ref sz),some (.ref po),some (.ref tb),some (.int (ow:Int)),some (.int c),some (.ref cl),some (.str wy),none,none,none],?_,?_⟩
   ·refine ⟨_,rfl,rfl,_,rfl,?_⟩
    refine cP (λg=>?_) (λg=>?_)
    ·refine ⟨_,rfl,_,rfl,dl,_,_,_,rfl,rfl,SqL.of (s3c _ _ edl),aN e2,da,_,_,_,rfl,rfl,SqT.of f1,rfl,wl,_,rfl,.inl (SqL.of f2),_,_,rfl,rfl,_,rfl,?_⟩
     refine cP (λg2=>?_) (λg2=>?_)
     ·exact ⟨rfl,Str.ofString "high",by unfold six;simp,(λz=>absurd z (by decide +kernel)),rfl⟩
     ·refine ⟨rfl,wy0,hw6,λ_=>?_,rfl⟩
      have:¬ ((0:Int) < (((p.ws.map V.str).length:Nat):Int)):=λh=>g2 (decide_eq_true h)
      rw [List.length_map] at this
      exact List.length_eq_zero_iff.mp (by omega)
    ·refine ⟨rfl,wy0,hw6,λz=>absurd ?_ g,rfl⟩
     rw [z]
     exact decide_eq_true rfl
   rintro σd Hd ⟨rfl,wy,hwy,BS,rfl⟩
   have etd:=sac _ _ etv
   refine ⟨_,rfl,.inl ⟨rfl,_,SqL.of etd⟩,_,rfl,_,rfl,(by show 0<=sizeLine;decide),λx hx=>?_⟩
   have u1:=ah hx (.lst [])
   have ex:upd Hd x (.lst []) x=some (.lst []):=ae
   generalize upd Hd x (.lst [])=He at u1 ex ⊢
   refine ⟨(by show 3<=sizeLine;decide),λr hr=>?_⟩
   have u2:=ah hr (.tup [.ref cl,.str wy,.ref x])
   have er:upd He r (.tup [.ref cl,.str wy,.ref x]) r=some (.tup [.ref cl,.str wy,.ref x]):=ae
   generalize upd He r (.tup [.ref cl,.str wy,.ref x])=Hf at u2 er ⊢
   have saf:=(sac.trans u1).trans u2
   have etf:=saf _ _ etv
   refine ⟨tb,_,_,rfl,rfl,etf,ay (by have:=htv.1;omega),?_⟩
   have nxa:Ha x=none:=sac.free hx
   have nx4:H4 x=none:=sm.free nxa
   have nxt:x ≠ tb:=λz=>by rw [z,etv] at nxa;cases nxa
   have clx:cl ≠ x:=λz=>by rw [← z,sc _ _ ecl] at hx;cases hx
   have old:∀ b ∈ tb :: rls ts,∃ zs,Ha b=some (.lst zs):=λb hb=>by
    rcases List.mem_cons.mp hb with rfl | hb
    ·exact ⟨_,etv⟩
    ·exact ⟨_,(hrl b hb).2.2⟩
   have zk:cl ∉ tb :: rls ts:=λhm=>by obtain ⟨zs,e⟩:=old cl hm;rw [e] at ncl;cases ncl
   have nxF:x ∉ tb :: rls ts:=λhm=>by obtain ⟨zs,e⟩:=old x hm;rw [e] at nxa;cases nxa
   have nrF:r ∉ tb :: rls ts:=λhm=>by obtain ⟨zs,e⟩:=old r hm;have:=saf _ _ e;rw [er] at this;cases this
   have nrx:r ≠ x:=λz=>by have:=u2 _ _ ex;rw [← z,er] at this;cases this
   have eF:rls (ts ++ [((clm c ow m,wy),x)])=rls ts ++ [x]:=sI ..
   have inF:∀ b,b ∉ tb :: rls ts->b ≠ x->b ∉ tb :: (rls ts ++ [x]):=λb h1 h2 hm=>by
    rcases List.mem_cons.mp hm with z | hm
    ·exact h1 (by rw [z];exact List.mem_cons_self)
    ·rcases List.mem_append.mp hm with hm | hm
     ·exact h1 (List.mem_cons_of_mem _ hm)
     ·exact h2 (by simpa using hm)
   have gr:aq (hideL Ha (tb :: rls ts)) (hideL (upd Hf tb (.lst (tv ++ [.ref r]))) (tb :: (rls ts ++ [x]))):=lZ λb o hb e=>by
    refine ⟨(au λz=>hb (by rw [z];exact List.mem_cons_self)).trans (saf _ _ e),inF b hb λz=>?_⟩
    rw [z,nxa] at e;cases e
   have hT:TT (hideL (upd Hf tb (.lst (tv ++ [.ref r]))) (tb :: (rls ts ++ [x]))) r ((clm c ow m,wy),x):=by
    refine ⟨cl,cg ((au λz=>nrF (by rw [z];exact List.mem_cons_self)).trans er) (inF r nrF nrx),cg ((au λz=>zk (by rw [z];exact List.mem_cons_self)).trans (u2 _ _ (u1 _ _ (sc _ _ ecl)))) (inF cl zk clx)⟩
   refine ⟨(sm.trans saf).upd ntb,tv ++ [.ref r],ts ++ [((clm c ow m,wy),x)],_,_,_,_,ae,?_,by rw [List.length_append,htl];rfl,?_,λy hy=>?_,λj t e=>?_,rfl⟩
   ·rw [eF]
    exact ao.snoc (ao.mono htv λ_ _ p=>p.same gr) hT
   ·rw [eF]
    refine List.nodup_append.mpr ⟨hnd,by simp,λy hy z hz=>?_⟩
    rw [show z=x by simpa using hz]
    exact λe=>nxF (by rw [← e];exact List.mem_cons_of_mem _ hy)
   ·rw [eF] at hy
    rcases List.mem_append.mp hy with hy | hy
    ·obtain ⟨y1,y2,y3⟩:=hrl y hy
     exact ⟨y1,y2,(au y2).trans (saf _ _ y3)⟩
    ·rw [show y=x by simpa using hy]
     exact ⟨nx4,nxt,(au nxt).trans (u2 _ _ ex)⟩
   ·by_cases hj:j < ts.length
    ·rw [List.getElem?_append_left hj] at e
     exact uQ j t e
    ·have hj2:j=ts.length:=by have:=(E4.mp e).1;simp at this;omega
     subst hj2
     simp at e
     subst e
     have eo:fN+ts.length=ow:=by omega
     refine ⟨by show 1<=(clm c ow m).length;rw [mI];exact m1,by show (clm c ow m).length<=3;rw [mI];exact m3,λk hk=>?_,wF (by omega) mo,hwy,λz p' ep'=>?_⟩
     ·rw [eo];exact wD (by omega) k hk
     ·rw [eo,ep] at ep'
      cases ep'
      exact BS z
  ·obtain ⟨sm,tv,ts,c6,c7,c8,c9,r⟩:=hh
   rw [show ((tN:Int) - (fN:Int)).toNat=tN - fN by omega] at r
   exact ⟨sm,tv,ts,c6,c7,c8,c9,r⟩
 rintro σ6 H6o ⟨s6o,tv,ts,c6,c7,c8,c9,zl,zm,htl,hnd,zo,uQ,rfl⟩
 have hn1:1<=ts.length:=by omega
 have BU:tv.length=ts.length:=zm.1
 refine ⟨λσ' H'=>aq H6o H'/\∃ (nu:Addr) (ms:List Int),H6o nu=none/\H' nu=some (.lst (ms.map V.int))/\ms.length<=32/\σ'=[some (.ref a),some (.int (fN:Int)),some (.int (tN:Int)),some (.ref dl),some (.ref sz),some (.ref po),some (.ref tb),c6,c7,c8,c9,some (.ref nu),none,none],?_,?_⟩
 ·refine ⟨_,rfl,_,rfl,tb,_,rfl,.inl (SqL.of zl),(by show 3<=sizeLine;decide),λl3 hl3=>?_⟩
  obtain ⟨v,ev,hv1,hv8⟩:=pI (x:=8) (y:=6) (z:=5) hf1 hf3 (by decide) (by decide) (by decide)
  obtain ⟨k,rfl⟩:∃ k:Nat,v=(k:Int):=⟨v.toNat,by omega⟩
  have u3:=ah hl3 (.lst [.int 8,.int 6,.int 5])
  have hm1:1<=tv.length * k:=Nat.mul_pos (by omega) (by omega)
  have hm2:tv.length * k<=4 * 8:=Nat.mul_le_mul (by omega) (by omega)
  refine ⟨_,rfl,_,_,rfl,rfl,l3,_,_,_,rfl,rfl,SqL.of ae,ev,_,_,rfl,rfl,.inr ⟨by omega,by omega⟩,a,ns,tv.length * k,(by rw [Int.natCast_mul]),((s14.trans s6o).trans u3).seq hS,h63,hm1,by omega,λl ms H' s nl el hl=>⟨u3.trans s,l,ms,u3.free nl,el,by omega,rfl⟩⟩
 rintro σ6 H6 ⟨s6n,nu,ms,nnu,enu,hms,rfl⟩
 have s6:=s6o.trans s6n
 have etv:=s6n _ _ zl
 have hrl:∀ x ∈ rls ts,H4 x=none/\x ≠ tb/\H6 x=some (.lst []):=λx hx=>let ⟨h1,h2,h3⟩:=zo x hx;⟨h1,h2,s6n _ _ h3⟩
 have htv:ao tv ts (TT (hideL H6 (tb :: rls ts))):=ao.mono zm λ_ _ p=>p.same (eA s6n)
 have hF4:∀ x ∈ rls ts,H4 x=none:=λx hx=>(hrl x hx).1
 have hB4:aq H4 (hideL H6 (rls ts)):=pG s6 hF4
 have ntF:tb ∉ rls ts:=λhm=>(hrl tb hm).2.1 rfl
 have etB:hideL H6 (rls ts) tb=some (.lst tv):=cg etv ntF
 have htB:ao tv ts (TT (hideL H6 (rls ts))):=ao.mono htv λ_ _ p=>p.same (lZ λb o hb e=>⟨e,λhm=>hb (List.mem_cons_of_mem _ hm)⟩)
 have nuF:nu ∉ rls ts:=λhm=>by have:=(zo nu hm).2.2;rw [nnu] at this;cases this
 have enB:hideL H6 (rls ts) nu=some (.lst (ms.map V.int)):=cg enu nuF
 generalize hB:hideL H6 (rls ts)=B at hB4 etB htB enB
 refine ⟨λσ' H'=>aq H4 H'/\aq B (hideL H' (rls ts))/\∃ (rss:List (List Rw)) (c6 c7 c8 c9 c10 c11:Option V),RwI H' (rls ts) fN ds ts rss 32/\σ'=[some (.ref a),some (.int (fN:Int)),some (.int (tN:Int)),some (.ref dl),some (.ref sz),some (.ref po),some (.ref tb),c6,c7,c8,c9,some (.ref nu),c10,c11],?_,?_⟩
 ·have zp:(ms.map V.int).length=ms.length:=List.length_map _
  refine ⟨_,rfl,nu,_,rfl,.inl (SqL.of enu),_,rfl,(by omega),(by omega),dN (λi σ H'=>aq H4 H'/\aq B (hideL H' (rls ts))/\∃ (rss:List (List Rw)) (c6 c7 c8 c9 c10 c11:Option V),RwI H' (rls ts) fN ds ts rss i/\σ=[some (.ref a),some (.int (fN:Int)),some (.int (tN:Int)),some (.ref dl),some (.ref sz),some (.ref po),some (.ref tb),c6,c7,c8,c9,some (.ref nu),c10,c11]) ⟨s6,by rw [hB];exact aq.refl B,List.replicate ts.length [],_,_,_,_,_,_,⟨by rw [List.length_replicate],λj t rs e1 e2=>?_⟩,rfl⟩ (λi σ H' hi hh=>?_) (λσ H' hh=>?_)⟩
  ·rw [List.getElem?_replicate] at e2
   split at e2
   ·cases e2
    exact ⟨⟨[],(hrl t.2 (jA e1)).2.2,ao.nil⟩,(λw hw=>by cases hw),Nat.zero_le _⟩
   ·cases e2
  ·obtain ⟨sm,sB,rss,c6,c7,c8,c9,c10,c11,hrw,rfl⟩:=hh
   rw [Int.toNat_natCast,zp] at hi
   rw [show (0:Int)+(i:Int)=(i:Int) by omega]
   have wO:=cQ _ _ _ _ (sB _ _ etB)
   have uR:(0:Int) < ((tv.length:Nat):Int):=by omega
   obtain ⟨jj,ejj⟩:∃ jj:Nat,(i:Int) % ((tv.length:Nat):Int)=(jj:Int):=⟨_,(Int.toNat_of_nonneg (Int.emod_nonneg _ (Int.ne_of_gt uR))).symm⟩
   have hjj:jj < ts.length:=by have:=Int.emod_lt_of_pos (i:Int) uR;omega
   have et:=E3 hjj
   obtain ⟨r,er,hT⟩:=htB.2 jj _ et
   obtain ⟨rs,ers⟩:∃ rs,rss[jj]?=some rs:=⟨_,E3 (by rw [hrw.1];exact hjj)⟩
   generalize ts[jj]=t at et hT
   have hT':=(hT.same sB).same (cQ _ _)
   obtain ⟨cl,g1,g2⟩:=hT'
   obtain ⟨⟨zs,ez,hzr⟩,ER,hlen⟩:=hrw.2 jj t rs et ers
   have tok:=uQ jj t et
   have ix:atI tv ((i:Int) % ((tv.length:Nat):Int))=some (.ref r):=by rw [ejj];exact aN er
   refine ⟨λσ' H''=>H''=H'/\σ'=[some (.ref a),some (.int (fN:Int)),some (.int (tN:Int)),some (.ref dl),some (.ref sz),some (.ref po),some (.ref tb),c6,c7,c8,c9,some (.ref nu),some (.int (i:Int)),some (.ref r)],⟨_,rfl,_,rfl,_,rfl,tb,_,rfl,.inl (SqL.of wO),_,_,rfl,rfl,uR,tb,_,_,_,rfl,rfl,SqL.of wO,ix,rfl,rfl⟩,?_⟩
   rintro σb Hb ⟨eb_,rfl⟩
   subst eb_
   have s4b:=hB4.trans (sB.trans (cQ _ _))
   have es:=E3 hi
   have ixs:atI (ms.map V.int) (i:Int)=some (.int ms[i]):=aN (get_map es)
   have enb:=cQ _ _ _ _ (sB _ _ enB)
   have eow:(fN:Int)+(i:Int) % ((tv.length:Nat):Int)=((fN+jj:Nat):Int):=by rw [ejj];omega
   refine ⟨_,rfl,r,_,_,_,rfl,rfl,SqT.of g1,rfl,.inl ⟨rfl,_,SqL.of ez⟩,_,rfl,r,_,_,_,rfl,rfl,SqT.of g1,rfl,_,rfl,_,rfl,_,rfl,_,rfl,_,rfl,tb,_,rfl,.inl (SqL.of wO),_,_,rfl,rfl,uR,_,_,rfl,rfl,_,rfl,_,rfl,nu,_,_,_,rfl,rfl,SqL.of enb,ixs,cl,dl,po,fN+jj,_,t.1.1,dv,pvs,ds,(by rw [← eow]),g2,s4b _ _ (s4 _ _ edl),ao.mono hds (λ_ _ p=>p.same s4b),s4b _ _ epo,ao.mono hpo (λ_ _ p=>p.same s4b),(λk hk=>by have:=tok.lt k hk;omega),by omega,by have:=tok.few;omega,λr2 w H2' s2 sW hf2=>?_⟩
   have hFl:∀ D ∈ rls ts,∃ zs,Hb D=some (.lst zs):=λD hD=>by
    obtain ⟨j,ej⟩:=List.getElem?_of_mem hD
    have hjl:j < ts.length:=by have:=(E4.mp ej).1;unfold rls at this;rwa [List.length_map] at this
    have et':=E3 hjl
    have er':=E3 (l:=rss) (i:=j) (by rw [hrw.1];exact hjl)
    obtain ⟨⟨zs',f1,_⟩,_⟩:=hrw.2 j _ _ et' er'
    have:=jz et'
    rw [ej] at this
    cases this
    exact ⟨zs',f1⟩
   have zq:=sW.hideL hFl s2
   have hzl:zs.length=rs.length:=hzr.1
   refine ⟨t.2,_,_,rfl,rfl,s2 _ _ ez,ay (by omega),(sm.trans s2).upd (hF4 _ (jA et)),?_,rss.set jj (rs ++ [w]),_,_,_,_,_,_,hrw.grow hnd s2 et ers ez hzr zq hf2,rfl⟩
   rw [lY (jA et)]
   exact sB.trans (eA s2)
  ·obtain ⟨sm,sB,rss,c6,c7,c8,c9,c10,c11,hrw,rfl⟩:=hh
   rw [Int.toNat_natCast,zp] at hrw
   exact ⟨sm,sB,rss,_,_,_,_,_,_,⟨hrw.1,λj t rs e1 e2=>let ⟨b1,b2,b3⟩:=hrw.2 j t rs e1 e2;⟨b1,b2,by omega⟩⟩,rfl⟩
 rintro σ7 H7 ⟨s7,sB,rss,c6',c7',c8',c9',c10,c11,hrw,rfl⟩
 have sB7:=sB.trans (cQ H7 (rls ts))
 have s47:=hB4.trans sB7
 refine ⟨_,rfl,a,ns,1,rfl,(s14.trans s7).seq hS,by decide,λc=>⟨_,rfl,c,tN,rfl,by omega,λnl H8 s8 _ enl=>⟨_,rfl,_,rfl,(by show 3<=sizeLine;decide),λr hr=>?_⟩⟩⟩
 have u:=ah hr (.tup [.ref nl,.ref dl,.ref tb])
 have wQ:∀ (j:Nat) (t:PT),(List.zipWith mkT ts rss)[j]?=some t->t.rows.length<=32:=λj t e=>by
  rw [List.getElem?_zipWith] at e
  cases e1:ts[j]? with
  | none=>rw [e1] at e;cases e
  | some t0 =>
   cases e2:rss[j]? with
   | none=>rw [e1,e2] at e;cases e
   | some rs =>
    rw [e1,e2] at e
    have e:some (mkT t0 rs)=some t:=e
    cases e
    obtain ⟨_,_,h3⟩:=hrw.2 j _ _ e1 e2
    exact h3
 have sE:=s8.trans u
 have s4E:=s47.trans sE
 refine q r (lws c tN) ds (List.zipWith mkT ts rss) fN _ (s12.trans ((s14.trans s47).trans sE)) ⟨nl,dl,tb,dv,tv,ae,u _ _ enl,s4E _ _ (s4 _ _ edl),ao.mono hds (λ_ _ p=>p.same s4E),sE _ _ (sB7 _ _ etB),?_⟩ ⟨(λz hz=>qm hz),lX (by omega),by rw [iu,hdn],by omega,?_,?_,sV,λj t e=>?_⟩ (λp hp=>by obtain ⟨j,e⟩:=List.getElem?_of_mem hp;obtain ⟨_,_,_,_,_,h3,_⟩:=hpo.2 j p e;exact h3) (λt ht=>by obtain ⟨j,e⟩:=List.getElem?_of_mem ht;exact wQ j t e) (by rw [List.length_zipWith,hrw.1];omega) hf1 sM wI
 ·refine ⟨by rw [List.length_zipWith,hrw.1,BU];omega,λj t e=>?_⟩
  rw [List.getElem?_zipWith] at e
  cases e1:ts[j]? with
  | none=>rw [e1] at e;cases e
  | some t0 =>
   cases e2:rss[j]? with
   | none=>rw [e1,e2] at e;cases e
   | some rs =>
    rw [e1,e2] at e
    have e:some (mkT t0 rs)=some t:=e
    cases e
    obtain ⟨r',er,hT⟩:=htB.2 j _ e1
    obtain ⟨⟨zs,ez,hzr⟩,_⟩:=hrw.2 j _ _ e1 e2
    obtain ⟨cl,g1,g2⟩:=hT.same sB7
    exact ⟨r',er,cl,t0.2,zs,sE _ _ g1,sE _ _ g2,sE _ _ ez,(hzr.same (cQ _ _)).same sE⟩
 ·rw [List.length_zipWith,hrw.1];omega
 ·rw [List.length_zipWith,hrw.1];omega
 ·rw [List.getElem?_zipWith] at e
  cases e1:ts[j]? with
  | none=>rw [e1] at e;cases e
  | some t0 =>
   cases e2:rss[j]? with
   | none=>rw [e1,e2] at e;cases e
   | some rs =>
    rw [e1,e2] at e
    have e:some (mkT t0 rs)=some t:=e
    cases e
    obtain ⟨_,h2,h3⟩:=hrw.2 j _ _ e1 e2
    exact ⟨uQ j t0 e1,h2,by show rs.length<=200;omega⟩
theorem BV (F:Fun K "__init__" "Words.__init__" Y19 f fd) (bl:Bl K mg yA yE yN yO yP yQ yR yS yT yU yV yW yX af) (dZ:BCallee CX0 P w K mg base 2 "Domain" "__init__" ["self", "low", "high"] (J2 K yW)) (dX:Callee P w K mg base 2 "is_word" ["text"] (J30 K)):aQ P w K mg base CX0 3 f fd ["self", "words"] (J19 K yW):=by
 refine F.ok Z19 (λvs H Q E h=>?_) (λcdv A outer s H vs Q E hr h=>?_)
 ·obtain ⟨x,dx,p,zs,rfl,hx,hP,hg,q⟩:=h
  rfl
 obtain ⟨x,dx,p,zs,rfl,hx,hP,hg,q⟩:=h
 refine ⟨_,(az (ba (d8 (jX dO dO aj (aC aw rfl bl.len_ PySem.boot_len (aa (pv 1) ag)) (ke rfl bl.MOST_WORDS_)))
  (ai bf)
  aM)
  (aD (bp PassesOwn.never rfl (aK (pv 1)) (aE (i:=2) Z19.nd rfl (Or.inl rfl))
  (ai (ba (d8 (cR (aU dX hr rfl (aa (pv 2) ag))))
  (ai bf)
  aM)))
  (az (ba (aL gh (aC dJ rfl bl.len_ PySem.boot_len (aa (bw (dH rfl) rfl bl.set_ PyProof.Rows.boot_set (aa (pv 1) ag)) ag)) (aC aw rfl bl.len_ PySem.boot_len (aa (pv 1) ag)) (aS _))
  (ai bf)
  aM)
  (az (aT (dB dZ cx hr rfl (aa (pv 0) (aa aj (aa (aG bQ (aC aw rfl bl.len_ PySem.boot_len (aa (pv 1) ag)) aj) ag)))))
  (ai (bR (pv 0) (bw bZ rfl bl.list_ PyProof.Rows.boot_list (aa (pv 1) ag)) rfl)))))),?_⟩
 have hS:SqL K H p (zs.map V.str):=SqL.of hP
 have hpx:p ≠ x:=bV hP hx (by intro z;cases z)
 have hlen:(zs.map V.str).length=zs.length:=List.length_map _
 have h1:=hg.some_
 have h40:=hg.few
 refine ⟨_,rfl,p,_,rfl,.inl hS,_,_,rfl,rfl,_,rfl,gn (by rw [hlen];omega) ?_⟩
 refine ⟨_,_,rfl,rfl,_,rfl,?_⟩
 rw [decide_eq_true (show (((zs.map V.str).length:Nat):Int)<=40 by rw [hlen];omega)]
 refine cz ?_
 refine ⟨λσ' H'=>H'=H/\∃ c2:Option V,σ'=[some (.ref x),some (.ref p),c2],?_,?_⟩
 ·refine ⟨_,rfl,p,rfl,⟨_,hS⟩,bg (xs:=zs.map V.str) (λi σ H'=>H'=H/\∃ c2:Option V,σ=[some (.ref x),some (.ref p),c2]) ⟨rfl,_,rfl⟩ (λi σ H' _ h=>by rw [h.1];exact hS) (λi y σ H' e h=>?_) (λσ H' h=>h)⟩
  obtain ⟨e0,c2,rfl⟩:=h
  rw [e0]
  obtain ⟨z,rfl,ez⟩:=cG e
  have hw:=hg.words z (E5 ez)
  have hz:z.length<=1000:=by
   have hw2:=hw
   unfold isw at hw2
   simp only [Bool.and_eq_true,decide_eq_true_eq] at hw2
   omega
  refine ⟨_,rfl,z,rfl,hz,_,rfl,?_⟩
  rw [hw]
  exact cz ⟨rfl,_,rfl⟩
 rintro σ2 H2 ⟨e2,c2,rfl⟩
 rw [e2]
 refine ⟨_,rfl,p,zs,rfl,hS,by omega,λl hl=>⟨l,zs,rfl,ae,by omega,_,rfl,p,_,rfl,.inl ((ah hl _).seq hS),_,_,rfl,rfl,_,rfl,?_⟩⟩
 have s1:=ah hl (jl P w l zs)
 have cf:=fJ zs zs.length (Nat.le_refl _)
 rw [List.take_length] at cf
 refine dh (by rw [hlen,cf.mpr hg.once];omega) ?_
 have hx1:=s1 _ _ hx
 have hP1:=s1 _ _ hP
 refine ⟨_,rfl,_,rfl,p,_,rfl,.inl (SqL.of hP1),_,_,rfl,rfl,x,dx,0,_,rfl,hx1,?_⟩
 have e1:mkd yW (upd H l (jl P w l zs)) x dx 0 ((((zs.map V.str).length:Nat):Int) - 1) x=some (.ins yW dx [("low",.int 0),("high",.int ((((zs.map V.str).length:Nat):Int) - 1))]):=ae
 have e2:mkd yW (upd H l (jl P w l zs)) x dx 0 ((((zs.map V.str).length:Nat):Int) - 1) p=some (.lst (zs.map V.str)):=by unfold mkd;rw [au hpx,au hpx];exact hP1
 have e3:∀ b o,b ≠ x->H b=some o->mkd yW (upd H l (jl P w l zs)) x dx 0 ((((zs.map V.str).length:Nat):Int) - 1) b=some o:=λb o hb h=>by unfold mkd;rw [au hb,au hb];exact s1 b o h
 have eh:(((zs.map V.str).length:Nat):Int) - 1=hiW zs:=by rw [hlen];rfl
 refine ⟨_,rfl,p,_,rfl,.inl (SqL.of e2),λl2 hl2=>⟨_,rfl,x,_,dx,_,rfl,gB e1 hl2,bl.k_Words,bl.na_Words_words,(by show 2 < 1000;decide),?_⟩⟩
 show Q .non (upd (upd (mkd yW (upd H l (jl P w l zs)) x dx 0 ((((zs.map V.str).length:Nat):Int) - 1)) l2 (.lst (zs.map V.str))) x (.ins yW dx (bj (Str.ofString "words") (.ref l2) [(Str.ofString "low",.int 0),(Str.ofString "high",.int ((((zs.map V.str).length:Nat):Int) - 1))])))
 rw [put3]
 have hl3:mkd yW (upd H l (jl P w l zs)) x dx 0 ((((zs.map V.str).length:Nat):Int) - 1) l2=none:=hl2
 clear hl2
 generalize mkd yW (upd H l (jl P w l zs)) x dx 0 ((((zs.map V.str).length:Nat):Int) - 1)=H2 at e1 e2 e3 hl3 ⊢
 rw [eh]
 have nl:l2 ≠ x:=(bq e1 hl3).symm
 exact q _ l2 (λb o hb h=>(au hb).trans (gB (e3 b o hb h) hl3)) ae ((au nl).trans ae) (by cases q_:H l2 with | none=>rfl | some o=>rw [e3 l2 o nl q_] at hl3;cases hl3)
theorem BX (F:Fun K "way_by" "way_by" Y63 f fd) (bl:Bl K mg yA yE yN yO yP yQ yR yS yT yU yV yW yX af) (k_First:MkCallee CX0 P w K mg base 2 "First" yO ["self"] (J5 K yO)) (k_Only:MkCallee CX0 P w K mg base 2 "Only" yP ["self"] (J10 K yP)) (k_Like:MkCallee CX0 P w K mg base 2 "Like" yQ ["self"] (J7 K yQ)) (k_Low:MkCallee CX0 P w K mg base 2 "Low" yR ["self"] (J8 K yR)) (k_High:MkCallee CX0 P w K mg base 2 "High" yS ["self"] (J6 K yS)) (k_Sum:MkCallee CX0 P w K mg base 2 "Sum" yT ["self"] (J11 K yT)):aQ P w K mg base CX0 4 f fd ["name"] (J63 K yO yP yQ yR yS yT):=by
 refine F.ok Z63 (λvs H Q E h=>?_) (λcdv A outer s H vs Q E hr h=>?_)
 ·obtain ⟨z,rfl,hz,q⟩:=h
  rfl
 obtain ⟨z,rfl,hz,q⟩:=h
 refine ⟨_,(az (bp PassesOwn.never rfl (aK (bz (aa (iZ k_First cx hr rfl) (aa (iZ k_Only cx hr rfl) (aa (iZ k_Like cx hr rfl) (aa (iZ k_Low cx hr rfl) (aa (iZ k_High cx hr rfl) (aa (iZ k_Sum cx hr rfl) ag)))))))) (aE (i:=1) Z63.nd rfl (Or.inl rfl))
  (ai (ba (aL cO (bu (pv 1) rfl) (pv 0) (aS _))
  (ai (aP (pv 1)))
  aM)))
  (ai bf)),?_⟩
 refine λw0 d0 hw hdw hnw=>⟨w0,d0,rfl,ae,rfl,?_⟩
 have t0:aq H (upd (upd (upd H d0 (.own w0)) w0 (.ins yO d0 [])) w0 (.ins yO d0 [("called",.str (Str.ofString "first"))])):=((ah hdw _).upd hw).upd hw
 have y0:WyN yO (upd (upd (upd H d0 (.own w0)) w0 (.ins yO d0 [])) w0 (.ins yO d0 [("called",.str (Str.ofString "first"))])) w0 (Str.ofString "first"):=⟨d0,ae⟩
 generalize upd (upd (upd H d0 (.own w0)) w0 (.ins yO d0 [])) w0 (.ins yO d0 [("called",.str (Str.ofString "first"))])=H0 at t0 y0 ⊢
 clear hw hdw hnw
 refine λw1 d1 hw hdw hnw=>⟨w1,d1,rfl,ae,rfl,?_⟩
 have t1:aq H0 (upd (upd (upd H0 d1 (.own w1)) w1 (.ins yP d1 [])) w1 (.ins yP d1 [("called",.str (Str.ofString "only"))])):=((ah hdw _).upd hw).upd hw
 have y1:WyN yP (upd (upd (upd H0 d1 (.own w1)) w1 (.ins yP d1 [])) w1 (.ins yP d1 [("called",.str (Str.ofString "only"))])) w1 (Str.ofString "only"):=⟨d1,ae⟩
 generalize upd (upd (upd H0 d1 (.own w1)) w1 (.ins yP d1 [])) w1 (.ins yP d1 [("called",.str (Str.ofString "only"))])=H1 at t1 y1 ⊢
 clear hw hdw hnw
 have y0:=y0.same t1
 refine λw2 d2 hw hdw hnw=>⟨w2,d2,rfl,ae,rfl,?_⟩
 have t2:aq H1 (upd (upd (upd H1 d2 (.own w2)) w2 (.ins yQ d2 [])) w2 (.ins yQ d2 [("called",.str (Str.ofString "like"))])):=((ah hdw _).upd hw).upd hw
 have y2:WyN yQ (upd (upd (upd H1 d2 (.own w2)) w2 (.ins yQ d2 [])) w2 (.ins yQ d2 [("called",.str (Str.ofString "like"))])) w2 (Str.ofString "like"):=⟨d2,ae⟩
 generalize upd (upd (upd H1 d2 (.own w2)) w2 (.ins yQ d2 [])) w2 (.ins yQ d2 [("called",.str (Str.ofString "like"))])=H2 at t2 y2 ⊢
 clear hw hdw hnw
 have y0:=y0.same t2
 have y1:=y1.same t2
 refine λw3 d3 hw hdw hnw=>⟨w3,d3,rfl,ae,rfl,?_⟩
 have t3:aq H2 (upd (upd (upd H2 d3 (.own w3)) w3 (.ins yR d3 [])) w3 (.ins yR d3 [("called",.str (Str.ofString "low"))])):=((ah hdw _).upd hw).upd hw
 have y3:WyN yR (upd (upd (upd H2 d3 (.own w3)) w3 (.ins yR d3 [])) w3 (.ins yR d3 [("called",.str (Str.ofString "low"))])) w3 (Str.ofString "low"):=⟨d3,ae⟩
 generalize upd (upd (upd H2 d3 (.own w3)) w3 (.ins yR d3 [])) w3 (.ins yR d3 [("called",.str (Str.ofString "low"))])=H3 at t3 y3 ⊢
 clear hw hdw hnw
 have y0:=y0.same t3
 have y1:=y1.same t3
 have y2:=y2.same t3
 refine λw4 d4 hw hdw hnw=>⟨w4,d4,rfl,ae,rfl,?_⟩
 have t4:aq H3 (upd (upd (upd H3 d4 (.own w4)) w4 (.ins yS d4 [])) w4 (.ins yS d4 [("called",.str (Str.ofString "high"))])):=((ah hdw _).upd hw).upd hw
 have y4:WyN yS (upd (upd (upd H3 d4 (.own w4)) w4 (.ins yS d4 [])) w4 (.ins yS d4 [("called",.str (Str.ofString "high"))])) w4 (Str.ofString "high"):=⟨d4,ae⟩
 generalize upd (upd (upd H3 d4 (.own w4)) w4 (.ins yS d4 [])) w4 (.ins yS d4 [("called",.str (Str.ofString "high"))])=H4 at t4 y4 ⊢
 clear hw hdw hnw
 have y0:=y0.same t4
 have y1:=y1.same t4
 have y2:=y2.same t4
 have y3:=y3.same t4
 refine λw5 d5 hw hdw hnw=>⟨w5,d5,rfl,ae,rfl,?_⟩
 have t5:aq H4 (upd (upd (upd H4 d5 (.own w5)) w5 (.ins yT d5 [])) w5 (.ins yT d5 [("called",.str (Str.ofString "sum"))])):=((ah hdw _).upd hw).upd hw
 have y5:WyN yT (upd (upd (upd H4 d5 (.own w5)) w5 (.ins yT d5 [])) w5 (.ins yT d5 [("called",.str (Str.ofString "sum"))])) w5 (Str.ofString "sum"):=⟨d5,ae⟩
 generalize upd (upd (upd H4 d5 (.own w5)) w5 (.ins yT d5 [])) w5 (.ins yT d5 [("called",.str (Str.ofString "sum"))])=H5 at t5 y5 ⊢
 clear hw hdw hnw
 have y0:=y0.same t5
 have y1:=y1.same t5
 have y2:=y2.same t5
 have y3:=y3.same t5
 have y4:=y4.same t5
 have s5:aq H H5:=((((t0.trans t1).trans t2).trans t3).trans t4).trans t5
 refine ⟨(by show 6<=sizeLine;decide),λl hl=>?_⟩
 have sl:aq H5 (upd H5 l (.lst [V.ref w0,.ref w1,.ref w2,.ref w3,.ref w4,.ref w5])):=ah hl _
 have el:upd H5 l (.lst [V.ref w0,.ref w1,.ref w2,.ref w3,.ref w4,.ref w5]) l=some (.lst [V.ref w0,.ref w1,.ref w2,.ref w3,.ref w4,.ref w5]):=ae
 generalize upd H5 l (.lst [V.ref w0,.ref w1,.ref w2,.ref w3,.ref w4,.ref w5])=H6 at sl el ⊢
 have y0:=y0.same sl
 have y1:=y1.same sl
 have y2:=y2.same sl
 have y3:=y3.same sl
 have y4:=y4.same sl
 have y5:=y5.same sl
 have sA:=s5.trans sl
 have key:∀ (i:Nat) (x:V),[V.ref w0,.ref w1,.ref w2,.ref w3,.ref w4,.ref w5][i]?=some x->∃ (a C:Addr) (y:Str),x=.ref a/\(cl6 yO yP yQ yR yS yT)[i]?=some C/\six[i]?=some y/\WyN C H6 a y/\Cls K C/\aY K C (Str.ofString "called"):=λi x e=>by
  match i,e with
  | 0,e=>cases e;exact ⟨w0,yO,_,rfl,rfl,rfl,y0,bl.k_First,bl.na_First_called⟩
  | 1,e=>cases e;exact ⟨w1,yP,_,rfl,rfl,rfl,y1,bl.k_Only,bl.na_Only_called⟩
  | 2,e=>cases e;exact ⟨w2,yQ,_,rfl,rfl,rfl,y2,bl.k_Like,bl.na_Like_called⟩
  | 3,e=>cases e;exact ⟨w3,yR,_,rfl,rfl,rfl,y3,bl.k_Low,bl.na_Low_called⟩
  | 4,e=>cases e;exact ⟨w4,yS,_,rfl,rfl,rfl,y4,bl.k_High,bl.na_High_called⟩
  | 5,e=>cases e;exact ⟨w5,yT,_,rfl,rfl,rfl,y5,bl.k_Sum,bl.na_Sum_called⟩
  | n+6,e=>simp at e
 refine ⟨l,rfl,⟨_,SqL.of el⟩,bg (xs:=[V.ref w0,.ref w1,.ref w2,.ref w3,.ref w4,.ref w5]) (λi σ H'=>(∃ c1:Option V,σ=[some (.str z),c1])/\H'=H6/\∀ j:Nat,j < i->six[j]? ≠ some z) ⟨⟨_,rfl⟩,rfl,(λj h=>absurd h (Nat.not_lt_zero j))⟩ (λi σ H' _ h=>by rw [h.2.1];exact SqL.of el) (λi x σ H' e h=>?_) (λσ H' h=>?_)⟩
 ·obtain ⟨⟨c1,rfl⟩,e0,hno⟩:=h
  rw [e0]
  obtain ⟨a,C,y,rfl,eC,ey,⟨dx,ha⟩,hc,hn⟩:=key i x e
  refine ⟨_,rfl,a,_,_,_,_,rfl,ha,hc,hn,rfl,_,rfl,rfl,_,rfl,?_⟩
  refine cP (λg=>?_) (λg=>?_)
  ·have g' : V.str y=V.str z:=rN g
   injection g' with g'
   subst g'
   exact ⟨_,rfl,q i ey a C H6 sA eC ⟨dx,ha⟩⟩
  ·refine ⟨⟨_,rfl⟩,rfl,λj hj=>?_⟩
   by_cases hji:j < i
   ·exact hno j hji
   ·have:j=i:=by omega
    subst this
    rw [ey]
    intro q2
    exact (yu g) (by injection q2 with q2;rw [q2])
 ·obtain ⟨⟨c1,rfl⟩,e0,hno⟩:=h
  rw [e0]
  obtain ⟨j,hj,ej⟩:=List.getElem_of_mem hz
  exact absurd (by rw [E3 hj,ej]) (hno j hj)
theorem O_0 (F:Fun K "__init__" "Book.__init__" Y0 f fd) (bl:Bl K mg yA yE yN yO yP yQ yR yS yT yU yV yW yX af) (eX:Callee P w K mg base 3 "refuse_counts_books" ["facts", "tables"] (J53 K)) (fz:Callee P w K mg base 3 "refuse_names_books" ["facts", "tables"] (J56 K yV yW yX)) (ja:Callee P w K mg base 3 "refuse_domains" ["facts", "tables"] (J55 K yV yW yX)) (kH:Callee P w K mg base 3 "refuse_rings" ["tables"] (J58 K yV yW yX)):aQ P w K mg base CX0 4 f fd ["self", "facts", "tables"] (J0 K yV yW yX af):=by
 refine F.ok Z0 (λvs H Q E h=>?_) (λcdv A outer s H vs Q E hr h=>?_)
 ·obtain ⟨x,dx,fa,ma,fv,mv,zs,ds,ts,fN,L,P,rfl,hx,efa,ema,hB,hfP,q⟩:=h
  rfl
 obtain ⟨x,dx,fa,ma,fv,mv,zs,ds,ts,fN,L,P,rfl,hx,efa,ema,hB,hfP,q⟩:=h
 refine ⟨_,(az (aT (aU eX hr rfl (aa (pv 1) (aa (pv 2) ag))))
  (az (aT (aU fz hr rfl (aa (pv 1) (aa (pv 2) ag))))
  (az (aT (aU ja hr rfl (aa (pv 1) (aa (pv 2) ag))))
  (az (aT (aU kH hr rfl (aa (pv 2) ag)))
  (az (bR (pv 0) (df (aK (pv 1)) (cD (N:=["name", "domain"]) (k:=2) rfl rfl (by decide +kernel) (by decide +kernel) (by decide +kernel)) rfl (λ_ _ _ _=>(lK (K:=K) (n:=2) rfl rfl (aH (aE (i:=0) (show (["name", "domain"]:List Str).Nodup by decide +kernel) rfl (Or.inl rfl) (Or.inr rfl)) (aH (aE (i:=1) (show (["name", "domain"]:List Str).Nodup by decide +kernel) rfl (Or.inl rfl) (Or.inr rfl)) bA)))) (λ_ _ _ _=>aW) (λ_ _ _ _=>(bN (aa (pv 0) (aa (pv 1) ag))))) rfl)
  (ai (bR (pv 0) (bw bZ rfl bl.list_ PyProof.Rows.boot_list (aa (pv 2) ag)) rfl))))))),?_⟩
 obtain ⟨b1,b2,b3⟩:=hB.few
 have hfl:fv.length=fN:=by rw [hB.facts.1,List.length_range]
 have hml:mv.length=L.length:=hB.tabs.1
 refine ⟨_,rfl,_,rfl,fa,ma,fv,mv,rfl,efa,ema,by omega,by omega,?_⟩
 refine ⟨_,rfl,_,rfl,fa,ma,fv,mv,zs,ds,ts,fN,L,rfl,efa,ema,hB,λH1 s1=>?_⟩
 refine ⟨_,rfl,_,rfl,fa,ma,fv,mv,zs,ds,ts,fN,L,rfl,s1 _ _ efa,s1 _ _ ema,hB.same s1,λH2 s2=>?_⟩
 have s12:=s1.trans s2
 refine ⟨_,rfl,ma,mv,zs,ds,ts,fN,L,rfl,s12 _ _ ema,hB.ok,(hB.same s12).tabs,hB.lt,by omega,λH3 s3=>?_⟩
 have s13:=s12.trans s3
 have zr:=s13 _ _ efa
 have hB3:=hB.same s13
 refine ⟨_,rfl,fa,rfl,⟨_,SqL.of zr⟩,bX (xs:=fv) (λD i ys H'=>aq H3 H'/\H' D=some (.lst ys)/\ao ys (List.range i) (FcT P H' zs)) (λD hD=>⟨ah hD _,ae,ao.nil⟩) (λD i ys H' hD _ h=>SqL.of (h.1 _ _ zr)) (λD i y ys H' hD e h ts' hts=>?_) (λD ys H' hD h=>?_)⟩
 ·obtain ⟨sm,eD,hy⟩:=h
  obtain ⟨r,k,rfl,ek,nm,po,d,z1,z2,g1,g2⟩:=ao.get hB3.facts e
  have hi:i < fv.length:=(E4.mp e).1
  obtain ⟨t0,t1,rfl⟩:∃ t0 t1,ts'=[t0,t1]:=by
   match ts',hts with
   | [t0,t1],_=>exact ⟨t0,t1,rfl⟩
  refine ⟨r,_,rfl,SqT.of (sm _ _ g1),rfl,_,_,rfl,_,_,rfl,rfl,⟨[some (.str nm),some (.ref d)],rfl,rfl⟩,?_⟩
  refine ⟨_,rfl,_,rfl,(by show 2<=sizeLine;decide),λtp htp=>?_⟩
  have u:=ah htp (.tup [.str nm,.ref d])
  have eT:upd H' tp (.tup [.str nm,.ref d]) tp=some (.tup [.str nm,.ref d]):=ae
  generalize upd H' tp (.tup [.str nm,.ref d])=H9 at u eT ⊢
  have eD9:=u _ _ eD
  obtain ⟨r2,k2,er2,ek2,nm2,d2,y1,y2,y3⟩:=ao.get hfP e
  cases er2
  rw [ek] at ek2
  cases ek2
  have y3':=s13 _ _ y3
  rw [g1] at y3'
  cases y3'
  obtain ⟨rfl,hlt⟩:=jB ek
  have hyl:ys.length=k:=by rw [hy.1,List.length_range]
  refine bK.mk hi eD9 (ay (by omega)) ⟨(sm.trans u).upd hD,ae,?_⟩
  rw [List.range_succ]
  exact ao.mono (ao.snoc (ao.mono hy λ_ _ p=>p.tups u.tups) ⟨nm,d,z1,y2,eT⟩) λ_ _ p=>p.tups (dU eD9)
 ·obtain ⟨sm,eD,hy⟩:=h
  have hx3:H3 x=some (.ins af dx []):=s13 _ _ hx
  refine ⟨_,rfl,x,_,dx,_,rfl,sm _ _ hx3,bl.k_Book,bl.na_Book_facts,(by show 0 < 1000;decide),?_⟩
  have nDx:D ≠ x:=λz=>by rw [z,hx3] at hD;cases hD
  have nmx:ma ≠ x:=λz=>by rw [z,hx] at ema;cases ema
  have g1:upd H' x (.ins af dx (bj (Str.ofString "facts") (V.ref D) []))=upd H' x (.ins af dx [(Str.ofString "facts",V.ref D)]):=rfl
  rw [g1]
  have e2:upd H' x (.ins af dx [(Str.ofString "facts",V.ref D)]) ma=some (.lst mv):=(au nmx).trans (sm _ _ (s13 _ _ ema))
  have x2:upd H' x (.ins af dx [(Str.ofString "facts",V.ref D)]) x=some (.ins af dx [(Str.ofString "facts",V.ref D)]):=ae
  have k2:∀ b o,b ≠ x->H b=some o->upd H' x (.ins af dx [(Str.ofString "facts",V.ref D)]) b=some o:=λb o hb e=>(au hb).trans (sm _ _ (s13 _ _ e))
  have d2:upd H' x (.ins af dx [(Str.ofString "facts",V.ref D)]) D=some (.lst ys):=(au nDx).trans eD
  rw [hfl] at hy
  have y2:ao ys (List.range fN) (FcT P (upd H' x (.ins af dx [(Str.ofString "facts",V.ref D)])) zs):=ao.mono hy λ_ _ p=>p.tups (l6 (sm _ _ hx3))
  generalize upd H' x (.ins af dx [(Str.ofString "facts",V.ref D)])=H4 at e2 x2 k2 d2 y2 ⊢
  refine ⟨_,rfl,ma,mv,rfl,.inl (SqL.of e2),λc hc=>?_⟩
  have u:=ah hc (.lst mv)
  have ec:upd H4 c (.lst mv) c=some (.lst mv):=ae
  generalize upd H4 c (.lst mv)=H5 at u ec ⊢
  refine ⟨_,rfl,x,_,dx,_,rfl,u _ _ x2,bl.k_Book,bl.na_Book_tables,(by show 1 < 1000;decide),?_⟩
  have ncx:c ≠ x:=λz=>by rw [z,x2] at hc;cases hc
  exact q _ _ c D ys (λb o hb e=>(au hb).trans (u _ _ (k2 b o hb e))) ae rfl ((au ncx).trans ec) rfl ((au nDx).trans (u _ _ d2)) (ao.mono (ao.mono y2 λ_ _ p=>p.tups u.tups) λ_ _ p=>p.tups (l6 (u _ _ x2)))
theorem BY (F:Fun K "refuse_way" "refuse_way" Y60 f fd) (bl:Bl K mg yA yE yN yO yP yQ yR yS yT yU yV yW yX af) (sY:Callee P w K mg base 4 "way_by" ["name"] (J63 K yO yP yQ yR yS yT)):aQ P w K mg base CX0 5 f fd ["way", "outcome"] (J60 K yV):=by
 refine F.ok Z60 (λvs H Q E h=>?_) (λcdv A outer s H vs Q E hr h=>?_)
 ·obtain ⟨z,ou,rfl,hz,hne,q⟩:=h
  rfl
 obtain ⟨z,ou,rfl,hz,hne,q⟩:=h
 refine ⟨_,(ai (ba (PW.pt (jT (aL cO (bu (aU sY hr rfl (aa (pv 0) ag)) rfl) bM (aS _)) (ib (cR (aC b8 rfl bl.isinstance_ PyProof.Rows.boot_isinstance (aa (pv 1) (aa (fG (v:=.ref yW) rfl bl.Words_ rfl) ag)))))))
  (ai bf)
  aM)),?_⟩
 refine ⟨_,rfl,z,rfl,hz,λi ei x C H' s' eC hw=>?_⟩
 have hF:Cls K C/\aY K C (Str.ofString "called"):=by
  match i,eC with
  | 0,eC=>cases eC;exact ⟨bl.k_First,bl.na_First_called⟩
  | 1,eC=>cases eC;exact ⟨bl.k_Only,bl.na_Only_called⟩
  | 2,eC=>cases eC;exact ⟨bl.k_Like,bl.na_Like_called⟩
  | 3,eC=>cases eC;exact ⟨bl.k_Low,bl.na_Low_called⟩
  | 4,eC=>cases eC;exact ⟨bl.k_High,bl.na_High_called⟩
  | 5,eC=>cases eC;exact ⟨bl.k_Sum,bl.na_Sum_called⟩
  | n+6,eC=>simp [cl6] at eC
 obtain ⟨dx,hx⟩:=hw
 refine ⟨x,_,_,_,_,rfl,hx,hF.1,hF.2,rfl,rfl,_,rfl,?_⟩
 by_cases hs:z=Str.ofString "sum"
 ·obtain ⟨dy,fs,ho⟩:=hne hs
  exact gn (by rw [hs]) ⟨_,rfl,_,_,_,_,false,rfl,.ref _,bl.t_Numbers.ty (s' _ _ ho),bl.f_nw,_,rfl,cz (q _ s')⟩
 ·exact dh (λe=>by injection e with e;exact hs e) (cz (q _ s'))
theorem BZ (F:Fun K "_law_made" "_law_made" Y36 f fd) (bl:Bl K mg yA yE yN yO yP yQ yR yS yT yU yV yW yX af) (k_Numbers:MkCallee CX0 P w K mg base 3 "Numbers" yV ["self", "low", "high"] (J9 K yV)) (k_Words:MkCallee CX0 P w K mg base 3 "Words" yW ["self", "words"] (J19 K yW)):aQ P w K mg base CX0 5 f fd ["domain"] (J36 K yV yW):=by
 refine F.ok Z36 (λvs H Q E h=>?_) (λcdv A outer s H vs Q E hr h=>?_)
 ·obtain ⟨r,p,rfl,⟨wl,_,_,er,ewl⟩,ok,q⟩:=h
  rfl
 obtain ⟨r,p,rfl,⟨wl,_,_,er,ewl⟩,ok,q⟩:=h
 refine ⟨_,(az (ba (aL jV (aC aw rfl bl.len_ PySem.boot_len (aa (aJ bD (pv 0) aj (λ_ _=>rfl)) ag)) aj (aS _))
  (ai (aP (qf k_Words cx hr rfl (aa (bw bZ rfl bl.list_ PyProof.Rows.boot_list (aa (aJ bD (pv 0) aj (λ_ _=>rfl)) ag)) ag))))
  aM)
  (ai (aP (qf k_Numbers cx hr rfl (aa (aJ bD (pv 0) aj (λ_ _=>rfl)) (aa (aJ bD (pv 0) aj (λ_ _=>rfl)) ag)))))),?_⟩
 have hlm:(p.ws.map V.str).length=p.ws.length:=List.length_map _
 refine ⟨_,rfl,r,_,_,_,rfl,rfl,SqT.of er,rfl,wl,_,rfl,.inl (SqL.of ewl),_,_,rfl,rfl,_,rfl,?_⟩
 refine cP (λg=>?_) (λg=>?_)
 ·have hne:p.ws ≠ []:=λz=>by
   have:=of_decide_eq_true g
   rw [z] at this
   exact absurd this (by decide)
  obtain ⟨hg,h0,h1⟩:=ok.wd hne
  refine ⟨_,rfl,r,_,_,_,rfl,rfl,SqT.of er,rfl,wl,_,rfl,.inl (SqL.of ewl),λc hc=>?_⟩
  have u1:=ah hc (.lst (p.ws.map V.str))
  have ec:upd H c (.lst (p.ws.map V.str)) c=some (.lst (p.ws.map V.str)):=ae
  generalize upd H c (.lst (p.ws.map V.str))=H1 at u1 ec ⊢
  intro x dx hx hdx ES
  have s3:aq H1 (upd (upd H1 dx (.own x)) x (.ins yW dx [])):=(ah hdx _).upd hx
  refine ⟨x,dx,c,p.ws,rfl,ae,s3 _ _ ec,hg,λH4 l4 k1 k2 k3 k4=>⟨rfl,q x H4 (λb o e=>k1 b o (bq (u1 _ _ e) hx) (s3 _ _ (u1 _ _ e))) ?_⟩⟩
  rw [PD.k_some hne]
  exact ⟨⟨dx,l4,u1.free (s3.free k4),k2,k3⟩,h0,h1,hg⟩
 ·have he:p.ws=[]:=by
   have:¬ ((0:Int) < (((p.ws.map V.str).length:Nat):Int)):=λh=>g (decide_eq_true h)
   rw [hlm] at this
   exact List.length_eq_zero_iff.mp (by omega)
  refine ⟨_,rfl,r,_,_,_,rfl,rfl,SqT.of er,rfl,_,rfl,r,_,_,_,rfl,rfl,SqT.of er,rfl,λx dx hx hdx hne=>⟨x,dx,p.lo,p.hi,rfl,ae,ok.le,rfl,q x _ ?_ ?_⟩⟩
  ·unfold mkd
   exact (((ah hdx _).upd hx).upd hx).upd hx
  ·rw [PD.k_none he]
   exact ⟨dx,ae⟩
theorem B1 (F:Fun K "_law_facts" "_law_facts" Y35 f fd) (bl:Bl K mg yA yE yN yO yP yQ yR yS yT yU yV yW yX af) (dE:Callee P w K mg base 5 "_law_made" ["domain"] (J36 K yV yW)):aQ P w K mg base CX0 6 f fd ["plan"] (J35 K yV yW):=by
 refine F.ok Z35 (λvs H Q E h=>?_) (λcdv A outer s H vs Q E hr h=>?_)
 ·obtain ⟨r,zs,ds,ts,fN,rfl,hPl,ok,q⟩:=h
  rfl
 obtain ⟨r,zs,ds,ts,fN,rfl,hPl,ok,q⟩:=h
 refine ⟨_,(aD (fg (pv 0) (cA rfl (aH (aE (i:=1) Z35.nd rfl (Or.inr rfl)) (aH (aE (i:=2) Z35.nd rfl (Or.inr rfl)) (aH (aE (i:=3) Z35.nd rfl (Or.inl rfl)) bA)))))
  (ai (aP (aZ (bC rfl bl.range_ (aa (aG bQ (aC aw rfl bl.len_ PySem.boot_len (aa (pv 1) ag)) (aC aw rfl bl.len_ PySem.boot_len (aa (pv 3) ag))) ag)) (aR (N:=["k", "names", "domains"]) (fr:=[1,2]) (cl:=[("names",s.heap.objs.size+1),("domains",s.heap.objs.size+1+1)]) rfl rfl (by decide +kernel) (by decide +kernel) rfl (by decide +kernel) rfl rfl rfl (List.forall_mem_cons.mpr ⟨rfl,List.forall_mem_cons.mpr ⟨rfl,List.forall_mem_nil _⟩⟩) rfl) rfl (λ_ _ _ _=>aW) (λ_ _ _ _=>(bN (aa (aJ (cc (K:=K) rfl) (pv 1) (pv 0) (λ_ _=>rfl)) (aa (aU dE hr rfl (aa (aJ (cc (K:=K) rfl) (pv 2) (pv 0) (λ_ _=>rfl)) ag)) ag)))))))),?_⟩
 obtain ⟨nl,dl,tl_,dv,tv,er,enl,edl,hdv,etl,htv⟩:=id hPl
 have hzl:(zs.map V.str).length=zs.length:=List.length_map _
 have hl1:=ok.len
 have hl2:=ok.tab
 have h7:=ok.n7
 have htl:tv.length=ts.length:=htv.1
 refine ⟨λσ' H'=>H'=H/\σ'=[some (.ref r),some (.ref nl),some (.ref dl),some (.ref tl_)],⟨_,rfl,r,_,rfl,SqT.of er,rfl,_,_,rfl,_,_,rfl,_,_,rfl,rfl,rfl,rfl⟩,?_⟩
 rintro σ1 H1 ⟨rfl,rfl⟩
 have eN:(((zs.map V.str).length:Nat):Int) - ((tv.length:Nat):Int)=(fN:Int):=by omega
 refine ⟨_,rfl,nl,_,rfl,.inl (SqL.of enl),_,rfl,tl_,_,rfl,.inl (SqL.of etl),_,_,rfl,rfl,_,rfl,(by rw [eN];omega),(by rw [eN];omega),bE (λD i ys H'=>aq H1 H'/\H' D=some (.lst ys)/\ao ys (List.range i) (FcN (Fr H1 D) yV yW H' zs ds)) (λD hD=>⟨ah hD _,ae,ao.nil⟩) (λD i ys H' hD hi h=>?_) (λD ys H' hD h=>?_)⟩
 ·obtain ⟨sm,eD,hz⟩:=h
  rw [eN,Int.toNat_natCast] at hi
  have ez:=E3 (l:=zs) (i:=i) (by omega)
  have ed:=E3 (l:=ds) (i:=i) (by omega)
  obtain ⟨da,e2,hpd⟩:=hdv.2 i _ ed
  have okd:=ok.doms _ (E5 ed)
  generalize ds[i]=p at ed hpd okd
  generalize zs[i]=nm at ez
  have ix1:atI (zs.map V.str) (0+(i:Int))=some (.str nm):=by rw [Int.zero_add];exact aN (dj ez)
  have ix2:atI dv (0+(i:Int))=some (.ref da):=by rw [Int.zero_add];exact aN e2
  refine ⟨_,rfl,_,rfl,nl,_,_,_,rfl,rfl,SqL.of (sm _ _ enl),ix1,_,rfl,_,rfl,dl,_,_,_,rfl,rfl,SqL.of (sm _ _ edl),ix2,da,p,rfl,hpd.same sm,okd,λx H6 s6 hx=>⟨bS,λtt_ htt=>?_⟩⟩
  have u7:=ah htt (.tup [.str nm,.ref x])
  have eT:upd H6 tt_ (.tup [.str nm,.ref x]) tt_=some (.tup [.str nm,.ref x]):=ae
  generalize upd H6 tt_ (.tup [.str nm,.ref x])=H7 at u7 eT ⊢
  have sA:=s6.trans u7
  have eD7:=sA _ _ eD
  have hz2:ao (ys ++ [.ref tt_]) (List.range i ++ [i]) (FcN (Fr H1 D) yV yW H7 zs ds):=ao.snoc (ao.mono hz λ_ _ p=>p.same sA) ⟨nm,p,x,ez,ed,eT,(hx.wk λa h=>⟨sm.free h,λz=>by rw [z,eD] at h;cases h⟩).same u7⟩
  refine bK.mk (by rw [eN,Int.toNat_natCast];exact hi) eD7 (ay (by rw [hz.1,List.length_range];omega)) ⟨(sm.trans sA).upd hD,ae,?_⟩
  rw [List.range_succ]
  exact ao.mono hz2 λ_ _ p=>p.upd Fr.out eD7
 ·obtain ⟨sm,eD,hz⟩:=h
  rw [eN,Int.toNat_natCast] at hz
  exact q D ys H' sm eD (ao.mono hz λ_ _ p=>p.fc)
theorem B2 (F:Fun K "__init__" "Table.__init__" Y12 f fd) (bl:Bl K mg yA yE yN yO yP yQ yR yS yT yU yV yW yX af) (eY:Callee P w K mg base 5 "refuse_names_tables" ["names"] (J57 K)) (eE:Callee P w K mg base 5 "refuse_counts_tables" ["names", "rows"] (J54 K)) (mQ:Callee P w K mg base 5 "refuse_way" ["way", "outcome"] (J60 K yV)) (mR:Callee P w K mg base 5 "refuse_row" ["domains", "outcome", "cells", "code"] (J59 K yV yW)) (rm:Callee P w K mg base 5 "own_row" ["cells", "code"] (J51 K)):aQ P w K mg base CX0 6 f fd ["self", "name", "names", "domains", "outcome", "way", "rows"] (J12 K yV yW yX):=by
 refine F.ok Z12 (λvs H Q E h=>?_) (λcdv A outer s H vs Q E hr h=>?_)
 ·obtain ⟨x,dx,na,dl,ou,rl,nm,wy,zs,dv,rx,bs,o,rws,rfl,hx,hna,hw,hnd,h1,h4,hwy,hws,hdl,hdv,hou,hrl,hR,fX,hb4,hok,q⟩:=h
  rfl
 obtain ⟨x,dx,na,dl,ou,rl,nm,wy,zs,dv,rx,bs,o,rws,rfl,hx,hna,hw,hnd,h1,h4,hwy,hws,hdl,hdv,hou,hrl,hR,fX,hb4,hok,q⟩:=h
 refine ⟨_,(az (aT (aU eY hr rfl (aa (aG iU (bz (aa (pv 1) ag)) (pv 2)) ag)))
  (az (aT (aU eE hr rfl (aa (pv 2) (aa (pv 6) ag))))
  (az (aT (aU mQ hr rfl (aa (pv 5) (aa (pv 4) ag))))
  (aD (bp PassesOwn.never rfl (aK (pv 6)) (cA rfl (aH (aE (i:=7) Z12.nd rfl (Or.inl rfl)) (aH (aE (i:=8) Z12.nd rfl (Or.inl rfl)) bA)))
  (ai (aT (aU mR hr rfl (aa (pv 3) (aa (pv 4) (aa (pv 7) (aa (pv 8) ag))))))))
  (az (bR (pv 0) (pv 1) rfl)
  (az (bR (pv 0) (bw bZ rfl bl.list_ PyProof.Rows.boot_list (aa (pv 2) ag)) rfl)
  (az (bR (pv 0) (bw bZ rfl bl.list_ PyProof.Rows.boot_list (aa (pv 3) ag)) rfl)
  (az (bR (pv 0) (pv 4) rfl)
  (az (bR (pv 0) (pv 5) rfl)
  (ai (bR (pv 0) (df (aK (pv 6)) (cD (N:=["cells", "code"]) (k:=2) rfl rfl (by decide +kernel) (by decide +kernel) (by decide +kernel)) rfl (λ_ _ _ _=>(lK (K:=K) (n:=2) rfl rfl (aH (aE (i:=0) (show (["cells", "code"]:List Str).Nodup by decide +kernel) rfl (Or.inl rfl) (Or.inr rfl)) (aH (aE (i:=1) (show (["cells", "code"]:List Str).Nodup by decide +kernel) rfl (Or.inl rfl) (Or.inr rfl)) bA)))) (λ_ _ _ _=>aW) (λ_ _ _ _=>(aU rm hr rfl (aa (pv 0) (aa (pv 1) ag))))) rfl))))))))))),?_⟩
 have hzl:(zs.map V.str).length=zs.length:=List.length_map _
 refine ⟨_,rfl,(by show 1<=sizeLine;decide),λl1 hl1=>?_⟩
 have s1:=ah hl1 (.lst [.str nm])
 have e1:upd H l1 (.lst [.str nm]) l1=some (.lst [.str nm]):=ae
 generalize upd H l1 (.lst [.str nm])=H1 at s1 e1 ⊢
 refine ⟨_,rfl,l1,na,_,_,rfl,rfl,e1,s1 _ _ hna,(by rw [hzl];show 1+zs.length<=sizeLine;exact big (by omega)),λl2 hl2=>?_⟩
 have s2:=s1.trans (ah hl2 (.lst ([V.str nm] ++ zs.map V.str)))
 have e2:upd H1 l2 (.lst ([V.str nm] ++ zs.map V.str)) l2=some (.lst ((nm :: zs).map V.str)):=ae
 generalize upd H1 l2 (.lst ([V.str nm] ++ zs.map V.str))=H2 at s2 e2 ⊢
 refine ⟨l2,nm :: zs,rfl,SqL.of e2,hw,hnd,by rw [List.length_cons];omega,λH3 t3=>?_⟩
 have s3:=s2.trans t3
 refine ⟨_,rfl,_,rfl,na,rl,_,_,rfl,SqL.of (s3 _ _ hna),SqL.of (s3 _ _ hrl),by rw [hzl];exact h1,by rw [hzl];exact h4,fX,?_⟩
 refine ⟨_,rfl,_,rfl,wy,ou,rfl,hwy,(λz=>let ⟨dx',fs',e'⟩:=hws z;⟨dx',fs',s3 _ _ e'⟩),λH4 t4=>?_⟩
 have s4:=s3.trans t4
 refine ⟨λσ' H'=>aq H H'/\∃ c7 c8:Option V,σ'=[some (.ref x),some (.str nm),some (.ref na),some (.ref dl),some (.ref ou),some (.str wy),some (.ref rl),c7,c8],?_,?_⟩
 ·refine ⟨_,rfl,rl,rfl,⟨_,SqL.of (s4 _ _ hrl)⟩,bg (xs:=rx) (λi σ H'=>aq H H'/\∃ c7 c8:Option V,σ=[some (.ref x),some (.str nm),some (.ref na),some (.ref dl),some (.ref ou),some (.str wy),some (.ref rl),c7,c8]) ⟨s4,_,_,rfl⟩ (λi σ H' _ h=>SqL.of (h.1 _ _ hrl)) (λi y σ H' e h=>?_) (λσ H' h=>h)⟩
  obtain ⟨sm,c7,c8,rfl⟩:=h
  obtain ⟨r,w_,rfl,ew,ce,cv,g1,_,g2,g3⟩:=ao.get (hR.same sm) e
  refine ⟨r,_,rfl,SqT.of g1,rfl,_,_,rfl,_,_,rfl,rfl,?_⟩
  exact ⟨_,rfl,_,rfl,_,rfl,_,rfl,dl,ou,ce,dv,cv,bs,o,w_,rfl,SqL.of (sm _ _ hdl),ao.mono hdv λ_ _ p=>p.same sm,hou.same sm,g2,g3,hok w_ (E5 ew),λH2 t2=>⟨sm.trans t2,_,_,rfl⟩⟩
 rintro σ5 H5 ⟨s5,c7,c8,rfl⟩
 have x5:=s5 _ _ hx
 have nax:na ≠ x:=bV hna hx (by intro z;cases z)
 have dlx:dl ≠ x:=bV hdl hx (by intro z;cases z)
 have rlx:rl ≠ x:=bV hrl hx (by intro z;cases z)
 have k5:∀ b o,b ≠ x->H b=some o->H5 b=some o:=λb o _ e=>s5 b o e
 have R5:=RL.hide x5 (hR.same s5)
 refine ⟨_,rfl,_,rfl,x,_,dx,_,rfl,x5,bl.k_Table,bl.na_Table_name,(by show 0 < 1000;decide),?_⟩
 have k6:∀ b o,b ≠ x->H5 b=some o->upd H5 x (.ins yX dx [(Str.ofString "name",.str nm)]) b=some o:=λb o hb e=>(au hb).trans e
 have x6:upd H5 x (.ins yX dx [(Str.ofString "name",.str nm)]) x=some (.ins yX dx [(Str.ofString "name",.str nm)]):=ae
 have g6:upd H5 x (.ins yX dx (bj (Str.ofString "name") (.str nm) []))=upd H5 x (.ins yX dx [(Str.ofString "name",.str nm)]):=rfl
 rw [g6]
 clear g6
 generalize upd H5 x (.ins yX dx [(Str.ofString "name",.str nm)])=H6 at k6 x6 ⊢
 refine ⟨_,rfl,na,_,rfl,.inl (SqL.of (k6 _ _ nax (s5 _ _ hna))),λm1 hm1=>⟨_,rfl,x,_,dx,_,rfl,gB x6 hm1,bl.k_Table,bl.na_Table_names,(by show 1 < 1000;decide),?_⟩⟩
 have g7:upd (upd H6 m1 (.lst (zs.map V.str))) x (.ins yX dx (bj (Str.ofString "names") (V.ref m1) [(Str.ofString "name",V.str nm)]))=upd (upd H6 m1 (.lst (zs.map V.str))) x (.ins yX dx [(Str.ofString "name",V.str nm),(Str.ofString "names",V.ref m1)]):=by rw [pf1]
 rw [g7]
 clear g7
 have k7:∀ b o,b ≠ x->H5 b=some o->upd (upd H6 m1 (.lst (zs.map V.str))) x (.ins yX dx [(Str.ofString "name",V.str nm),(Str.ofString "names",V.ref m1)]) b=some o:=λb o hb e=>(au hb).trans (gB (k6 b o hb e) hm1)
 have x7:upd (upd H6 m1 (.lst (zs.map V.str))) x (.ins yX dx [(Str.ofString "name",V.str nm),(Str.ofString "names",V.ref m1)]) x=some (.ins yX dx [(Str.ofString "name",V.str nm),(Str.ofString "names",V.ref m1)]):=ae
 have m1x:m1 ≠ x:=λz=>by rw [z,x6] at hm1;cases hm1
 have j7:upd (upd H6 m1 (.lst (zs.map V.str))) x (.ins yX dx [(Str.ofString "name",V.str nm),(Str.ofString "names",V.ref m1)]) m1=some (.lst (zs.map V.str)):=(au m1x).trans ae
 generalize upd (upd H6 m1 (.lst (zs.map V.str))) x (.ins yX dx [(Str.ofString "name",V.str nm),(Str.ofString "names",V.ref m1)])=H7 at k7 x7 j7 ⊢
 refine ⟨_,rfl,dl,_,rfl,.inl (SqL.of (k7 _ _ dlx (s5 _ _ hdl))),λm2 hm2=>⟨_,rfl,x,_,dx,_,rfl,gB x7 hm2,bl.k_Table,bl.na_Table_domains,(by show 2 < 1000;decide),?_⟩⟩
 have g8:upd (upd H7 m2 (.lst dv)) x (.ins yX dx (bj (Str.ofString "domains") (V.ref m2) [(Str.ofString "name",V.str nm),(Str.ofString "names",V.ref m1)]))=upd (upd H7 m2 (.lst dv)) x (.ins yX dx [(Str.ofString "name",V.str nm),(Str.ofString "names",V.ref m1),(Str.ofString "domains",V.ref m2)]):=by rw [pf2]
 rw [g8]
 clear g8
 have k8:∀ b o,b ≠ x->H5 b=some o->upd (upd H7 m2 (.lst dv)) x (.ins yX dx [(Str.ofString "name",V.str nm),(Str.ofString "names",V.ref m1),(Str.ofString "domains",V.ref m2)]) b=some o:=λb o hb e=>(au hb).trans (gB (k7 b o hb e) hm2)
 have x8:upd (upd H7 m2 (.lst dv)) x (.ins yX dx [(Str.ofString "name",V.str nm),(Str.ofString "names",V.ref m1),(Str.ofString "domains",V.ref m2)]) x=some (.ins yX dx [(Str.ofString "name",V.str nm),(Str.ofString "names",V.ref m1),(Str.ofString "domains",V.ref m2)]):=ae
 have m2x:m2 ≠ x:=λz=>by rw [z,x7] at hm2;cases hm2
 have j8:upd (upd H7 m2 (.lst dv)) x (.ins yX dx [(Str.ofString "name",V.str nm),(Str.ofString "names",V.ref m1),(Str.ofString "domains",V.ref m2)]) m1=some (.lst (zs.map V.str)):=(au m1x).trans (gB j7 hm2)
 have i8:upd (upd H7 m2 (.lst dv)) x (.ins yX dx [(Str.ofString "name",V.str nm),(Str.ofString "names",V.ref m1),(Str.ofString "domains",V.ref m2)]) m2=some (.lst dv):=(au m2x).trans ae
 generalize upd (upd H7 m2 (.lst dv)) x (.ins yX dx [(Str.ofString "name",V.str nm),(Str.ofString "names",V.ref m1),(Str.ofString "domains",V.ref m2)])=H8 at k8 x8 j8 i8 ⊢
 refine ⟨_,rfl,_,rfl,x,_,dx,_,rfl,x8,bl.k_Table,bl.na_Table_outcome,(by show 3 < 1000;decide),?_⟩
 have g9:upd H8 x (.ins yX dx (bj (Str.ofString "outcome") (V.ref ou) [(Str.ofString "name",V.str nm),(Str.ofString "names",V.ref m1),(Str.ofString "domains",V.ref m2)]))=upd H8 x (.ins yX dx [(Str.ofString "name",V.str nm),(Str.ofString "names",V.ref m1),(Str.ofString "domains",V.ref m2),(Str.ofString "outcome",V.ref ou)]):=by rw [pf3]
 rw [g9]
 clear g9
 have k9:∀ b o,b ≠ x->H5 b=some o->upd H8 x (.ins yX dx [(Str.ofString "name",V.str nm),(Str.ofString "names",V.ref m1),(Str.ofString "domains",V.ref m2),(Str.ofString "outcome",V.ref ou)]) b=some o:=λb o hb e=>(au hb).trans (k8 b o hb e)
 have x9:upd H8 x (.ins yX dx [(Str.ofString "name",V.str nm),(Str.ofString "names",V.ref m1),(Str.ofString "domains",V.ref m2),(Str.ofString "outcome",V.ref ou)]) x=some (.ins yX dx [(Str.ofString "name",V.str nm),(Str.ofString "names",V.ref m1),(Str.ofString "domains",V.ref m2),(Str.ofString "outcome",V.ref ou)]):=ae
 have j9:upd H8 x (.ins yX dx [(Str.ofString "name",V.str nm),(Str.ofString "names",V.ref m1),(Str.ofString "domains",V.ref m2),(Str.ofString "outcome",V.ref ou)]) m1=some (.lst (zs.map V.str)):=(au m1x).trans j8
 have i9:upd H8 x (.ins yX dx [(Str.ofString "name",V.str nm),(Str.ofString "names",V.ref m1),(Str.ofString "domains",V.ref m2),(Str.ofString "outcome",V.ref ou)]) m2=some (.lst dv):=(au m2x).trans i8
 generalize upd H8 x (.ins yX dx [(Str.ofString "name",V.str nm),(Str.ofString "names",V.ref m1),(Str.ofString "domains",V.ref m2),(Str.ofString "outcome",V.ref ou)])=H9 at k9 x9 j9 i9 ⊢
 refine ⟨_,rfl,_,rfl,x,_,dx,_,rfl,x9,bl.k_Table,bl.na_Table_way,(by show 4 < 1000;decide),?_⟩
 have g10:upd H9 x (.ins yX dx (bj (Str.ofString "way") (V.str wy) [(Str.ofString "name",V.str nm),(Str.ofString "names",V.ref m1),(Str.ofString "domains",V.ref m2),(Str.ofString "outcome",V.ref ou)]))=upd H9 x (.ins yX dx [(Str.ofString "name",V.str nm),(Str.ofString "names",V.ref m1),(Str.ofString "domains",V.ref m2),(Str.ofString "outcome",V.ref ou),(Str.ofString "way",V.str wy)]):=by rw [pf4]
 rw [g10]
 clear g10
 have k10:∀ b o,b ≠ x->H5 b=some o->upd H9 x (.ins yX dx [(Str.ofString "name",V.str nm),(Str.ofString "names",V.ref m1),(Str.ofString "domains",V.ref m2),(Str.ofString "outcome",V.ref ou),(Str.ofString "way",V.str wy)]) b=some o:=λb o hb e=>(au hb).trans (k9 b o hb e)
 have x10:upd H9 x (.ins yX dx [(Str.ofString "name",V.str nm),(Str.ofString "names",V.ref m1),(Str.ofString "domains",V.ref m2),(Str.ofString "outcome",V.ref ou),(Str.ofString "way",V.str wy)]) x=some (.ins yX dx [(Str.ofString "name",V.str nm),(Str.ofString "names",V.ref m1),(Str.ofString "domains",V.ref m2),(Str.ofString "outcome",V.ref ou),(Str.ofString "way",V.str wy)]):=ae
 have j10:upd H9 x (.ins yX dx [(Str.ofString "name",V.str nm),(Str.ofString "names",V.ref m1),(Str.ofString "domains",V.ref m2),(Str.ofString "outcome",V.ref ou),(Str.ofString "way",V.str wy)]) m1=some (.lst (zs.map V.str)):=(au m1x).trans j9
 have i10:upd H9 x (.ins yX dx [(Str.ofString "name",V.str nm),(Str.ofString "names",V.ref m1),(Str.ofString "domains",V.ref m2),(Str.ofString "outcome",V.ref ou),(Str.ofString "way",V.str wy)]) m2=some (.lst dv):=(au m2x).trans i9
 generalize upd H9 x (.ins yX dx [(Str.ofString "name",V.str nm),(Str.ofString "names",V.ref m1),(Str.ofString "domains",V.ref m2),(Str.ofString "outcome",V.ref ou),(Str.ofString "way",V.str wy)])=H10 at k10 x10 j10 i10 ⊢
 have R10:RL NT H10 rx rws:=RL.same R5 (lU k10)
 have vn:=k10 _ _ rlx (s5 _ _ hrl)
 refine ⟨_,rfl,rl,rfl,⟨_,SqL.of vn⟩,bX (xs:=rx) (λD i zs H'=>aq H10 H'/\H' D=some (.lst zs)/\RL (Fr H10 D) H' zs (rws.take i))
  (λD hD=>⟨ah hD _,ae,ao.nil⟩) (λD i zs H' hD _ h=>SqL.of (h.1 _ _ vn)) (λD i y zs H' hD e h ts hts=>?_) (λD zs H' hD h=>?_)⟩
 ·obtain ⟨sm,eD,hz⟩:=h
  obtain ⟨r,w_,rfl,ew,ce,cv,g1,_,g2,g3⟩:=ao.get (R10.same sm) e
  have hi:i < rx.length:=(E4.mp e).1
  obtain ⟨t0,t1,rfl⟩:∃ t0 t1,ts=[t0,t1]:=by
   match ts,hts with
   | [t0,t1],_=>exact ⟨t0,t1,rfl⟩
  refine ⟨r,_,rfl,SqT.of g1,rfl,_,_,rfl,_,_,rfl,rfl,⟨[some (.ref ce),some (.int w_.2)],rfl,rfl⟩,?_⟩
  refine ⟨_,rfl,_,rfl,ce,cv,w_,rfl,g2,g3,by rw [(hok w_ (E5 ew)).len];omega,λr2 H2 t2 hr2 sW=>?_⟩
  have eD2:=t2 _ _ eD
  have hlz:zs.length<=200:=by
   have:=hz.1
   rw [List.length_take] at this
   omega
  refine bK.mk hi eD2 (ay (by omega)) ⟨(sm.trans t2).upd hD,ae,?_⟩
  rw [take_snoc ew]
  exact RL.updN (ao.snoc (hz.same t2) (sW.wk λa h=>⟨sm.free h,λz=>by rw [z,eD] at h;cases h⟩)) Fr.out eD2
 ·obtain ⟨sm,eD,hz⟩:=h
  rw [hR.1,List.take_length] at hz
  refine ⟨_,rfl,x,_,dx,_,rfl,sm _ _ x10,bl.k_Table,bl.na_Table_rows,(by show 5 < 1000;decide),?_⟩
  have g11:upd H' x (.ins yX dx (bj (Str.ofString "rows") (V.ref D) [(Str.ofString "name",V.str nm),(Str.ofString "names",V.ref m1),(Str.ofString "domains",V.ref m2),(Str.ofString "outcome",V.ref ou),(Str.ofString "way",V.str wy)]))=upd H' x (.ins yX dx [(Str.ofString "name",V.str nm),(Str.ofString "names",V.ref m1),(Str.ofString "domains",V.ref m2),(Str.ofString "outcome",V.ref ou),(Str.ofString "way",V.str wy),(Str.ofString "rows",V.ref D)]):=by rw [pf5]
  rw [g11]
  have nDx:D ≠ x:=λz=>by rw [z,x10] at hD;cases hD
  refine q _ _ D zs (λb o hb e=>(au hb).trans (sm _ _ (k10 b o hb (s5 _ _ e)))) ae rfl rfl rfl rfl ⟨m1,m2,s5.free (fT k6 x6 hm1),s5.free (fT k7 x7 hm2),rfl,rfl,(au m1x).trans (sm _ _ j10),(au m2x).trans (sm _ _ i10)⟩ (s5.free (fT k10 x10 hD)) ((au nDx).trans eD) ?_
  exact RL.same (RL.hideN (sm _ _ x10) (ao.mono hz λ_ _ p=>p.wk λa h=>s5.free (fT k10 x10 h.1))) (lU λb o hb e=>(au hb).trans e)
theorem B3 (F:Fun K "_law_table" "_law_table" Y45 f fd) (bl:Bl K mg yA yE yN yO yP yQ yR yS yT yU yV yW yX af) (k_Table:MkCallee CX0 P w K mg base 6 "Table" yX ["self", "name", "names", "domains", "outcome", "way", "rows"] (J12 K yV yW yX)) (dE:Callee P w K mg base 7 "_law_made" ["domain"] (J36 K yV yW)):aQ P w K mg base CX0 8 f fd ["plan", "k"] (J45 K yV yW yX):=by
 refine F.ok Z45 (λvs H Q E h=>?_) (λcdv A outer s H vs Q E hr h=>?_)
 ·obtain ⟨r,k,zs,ds,ts,fN,t,nm,po,rfl,hPl,ok,et,enm,epo,q⟩:=h
  rfl
 obtain ⟨r,k,zs,ds,ts,fN,t,nm,po,rfl,hPl,ok,et,enm,epo,q⟩:=h
 refine ⟨_,(aD (fg (pv 0) (cA rfl (aH (aE (i:=2) Z45.nd rfl (Or.inr rfl)) (aH (aE (i:=3) Z45.nd rfl (Or.inr rfl)) (aH (aE (i:=4) Z45.nd rfl (Or.inl rfl)) bA)))))
  (aD (aI (i:=5) Z45.nd rfl (Or.inl rfl) (aG bB (aG bQ (aC aw rfl bl.len_ PySem.boot_len (aa (pv 2) ag)) (aC aw rfl bl.len_ PySem.boot_len (aa (pv 4) ag))) (pv 1)))
  (aD (aI (i:=6) Z45.nd rfl (Or.inl rfl) (aJ bD (aJ aO (pv 4) (pv 1) (λ_ _=>rfl)) aj (λ_ _=>rfl)))
  (aD (sj (i:=7) Z45.nd rfl (Or.inl rfl) (aK (aJ bD (aJ aO (pv 4) (pv 1) (λ_ _=>rfl)) aj (λ_ _=>rfl))) (cD (N:=["row"]) (k:=1) rfl rfl (by decide +kernel) (by decide +kernel) (by decide +kernel)) rfl (λ_ C1 _ _=>(aE (i:=0) (show (["row"]:List Str).Nodup by decide +kernel) rfl (Or.inl rfl) (Or.inr rfl))) (λ_ C1 _ _=>aW) (λ_ C1 _ _=>(bN (aa (df (sk (K:=K) rfl (aJ (cC (K:=K) rfl) (pv 0) aj (λ_ _=>rfl))) (cD (N:=["spans"]) (k:=1) rfl rfl (by decide +kernel) (by decide +kernel) (by decide +kernel)) rfl (λ_ C2 _ _=>(aE (i:=0) (show (["spans"]:List Str).Nodup by decide +kernel) rfl (Or.inl rfl) (Or.inr rfl))) (λ_ C2 _ _=>aW) (λ_ C2 _ _=>(bw (gp (K:=K) rfl) rfl bl.list_ PyProof.Rows.boot_list (aa (pv 0) ag)))) (aa (aJ (cC (K:=K) rfl) (pv 0) aj (λ_ _=>rfl)) ag)))))
  (aD (il (i:=8) Z45.nd rfl (Or.inl rfl) (aK (pv 6)) (aR (N:=["j", "names"]) (fr:=[2]) (cl:=[("names",s.heap.objs.size+1)]) rfl rfl (by decide +kernel) (by decide +kernel) rfl (by decide +kernel) rfl rfl rfl (List.forall_mem_cons.mpr ⟨rfl,List.forall_mem_nil _⟩) rfl) rfl (λ_ _ _ _=>aW) (λ_ _ _ _=>(aJ (cc (K:=K) rfl) (pv 1) (pv 0) (λ_ _=>rfl))))
  (aD (il (i:=9) Z45.nd rfl (Or.inl rfl) (aK (pv 6)) (aR (N:=["j", "domains"]) (fr:=[3]) (cl:=[("domains",s.heap.objs.size+1+1)]) rfl rfl (by decide +kernel) (by decide +kernel) rfl (by decide +kernel) rfl rfl rfl (List.forall_mem_cons.mpr ⟨rfl,List.forall_mem_nil _⟩) rfl) rfl (λ_ _ _ _=>aW) (λ_ _ _ _=>(aU dE hr rfl (aa (aJ (cc (K:=K) rfl) (pv 1) (pv 0) (λ_ _=>rfl)) ag))))
  (ai (aP (qf k_Table cx hr rfl (aa (aJ aO (pv 2) (pv 5) (λ_ _=>rfl)) (aa (pv 8) (aa (pv 9) (aa (aU dE hr rfl (aa (aJ aO (pv 3) (pv 5) (λ_ _=>rfl)) ag)) (aa (aJ bD (aJ aO (pv 4) (pv 1) (λ_ _=>rfl)) aj (λ_ _=>rfl)) (aa (pv 7) ag))))))))))))))),?_⟩
 obtain ⟨nl,dl,tl_,dv,tv,er,enl,edl,hdv,etl,htv⟩:=id hPl
 obtain ⟨ta,eta,cl,rl,rx,g1,g2,g3,g4⟩:=htv.2 k t et
 have hzl:(zs.map V.str).length=zs.length:=List.length_map _
 have hl1:=ok.len
 have hl2:=ok.tab
 have htl:tv.length=ts.length:=htv.1
 have h7:=ok.n7
 have tok:=ok.tabs k t et
 have hlt:=ok.lt et
 have ET:=ok.own et
 have hc3:t.cols.length<=3:=tok.ok.few
 have hc1:1<=t.cols.length:=tok.ok.some_
 have vo:=tok.few
 have hvl:(vN t.cols).length=t.cols.length:=bG _
 refine ⟨λσ' H'=>H'=H/\σ'=[some (.ref r),some (.int (k:Int)),some (.ref nl),some (.ref dl),some (.ref tl_),none,none,none,none,none],⟨_,rfl,r,_,rfl,SqT.of er,rfl,_,_,rfl,_,_,rfl,_,_,rfl,rfl,rfl,rfl⟩,?_⟩
 rintro σ1 H1 ⟨rfl,rfl⟩
 refine ⟨λσ' H'=>H'=H1/\σ'=[some (.ref r),some (.int (k:Int)),some (.ref nl),some (.ref dl),some (.ref tl_),some (.int ((fN+k:Nat):Int)),none,none,none,none],⟨_,rfl,nl,_,rfl,.inl (SqL.of enl),_,rfl,tl_,_,rfl,.inl (SqL.of etl),_,_,rfl,rfl,_,rfl,_,_,rfl,rfl,rfl,?_⟩,?_⟩
 ·rw [show ((fN+k:Nat):Int)=(((zs.map V.str).length:Nat):Int) - ((tv.length:Nat):Int)+(k:Int) by omega]
  rfl
 rintro σ2 H2 ⟨rfl,rfl⟩
 refine ⟨λσ' H'=>H'=H2/\σ'=[some (.ref r),some (.int (k:Int)),some (.ref nl),some (.ref dl),some (.ref tl_),some (.int ((fN+k:Nat):Int)),some (.ref cl),none,none,none],⟨_,rfl,_,rfl,tl_,_,_,_,rfl,rfl,SqL.of etl,aN eta,ta,_,_,_,rfl,rfl,SqT.of g1,rfl,rfl,rfl⟩,?_⟩
 rintro σ3 H3 ⟨rfl,rfl⟩
 refine ⟨λσ' H'=>aq H3 H'/\∃ (ro:Addr) (zx:List V),H' ro=some (.lst zx)/\RL NT H' zx t.rows/\σ'=[some (.ref r),some (.int (k:Int)),some (.ref nl),some (.ref dl),some (.ref tl_),some (.int ((fN+k:Nat):Int)),some (.ref cl),some (.ref ro),none,none],?_,?_⟩
 ·refine ⟨_,rfl,_,rfl,tl_,_,_,_,rfl,rfl,SqL.of etl,aN eta,ta,_,_,_,rfl,rfl,SqT.of g1,rfl,rl,rfl,⟨_,SqL.of g3⟩,bX (xs:=rx) (λD i ys H'=>aq H3 H'/\H' D=some (.lst ys)/\RL NT (hide H' D) ys (t.rows.take i)) (λD hD=>⟨ah hD _,ae,ao.nil⟩) (λD i ys H' hD _ h=>SqL.of (h.1 _ _ g3)) (λD i y ys H' hD e h ts_ hts=>?_) (λD ys H' hD h=>?_)⟩
  ·obtain ⟨sm,eD,hz⟩:=h
   obtain ⟨r0,w,rfl,ew,ce,cs,f1,_,f2,f3⟩:=ao.get g4 e
   have hi:i < rx.length:=(E4.mp e).1
   have hrl:rx.length=t.rows.length:=g4.1
   obtain ⟨u0,rfl⟩:∃ u0,ts_=[u0]:=by
    match ts_,hts with
    | [u0],_=>exact ⟨u0,rfl⟩
   have fit:=tok.rows w (E5 ew)
   have B4:cs.length=w.1.length:=f3.1
   have hwl:=fit.len
   refine ⟨⟨[some (.ref r0)],rfl,rfl⟩,?_⟩
   refine ⟨_,rfl,r0,_,_,_,rfl,rfl,SqT.of (sm _ _ f1),rfl,ce,rfl,⟨_,SqL.of (sm _ _ f2)⟩,bX (xs:=cs) (λD2 j ws H4=>aq H' H4/\H4 D2=some (.lst ws)/\CL (Fr H' D2) H4 ws (w.1.take j)) (λD2 hD2=>⟨ah hD2 _,ae,ao.nil⟩) (λD2 j ws H4 hD2 _ h=>SqL.of (h.1 _ _ (sm _ _ f2))) (λD2 j y2 ws H4 hD2 e2 h ts2 B5=>?_) (λD2 ws H4 hD2 h=>?_)⟩
   ·obtain ⟨s4,eD2,hw⟩:=h
    obtain ⟨l,ps,rfl,eps,_,yl,el,hpl⟩:=ao.get f3 e2
    have hj:j < cs.length:=(E4.mp e2).1
    obtain ⟨v0,rfl⟩:∃ v0,ts2=[v0]:=by
     match ts2,B5 with
     | [v0],_=>exact ⟨v0,rfl⟩
    have sA:=sm.trans s4
    refine ⟨⟨[some (.ref l)],rfl,rfl⟩,_,rfl,l,_,rfl,.inl (SqL.of (sA _ _ el)),λp hp=>?_⟩
    have u1:=ah hp (.lst yl)
    have ep:upd H4 p (.lst yl) p=some (.lst yl):=ae
    have nD2:p ≠ D2:=λz=>by rw [z,eD2] at hp;cases hp
    have hp' : H' p=none:=s4.free hp
    generalize upd H4 p (.lst yl)=H5 at u1 ep ⊢
    have eD5:=u1 _ _ eD2
    have hw2:CL (Fr H' D2) H5 (ws ++ [.ref p]) (w.1.take j ++ [ps]):=ao.snoc (hw.same u1) ⟨⟨hp',nD2⟩,yl,ep,hpl.mono (sA.trans u1).tups⟩
    refine bK.mk hj eD5 (ay (by have:=hw.1;rw [List.length_take] at this;omega)) ⟨(s4.trans u1).upd hD2,ae,?_⟩
    rw [take_snoc eps]
    exact hw2.updN Fr.out eD5
   ·obtain ⟨s4,eD2,hw⟩:=h
    rw [B4,List.take_length] at hw
    have nD2:D2 ≠ D:=λz=>by rw [z,eD] at hD2;cases hD2
    refine ⟨_,rfl,r0,_,_,_,rfl,rfl,SqT.of ((sm.trans s4) _ _ f1),rfl,bS,λtt_ htt=>?_⟩
    have u5:=ah htt (.tup [.ref D2,.int w.2])
    have eT:upd H4 tt_ (.tup [.ref D2,.int w.2]) tt_=some (.tup [.ref D2,.int w.2]):=ae
    generalize upd H4 tt_ (.tup [.ref D2,.int w.2])=H5 at u5 eT ⊢
    have uA:=s4.trans u5
    have eD5:=uA _ _ eD
    have sW:dS NT (hide H5 D) tt_ w:=⟨D2,ws,l5 eD5 _ _ eT,trivial,cm (u5 _ _ eD2) nD2,ao.mono (hw.same u5) λl ps ⟨⟨n1,_⟩,yl,el,hpl⟩=>⟨trivial,yl,cm el (λz=>by rw [z,eD] at n1;cases n1),hpl.mono (l5 eD5)⟩⟩
    refine bK.mk hi eD5 (ay (by have:=hz.1;rw [List.length_take] at this;omega)) ⟨(sm.trans uA).upd hD,ae,?_⟩
    rw [oq,take_snoc ew]
    exact ao.snoc (ao.mono hz λ_ _ p=>p.same (lW uA)) sW
  ·obtain ⟨sm,eD,hz⟩:=h
   rw [g4.1,List.take_length] at hz
   exact ⟨sm,D,ys,eD,ao.mono hz (λ_ _ p=>p.same (jx H' D)),rfl⟩
 rintro σ4 H4 ⟨s4,ro,zx,ero,hro,rfl⟩
 refine ⟨λσ' H'=>aq H4 H'/\∃ ha:Addr,H' ha=some (.lst ((prm t.cols zs).map V.str))/\σ'=[some (.ref r),some (.int (k:Int)),some (.ref nl),some (.ref dl),some (.ref tl_),some (.int ((fN+k:Nat):Int)),some (.ref cl),some (.ref ro),some (.ref ha),none],?_,?_⟩
 ·refine ⟨_,rfl,cl,rfl,⟨_,SqL.of (s4 _ _ g2)⟩,aX (xs:=vN t.cols) (λD i ys H'=>aq H4 H'/\H' D=some (.lst ys)/\ys=(prm (t.cols.take i) zs).map V.str) (λD hD=>⟨ah hD _,ae,rfl⟩) (λD i ys H' hD _ h=>SqL.of (h.1 _ _ (s4 _ _ g2))) (λD i y ys H' hD e h=>?_) (λD ys H' hD h=>?_)⟩
  ·obtain ⟨sm,eD,rfl⟩:=h
   obtain ⟨j,rfl,ej⟩:=ir e
   have hj:=hlt j (E5 ej)
   have ez:=E3 (l:=zs) (i:=j) (by omega)
   have hi:i < (vN t.cols).length:=(E4.mp e).1
   refine ⟨_,rfl,_,rfl,nl,_,_,_,rfl,rfl,SqL.of ((s4.trans sm) _ _ enl),aN (dj ez),bK.mk hi eD (ay ?_) ⟨sm.upd hD,ae,?_⟩⟩
   ·rw [List.length_map,(bL (os:=t.cols.take i) (xs:=zs) λj hj=>by rw [hl1];exact hlt j (List.mem_of_mem_take hj)).1,List.length_take];omega
   ·rw [take_snoc ej,sx ez,List.map_append];rfl
  ·obtain ⟨sm,eD,rfl⟩:=h
   rw [hvl,List.take_length] at eD
   exact ⟨sm,D,eD,rfl⟩
 rintro σ5 H5 ⟨s5,ha,eha,rfl⟩
 have s35:=s4.trans s5
 refine ⟨λσ' H'=>aq H5 H'/\∃ (ka:Addr) (kv:List V),H' ka=some (.lst kv)/\ao kv (prm t.cols (ds.map PD.k)) (eW (λa=>H5 a=none) yV yW H')/\σ'=[some (.ref r),some (.int (k:Int)),some (.ref nl),some (.ref dl),some (.ref tl_),some (.int ((fN+k:Nat):Int)),some (.ref cl),some (.ref ro),some (.ref ha),some (.ref ka)],?_,?_⟩
 ·refine ⟨_,rfl,cl,rfl,⟨_,SqL.of (s35 _ _ g2)⟩,aX (xs:=vN t.cols) (λD i ys H'=>aq H5 H'/\H' D=some (.lst ys)/\ao ys (prm (t.cols.take i) (ds.map PD.k)) (eW (Fr H5 D) yV yW H')) (λD hD=>⟨ah hD _,ae,ao.nil⟩) (λD i ys H' hD _ h=>SqL.of (h.1 _ _ (s35 _ _ g2))) (λD i y ys H' hD e h=>?_) (λD ys H' hD h=>?_)⟩
  ·obtain ⟨sm,eD,hz⟩:=h
   obtain ⟨j,rfl,ej⟩:=ir e
   have hj:=hlt j (E5 ej)
   have ed:=E3 (l:=ds) (i:=j) hj
   obtain ⟨da,e2,hpd⟩:=hdv.2 j _ ed
   have okd:=ok.doms _ (E5 ed)
   generalize ds[j]=p at ed hpd okd
   have hi:i < (vN t.cols).length:=(E4.mp e).1
   have sA:=s35.trans sm
   have ez:(ds.map PD.k)[j]?=some p.k:=by rw [List.getElem?_map,ed];rfl
   refine ⟨_,rfl,_,rfl,dl,_,_,_,rfl,rfl,SqL.of (sA _ _ edl),aN e2,da,p,rfl,hpd.same sA,okd,λx H6 s6 hx=>?_⟩
   have eD6:=s6 _ _ eD
   have hz2:ao (ys ++ [.ref x]) (prm (t.cols.take i) (ds.map PD.k) ++ [p.k]) (eW (Fr H5 D) yV yW H6):=ao.snoc (ao.mono hz λ_ _ p=>p.same s6) (hx.wk λa h=>⟨sm.free h,λz=>by rw [z,eD] at h;cases h⟩)
   refine bK.mk hi eD6 (ay ?_) ⟨(sm.trans s6).upd hD,ae,?_⟩
   ·rw [hz.1,(bL (os:=t.cols.take i) (xs:=ds.map PD.k) λj hj=>by rw [List.length_map];exact hlt j (List.mem_of_mem_take hj)).1,List.length_take];omega
   ·rw [take_snoc ej,q9 ez]
    exact ao.mono hz2 λ_ _ p=>p.upd Fr.out eD6
  ·obtain ⟨sm,eD,hz⟩:=h
   rw [hvl,List.take_length] at hz
   exact ⟨sm,D,ys,eD,ao.mono hz (λ_ _ p=>p.wk λa h=>h.1),rfl⟩
 rintro σ6 H6 ⟨s6,ka,kv,eka,hkv,rfl⟩
 have s36:=s35.trans s6
 obtain ⟨da,e2,hpd⟩:=hdv.2 (fN+k) po epo
 have okp:=ok.doms po (E5 epo)
 refine ⟨_,rfl,_,rfl,nl,_,_,_,rfl,rfl,SqL.of (s36 _ _ enl),aN (dj enm),_,rfl,_,rfl,_,rfl,_,rfl,dl,_,_,_,rfl,rfl,SqL.of (s36 _ _ edl),aN e2,da,po,rfl,hpd.same s36,okp,λou H7 s7 hou=>?_⟩
 have s37:=s36.trans s7
 have B6:=hou
 have hou:=hou.dom
 refine ⟨_,rfl,_,rfl,tl_,_,_,_,rfl,rfl,SqL.of (s37 _ _ etl),aN eta,ta,_,_,_,rfl,rfl,SqT.of (s37 _ _ g1),rfl,_,rfl,λx dx hx hdx hne=>?_⟩
 have s8:aq H7 (upd (upd H7 dx (.own x)) x (.ins yX dx [])):=(ah hdx _).upd hx
 have s68:=s7.trans s8
 have ltz:∀ j ∈ t.cols,j < zs.length:=λj hj=>by rw [hl1];exact hlt j hj
 have gz:=bL (os:=t.cols) (xs:=zs) ltz
 have nzs:nm ∉ prm t.cols zs:=λhm=>by
  obtain ⟨j,ej⟩:=List.getElem?_of_mem hm
  have hj:j < t.cols.length:=by rw [← gz.1];exact (E4.mp ej).1
  have ec:=E3 hj
  rw [gz.2 j _ ec] at ej
  have:=cH ok.nd ej enm
  have h9:=tok.ok.lt _ (E5 ec)
  omega
 refine ⟨x,dx,ha,ka,ou,ro,nm,t.way,prm t.cols zs,kv,zx,prm t.cols (ds.map λp=>(p.lo,p.hi)),(po.lo,po.hi),t.rows,rfl,ae,s68 _ _ (s6 _ _ eha),?_,List.nodup_cons.mpr ⟨nzs,lV tok.ok.nd ok.nd ltz⟩,by rw [gz.1];exact hc1,by rw [gz.1];omega,tok.ok.way,λz=>?_,s68 _ _ eka,?_,?_,s68 _ _ ((s5.trans s6) _ _ ero),hro.same ((s5.trans s6).trans s68),by rw [hro.1];exact vo,?_,ok.rows et epo,λH' fs rl' xs' k1 k2 k3 k3a k3b k3c ⟨na',dl',fn,fd,k3d,k3e,k3f,k3g⟩ fr k4 k5=>?_⟩
 ·intro z hz
  rcases List.mem_cons.mp hz with rfl | hz
  ·exact ok.words _ (E5 enm)
  ·exact ok.words z (qk hz)
 ·have he:=tok.ok.sum z po epo
  rw [PD.k_none he] at hou
  obtain ⟨dx2,e⟩:=hou
  exact ⟨dx2,_,s8 _ _ e⟩
 ·have e:prm t.cols (ds.map λp=>(p.lo,p.hi))=(prm t.cols (ds.map PD.k)).map (·.2):=by
   rw [← uJ,List.map_map]
   rfl
  rw [e]
  refine ⟨by rw [List.length_map];exact hkv.1,λj b eb=>?_⟩
  rw [List.getElem?_map] at eb
  cases ec:(prm t.cols (ds.map PD.k))[j]? with
  | none=>rw [ec] at eb;cases eb
  | some kk =>
   rw [ec] at eb
   cases eb
   obtain ⟨r1,e1,p1⟩:=hkv.2 j kk ec
   exact ⟨r1,e1,(p1.dom.same s68).dom⟩
 ·exact (hou.same s8).dom
 ·rw [(bL (os:=t.cols) (xs:=ds.map λp=>(p.lo,p.hi)) λj hj=>by rw [List.length_map];exact hlt j hj).1];omega
 ·have s9:aq H7 H':=λb u e=>k1 b u (bq e hx) (s8 _ _ e)
  have sF:∀ {a:Addr},upd (upd H7 dx (.own x)) x (.ins yX dx []) a=none->H3 a=none:=λh=>(s37.trans s8).free h
  exact ⟨rfl,q x H' (s37.trans s9) ⟨t,nm,po,ou,kv,rl',dx,na',dl',fs,xs',et,enm,epo,k2,k3,k3c,k3a,k3b,k3d,k3e,sF fn,sF fd,sF fr,k3f,k3g,k4,ao.mono k5 (λ_ _ p=>p.wk λa h=>sF h),by rw [k5.1];exact vo,ao.mono hkv (λ_ _ p=>(p.same (s7.trans s9)).wk λa h=>s35.free h),(B6.same s9).wk λa h=>s36.free h⟩⟩
theorem B7 {k n:Nat} (F:Fun K "_law_needs" "_law_needs" Y38 f fd) (bl:Bl K mg yA yE yN yO yP yQ yR yS yT yU yV yW yX af) (eG:Callee P w K mg base k "_law_needs" ["plan", "k"] (J38 K yA yE yN yO yP yQ yR yS yT yU yV yW yX af n)):aQ P w K mg base CX0 (k+1) f fd ["plan", "k"] (J38 K yA yE yN yO yP yQ yR yS yT yU yV yW yX af (n+1)):=by
 refine F.ok Z38 (λvs H Q E h=>?_) (λcdv A outer s H vs Q E hr h=>?_)
 ·obtain ⟨r,k,zs,ds,ts,fN,rfl,hPl,ok,hk,hn,q⟩:=h
  rfl
 obtain ⟨r,k,zs,ds,ts,fN,rfl,hPl,ok,hk,hn,q⟩:=h
 refine ⟨_,(az (fg (pv 0) (cA rfl (aH (aE (i:=2) Z38.nd rfl (Or.inl rfl)) (aH (aE (i:=3) Z38.nd rfl (Or.inl rfl)) (aH (aE (i:=4) Z38.nd rfl (Or.inl rfl)) bA)))))
  (az (aI (i:=5) Z38.nd rfl (Or.inl rfl) (aG bQ (aC aw rfl bl.len_ PySem.boot_len (aa (pv 2) ag)) (aC aw rfl bl.len_ PySem.boot_len (aa (pv 4) ag))))
  (az (ba (aL gh (pv 1) (pv 5) (aS _))
  (ai (aP (bz (aa (pv 1) ag))))
  aM)
  (az (aI (i:=6) Z38.nd rfl (Or.inl rfl) (bz ag))
  (az (bp PassesOwn.never rfl (aK (aJ bD (aJ aO (pv 4) (aG bQ (pv 1) (pv 5)) (λ_ _=>rfl)) aj (λ_ _=>rfl))) (aE (i:=7) Z38.nd rfl (Or.inl rfl))
  (ai (aI (i:=6) Z38.nd rfl (Or.inl rfl) (aG iU (pv 6) (aU eG hr rfl (aa (pv 0) (aa (pv 7) ag)))))))
  (ai (aP (aC (b9 (w:=w) rfl rfl) rfl bl.sorted_ PyProof.Rows.boot_sorted (aa (bw (fK (w:=w) rfl rfl) rfl bl.set_ PyProof.Rows.boot_set (aa (pv 6) ag)) ag))))))))),?_⟩
 obtain ⟨nl,dl,tl_,dv,tv,er,enl,edl,hdv,etl,htv⟩:=id hPl
 have hzl:(zs.map V.str).length=zs.length:=List.length_map _
 have hl1:=ok.len
 have hl2:=ok.tab
 have h7:=ok.n7
 have htl:tv.length=ts.length:=htv.1
 have eN:(((zs.map V.str).length:Nat):Int) - ((tv.length:Nat):Int)=(fN:Int):=by omega
 refine ⟨_,rfl,r,_,rfl,SqT.of er,rfl,_,_,rfl,_,_,rfl,_,_,rfl,rfl,_,rfl,nl,_,rfl,.inl (SqL.of enl),_,rfl,tl_,_,rfl,.inl (SqL.of etl),_,_,rfl,rfl,?_⟩
 refine ⟨_,rfl,_,rfl,_,_,rfl,rfl,_,rfl,cP (λg=>?_) (λg=>?_)⟩
 ·have g:(k:Int) < (fN:Int):=by have:=of_decide_eq_true g;rw [eN] at this;exact this
  refine ⟨_,rfl,(by show 1<=sizeLine;decide),λl hl=>q l [k] _ (ah hl _) hl ae (by simp) λf=>?_⟩
  rw [List.mem_singleton]
  exact ⟨λh=>.inl ⟨by omega,h⟩,λh=>by rcases h with ⟨_,h⟩ | ⟨h,_⟩;exact h;omega⟩
 ·have g:fN<=k:=by
   have:¬ (k:Int) < (((zs.map V.str).length:Nat):Int) - ((tv.length:Nat):Int):=λz=>g (decide_eq_true z)
   rw [eN] at this
   omega
  have et:=E3 (l:=ts) (i:=k - fN) (by omega)
  generalize ts[k - fN]=t at et
  obtain ⟨ta,eta,cl,rl,rx,g1,g2,g3,g4⟩:=htv.2 (k - fN) t et
  have tok:=ok.tabs (k - fN) t et
  have hc3:t.cols.length<=3:=tok.ok.few
  have hlt:∀ c ∈ t.cols,c < fN+(k - fN):=tok.ok.lt
  have ix:atI tv ((k:Int) - ((((zs.map V.str).length:Nat):Int) - ((tv.length:Nat):Int)))=some (.ref ta):=by
   rw [eN,show (k:Int) - (fN:Int)=((k - fN:Nat):Int) by omega]
   exact aN eta
  refine ⟨(by show 0<=sizeLine;decide),λl0 hl0=>?_⟩
  have s0:=ah hl0 (.lst [])
  have e0:upd H l0 (.lst []) l0=some (.lst (vN [])):=ae
  generalize upd H l0 (.lst [])=H0 at s0 e0 ⊢
  refine ⟨_,rfl,_,rfl,_,rfl,_,_,rfl,rfl,tl_,_,_,_,rfl,rfl,SqL.of (s0 _ _ etl),ix,ta,_,_,_,rfl,rfl,SqT.of (s0 _ _ g1),rfl,cl,rfl,⟨_,SqL.of (s0 _ _ g2)⟩,bg (xs:=vN t.cols) (λi σ H'=>aq H H'/\∃ (re:Addr) (rs:List Nat) (c7:Option V),H' re=some (.lst (vN rs))/\rs.length<=7 * i/\(∀ f,f ∈ rs↔∃ j ∈ t.cols.take i,FN ts fN j f)/\σ=[some (.ref r),some (.int (k:Int)),some (.ref nl),some (.ref dl),some (.ref tl_),some (.int ((((zs.map V.str).length:Nat):Int) - ((tv.length:Nat):Int))),some (.ref re),c7]) ⟨s0,l0,[],_,e0,Nat.zero_le _,(λf=>⟨(λh=>by cases h),λ⟨j,h,_⟩=>by cases h⟩),rfl⟩ (λi σ H' _ h=>SqL.of (h.1 _ _ g2)) (λi y σ H' e h=>?_) (λσ H' h=>?_)⟩
  ·obtain ⟨sm,re,rs,c7,ere,hrl,hrm,rfl⟩:=h
   obtain ⟨j,rfl,ej⟩:=ir e
   have hj:=hlt j (E5 ej)
   have hi:i < t.cols.length:=(E4.mp ej).1
   refine ⟨_,rfl,_,rfl,_,rfl,r,j,zs,ds,ts,fN,rfl,hPl.same sm,ok,by omega,by omega,λl js H2 s2 nl2 el pw mem=>?_⟩
   have hjl:js.length<=fN:=pJ pw λf hf=>((mem f).mp hf).lt
   refine ⟨re,l,_,_,rfl,rfl,s2 _ _ ere,el,Nat.le_of_lt (ay (by rw [bG,bG];omega)),λp hp=>⟨(sm.trans s2).trans (ah hp _),p,rs ++ js,_,by rw [ae,kr],by rw [List.length_append];omega,λf=>?_,rfl⟩⟩
   rw [take_snoc ej,List.mem_append,hrm f,mem f]
   constructor
   ·rintro (⟨j',hj',h⟩ | h)
    ·exact ⟨j',List.mem_append_left _ hj',h⟩
    ·exact ⟨j,List.mem_append_right _ (List.mem_singleton.mpr rfl),h⟩
   ·rintro ⟨j',hj',h⟩
    rcases List.mem_append.mp hj' with hj' | hj'
    ·exact .inl ⟨j',hj',h⟩
    ·rw [List.mem_singleton.mp hj'] at h;exact .inr h
  ·obtain ⟨sm,re,rs,c7,ere,hrl,hrm,rfl⟩:=h
   rw [bG,List.take_length] at hrm
   rw [bG] at hrl
   rw [sR] at ere
   have hFN:∀ f,f ∈ rs↔FN ts fN k f:=λf=>(hrm f).trans (wJ g et).symm
   refine ⟨_,rfl,re,rs.map λb:Nat=>(b:Int),rfl,SqL.of ere,(by rw [List.length_map];omega),λl hl'=>?_⟩
   have s3:=ah hl' (mz w l (rs.map λb:Nat=>(b:Int)))
   refine ⟨l,rs.map λb:Nat=>(b:Int),(List.range 7).map λb:Nat=>(b:Int),rfl,ae,by simp,(λx hx=>?_),λD2 cs hD2 pw mem=>?_⟩
   ·obtain ⟨b,hb,rfl⟩:=List.mem_map.mp hx
    exact List.mem_map.mpr ⟨b,List.mem_range.mpr (by have:=((hFN b).mp hb).lt;omega),rfl⟩
   ·obtain ⟨js,ejs,hpj,hmj⟩:=qr (cs:=cs) (λc hc=>by obtain ⟨b,_,rfl⟩:=List.mem_map.mp ((mem c).mp hc);exact Int.natCast_nonneg b) pw
    rw [ejs]
    refine q D2 js _ ((sm.trans s3).trans (ah hD2 _)) (sm.free (s3.free hD2)) ae hpj λf=>?_
    rw [hmj f,mem,← hFN f,List.mem_map]
    exact ⟨λ⟨b,hb,e⟩=>by rw [← Int.ofNat.inj e];exact hb,λh=>⟨f,h,rfl⟩⟩
theorem B8 {k n:Nat} (F:Fun K "_law_reached" "_law_reached" Y42 f fd) (bl:Bl K mg yA yE yN yO yP yQ yR yS yT yU yV yW yX af) (dk:Callee P w K mg base k "_law_reached" ["plan", "k"] (J42 K yA yE yN yO yP yQ yR yS yT yU yV yW yX af n)):aQ P w K mg base CX0 (k+1) f fd ["plan", "k"] (J42 K yA yE yN yO yP yQ yR yS yT yU yV yW yX af (n+1)):=by
 refine F.ok Z42 (λvs H Q E h=>?_) (λcdv A outer s H vs Q E hr h=>?_)
 ·obtain ⟨r,k,zs,ds,ts,fN,rfl,hPl,ok,hk,g,hn,q⟩:=h
  rfl
 obtain ⟨r,k,zs,ds,ts,fN,rfl,hPl,ok,hk,g,hn,q⟩:=h
 refine ⟨_,(az (fg (pv 0) (cA rfl (aH (aE (i:=2) Z42.nd rfl (Or.inl rfl)) (aH (aE (i:=3) Z42.nd rfl (Or.inl rfl)) (aH (aE (i:=4) Z42.nd rfl (Or.inl rfl)) bA)))))
  (az (aI (i:=5) Z42.nd rfl (Or.inl rfl) (aG bQ (aC aw rfl bl.len_ PySem.boot_len (aa (pv 2) ag)) (aC aw rfl bl.len_ PySem.boot_len (aa (pv 4) ag))))
  (az (aI (i:=6) Z42.nd rfl (Or.inl rfl) (bz (aa (pv 1) ag)))
  (az (bp PassesOwn.never rfl (aK (aJ bD (aJ aO (pv 4) (aG bQ (pv 1) (pv 5)) (λ_ _=>rfl)) aj (λ_ _=>rfl))) (aE (i:=7) Z42.nd rfl (Or.inl rfl))
  (ai (ba (aL ye (pv 7) (pv 5) (aS _))
  (ai (aI (i:=6) Z42.nd rfl (Or.inl rfl) (aG iU (pv 6) (aU dk hr rfl (aa (pv 0) (aa (pv 7) ag))))))
  aM)))
  (ai (aP (pv 6))))))),?_⟩
 obtain ⟨nl,dl,tl_,dv,tv,er,enl,edl,hdv,etl,htv⟩:=id hPl
 have hzl:(zs.map V.str).length=zs.length:=List.length_map _
 have hl1:=ok.len
 have hl2:=ok.tab
 have h7:=ok.n7
 have htl:tv.length=ts.length:=htv.1
 have eN:(((zs.map V.str).length:Nat):Int) - ((tv.length:Nat):Int)=(fN:Int):=by omega
 refine ⟨_,rfl,r,_,rfl,SqT.of er,rfl,_,_,rfl,_,_,rfl,_,_,rfl,rfl,_,rfl,nl,_,rfl,.inl (SqL.of enl),_,rfl,tl_,_,rfl,.inl (SqL.of etl),_,_,rfl,rfl,?_⟩
 have et:=E3 (l:=ts) (i:=k - fN) (by omega)
 generalize ts[k - fN]=t at et
 obtain ⟨ta,eta,cl,rl,rx,g1,g2,g3,g4⟩:=htv.2 (k - fN) t et
 have tok:=ok.tabs (k - fN) t et
 have hc3:t.cols.length<=3:=tok.ok.few
 have hlt:∀ c ∈ t.cols,c < fN+(k - fN):=tok.ok.lt
 have ix:atI tv ((k:Int) - ((((zs.map V.str).length:Nat):Int) - ((tv.length:Nat):Int)))=some (.ref ta):=by
  rw [eN,show (k:Int) - (fN:Int)=((k - fN:Nat):Int) by omega]
  exact aN eta
 refine ⟨_,rfl,(by show 1<=sizeLine;decide),λl0 hl0=>?_⟩
 have s0:=ah hl0 (.lst [.int (k:Int)])
 have e0:upd H l0 (.lst [.int (k:Int)]) l0=some (.lst (vN [k])):=ae
 generalize upd H l0 (.lst [.int (k:Int)])=H0 at s0 e0 ⊢
 have p1:1<=4 ^ (k - fN):=Nat.one_le_pow _ _ (by decide)
 have p6:4 ^ (k - fN)<=4 ^ 6:=Nat.pow_le_pow_right (by decide) (by omega)
 refine ⟨_,rfl,_,rfl,_,rfl,_,_,rfl,rfl,tl_,_,_,_,rfl,rfl,SqL.of (s0 _ _ etl),ix,ta,_,_,_,rfl,rfl,SqT.of (s0 _ _ g1),rfl,cl,rfl,⟨_,SqL.of (s0 _ _ g2)⟩,bg (xs:=vN t.cols) (λi σ H'=>aq H H'/\∃ (re:Addr) (rs:List Nat) (c7:Option V),H re=none/\H' re=some (.lst (vN rs))/\rs.length<=1+4 ^ (k - fN) * i/\(∀ x,x ∈ rs↔x=k\/∃ j ∈ t.cols.take i,fN<=j/\RcM ts fN j x)/\σ=[some (.ref r),some (.int (k:Int)),some (.ref nl),some (.ref dl),some (.ref tl_),some (.int ((((zs.map V.str).length:Nat):Int) - ((tv.length:Nat):Int))),some (.ref re),c7]) ⟨s0,l0,[k],_,hl0,e0,Nat.le_add_right _ _,(λx=>by rw [List.mem_singleton];exact ⟨.inl,λh=>by rcases h with h | ⟨j,h,_⟩;exact h;cases h⟩),rfl⟩ (λi σ H' _ h=>SqL.of (h.1 _ _ g2)) (λi y σ H' e h=>?_) (λσ H' h=>?_)⟩
 ·obtain ⟨sm,re,rs,c7,nre,ere,hrl,hrm,rfl⟩:=h
  obtain ⟨j,rfl,ej⟩:=ir e
  have hj:=hlt j (E5 ej)
  have hi:i < t.cols.length:=(E4.mp ej).1
  have hm1:4 ^ (k - fN) * i<=4 ^ (k - fN) * 3:=Nat.mul_le_mul_left _ (by omega)
  have hms:4 ^ (k - fN) * (i+1)=4 ^ (k - fN) * i+4 ^ (k - fN):=Nat.mul_succ _ _
  refine ⟨_,rfl,_,rfl,_,_,rfl,rfl,_,rfl,cP (λg'=>?_) (λg'=>?_)⟩
  ·have g' : fN<=j:=by have:=of_decide_eq_true g';rw [eN] at this;omega
   refine ⟨_,rfl,_,rfl,_,rfl,r,j,zs,ds,ts,fN,rfl,hPl.same sm,ok,by omega,g',by omega,λl js H2 s2 nl2 el hjl mem=>?_⟩
   have hjp:4 ^ (j - fN+1)<=4 ^ (k - fN):=Nat.pow_le_pow_right (by decide) (by omega)
   refine ⟨re,l,_,_,rfl,rfl,s2 _ _ ere,el,Nat.le_of_lt (sO (by rw [bG,bG];omega)),λp hp=>⟨(sm.trans s2).trans (ah hp _),p,rs ++ js,_,sm.free (s2.free hp),by rw [ae,kr],by rw [List.length_append];omega,λx=>?_,rfl⟩⟩
   rw [take_snoc ej,List.mem_append,hrm x,mem x]
   constructor
   ·rintro ((h | ⟨j',hj',h⟩) | h)
    ·exact .inl h
    ·exact .inr ⟨j',List.mem_append_left _ hj',h⟩
    ·exact .inr ⟨j,List.mem_append_right _ (List.mem_singleton.mpr rfl),g',h⟩
   ·rintro (h | ⟨j',hj',h⟩)
    ·exact .inl (.inl h)
    ·rcases List.mem_append.mp hj' with hj' | hj'
     ·exact .inl (.inr ⟨j',hj',h⟩)
     ·rw [List.mem_singleton.mp hj'] at h;exact .inr h.2
  ·have g' : ¬ fN<=j:=λz=>g' (decide_eq_true (by rw [eN];omega))
   refine ⟨sm,re,rs,_,nre,ere,by omega,λx=>?_,rfl⟩
   rw [take_snoc ej,hrm x]
   constructor
   ·rintro (h | ⟨j',hj',h⟩)
    ·exact .inl h
    ·exact .inr ⟨j',List.mem_append_left _ hj',h⟩
   ·rintro (h | ⟨j',hj',h⟩)
    ·exact .inl h
    ·rcases List.mem_append.mp hj' with hj' | hj'
     ·exact .inr ⟨j',hj',h⟩
     ·rw [List.mem_singleton.mp hj'] at h;exact absurd h.1 g'
 ·obtain ⟨sm,re,rs,c7,nre,ere,hrl,hrm,rfl⟩:=h
  rw [bG,List.take_length] at hrm
  rw [bG] at hrl
  refine ⟨_,rfl,q re rs H' sm nre ere ?_ λx=>?_⟩
  ·have hm3:4 ^ (k - fN) * t.cols.length<=4 ^ (k - fN) * 3:=Nat.mul_le_mul_left _ hc3
   rw [Nat.pow_succ]
   omega
  ·rw [hrm x]
   unfold RcM
   constructor
   ·rintro (rfl | ⟨j,hj,h1,h2,h3⟩)
    ·exact ⟨g,.self _⟩
    ·exact ⟨h2,.step ((mL et).mpr (by rw [show fN+(j - fN)=j by omega];exact hj)) h3⟩
   ·rintro ⟨h1,h2⟩
    rcases uN.mp h2 with h | ⟨j,hj,h3⟩
    ·left;omega
    ·exact .inr ⟨fN+j,(mL et).mp hj,by omega,h1,by rw [show fN+j - fN=j by omega];exact h3⟩
theorem B9 (F:Fun K "_law_marks" "_law_marks" Y37 f fd) (bl:Bl K mg yA yE yN yO yP yQ yR yS yT yU yV yW yX af) (dk:Callee P w K mg base 8 "_law_reached" ["plan", "k"] (J42 K yA yE yN yO yP yQ yR yS yT yU yV yW yX af 8)):aQ P w K mg base CX0 9 f fd ["plan", "k", "fact"] (J37 K):=by
 refine F.ok Z37 (λvs H Q E h=>?_) (λcdv A outer s H vs Q E hr h=>?_)
 ·obtain ⟨r,k,f_,zs,ds,ts,fN,p,rfl,hPl,ok,hk,hfk,ep,hp3,h32,ht4,q⟩:=h
  rfl
 obtain ⟨r,k,f_,zs,ds,ts,fN,p,rfl,hPl,ok,hk,hfk,ep,hp3,h32,ht4,q⟩:=h
 refine ⟨_,(aD (fg (pv 0) (cA rfl (aH (aE (i:=3) Z37.nd rfl (Or.inl rfl)) (aH (aE (i:=4) Z37.nd rfl (Or.inl rfl)) (aH (aE (i:=5) Z37.nd rfl (Or.inl rfl)) bA)))))
  (aD (aI (i:=6) Z37.nd rfl (Or.inl rfl) (aG bQ (aC aw rfl bl.len_ PySem.boot_len (aa (pv 3) ag)) (aC aw rfl bl.len_ PySem.boot_len (aa (pv 5) ag))))
  (aD (aI (i:=7) Z37.nd rfl (Or.inr rfl) (aJ bD (aJ aO (pv 4) (pv 2) (λ_ _=>rfl)) aj (λ_ _=>rfl)))
  (aD (aI (i:=8) Z37.nd rfl (Or.inr rfl) (aJ bD (aJ aO (pv 4) (pv 2) (λ_ _=>rfl)) aj (λ_ _=>rfl)))
  (aD (aI (i:=9) Z37.nd rfl (Or.inl rfl) (bz ag))
  (aD (bp PassesOwn.never rfl (aK (aC (b9 (w:=w) rfl rfl) rfl bl.sorted_ PyProof.Rows.boot_sorted (aa (bw (fK (w:=w) rfl rfl) rfl bl.set_ PyProof.Rows.boot_set (aa (aU dk hr rfl (aa (pv 0) (aa (pv 1) ag))) ag)) ag))) (aE (i:=10) Z37.nd rfl (Or.inl rfl))
  (aD (fg (aJ aO (pv 5) (aG bQ (pv 10) (pv 6)) (λ_ _=>rfl)) (cA rfl (aH (aE (i:=11) Z37.nd rfl (Or.inl rfl)) (aH (aE (i:=12) Z37.nd rfl (Or.inl rfl)) (aH (aE (i:=13) Z37.nd rfl (Or.inl rfl)) bA)))))
  (ai (bp PassesOwn.never rfl (bC rfl bl.range_ (aa (aC aw rfl bl.len_ PySem.boot_len (aa (pv 11) ag)) ag)) (aE (i:=14) Z37.nd rfl (Or.inl rfl))
  (ai (ba (aL cO (aJ aO (pv 11) (pv 14) (λ_ _=>rfl)) (pv 2) (aS _))
  (ai (bp PassesOwn.never rfl (aK (pv 13)) (aE (i:=15) Z37.nd rfl (Or.inl rfl))
  (aD (aT (cS PySem.F.plainAttrs_list PySem.F.slot_list_extend PySem.F.type_list_extend fH (pv 9) (aa (aZ (aK (aJ aO (aJ bD (pv 15) aj (λ_ _=>rfl)) (pv 14) (λ_ _=>rfl))) (aR (N:=["pair", "low"]) (fr:=[7]) (cl:=[("low",s.heap.objs.size+1)]) rfl rfl (by decide +kernel) (by decide +kernel) rfl (by decide +kernel) rfl rfl rfl (List.forall_mem_cons.mpr ⟨rfl,List.forall_mem_nil _⟩) rfl) rfl (λ_ _ _ _=>(cX (aL gh (pv 1) (aJ (cC (K:=K) rfl) (pv 0) aj (λ_ _=>rfl)) (aS _)))) (λ_ _ _ _=>(aJ (cC (K:=K) rfl) (pv 0) aj (λ_ _=>rfl)))) ag)))
  (ai (aT (cS PySem.F.plainAttrs_list PySem.F.slot_list_extend PySem.F.type_list_extend fH (pv 9) (aa (aZ (aK (aJ aO (aJ bD (pv 15) aj (λ_ _=>rfl)) (pv 14) (λ_ _=>rfl))) (aR (N:=["pair", "high"]) (fr:=[8]) (cl:=[("high",s.heap.objs.size+1+1)]) rfl rfl (by decide +kernel) (by decide +kernel) rfl (by decide +kernel) rfl rfl rfl (List.forall_mem_cons.mpr ⟨rfl,List.forall_mem_nil _⟩) rfl) rfl (λ_ _ _ _=>(cX (aL gh (aJ (cC (K:=K) rfl) (pv 0) aj (λ_ _=>rfl)) (pv 1) (aS _)))) (λ_ _ _ _=>(aG bB (aJ (cC (K:=K) rfl) (pv 0) aj (λ_ _=>rfl)) aj))) ag)))))))
  aM))))))
  (ai (aP (aC (b9 (w:=w) rfl rfl) rfl bl.sorted_ PyProof.Rows.boot_sorted (aa (bw (fK (w:=w) rfl rfl) rfl bl.set_ PyProof.Rows.boot_set (aa (pv 9) ag)) ag)))))))))),?_⟩
 obtain ⟨nl,dl,tl_,dv,tv,er,enl,edl,hdv,etl,htv⟩:=id hPl
 have hzl:(zs.map V.str).length=zs.length:=List.length_map _
 have hl1:=ok.len
 have hl2:=ok.tab
 have h7:=ok.n7
 have htl:tv.length=ts.length:=htv.1
 have hak:=gD ok
 obtain ⟨da,eda,wl,_,_,e1,e2⟩:=hdv.2 f_ p ep
 refine ⟨λσ' H'=>H'=H/\σ'=[some (.ref r),some (.int (k:Int)),some (.int (f_:Int)),some (.ref nl),some (.ref dl),some (.ref tl_),none,none,none,none,none,none,none,none,none,none],⟨_,rfl,r,_,rfl,SqT.of er,rfl,_,_,rfl,_,_,rfl,_,_,rfl,rfl,rfl,rfl⟩,?_⟩
 rintro σ1 H1 ⟨rfl,rfl⟩
 refine ⟨λσ' H'=>H'=H1/\σ'=[some (.ref r),some (.int (k:Int)),some (.int (f_:Int)),some (.ref nl),some (.ref dl),some (.ref tl_),some (.int (fN:Int)),none,none,none,none,none,none,none,none,none],⟨_,rfl,nl,_,rfl,.inl (SqL.of enl),_,rfl,tl_,_,rfl,.inl (SqL.of etl),_,_,rfl,rfl,rfl,?_⟩,?_⟩
 ·rw [show (fN:Int)=(((zs.map V.str).length:Nat):Int) - ((tv.length:Nat):Int) by omega]
  rfl
 rintro σ2 H2 ⟨e2',rfl⟩
 subst e2'
 refine ⟨λσ' H'=>H'=H2/\σ'=[some (.ref r),some (.int (k:Int)),some (.int (f_:Int)),some (.ref nl),some (.ref dl),some (.ref tl_),some (.int (fN:Int)),some (.int p.lo),none,none,none,none,none,none,none,none],⟨_,rfl,_,rfl,dl,_,_,_,rfl,rfl,SqL.of edl,aN eda,da,_,_,_,rfl,rfl,SqT.of e1,rfl,rfl,rfl⟩,?_⟩
 rintro σ3 H3 ⟨e3',rfl⟩
 subst e3'
 refine ⟨λσ' H'=>H'=H3/\σ'=[some (.ref r),some (.int (k:Int)),some (.int (f_:Int)),some (.ref nl),some (.ref dl),some (.ref tl_),some (.int (fN:Int)),some (.int p.lo),some (.int p.hi),none,none,none,none,none,none,none],⟨_,rfl,_,rfl,dl,_,_,_,rfl,rfl,SqL.of edl,aN eda,da,_,_,_,rfl,rfl,SqT.of e1,rfl,rfl,rfl⟩,?_⟩
 rintro σ4 H4 ⟨e4',rfl⟩
 subst e4'
 refine ⟨λσ' H'=>aq H4 H'/\∃ ma:Addr,H4 ma=none/\H' ma=some (.lst [])/\σ'=[some (.ref r),some (.int (k:Int)),some (.int (f_:Int)),some (.ref nl),some (.ref dl),some (.ref tl_),some (.int (fN:Int)),some (.int p.lo),some (.int p.hi),some (.ref ma),none,none,none,none,none,none],⟨(by show 0<=sizeLine;decide),λl hl=>⟨ah hl _,l,hl,ae,rfl⟩⟩,?_⟩
 rintro σ5 H5 ⟨s5,ma,nma,ema,rfl⟩
 refine ⟨λσ' H'=>aq H4 H'/\∃ ms:List Int,H' ma=some (.lst (ms.map V.int))/\ms.length<=900/\(∀ x,x ∈ ms↔∃ x',Rch (akT ts fN) (k - fN) x'/\MkK ts x' f_ p x)/\∃ c10 c11 c12 c13 c14 c15:Option V,σ'=[some (.ref r),some (.int (k:Int)),some (.int (f_:Int)),some (.ref nl),some (.ref dl),some (.ref tl_),some (.int (fN:Int)),some (.int p.lo),some (.int p.hi),some (.ref ma),c10,c11,c12,c13,c14,c15],?_,?_⟩
 ·refine ⟨_,rfl,_,rfl,r,k,zs,ds,ts,fN,rfl,hPl.same s5,ok,hk,hfk,by omega,λl0 rs H6 s6 nl0 el0 hrl hrm=>?_⟩
  rw [sR] at el0
  have wR:∀ x ∈ rs,x < zs.length:=λx hx=>by
   obtain ⟨h1,h2⟩:=(hrm x).mp hx
   have:=h2.le hak
   omega
  refine ⟨l0,rs.map λb:Nat=>(b:Int),rfl,SqL.of el0,?_,λl1 hl1=>?_⟩
  ·rw [List.length_map]
   exact Nat.le_trans hrl (Nat.le_trans (Nat.pow_le_pow_right (by decide) (show k - fN+1<=4 by omega)) (by decide))
  have s7:=ah hl1 (mz w l1 (rs.map λb:Nat=>(b:Int)))
  refine ⟨l1,rs.map λb:Nat=>(b:Int),(List.range 7).map λb:Nat=>(b:Int),rfl,ae,by simp,(λx hx=>?_),λD2 cs hD2 pw mem=>?_⟩
  ·obtain ⟨b,hb,rfl⟩:=List.mem_map.mp hx
   exact List.mem_map.mpr ⟨b,List.mem_range.mpr (by have:=wR b hb;omega),rfl⟩
  obtain ⟨os,eos,hpo,hmo⟩:=qr (cs:=cs) (λc hc=>by obtain ⟨b,_,rfl⟩:=List.mem_map.mp ((mem c).mp hc);exact Int.natCast_nonneg b) pw
  have hos:∀ x,x ∈ os↔RcM ts fN k x:=λx=>by
   rw [hmo x,mem,← hrm x,List.mem_map]
   exact ⟨λ⟨b,hb,e⟩=>by rw [← Int.ofNat.inj e];exact hb,λh=>⟨x,h,rfl⟩⟩
  have hol:os.length<=7:=Nat.le_trans (pJ (m:=zs.length) hpo λx hx=>wR x ((hrm x).mpr ((hos x).mp hx))) (by omega)
  rw [eos]
  have s8:=((s5.trans s6).trans s7).trans (ah hD2 (.lst (vN os)))
  have e8:upd (upd H6 l1 (mz w l1 (rs.map λb:Nat=>(b:Int)))) D2 (.lst (vN os)) D2=some (.lst (vN os)):=ae
  have zt:=((s6.trans s7).trans (ah hD2 (.lst (vN os)))) _ _ ema
  generalize upd (upd H6 l1 (mz w l1 (rs.map λb:Nat=>(b:Int)))) D2 (.lst (vN os))=H8 at s8 e8 zt ⊢
  have nDm:D2 ≠ ma:=λz=>by rw [z] at hD2;have:=(s6.trans s7) _ _ ema;rw [hD2] at this;cases this
  refine ⟨D2,rfl,⟨_,SqL.of e8⟩,bg (xs:=vN os) (λi σ H'=>aq H4 H'/\H' D2=some (.lst (vN os))/\∃ ms:List Int,H' ma=some (.lst (ms.map V.int))/\ms.length<=128 * i/\(∀ x,x ∈ ms↔∃ o ∈ os.take i,MkK ts (o - fN) f_ p x)/\∃ c10 c11 c12 c13 c14 c15:Option V,σ=[some (.ref r),some (.int (k:Int)),some (.int (f_:Int)),some (.ref nl),some (.ref dl),some (.ref tl_),some (.int (fN:Int)),some (.int p.lo),some (.int p.hi),some (.ref ma),c10,c11,c12,c13,c14,c15]) ⟨s8,e8,[],zt,Nat.zero_le _,(λx=>⟨(λh=>by cases h),λ⟨o,h,_⟩=>by cases h⟩),_,_,_,_,_,_,rfl⟩ (λi σ H' _ h=>SqL.of h.2.1) (λi y σ H' e h=>?_) (λσ H' h=>?_)⟩
  ·obtain ⟨sm,eD,ms,ems,hml,hmm,c10,c11,c12,c13,c14,c15,rfl⟩:=h
   obtain ⟨ow,rfl,eo⟩:=ir e
   have hi:i < os.length:=(E4.mp eo).1
   obtain ⟨how,EU⟩:=(hos ow).mp (E5 eo)
   have EV:=wR ow ((hrm ow).mpr ((hos ow).mp (E5 eo)))
   have et:=E3 (l:=ts) (i:=ow - fN) (by omega)
   generalize ts[ow - fN]=t at et
   obtain ⟨ta,eta,cl,rl,rx,g1,g2,g3,g4⟩:=htv.2 (ow - fN) t et
   have tok:=ok.tabs (ow - fN) t et
   have hc3:t.cols.length<=3:=tok.ok.few
   have ndc:t.cols.Nodup:=tok.ok.nd
   have EW:(vN t.cols).length=t.cols.length:=bG _
   have EY:=h32 t (E5 et)
   have Ca:rx.length=t.rows.length:=g4.1
   have ix:atI tv ((ow:Int) - (fN:Int))=some (.ref ta):=by
    rw [show (ow:Int) - (fN:Int)=((ow - fN:Nat):Int) by omega]
    exact aN eta
   refine ⟨λσ' H''=>H''=H'/\σ'=[some (.ref r),some (.int (k:Int)),some (.int (f_:Int)),some (.ref nl),some (.ref dl),some (.ref tl_),some (.int (fN:Int)),some (.int p.lo),some (.int p.hi),some (.ref ma),some (.int (ow:Int)),some (.ref cl),some (.str t.way),some (.ref rl),c14,c15],⟨_,rfl,_,rfl,_,rfl,_,_,rfl,rfl,tl_,_,_,_,rfl,rfl,SqL.of (sm _ _ etl),ix,ta,_,rfl,SqT.of (sm _ _ g1),rfl,_,_,rfl,_,_,rfl,_,_,rfl,rfl,rfl,rfl⟩,?_⟩
   rintro σa Ha ⟨ea_,rfl⟩
   subst ea_
   refine ⟨_,rfl,cl,_,rfl,.inl (SqL.of (sm _ _ g2)),_,rfl,(by omega),(by omega),dN (λjj σ H'=>aq H4 H'/\H' D2=some (.lst (vN os))/\∃ ms2:List Int,H' ma=some (.lst (ms2.map V.int))/\ms2.length<=ms.length+128/\(f_ ∉ t.cols.take jj->ms2.length=ms.length)/\(∀ x,x ∈ ms2↔x ∈ ms\/∃ c,c < jj/\t.cols[c]?=some f_/\MkT t c p x)/\∃ c14 c15:Option V,σ=[some (.ref r),some (.int (k:Int)),some (.int (f_:Int)),some (.ref nl),some (.ref dl),some (.ref tl_),some (.int (fN:Int)),some (.int p.lo),some (.int p.hi),some (.ref ma),some (.int (ow:Int)),some (.ref cl),some (.str t.way),some (.ref rl),c14,c15]) ⟨sm,eD,ms,ems,by omega,(λ_=>rfl),(λx=>⟨.inl,λh=>by rcases h with h | ⟨c,h,_⟩;exact h;omega⟩),_,_,rfl⟩ (λjj σ H' hjj h=>?_) (λσ H' h=>?_)⟩
   ·obtain ⟨sn,eDn,ms2,uS,hm2,wU,sZ,c14,c15,rfl⟩:=h
    rw [Int.toNat_natCast,bG] at hjj
    rw [show (0:Int)+(jj:Int)=(jj:Int) by omega]
    have ecj:=E3 hjj
    generalize t.cols[jj]=cj at ecj
    refine ⟨_,rfl,_,rfl,cl,_,_,_,rfl,rfl,SqL.of (sn _ _ g2),aN (vk ecj),_,rfl,rfl,_,rfl,?_⟩
    by_cases hcf:cj=f_
    ·have Cb:=hcf.symm
     subst Cb
     clear hcf
     have Cc:=sS ndc ecj (Nat.le_refl jj)
     have hme:=wU Cc
     refine gn rfl ⟨_,rfl,rl,rfl,⟨_,SqL.of (sn _ _ g3)⟩,bg (xs:=rx) (λii σ H'=>aq H4 H'/\H' D2=some (.lst (vN os))/\∃ ms3:List Int,H' ma=some (.lst (ms3.map V.int))/\ms3.length<=ms.length+4 * ii/\(∀ x,x ∈ ms3↔x ∈ ms2\/∃ w ∈ t.rows.take ii,∃ ps:Prs,w.1[jj]?=some ps/\∃ y ∈ ps,(x=y.1\/x=y.2+1)/\p.lo < x/\x<=p.hi)/\∃ c15:Option V,σ=[some (.ref r),some (.int (k:Int)),some (.int (f_:Int)),some (.ref nl),some (.ref dl),some (.ref tl_),some (.int (fN:Int)),some (.int p.lo),some (.int p.hi),some (.ref ma),some (.int (ow:Int)),some (.ref cl),some (.str t.way),some (.ref rl),some (.int (jj:Int)),c15]) ⟨sn,eDn,ms2,uS,by omega,(λx=>⟨.inl,λh=>by rcases h with h | ⟨w,h,_⟩;exact h;cases h⟩),_,rfl⟩ (λii σ H' _ h=>SqL.of (h.1 _ _ g3)) (λii y σ H' e h=>?_) (λσ H' h=>?_)⟩
     ·obtain ⟨so,eDo,ms3,uT,hm3,uU,c15,rfl⟩:=h
      obtain ⟨ro,w_,rfl,ew,ce,cv,q1,_,q2,q3⟩:=ao.get (g4.same so) e
      have hii:ii < t.rows.length:=(E4.mp ew).1
      have fit:=tok.rows w_ (E5 ew)
      have hcw:jj < w_.1.length:=by rw [fit.len];exact hjj
      have eps:=E3 hcw
      generalize w_.1[jj]=ps at eps
      obtain ⟨lc,elc,_,yv,eyv,hyv⟩:=q3.2 jj ps eps
      have BE:=fit.few ps (E5 eps)
      have hpb:=fit.inn jj f_ ps p eps ecj ep
      have hyl:=hyv.length
      refine ⟨λσ' H''=>aq H4 H''/\H'' D2=some (.lst (vN os))/\H'' ma=some (.lst ((ms3 ++ ((ps.filter λy=>decide (p.lo < y.1)).map λy=>y.1)).map V.int))/\σ'=[some (.ref r),some (.int (k:Int)),some (.int (f_:Int)),some (.ref nl),some (.ref dl),some (.ref tl_),some (.int (fN:Int)),some (.int p.lo),some (.int p.hi),some (.ref ma),some (.int (ow:Int)),some (.ref cl),some (.str t.way),some (.ref rl),some (.int (jj:Int)),some (.ref ro)],?_,?_⟩
      ·refine ⟨_,rfl,.inl ⟨rfl,_,SqL.of uT⟩,_,rfl,ro,_,_,_,rfl,rfl,SqT.of q1,rfl,_,rfl,ce,_,_,_,rfl,rfl,SqL.of q2,aN elc,lc,rfl,⟨_,SqL.of eyv⟩,aX (xs:=yv) (λD k ys H''=>aq H' H''/\H'' D=some (.lst ys)/\ys=(((ps.take k).filter λy=>decide (p.lo < y.1)).map λy=>y.1).map V.int) (λD hD=>⟨ah hD _,ae,rfl⟩) (λD k ys H'' hD _ h=>SqL.of (h.1 _ _ eyv)) (λD k yy ys H'' hD e h=>?_) (λD ys H'' hD h=>?_)⟩
       ·obtain ⟨sq,eD',rfl⟩:=h
        obtain ⟨pr,rp,epr,rfl,erp⟩:=(hyv.mono sq.tups).get e
        have hk' : k < yv.length:=(E4.mp e).1
        have hfl:=List.length_filter_le (λy:Int × Int=>decide (p.lo < y.1)) (ps.take k)
        rw [List.length_take] at hfl
        refine ⟨_,rfl,_,rfl,rp,_,_,_,rfl,rfl,SqT.of erp,rfl,_,_,rfl,rfl,_,rfl,?_⟩
        by_cases hlo:p.lo < pr.1
        ·refine gn hlo ⟨_,rfl,rp,_,_,_,rfl,rfl,SqT.of erp,rfl,bK.mk hk' eD' (ay (by rw [List.length_map,List.length_map];omega)) ⟨sq.upd hD,ae,?_⟩⟩
         rw [take_snoc epr,List.filter_append,List.filter_cons_of_pos (p:=λy:Int × Int=>decide (p.lo < y.1)) (decide_eq_true hlo),List.filter_nil,List.map_append,List.map_append]
         rfl
        ·refine dh hlo (cU.mk (zs:=_) hk' ⟨sq,eD',?_⟩)
         rw [take_snoc epr,List.filter_append,List.filter_cons_of_neg (p:=λy:Int × Int=>decide (p.lo < y.1)) (by simpa using hlo),List.filter_nil,List.append_nil]
       ·obtain ⟨sq,eD',rfl⟩:=h
        rw [hyl,List.take_length] at eD'
        have hfl:=List.length_filter_le (λy:Int × Int=>decide (p.lo < y.1)) ps
        have wV:=sq _ _ uT
        refine ⟨ma,D,_,_,rfl,rfl,wV,eD',Nat.le_of_lt (sO (by rw [List.length_map,List.length_map,List.length_map];omega)),(so.trans sq).upd nma,(au nDm).trans (sq _ _ eDo),?_,rfl⟩
        rw [ae,List.map_append]
      rintro σb Hb ⟨sb,eDb,emb,rfl⟩
      obtain ⟨q1b,q2b,zu,Cd⟩:Hb ro=some (.tup [.ref ce,.int w_.2])/\Hb ce=some (.lst cv)/\Hb lc=some (.lst yv)/\PL Hb yv ps:=by
       obtain ⟨ro',w',er',ew',ce',cv',r1,_,r2,r3⟩:=ao.get (g4.same sb) e
       cases er'
       rw [ew] at ew'
       cases ew'
       obtain ⟨ro2,w2,er2,ew2,ce2,cv2,t1,_,t2,t3⟩:=ao.get g4 e
       cases er2
       rw [ew] at ew2
       cases ew2
       have a1:=so _ _ t1
       rw [q1] at a1
       cases a1
       have a2:=so _ _ t2
       rw [q2] at a2
       cases a2
       obtain ⟨lc2,zv,_,yv2,b2,b3⟩:=t3.2 jj ps eps
       rw [elc] at zv
       cases zv
       have a3:=so _ _ b2
       rw [eyv] at a3
       cases a3
       exact ⟨sb _ _ t1,sb _ _ t2,sb _ _ b2,b3.mono sb.tups⟩
      refine ⟨_,rfl,.inl ⟨rfl,_,SqL.of emb⟩,_,rfl,ro,_,_,_,rfl,rfl,SqT.of q1b,rfl,_,rfl,ce,_,_,_,rfl,rfl,SqL.of q2b,aN elc,lc,rfl,⟨_,SqL.of zu⟩,aX (xs:=yv) (λD k ys H''=>aq Hb H''/\H'' D=some (.lst ys)/\ys=(((ps.take k).filter λy=>decide (y.2 < p.hi)).map λy=>y.2+1).map V.int) (λD hD=>⟨ah hD _,ae,rfl⟩) (λD k ys H'' hD _ h=>SqL.of (h.1 _ _ zu)) (λD k yy ys H'' hD e h=>?_) (λD ys H'' hD h=>?_)⟩
      ·obtain ⟨sq,eD',rfl⟩:=h
       obtain ⟨pr,rp,epr,rfl,erp⟩:=(Cd.mono sq.tups).get e
       have hk' : k < yv.length:=(E4.mp e).1
       have hfl:=List.length_filter_le (λy:Int × Int=>decide (y.2 < p.hi)) (ps.take k)
       rw [List.length_take] at hfl
       refine ⟨_,rfl,rp,_,_,_,rfl,rfl,SqT.of erp,rfl,_,rfl,_,_,rfl,rfl,_,rfl,?_⟩
       by_cases hlo:pr.2 < p.hi
       ·refine gn hlo ⟨_,rfl,rp,_,_,_,rfl,rfl,SqT.of erp,rfl,_,_,rfl,rfl,bK.mk hk' eD' (ay (by rw [List.length_map,List.length_map];omega)) ⟨sq.upd hD,ae,?_⟩⟩
        rw [take_snoc epr,List.filter_append,List.filter_cons_of_pos (p:=λy:Int × Int=>decide (y.2 < p.hi)) (decide_eq_true hlo),List.filter_nil,List.map_append,List.map_append]
        rfl
       ·refine dh hlo (cU.mk (zs:=_) hk' ⟨sq,eD',?_⟩)
        rw [take_snoc epr,List.filter_append,List.filter_cons_of_neg (p:=λy:Int × Int=>decide (y.2 < p.hi)) (by simpa using hlo),List.filter_nil,List.append_nil]
      ·obtain ⟨sq,eD',rfl⟩:=h
       rw [hyl,List.take_length] at eD'
       have hfl:=List.length_filter_le (λy:Int × Int=>decide (y.2 < p.hi)) ps
       have EZ:=List.length_filter_le (λy:Int × Int=>decide (p.lo < y.1)) ps
       have wV:=sq _ _ emb
       refine ⟨ma,D,_,_,rfl,rfl,wV,eD',Nat.le_of_lt (sO (by rw [List.length_map,List.length_map,List.length_append,List.length_map,List.length_map];omega)),(sb.trans sq).upd nma,(au nDm).trans (sq _ _ eDb),ms3 ++ oC p ps,?_,?_,λx=>?_,_,rfl⟩
       ·rw [ae]
        unfold oC
        rw [← List.map_append,List.append_assoc]
       ·unfold oC
        rw [List.length_append,List.length_append,List.length_map,List.length_map]
        omega
       ·rw [List.mem_append,uU x,rj hpb x,take_snoc ew]
        constructor
        ·rintro ((h | ⟨w',hw',h⟩) | h)
         ·exact .inl h
         ·exact .inr ⟨w',List.mem_append_left _ hw',h⟩
         ·exact .inr ⟨w_,List.mem_append_right _ (List.mem_singleton.mpr rfl),ps,eps,h⟩
        ·rintro (h | ⟨w',hw',ps',e',h⟩)
         ·exact .inl (.inl h)
         ·rcases List.mem_append.mp hw' with hw' | hw'
          ·exact .inl (.inr ⟨w',hw',ps',e',h⟩)
          ·rw [List.mem_singleton.mp hw',eps] at e'
           cases e'
           exact .inr h
     ·obtain ⟨so,eDo,ms3,uT,hm3,uU,c15,rfl⟩:=h
      rw [Ca,List.take_length] at uU
      refine ⟨so,eDo,ms3,uT,by omega,(λhn=>?_),λx=>?_,_,_,rfl⟩
      ·rw [take_snoc ecj] at hn
       exact absurd (List.mem_append_right _ (List.mem_singleton.mpr rfl)) hn
      ·rw [uU x,sZ x]
       constructor
       ·rintro ((h | ⟨c,h1,h2⟩) | h)
        ·exact .inl h
        ·exact .inr ⟨c,by omega,h2⟩
        ·exact .inr ⟨jj,by omega,ecj,h⟩
       ·rintro (h | ⟨c,h1,h2,h3⟩)
        ·exact .inl (.inl h)
        ·by_cases hcj:c < jj
         ·exact .inl (.inr ⟨c,hcj,h2,h3⟩)
         ·have:c=jj:=by omega
          subst this
          exact .inr h3
    ·refine dh (λz=>hcf (by injection z with z;exact Int.ofNat.inj z)) ⟨sn,eDn,ms2,uS,hm2,(λhn=>?_),λx=>?_,_,_,rfl⟩
     ·refine wU λhm=>hn ?_
      rw [take_snoc ecj]
      exact List.mem_append_left _ hm
     ·rw [sZ x]
      constructor
      ·rintro (h | ⟨c,h1,h2⟩)
       ·exact .inl h
       ·exact .inr ⟨c,by omega,h2⟩
      ·rintro (h | ⟨c,h1,h2,h3⟩)
       ·exact .inl h
       ·by_cases hcj:c < jj
        ·exact .inr ⟨c,hcj,h2,h3⟩
        ·have:c=jj:=by omega
         subst this
         rw [ecj] at h2
         cases h2
         exact absurd rfl hcf
   ·obtain ⟨sn,eDn,ms2,uS,hm2,wU,sZ,c14,c15,rfl⟩:=h
    rw [Int.toNat_natCast,bG] at sZ
    refine ⟨sn,eDn,ms2,uS,by omega,λx=>?_,_,_,_,_,_,_,rfl⟩
    rw [sZ x,hmm x,take_snoc eo]
    constructor
    ·rintro (⟨o,ho,h⟩ | ⟨c,_,h2,h3⟩)
     ·exact ⟨o,List.mem_append_left _ ho,h⟩
     ·exact ⟨ow,List.mem_append_right _ (List.mem_singleton.mpr rfl),t,c,et,h2,h3⟩
    ·rintro ⟨o,ho,h⟩
     rcases List.mem_append.mp ho with ho | ho
     ·exact .inl ⟨o,ho,h⟩
     ·rw [List.mem_singleton.mp ho] at h
      obtain ⟨t',c,b1,b2,b3⟩:=h
      rw [et] at b1
      cases b1
      exact .inr ⟨c,(E4.mp b2).1,b2,b3⟩
  ·obtain ⟨sm,eD,ms,ems,hml,hmm,c10,c11,c12,c13,c14,c15,rfl⟩:=h
   rw [bG] at hml
   rw [bG,List.take_length] at hmm
   refine ⟨sm,ms,ems,by omega,λx=>?_,_,_,_,_,_,_,rfl⟩
   rw [hmm x]
   constructor
   ·rintro ⟨o,ho,h⟩
    exact ⟨o - fN,((hos o).mp ho).2,h⟩
   ·rintro ⟨x',hx',h⟩
    exact ⟨fN+x',(hos _).mpr ⟨by omega,by rw [show fN+x' - fN=x' by omega];exact hx'⟩,by rw [show fN+x' - fN=x' by omega];exact h⟩
 rintro σ6 H6 ⟨s6,ms,ems,hml,hmm,c10,c11,c12,c13,c14,c15,rfl⟩
 refine ⟨_,rfl,ma,ms,rfl,SqL.of ems,(by omega),λl hl'=>?_⟩
 have s3:=ah hl' (mz w l ms)
 refine ⟨l,ms,Lp p,rfl,ae,by have:=kD hp3;omega,(λx hx=>by obtain ⟨x',_,t,c,b1,b2,h⟩:=(hmm x).mp hx;exact h.pool ok b1 b2 ep),λD2 cs hD2 pw mem=>?_⟩
 exact q D2 cs _ ((s6.trans s3).trans (ah hD2 _)) (s6.free (s3.free hD2)) ae pw λx=>(mem x).trans (hmm x)
theorem Ce {k n:Nat} (F:Fun K "put_behind" "put_behind" Y52 f fd) (bl:Bl K mg yA yE yN yO yP yQ yR yS yT yU yV yW yX af) (wW:CalleeX P w K mg base k "asks" ["book", "name"] (J22 K yE yV yW yX af)) (eH:CalleeX P w K mg base k "put_behind" ["book", "name", "order"] (J52 K yA yE yN yO yP yQ yR yS yT yU yV yW yX af n)):aQ P w K mg base (CX1 P w) (k+1) f fd ["book", "name", "order"] (J52 K yA yE yN yO yP yQ yR yS yT yU yV yW yX af (n+1)):=by
 refine F.okE Z52 (λvs H Q E h=>?_) (λcdv A outer s H vs Q E hr h=>?_)
 ·obtain ⟨b,o,nm,zs,ds,ts,fN,mv,L,told,k,rfl,hB,bJ,ho,htd,hs,hsz,hn,hq⟩:=h
  rfl
 obtain ⟨b,o,nm,zs,ds,ts,fN,mv,L,told,k,rfl,hB,bJ,ho,htd,hs,hsz,hn,hq⟩:=h
 refine ⟨_,(aD (bp (iY rfl rfl rfl) rfl (aK (cq wW gm hr rfl (aa (pv 0) (aa (pv 1) ag)))) (aE (i:=3) Z52.nd rfl (Or.inl rfl))
  (ai (ba (aL ij (pv 3) (pv 2) (by with_unfolding_all rfl))
  (ai (aT (cq eH gm hr rfl (aa (pv 0) (aa (pv 3) (aa (pv 2) ag))))))
  aM)))
  (ai (aT (cS PySem.F.plainAttrs_list PySem.F.slot_list_append PySem.F.type_list_append bO (pv 2) (aa (pv 1) ag))))),?_⟩
 have hB0:=hB.same (jx H o)
 have ok:=hB.ok
 have h16:=ok.n7
 have hl2:=ok.tab
 have hak:=gD ok
 rcases hq with ⟨hk,hnm,hkt,q⟩ | ⟨hno,qE⟩
 ·have et:=E3 hk
  generalize ts[k]=t at et
  have eak:akT ts fN k=akc fN t.cols:=by unfold akT;rw [et]
  refine ⟨λσ' H'=>aq (hide H o) (hide H' o)/\H' o=some (.lst ((((akT ts fN k).foldl (λt j=>odr (akT ts fN) j t) told).map (tnm zs fN)).map V.str))/\∃ c3:Option V,σ'=[some (.ref b),some (.str nm),some (.ref o),c3],?_,?_⟩
  ·refine ⟨_,rfl,_,rfl,b,nm,zs,ds,ts,fN,mv,L,rfl,hB0,hs,λk2 t2 l H1 hk2 h2 et2 s1 nl el=>?_,λh=>absurd hnm (h k (bJ k hk))⟩
   have:k2=k:=hB.one (hB.lt k2 hk2) hk (h2.trans hnm.symm)
   subst this
   rw [et] at et2
   cases et2
   rw [hB.aks bJ et,← eak] at el
   have nlo:l ≠ o:=λz=>by rw [z,ho] at nl;cases nl
   have elh:=cm el nlo
   have zw:∀ j ∈ akT ts fN k2,j < ts.length:=λj hj=>by have:=hak k2 j hj;omega
   refine ⟨l,rfl,⟨_,SqL.of el⟩,bg (xs:=((akT ts fN k2).map (tnm zs fN)).map V.str) (λi σ H'=>aq (hide H o) (hide H' o)/\hide H' o l=some (.lst (((akT ts fN k2).map (tnm zs fN)).map V.str))/\H' o=some (.lst (((((akT ts fN k2).take i).foldl (λt j=>odr (akT ts fN) j t) told).map (tnm zs fN)).map V.str))/\∃ c3:Option V,σ=[some (.ref b),some (.str nm),some (.ref o),c3]) ⟨lW s1,elh,s1 _ _ ho,_,rfl⟩ (λi σ H' _ h=>SqL.of (jx H' o _ _ h.2.1)) (λi y σ H' e h=>?_) (λσ H' h=>?_)⟩
   ·obtain ⟨s2,el2,eo2,c3,rfl⟩:=h
    obtain ⟨z,rfl,ez⟩:=cG e
    rw [List.getElem?_map] at ez
    cases ej:(akT ts fN k2)[i]? with
    | none=>rw [ej] at ez;cases ez
    | some j =>
     rw [ej] at ez
     cases ez
     have hjm:=E5 ej
     have hjk:=hak k2 j hjm
     have hjt:=zw j hjm
     have td:Tld ts.length (((akT ts fN k2).take i).foldl (λt j=>odr (akT ts fN) j t) told):=htd.fold hak λj hj=>zw j (List.mem_of_mem_take hj)
     rw [take_snoc ej,List.foldl_append]
     show _
     generalize ((akT ts fN k2).take i).foldl (λt j=>odr (akT ts fN) j t) told=tl at eo2 td ⊢
     have hin:((tl.map (tnm zs fN)).contains (tnm zs fN j))=tl.contains j:=hB.ins td hjt
     refine ⟨_,rfl,_,rfl,o,_,rfl,.inl (SqL.of eo2),rfl,cy _,_,rfl,?_⟩
     rw [if_pos rfl,dW,hin]
     cases hc:tl.contains j with
     | true =>
      refine cz ⟨s2,el2,?_,_,rfl⟩
      rw [eo2]
      show _=some (HO.lst (((odr (akT ts fN) j tl).map (tnm zs fN)).map V.str))
      rw [wH hak hc]
     | false =>
      refine fU ⟨_,rfl,_,rfl,_,rfl,b,o,tnm zs fN j,zs,ds,ts,fN,mv,L,tl,j,rfl,hB.same s2,bJ,eo2,td,?_,hsz,by omega,.inl ⟨hjt,rfl,λhm=>?_,λH3 s3 eo3=>⟨s2.trans s3,s3 _ _ el2,eo3,_,rfl⟩⟩⟩
      ·exact hsz _ (E5 (hB.nmz hjt))
      ·have:tl.contains j=true:=by simpa using hm
       rw [this] at hc
       cases hc
   ·obtain ⟨s2,el2,eo2,c3,rfl⟩:=h
    rw [List.length_map,List.length_map,List.take_length] at eo2
    exact ⟨s2,eo2,c3,rfl⟩
  rintro σ1 H1 ⟨s1,eo1,c3,rfl⟩
  have td:Tld ts.length ((akT ts fN k).foldl (λt j=>odr (akT ts fN) j t) told):=htd.fold hak λj hj=>by have:=hak k j hj;omega
  have hlen:=td.len
  refine ⟨_,rfl,.inl ⟨rfl,_,SqL.of eo1⟩,_,rfl,o,_,_,rfl,rfl,eo1,ay (by rw [List.length_map,List.length_map];omega),q _ (by rw [oq];exact s1) ?_⟩
  rw [ae,pH hak,if_neg (by simpa using hkt),List.map_append,List.map_append,← hnm]
  rfl
 ·refine ⟨λ_ _=>False,⟨_,rfl,_,rfl,b,nm,zs,ds,ts,fN,mv,L,rfl,hB0,hs,λk2 t2 l H1 hk2 h2=>absurd h2 (hno k2 hk2),λ_=>qE⟩,?_⟩
  rintro σ1 H1 h
  exact h.elim
theorem Cf (F:Fun K "order_of" "order_of" Y50 f fd) (bl:Bl K mg yA yE yN yO yP yQ yR yS yT yU yV yW yX af) (eH:CalleeX P w K mg base 15 "put_behind" ["book", "name", "order"] (J52 K yA yE yN yO yP yQ yR yS yT yU yV yW yX af 13)):aQ P w K mg base (CX1 P w) 16 f fd ["book", "name"] (J50 K yE yV yW yX af):=by
 refine F.okE Z50 (λvs H Q E h=>?_) (λcdv A outer s H vs Q E hr h=>?_)
 ·obtain ⟨b,nm,zs,ds,ts,fN,mv,L,k,rfl,hB,bJ,hs,hsz,dt,hq⟩:=h
  rfl
 obtain ⟨b,nm,zs,ds,ts,fN,mv,L,k,rfl,hB,bJ,hs,hsz,dt,hq⟩:=h
 refine ⟨_,(az (aI (i:=2) Z50.nd rfl (Or.inl rfl) (bz ag))
  (az (aT (cq eH gm hr rfl (aa (pv 0) (aa (pv 1) (aa (pv 2) ag)))))
  (ai (aP (pv 2))))),?_⟩
 refine ⟨Nat.zero_le _,λo ho=>?_⟩
 have s0:=ah ho (.lst [])
 have e0:upd H o (.lst []) o=some (.lst ((([]:List Nat).map (tnm zs fN)).map V.str)):=ae
 have sh:aq H (hide (upd H o (.lst [])) o):=q0 s0 ho
 generalize upd H o (.lst [])=H0 at s0 e0 sh ⊢
 refine ⟨_,rfl,_,rfl,_,rfl,b,o,nm,zs,ds,ts,fN,mv,L,[],k,rfl,hB.same sh,bJ,e0,Tld.nil,hs,hsz,by omega,?_⟩
 rcases hq with ⟨hk,hnm,q⟩ | ⟨hno,qE⟩
 ·exact .inl ⟨hk,hnm,by simp,λH1 s1 e1=>⟨_,rfl,q o H1 (λx u e=>jx _ _ _ _ ((sh.trans s1) _ _ e)) ho e1⟩⟩
 ·exact .inr ⟨hno,qE _ s0⟩
theorem Cg (F:Fun K "tables_for" "tables_for" Y62 f fd) (bl:Bl K mg yA yE yN yO yP yQ yR yS yT yU yV yW yX af) (gF:CalleeX P w K mg base 16 "table_of" ["book", "name"] (J61 K yE yV yW yX af)) (pL:CalleeX P w K mg base 16 "order_of" ["book", "name"] (J50 K yE yV yW yX af)):aQ P w K mg base (CX1 P w) 17 f fd ["book", "name"] (J62 K yE yV yW yX af):=by
 refine F.okE Z62 (λvs H Q E h=>?_) (λcdv A outer s H vs Q E hr h=>?_)
 ·obtain ⟨b,nm,zs,ds,ts,fN,mv,L,k,rfl,hB,bJ,hs,hsz,dt,hq⟩:=h
  rfl
 obtain ⟨b,nm,zs,ds,ts,fN,mv,L,k,rfl,hB,bJ,hs,hsz,dt,hq⟩:=h
 refine ⟨_,(ai (aP (aZ (aK (cq pL gm hr rfl (aa (pv 0) (aa (pv 1) ag)))) (aR (N:=["needed", "book"]) (fr:=[0]) (cl:=[("book",s.heap.objs.size+1)]) rfl rfl (by decide +kernel) (by decide +kernel) rfl (by decide +kernel) rfl rfl rfl (List.forall_mem_cons.mpr ⟨rfl,List.forall_mem_nil _⟩) rfl) rfl (λ_ _ _ _=>aW) (λ_ _ _ _=>(cq gF nX hr rfl (aa (pv 1) (aa (pv 0) ag))))))),?_⟩
 have h16:=hB.ok.n7
 have hl2:=hB.ok.tab
 have hak:=gD hB.ok
 rcases hq with ⟨hk,hnm,q⟩ | ⟨hno,qE⟩
 ·have htd:Tld ts.length (odr (akT ts fN) k []):=Tld.odr hak Tld.nil hk
  have hlen:=htd.len
  refine ⟨_,rfl,_,rfl,b,nm,zs,ds,ts,fN,mv,L,k,rfl,hB,bJ,hs,hsz,dt,.inl ⟨hk,hnm,λl H1 s1 nl el=>?_⟩⟩
  refine ⟨l,rfl,⟨_,SqL.of el⟩,aX (xs:=((odr (akT ts fN) k []).map (tnm zs fN)).map V.str) (λD i ys H'=>aq H1 H'/\H' D=some (.lst ys)/\ao ys ((odr (akT ts fN) k []).take i) (λr j=>∃ i:Nat,mv[i]?=some (.ref r)/\L[i]?=some j)) (λD hD=>⟨ah hD _,ae,ao.nil⟩) (λD i ys H' hD _ h=>SqL.of (h.1 _ _ el)) (λD i y ys H' hD e h=>?_) (λD ys H' hD h=>?_)⟩
  ·obtain ⟨sm,eD,hy⟩:=h
   obtain ⟨z,rfl,ez⟩:=cG e
   have hi:i < (((odr (akT ts fN) k []).map (tnm zs fN)).map V.str).length:=(E4.mp e).1
   rw [List.getElem?_map] at ez
   cases ej:(odr (akT ts fN) k [])[i]? with
   | none=>rw [ej] at ez;cases ez
   | some j =>
    rw [ej] at ez
    cases ez
    have hjt:=htd.lt j (E5 ej)
    have hyl:ys.length<=7:=by have:=hy.1;rw [List.length_take] at this;omega
    refine ⟨_,rfl,_,rfl,b,tnm zs fN j,zs,ds,ts,fN,mv,L,rfl,hB.same (s1.trans sm),hsz _ (E5 (hB.nmz hjt)),λa2 k2 i2 e1 e2 hk2 h2 _=>?_,λh=>absurd rfl (h j (bJ j hjt))⟩
    have:k2=j:=hB.one (hB.lt k2 hk2) hjt h2
    subst this
    refine bK.mk hi eD (ay (by omega)) ⟨sm.upd hD,ae,?_⟩
    rw [take_snoc ej]
    exact ao.snoc hy ⟨i2,e1,e2⟩
  ·obtain ⟨sm,eD,hy⟩:=h
   rw [List.length_map,List.length_map,List.take_length] at hy
   exact q D ys H' (s1.trans sm) (s1.free hD) eD hy
 ·exact ⟨_,rfl,_,rfl,b,nm,zs,ds,ts,fN,mv,L,k,rfl,hB,bJ,hs,hsz,dt,.inr ⟨hno,qE⟩⟩
theorem Ci (F:Fun K "needs" "needs" Y49 f fd) (bl:Bl K mg yA yE yN yO yP yQ yR yS yT yU yV yW yX af) (eJ:CalleeX P w K mg base 17 "tables_for" ["book", "name"] (J62 K yE yV yW yX af)):aQ P w K mg base (CX1 P w) 18 f fd ["book", "name"] (J49 K yE yV yW yX af):=by
 refine F.okE Z49 (λvs H Q E h=>?_) (λcdv A outer s H vs Q E hr h=>?_)
 ·obtain ⟨b,nm,zs,ds,ts,fN,mv,L,k,rfl,hB,bJ,hs,hsz,dt,hq⟩:=h
  rfl
 obtain ⟨b,nm,zs,ds,ts,fN,mv,L,k,rfl,hB,bJ,hs,hsz,dt,hq⟩:=h
 refine ⟨_,(aD (aI (i:=2) Z49.nd rfl (Or.inr rfl) (bz ag))
  (aD (bp (iY rfl rfl rfl) rfl (aK (cq eJ gm hr rfl (aa (pv 0) (aa (pv 1) ag)))) (aE (i:=3) Z49.nd rfl (Or.inl rfl))
  (ai (aT (cS PySem.F.plainAttrs_list PySem.F.slot_list_extend PySem.F.type_list_extend fH (pv 2) (aa (bu (pv 3) rfl) ag)))))
  (ai (aP (df (aK (bu (pv 0) rfl)) (fq (N:=["fact", "domain", "columns"]) (k:=2) (fr:=[2]) (cl:=[("columns",s.heap.objs.size+1)]) rfl rfl (by decide +kernel) (by decide +kernel) rfl rfl (List.forall_mem_cons.mpr ⟨rfl,List.forall_mem_nil _⟩) rfl) rfl (λ_ _ _ _=>(lK (K:=K) (n:=2) rfl rfl (aH (aE (i:=0) (show (["fact", "domain", "columns"]:List Str).Nodup by decide +kernel) rfl (Or.inl rfl) (Or.inr rfl)) (aH (aE (i:=1) (show (["fact", "domain", "columns"]:List Str).Nodup by decide +kernel) rfl (Or.inl rfl) (Or.inr rfl)) bA)))) (λ_ _ _ _=>(cX (aL (ee (K:=K) rfl) (pv 0) (pv 2) (by with_unfolding_all rfl)))) (λ_ _ _ _=>(pv 0))))))),?_⟩
 have h16:=hB.ok.n7
 have hl1:=hB.ok.len
 have hl2:=hB.ok.tab
 have hak:=gD hB.ok
 refine ⟨λσ' H'=>aq H H'/\∃ co:Addr,H co=none/\H' co=some (.lst ((([]:List Nat).flatMap (nmT ts zs)).map V.str))/\σ'=[some (.ref b),some (.str nm),some (.ref co),none],⟨Nat.zero_le _,λco hco=>⟨ah hco _,co,hco,ae,rfl⟩⟩,?_⟩
 rintro σ1 H1 ⟨s1,co,nco,eco,rfl⟩
 rcases hq with ⟨hk,hnm,q⟩ | ⟨hno,qE⟩
 ·have htd:Tld ts.length (odr (akT ts fN) k []):=Tld.odr hak Tld.nil hk
  have hlen:=htd.len
  refine ⟨λσ' H'=>aq H H'/\H' co=some (.lst (((odr (akT ts fN) k []).flatMap (nmT ts zs)).map V.str))/\∃ c3:Option V,σ'=[some (.ref b),some (.str nm),some (.ref co),c3],?_,?_⟩
  ·refine ⟨_,rfl,_,rfl,b,nm,zs,ds,ts,fN,mv,L,k,rfl,hB.same s1,bJ,hs,hsz,dt,.inl ⟨hk,hnm,λl xs H2 s2 nl el hxs=>?_⟩⟩
   have nlc:l ≠ co:=λz=>by rw [z,eco] at nl;cases nl
   refine ⟨l,rfl,⟨_,SqL.of el⟩,bg (xs:=xs) (λi σ H'=>aq H H'/\H' l=some (.lst xs)/\H' co=some (.lst ((((odr (akT ts fN) k []).take i).flatMap (nmT ts zs)).map V.str))/\∃ c3:Option V,σ=[some (.ref b),some (.str nm),some (.ref co),c3]) ⟨s1.trans s2,el,s2 _ _ eco,_,rfl⟩ (λi σ H' _ h=>SqL.of h.2.1) (λi y σ H' e h=>?_) (λσ H' h=>?_)⟩
   ·obtain ⟨sm,el2,pM,c3,rfl⟩:=h
    obtain ⟨r,j,rfl,ej,i2,e1,e2⟩:=ao.get hxs e
    obtain ⟨r',j',er,ej',hT⟩:=ao.get hB.tabs e1
    cases er
    rw [e2] at ej'
    cases ej'
    obtain ⟨tt,nm2,po,ou,dv,g1,g2,g3,g4,g5,g6⟩:=hT
    obtain ⟨rl,dx,na,dl,fs,xs2,ht,f1,f2,f3,f4,f5,f6,ena,edl,erl,hR,fX⟩:=g4
    have enm:nmT ts zs j=prm tt.cols zs:=by unfold nmT;rw [g1]
    have h4:=hB.nm4 j
    have hfl:=kB hB.nm4 ((odr (akT ts fN) k []).take i)
    rw [List.length_take] at hfl
    refine ⟨_,rfl,.inl ⟨rfl,_,SqL.of pM⟩,_,rfl,r,_,_,_,_,rfl,sm _ _ ht,bl.k_Table,bl.na_Table_names,f5,co,na,_,_,rfl,rfl,pM,sm _ _ ena,Nat.le_of_lt (ay (by rw [← enm,List.length_map,List.length_map];omega)),sm.upd nco,(au nlc).trans el2,?_,_,rfl⟩
    rw [ae,take_snoc ej,mJ,enm,List.map_append]
   ·obtain ⟨sm,el2,pM,c3,rfl⟩:=h
    rw [hxs.1,List.take_length] at pM
    exact ⟨sm,pM,c3,rfl⟩
  rintro σ2 H2 ⟨s2,pM,c3,rfl⟩
  obtain ⟨dx,fs,ta,fb,gv,hb,ft,eta,ff,efb,hgv⟩:=hB.bk
  have hgl:gv.length=fN:=by rw [hgv.1,List.length_range]
  refine ⟨_,rfl,b,_,_,_,_,rfl,s2 _ _ hb,bl.k_Book,bl.na_Book_facts,ff,fb,rfl,⟨_,SqL.of (s2 _ _ efb)⟩,bX (xs:=gv) (λD i ys H'=>aq H2 H'/\H' D=some (.lst ys)/\ys=((zs.take i).filter (bh ts zs fN k)).map V.str) (λD hD=>⟨ah hD _,ae,rfl⟩) (λD i ys H' hD _ h=>SqL.of ((s2.trans h.1) _ _ efb)) (λD i y ys H' hD e h ts_ hts=>?_) (λD ys H' hD h=>?_)⟩
  ·obtain ⟨sm,eD,rfl⟩:=h
   obtain ⟨r,j,rfl,ej,z,d,ez,_,er⟩:=ao.get hgv e
   obtain ⟨rfl,hi⟩:=jB ej
   obtain ⟨t0,t1,rfl⟩:∃ t0 t1,ts_=[t0,t1]:=by
    match ts_,hts with
    | [t0,t1],_=>exact ⟨t0,t1,rfl⟩
   refine ⟨r,_,rfl,SqT.of ((s2.trans sm) _ _ er),rfl,_,_,rfl,_,_,rfl,rfl,⟨[some (.str z),some (.ref d)],rfl,rfl⟩,?_⟩
   refine ⟨_,rfl,_,rfl,co,_,rfl,.inl (SqL.of (sm _ _ pM)),rfl,cy _,_,rfl,?_⟩
   rw [if_neg Bool.false_ne_true,dW,rh]
   have hf:=List.length_filter_le (bh ts zs fN k) (zs.take j)
   rw [List.length_take] at hf
   cases hc:bh ts zs fN k z with
   | true =>
    refine fU ⟨_,rfl,bK.mk (by omega) eD (ay (by rw [List.length_map];omega)) ⟨sm.upd hD,ae,?_⟩⟩
    rw [take_snoc ez,List.filter_append,List.filter_cons_of_pos hc,List.filter_nil,List.map_append]
    rfl
   | false =>
    refine cz (cU.mk (zs:=((zs.take j).filter (bh ts zs fN k)).map V.str) (by omega) ⟨sm,eD,?_⟩)
    rw [take_snoc ez,List.filter_append,List.filter_cons_of_neg (by rw [hc];exact Bool.false_ne_true),List.filter_nil,List.append_nil]
  ·obtain ⟨sm,eD,rfl⟩:=h
   rw [hgl] at eD
   exact q D H' (s2.trans sm) (s2.free hD) eD
 ·refine ⟨λ_ _=>False,⟨_,rfl,_,rfl,b,nm,zs,ds,ts,fN,mv,L,k,rfl,hB.same s1,bJ,hs,hsz,dt,.inr ⟨hno,λH' s'=>qE H' (s1.trans s')⟩⟩,?_⟩
  rintro σ2 H2 h
  exact h.elim
theorem Cj (F:Fun K "needed_domains" "needed_domains" Y48 f fd) (bl:Bl K mg yA yE yN yO yP yQ yR yS yT yU yV yW yX af) (mS:CalleeX P w K mg base 18 "needs" ["book", "name"] (J49 K yE yV yW yX af)):aQ P w K mg base (CX1 P w) 19 f fd ["book", "name"] (J48 K yE yV yW yX af):=by
 refine F.okE Z48 (λvs H Q E h=>?_) (λcdv A outer s H vs Q E hr h=>?_)
 ·obtain ⟨b,nm,zs,ds,ts,fN,mv,L,k,rfl,hB,bJ,hs,hsz,dt,hq⟩:=h
  rfl
 obtain ⟨b,nm,zs,ds,ts,fN,mv,L,k,rfl,hB,bJ,hs,hsz,dt,hq⟩:=h
 refine ⟨_,(az (aI (i:=2) Z48.nd rfl (Or.inr rfl) (cq mS gm hr rfl (aa (pv 0) (aa (pv 1) ag))))
  (ai (aP (df (aK (bu (pv 0) rfl)) (fq (N:=["fact", "domain", "needed"]) (k:=2) (fr:=[2]) (cl:=[("needed",s.heap.objs.size+1)]) rfl rfl (by decide +kernel) (by decide +kernel) rfl rfl (List.forall_mem_cons.mpr ⟨rfl,List.forall_mem_nil _⟩) rfl) rfl (λ_ _ _ _=>(lK (K:=K) (n:=2) rfl rfl (aH (aE (i:=0) (show (["fact", "domain", "needed"]:List Str).Nodup by decide +kernel) rfl (Or.inl rfl) (Or.inr rfl)) (aH (aE (i:=1) (show (["fact", "domain", "needed"]:List Str).Nodup by decide +kernel) rfl (Or.inl rfl) (Or.inr rfl)) bA)))) (λ_ _ _ _=>(cX (aL (ee (K:=K) rfl) (pv 0) (pv 2) (by with_unfolding_all rfl)))) (λ_ _ _ _=>(pv 1)))))),?_⟩
 have h7:=hB.ok.n7
 have hl1:=hB.ok.len
 have hl2:=hB.ok.tab
 rcases hq with ⟨hk,hnm,q⟩ | ⟨hno,qE⟩
 ·refine ⟨_,rfl,_,rfl,b,nm,zs,ds,ts,fN,mv,L,k,rfl,hB,bJ,hs,hsz,dt,.inl ⟨hk,hnm,λl1 H1 s1 nl1 el1=>?_⟩⟩
  obtain ⟨dx,fs,ta,fb,gv,hb,ft,eta,ff,efb,hgv⟩:=hB.bk
  have hgl:gv.length=fN:=by rw [hgv.1,List.length_range]
  refine ⟨_,rfl,b,_,_,_,_,rfl,s1 _ _ hb,bl.k_Book,bl.na_Book_facts,ff,fb,rfl,⟨_,SqL.of (s1 _ _ efb)⟩,bX (xs:=gv) (λD i ys H'=>aq H1 H'/\H' D=some (.lst ys)/\ao ys ((zs.take i).filter (bh ts zs fN k)) (λd z=>∃ f,zs[f]?=some z/\DmP yV yW H ds f d)) (λD hD=>⟨ah hD _,ae,ao.nil⟩) (λD i ys H' hD _ h=>SqL.of ((s1.trans h.1) _ _ efb)) (λD i y ys H' hD e h ts_ hts=>?_) (λD ys H' hD h=>?_)⟩
  ·obtain ⟨sm,eD,hy⟩:=h
   obtain ⟨r,j,rfl,ej,z,d,ez,hd,er⟩:=ao.get hgv e
   obtain ⟨rfl,hi⟩:=jB ej
   obtain ⟨t0,t1,rfl⟩:∃ t0 t1,ts_=[t0,t1]:=by
    match ts_,hts with
    | [t0,t1],_=>exact ⟨t0,t1,rfl⟩
   refine ⟨r,_,rfl,SqT.of ((s1.trans sm) _ _ er),rfl,_,_,rfl,_,_,rfl,rfl,⟨[some (.str z),some (.ref d)],rfl,rfl⟩,?_⟩
   refine ⟨_,rfl,_,rfl,l1,_,rfl,.inl (SqL.of (sm _ _ el1)),rfl,cy _,_,rfl,?_⟩
   rw [if_neg Bool.false_ne_true,dW,sP hi ez]
   have hf:=List.length_filter_le (bh ts zs fN k) (zs.take j)
   rw [List.length_take] at hf
   cases hc:bh ts zs fN k z with
   | true =>
    refine fU ⟨_,rfl,bK.mk (by omega) eD (ay (by rw [hy.1];omega)) ⟨sm.upd hD,ae,?_⟩⟩
    rw [take_snoc ez,List.filter_append,List.filter_cons_of_pos hc,List.filter_nil]
    exact ao.snoc hy ⟨j,ez,hd⟩
   | false =>
    refine cz (cU.mk (zs:=ys) (by omega) ⟨sm,eD,?_⟩)
    rw [take_snoc ez,List.filter_append,List.filter_cons_of_neg (by rw [hc];exact Bool.false_ne_true),List.filter_nil,List.append_nil]
    exact hy
  ·obtain ⟨sm,eD,hy⟩:=h
   rw [hgl] at hy
   exact q D ys H' (s1.trans sm) (s1.free hD) eD hy
 ·exact ⟨_,rfl,_,rfl,b,nm,zs,ds,ts,fN,mv,L,k,rfl,hB,bJ,hs,hsz,dt,.inr ⟨hno,qE⟩⟩
theorem Ck (F:Fun K "book_marks" "book_marks" Y24 f fd) (bl:Bl K mg yA yE yN yO yP yQ yR yS yT yU yV yW yX af) (eJ:CalleeX P w K mg base 18 "tables_for" ["book", "name"] (J62 K yE yV yW yX af)) (mT:Callee P w K mg base 18 "fact_marks" ["tables", "fact"] (J27 K yV yW yX)) (mS:CalleeX P w K mg base 18 "needs" ["book", "name"] (J49 K yE yV yW yX af)):aQ P w K mg base (CX1 P w) 19 f fd ["book", "name"] (J24 K yE yV yW yX af):=by
 refine F.okE Z24 (λvs H Q E h=>?_) (λcdv A outer s H vs Q E hr h=>?_)
 ·obtain ⟨b,nm,zs,ds,ts,fN,mv,L,k,rfl,hB,bJ,hs,hsz,hpl,dt,hq⟩:=h
  rfl
 obtain ⟨b,nm,zs,ds,ts,fN,mv,L,k,rfl,hB,bJ,hs,hsz,hpl,dt,hq⟩:=h
 refine ⟨_,(az (aI (i:=2) Z24.nd rfl (Or.inr rfl) (cq eJ gm hr rfl (aa (pv 0) (aa (pv 1) ag))))
  (ai (aP (aZ (aK (cq mS gm hr rfl (aa (pv 0) (aa (pv 1) ag)))) (aR (N:=["fact", "tables"]) (fr:=[2]) (cl:=[("tables",s.heap.objs.size+1)]) rfl rfl (by decide +kernel) (by decide +kernel) rfl (by decide +kernel) rfl rfl rfl (List.forall_mem_cons.mpr ⟨rfl,List.forall_mem_nil _⟩) rfl) rfl (λ_ _ _ _=>aW) (λ_ _ _ _=>(aU mT hr rfl (aa (pv 1) (aa (pv 0) ag)))))))),?_⟩
 have h7:=hB.ok.n7
 have hl1:=hB.ok.len
 have hl2:=hB.ok.tab
 have hak:=gD hB.ok
 rcases hq with ⟨hk,hnm,q⟩ | ⟨hno,qE⟩
 ·have htd:Tld ts.length (odr (akT ts fN) k []):=Tld.odr hak Tld.nil hk
  have hlen:=htd.len
  refine ⟨_,rfl,_,rfl,b,nm,zs,ds,ts,fN,mv,L,k,rfl,hB,bJ,hs,hsz,dt,.inl ⟨hk,hnm,λl xs H1 s1 nl el hxs=>?_⟩⟩
  have htv:ao xs (odr (akT ts fN) k []) (TbA yX yV yW H zs ds ts fN):=ao.mono hxs λr j ⟨i,e1,e2⟩=>by
   obtain ⟨r',j',er,ej,hT⟩:=ao.get hB.tabs e1
   cases er
   rw [e2] at ej
   cases ej
   exact hT
  refine ⟨_,rfl,_,rfl,b,nm,zs,ds,ts,fN,mv,L,k,rfl,hB.same s1,bJ,hs,hsz,dt,.inl ⟨hk,hnm,λl2 H2 s2 nl2 el2=>?_⟩⟩
  have s12:=s1.trans s2
  have hfl:=List.length_filter_le (bh ts zs fN k) (zs.take fN)
  rw [List.length_take] at hfl
  refine ⟨l2,rfl,⟨_,SqL.of el2⟩,aX (xs:=((zs.take fN).filter (bh ts zs fN k)).map V.str) (λD i ys H'=>aq H2 H'/\H' D=some (.lst ys)/\ao ys (((zs.take fN).filter (bh ts zs fN k)).take i) (MsA (Fr H2 D) H' zs ds ts (odr (akT ts fN) k []))) (λD hD=>⟨ah hD _,ae,ao.nil⟩) (λD i ys H' hD _ h=>SqL.of (h.1 _ _ el2)) (λD i y ys H' hD e h=>?_) (λD ys H' hD h=>?_)⟩
  ·obtain ⟨sm,eD,hy⟩:=h
   obtain ⟨z,rfl,ez⟩:=cG e
   have hi:i < (((zs.take fN).filter (bh ts zs fN k)).map V.str).length:=(E4.mp e).1
   obtain ⟨f,hf,ezf⟩:=sQ (E5 ez)
   have ep:=E3 (l:=ds) (i:=f) (by omega)
   generalize ds[f]=p at ep
   have hp3:=hpl p (E5 ep)
   have sA:=s12.trans sm
   have hyl:ys.length<=7:=by have:=hy.1;rw [List.length_take] at this;omega
   refine ⟨_,rfl,_,rfl,l,xs,odr (akT ts fN) k [],z,f,zs,ds,ts,fN,p,rfl,(s2.trans sm) _ _ el,hB.ok,ao.mono htv (λ_ _ p=>p.same sA),by omega,ezf,ep,hp3,λl3 cs H3 s3 nl3 el3 pw mem=>?_⟩
   have eD3:=s3 _ _ eD
   have hy2:ao (ys ++ [.ref l3]) (((zs.take fN).filter (bh ts zs fN k)).take i ++ [z]) (MsA (Fr H2 D) H3 zs ds ts (odr (akT ts fN) k [])):=ao.snoc (ao.mono hy λ_ _ ⟨n,cs,e,r⟩=>⟨n,cs,s3 _ _ e,r⟩) ⟨⟨sm.free nl3,λz=>by rw [z,eD] at nl3;cases nl3⟩,cs,el3,pw,λf' p' e1 e2 x=>by
    rw [cH hB.ok.nd e1 ezf] at e2 ⊢
    rw [ep] at e2
    cases e2
    exact mem x⟩
   refine bK.mk hi eD3 (ay (by omega)) ⟨(sm.trans s3).upd hD,ae,?_⟩
   rw [take_snoc ez]
   exact ao.mono hy2 λ_ _ ⟨n,cs,e,r⟩=>⟨n,cs,(au n.2).trans e,r⟩
  ·obtain ⟨sm,eD,hy⟩:=h
   rw [List.length_map,List.take_length] at hy
   exact q D ys H' (s12.trans sm) (s12.free hD) eD (ao.mono hy λ_ _ ⟨n,r⟩=>⟨s12.free n.1,r⟩)
 ·exact ⟨_,rfl,_,rfl,b,nm,zs,ds,ts,fN,mv,L,k,rfl,hB,bJ,hs,hsz,dt,.inr ⟨hno,qE⟩⟩
theorem Cm (F:Fun K "book_bounds" "book_bounds" Y23 f fd) (bl:Bl K mg yA yE yN yO yP yQ yR yS yT yU yV yW yX af) (jb:CalleeX P w K mg base 19 "needed_domains" ["book", "name"] (J48 K yE yV yW yX af)):aQ P w K mg base (CX1 P w) 20 f fd ["book", "name"] (J23 K yE yV yW yX af):=by
 refine F.okE Z23 (λvs H Q E h=>?_) (λcdv A outer s H vs Q E hr h=>?_)
 ·obtain ⟨b,nm,zs,ds,ts,fN,mv,L,k,rfl,hB,bJ,hs,hsz,dt,hq⟩:=h
  rfl
 obtain ⟨b,nm,zs,ds,ts,fN,mv,L,k,rfl,hB,bJ,hs,hsz,dt,hq⟩:=h
 refine ⟨_,(ai (aP (aZ (aK (cq jb gm hr rfl (aa (pv 0) (aa (pv 1) ag)))) (bP rfl (by decide +kernel) (by decide +kernel) (by decide +kernel) rfl) rfl (λ_ _ _ _=>aW) (λ_ _ _ _=>(bN (aa (cE (K:=K) rfl (pv 0) rfl) (aa (cE (K:=K) rfl (pv 0) rfl) ag))))))),?_⟩
 have hdf:∀ (C:Addr),(C=yV\/C=yW)->Cls K C/\aY K C (Str.ofString "low")/\aY K C (Str.ofString "high"):=λC h=>by
  rcases h with rfl | rfl
  ·exact ⟨bl.k_Numbers,bl.na_Numbers_low,bl.na_Numbers_high⟩
  ·exact ⟨bl.k_Words,bl.na_Words_low,bl.na_Words_high⟩
 have h7:=hB.ok.n7
 have hl1:=hB.ok.len
 rcases hq with ⟨hk,hnm,q⟩ | ⟨hno,qE⟩
 ·refine ⟨_,rfl,_,rfl,b,nm,zs,ds,ts,fN,mv,L,k,rfl,hB,bJ,hs,hsz,dt,.inl ⟨hk,hnm,λl1 dv H1 s1 nl1 el1 hdv=>?_⟩⟩
  have hfl:=List.length_filter_le (bh ts zs fN k) (zs.take fN)
  rw [List.length_take] at hfl
  have hdl:dv.length=((zs.take fN).filter (bh ts zs fN k)).length:=hdv.1
  refine ⟨l1,rfl,⟨_,SqL.of el1⟩,aX (xs:=dv) (λD i ys H'=>aq H1 H'/\H' D=some (.lst ys)/\ao ys (((zs.take fN).filter (bh ts zs fN k)).take i) (λr z=>∃ (f:Nat) (p:PD),zs[f]?=some z/\ds[f]?=some p/\H' r=some (.tup [.int p.lo,.int p.hi]))) (λD hD=>⟨ah hD _,ae,ao.nil⟩) (λD i ys H' hD _ h=>SqL.of (h.1 _ _ el1)) (λD i y ys H' hD e h=>?_) (λD ys H' hD h=>?_)⟩
  ·obtain ⟨sm,eD,hy⟩:=h
   obtain ⟨d,z,rfl,ez,f,ezf,p,ep,hd⟩:=ao.get hdv e
   have hi:i < dv.length:=(E4.mp e).1
   obtain ⟨C,hC,dx2,fs2,hd2,l1',l2'⟩:=oB (hd.same (s1.trans sm))
   obtain ⟨k1,k2,k3⟩:=hdf C hC
   have hyl:ys.length<=7:=by have:=hy.1;rw [List.length_take] at this;omega
   refine ⟨_,rfl,d,_,_,_,_,rfl,hd2,k1,k2,l1',_,rfl,d,_,_,_,_,rfl,hd2,k1,k3,l2',bS,λtp htp=>?_⟩
   have u:=ah htp (.tup [.int p.lo,.int p.hi])
   have eT:upd H' tp (.tup [.int p.lo,.int p.hi]) tp=some (.tup [.int p.lo,.int p.hi]):=ae
   have eg:upd H' tp (.tup [.int p.k.2.1,.int p.k.2.2])=upd H' tp (.tup [.int p.lo,.int p.hi]):=rfl
   rw [eg]
   generalize upd H' tp (.tup [.int p.lo,.int p.hi])=H2 at u eT ⊢
   have eD2:=u _ _ eD
   have hy2:ao (ys ++ [.ref tp]) (((zs.take fN).filter (bh ts zs fN k)).take i ++ [z]) (λr z=>∃ (f:Nat) (p:PD),zs[f]?=some z/\ds[f]?=some p/\H2 r=some (.tup [.int p.lo,.int p.hi])):=ao.snoc (ao.mono hy λ_ _ ⟨f,p,e1,e2,e3⟩=>⟨f,p,e1,e2,u _ _ e3⟩) ⟨f,p,ezf,ep,eT⟩
   refine bK.mk hi eD2 (ay (by omega)) ⟨(sm.trans u).upd hD,ae,?_⟩
   rw [take_snoc ez]
   exact ao.mono hy2 λ_ _ ⟨f,p,e1,e2,e3⟩=>⟨f,p,e1,e2,dU eD2 _ _ e3⟩
  ·obtain ⟨sm,eD,hy⟩:=h
   rw [hdl,List.take_length] at hy
   exact q D ys H' (s1.trans sm) (s1.free hD) eD hy
 ·exact ⟨_,rfl,_,rfl,b,nm,zs,ds,ts,fN,mv,L,k,rfl,hB,bJ,hs,hsz,dt,.inr ⟨hno,qE⟩⟩
theorem Cn (F:Fun K "_law_no_table" "_law_no_table" Y39 f fd) (bl:Bl K mg yA yE yN yO yP yQ yR yS yT yU yV yW yX af) (cM:CalleeX P w K mg base 20 "book_bounds" ["book", "name"] (J23 K yE yV yW yX af)) (cZ:CalleeX P w K mg base 20 "book_marks" ["book", "name"] (J24 K yE yV yW yX af)):aQ P w K mg base CX0 21 f fd ["deed", "book", "name"] (J39 K yV yW yX af):=by
 refine F.ok Z39 (λvs H Q E h=>?_) (λcdv A outer s H vs Q E hr h=>?_)
 ·obtain ⟨dd_,b,nm,zs,ds,ts,fN,mv,L,rfl,hB,bJ,hs,hsz,hpl,hn,q⟩:=h
  rfl
 obtain ⟨dd_,b,nm,zs,ds,ts,fN,mv,L,rfl,hB,bJ,hs,hsz,hpl,hn,q⟩:=h
 refine ⟨_,(aD (aI (i:=3) Z39.nd rfl (Or.inl rfl) ia)
  (aD (uF (G:=λC=>qe K C) (wj (aL cO (pv 0) aj (aS _)) (nW (rT cM hr rfl rfl (aa (pv 1) (aa (pv 2) ag)))) (nW (rT cZ hr rfl rfl (aa (pv 1) (aa (pv 2) ag))))) rfl rfl rfl rfl bl.NoTable_ (λC e oe hG hc=>(ai (aI (i:=3) Z39.nd rfl (Or.inl rfl) ia))))
  (ai (aP (pv 3))))),?_⟩
 refine ⟨λσ' H'=>H'=H/\σ'=[some (.int dd_),some (.ref b),some (.str nm),some (.bl false)],⟨rfl,rfl⟩,?_⟩
 rintro σ1 H1 ⟨rfl,rfl⟩
 refine ⟨λσ' H'=>aq H1 H'/\σ'=[some (.int dd_),some (.ref b),some (.str nm),some (.bl true)],?_,?_⟩
 ·refine ⟨_,rfl,rfl,_,rfl,cP (λ_=>?_) (λ_=>?_)⟩
  ·exact ⟨_,rfl,_,rfl,b,nm,zs,ds,ts,fN,mv,L,0,rfl,hB,bJ,hs,hsz,by omega,.inr ⟨hn,λH' s'=>⟨_,rfl,bl.e2_NoTable,bl.l_NoTable,λe=>⟨s',rfl⟩⟩⟩⟩
  ·exact ⟨_,rfl,_,rfl,b,nm,zs,ds,ts,fN,mv,L,0,rfl,hB,bJ,hs,hsz,hpl,by omega,.inr ⟨hn,λH' s'=>⟨_,rfl,bl.e2_NoTable,bl.l_NoTable,λe=>⟨s',rfl⟩⟩⟩⟩
 rintro σ2 H2 ⟨s2,rfl⟩
 exact ⟨_,rfl,q H2 s2⟩
theorem Co (F:Fun K "law" "law" Y31 f fd) (bl:Bl K mg yA yE yN yO yP yQ yR yS yT yU yV yW yX af) (oI:Callee P w K mg base 21 "_law_book" ["script"] (J33 K)) (k_Book:MkCallee CX0 P w K mg base 20 "Book" af ["self", "facts", "tables"] (J0 K yV yW yX af)) (mU:Callee P w K mg base 21 "_law_facts" ["plan"] (J35 K yV yW)) (eG:Callee P w K mg base 21 "_law_needs" ["plan", "k"] (J38 K yA yE yN yO yP yQ yR yS yT yU yV yW yX af 8)) (cM:CalleeX P w K mg base 21 "book_bounds" ["book", "name"] (J23 K yE yV yW yX af)) (cZ:CalleeX P w K mg base 21 "book_marks" ["book", "name"] (J24 K yE yV yW yX af)) (eV:Callee P w K mg base 21 "_law_no_table" ["deed", "book", "name"] (J39 K yV yW yX af)) (mV:Callee P w K mg base 21 "_law_table" ["plan", "k"] (J45 K yV yW yX)) (iw:Callee P w K mg base 21 "_law_marks" ["plan", "k", "fact"] (J37 K)):aQ P w K mg base CX0 22 f fd ["script"] (J31 K):=by
 refine F.ok Z31 (λvs H Q E h=>?_) (λcdv A outer s H vs Q E hr h=>?_)
 ·obtain ⟨a,ns,rfl,hS,h63,q⟩:=h
  rfl
 obtain ⟨a,ns,rfl,hS,h63,q⟩:=h
 refine ⟨_,(aD (aI (i:=1) Z31.nd rfl (Or.inr rfl) (aU oI hr rfl (aa (pv 0) ag)))
  (aD (fg (pv 1) (cA rfl (aH (aE (i:=2) Z31.nd rfl (Or.inl rfl)) (aH (aE (i:=3) Z31.nd rfl (Or.inr rfl)) (aH (aE (i:=4) Z31.nd rfl (Or.inl rfl)) bA)))))
  (aD (aI (i:=5) Z31.nd rfl (Or.inl rfl) (aG bQ (aC aw rfl bl.len_ PySem.boot_len (aa (pv 2) ag)) (aC aw rfl bl.len_ PySem.boot_len (aa (pv 4) ag))))
  (aD (aI (i:=6) Z31.nd rfl (Or.inl rfl) (qf k_Book cx hr rfl (aa (aU mU hr rfl (aa (pv 1) ag)) (aa (aZ (bC rfl bl.range_ (aa (aC aw rfl bl.len_ PySem.boot_len (aa (pv 4) ag)) ag)) (aR (N:=["k", "plan"]) (fr:=[1]) (cl:=[("plan",s.heap.objs.size+1)]) rfl rfl (by decide +kernel) (by decide +kernel) rfl (by decide +kernel) rfl rfl rfl (List.forall_mem_cons.mpr ⟨rfl,List.forall_mem_nil _⟩) rfl) rfl (λ_ _ _ _=>aW) (λ_ _ _ _=>(aU mV hr rfl (aa (pv 1) (aa (pv 0) ag))))) ag))))
  (az (bp PassesOwn.never rfl (iQ rfl bl.range_ (aa (pv 5) (aa (aC aw rfl bl.len_ PySem.boot_len (aa (pv 2) ag)) ag))) (aE (i:=7) Z31.nd rfl (Or.inr rfl))
  (aD (aI (i:=8) Z31.nd rfl (Or.inl rfl) (aU eG hr rfl (aa (pv 1) (aa (pv 7) ag))))
  (aD (aI (i:=9) Z31.nd rfl (Or.inl rfl) (cq cM nX hr rfl (aa (pv 6) (aa (aJ aO (pv 2) (pv 7) (λ_ _=>rfl)) ag))))
  (aD (ba (PW.pt (p3 (d8 (cR (aC b8 rfl bl.isinstance_ PyProof.Rows.boot_isinstance (aa (pv 9) (aa (jq (v:=.ty "list") rfl bl.list_ PyProof.Rows.boot_list rfl) ag))))) (md (aL (jv hr) (pv 9) (aZ (aK (pv 8)) (aR (N:=["j", "domains"]) (fr:=[3]) (cl:=[("domains",s.heap.objs.size+1+1)]) rfl rfl (by decide +kernel) (by decide +kernel) rfl (by decide +kernel) rfl rfl rfl (List.forall_mem_cons.mpr ⟨rfl,List.forall_mem_nil _⟩) rfl) rfl (λ_ _ _ _=>aW) (λ_ _ _ _=>(bN (aa (aJ (cC (K:=K) rfl) (aJ (cc (K:=K) rfl) (pv 1) (pv 0) (λ_ _=>rfl)) aj (λ_ _=>rfl)) (aa (aJ (cC (K:=K) rfl) (aJ (cc (K:=K) rfl) (pv 1) (pv 0) (λ_ _=>rfl)) aj (λ_ _=>rfl)) ag))))) (aS _)))))
  (ai (aP ia))
  aM)
  (aD (aI (i:=10) Z31.nd rfl (Or.inl rfl) (cq cZ nX hr rfl (aa (pv 6) (aa (aJ aO (pv 2) (pv 7) (λ_ _=>rfl)) ag))))
  (aD (ba (PW.pt (p3 (d8 (cR (aC b8 rfl bl.isinstance_ PyProof.Rows.boot_isinstance (aa (pv 10) (aa (jq (v:=.ty "list") rfl bl.list_ PyProof.Rows.boot_list rfl) ag))))) (md (aL (jv hr) (pv 10) (aZ (aK (pv 8)) (aR (N:=["j", "plan", "k"]) (fr:=[1,7]) (cl:=[("plan",s.heap.objs.size+1),("k",s.heap.objs.size+1+1+1)]) rfl rfl (by decide +kernel) (by decide +kernel) rfl (by decide +kernel) rfl rfl rfl (List.forall_mem_cons.mpr ⟨rfl,List.forall_mem_cons.mpr ⟨rfl,List.forall_mem_nil _⟩⟩) rfl) rfl (λ_ _ _ _=>aW) (λ_ _ _ _=>(aU iw hr rfl (aa (pv 1) (aa (pv 2) (aa (pv 0) ag)))))) (aS _)))))
  (ai (aP ia))
  aM)
  (aD (aT (cS PySem.F.plainAttrs_list PySem.F.slot_list_append PySem.F.type_list_append bO (pv 9) (aa (bN (aa aj (aa aj ag))) ag)))
  (aD (bp PassesOwn.never rfl (aK (pv 10)) (aE (i:=11) Z31.nd rfl (Or.inl rfl))
  (ai (aT (cS PySem.F.plainAttrs_list PySem.F.slot_list_append PySem.F.type_list_append bO (pv 11) (aa aj ag)))))
  (aD (ba (aL (jv hr) (cq cZ nX hr rfl (aa (pv 6) (aa (aJ aO (pv 2) (pv 7) (λ_ _=>rfl)) ag))) (aZ (aK (pv 8)) (aR (N:=["j", "plan", "k"]) (fr:=[1,7]) (cl:=[("plan",s.heap.objs.size+1),("k",s.heap.objs.size+1+1+1)]) rfl rfl (by decide +kernel) (by decide +kernel) rfl (by decide +kernel) rfl rfl rfl (List.forall_mem_cons.mpr ⟨rfl,List.forall_mem_cons.mpr ⟨rfl,List.forall_mem_nil _⟩⟩) rfl) rfl (λ_ _ _ _=>aW) (λ_ _ _ _=>(aU iw hr rfl (aa (pv 1) (aa (pv 2) (aa (pv 0) ag)))))) (aS _))
  (ai (aP ia))
  aM)
  (ai (ba (aL (jv hr) (cq cM nX hr rfl (aa (pv 6) (aa (aJ aO (pv 2) (pv 7) (λ_ _=>rfl)) ag))) (rH uo (pv 9) uj (uk (ya vG aj))) (aS _))
  (ai (aP ia))
  aM)))))))))))
  (ai (aP (gu (aU eV hr rfl (aa aj (aa (pv 6) (aa (aJ aO (pv 2) aj (λ_ _=>rfl)) ag)))) (iO (aU eV hr rfl (aa aj (aa (pv 6) (aa (aJ aO (pv 2) aj (λ_ _=>rfl)) ag))))))))))))),?_⟩
 refine ⟨λσ' H'=>aq H H'/\∃ (r:Addr) (zs:List Str) (ds:List PD) (ts:List PT) (fN:Nat),PlA H' r zs ds ts/\cY zs ds ts fN/\(∀ p ∈ ds,p.pool.length<=3)/\(∀ t ∈ ts,t.rows.length<=32)/\ts.length<=4/\1<=fN/\(∀ z ∈ zs,SmB z)/\σ'=[some (.ref a),some (.ref r),none,none,none,none,none,none,none,none,none,none],⟨_,rfl,a,ns,rfl,hS,h63,λr zs ds ts fN H' s h1 h2 h3 h4 h5 h6 _ h7=>⟨s,r,zs,ds,ts,fN,h1,h2,h3,h4,h5,h6,h7,rfl⟩⟩,?_⟩
 rintro σ1 H1 ⟨s1,r,zs,ds,ts,fN,hPl,ok,hpl,h32,ht4,hf1,hsm,rfl⟩
 obtain ⟨nl,dl,tl_,dv,tv,er,enl,edl,hdv,etl,htv⟩:=id hPl
 have htl:tv.length=ts.length:=htv.1
 have hzl:(zs.map V.str).length=zs.length:=List.length_map _
 have h7:=ok.n7
 have hl1:=ok.len
 have hl2:=ok.tab
 have hak:=gD ok
 refine ⟨λσ' H'=>H'=H1/\σ'=[some (.ref a),some (.ref r),some (.ref nl),some (.ref dl),some (.ref tl_),none,none,none,none,none,none,none],⟨_,rfl,r,_,rfl,SqT.of er,rfl,_,_,rfl,_,_,rfl,_,_,rfl,rfl,rfl,rfl⟩,?_⟩
 rintro σ2 H2 ⟨e2_,rfl⟩
 subst e2_
 refine ⟨λσ' H'=>H'=H2/\σ'=[some (.ref a),some (.ref r),some (.ref nl),some (.ref dl),some (.ref tl_),some (.int (fN:Int)),none,none,none,none,none,none],⟨_,rfl,nl,_,rfl,.inl (SqL.of enl),_,rfl,tl_,_,rfl,.inl (SqL.of etl),_,_,rfl,rfl,rfl,?_⟩,?_⟩
 ·rw [show (fN:Int)=(((zs.map V.str).length:Nat):Int) - ((tv.length:Nat):Int) by omega]
  rfl
 rintro σ3 H3 ⟨e3_,rfl⟩
 subst e3_
 have bJ:∀ k,k < ts.length->k ∈ List.range ts.length:=λk hk=>List.mem_range.mpr hk
 refine ⟨λσ' H'=>aq H3 H'/\∃ (bo:Addr) (mw:List V),BkT yX yV yW af H' bo zs ds ts fN mw (List.range ts.length)/\σ'=[some (.ref a),some (.ref r),some (.ref nl),some (.ref dl),some (.ref tl_),some (.int (fN:Int)),some (.ref bo),none,none,none,none,none],?_,?_⟩
 ·refine ⟨_,rfl,r,zs,ds,ts,fN,rfl,hPl,ok,λfa fv H4 s4 efa hfv=>?_⟩
  refine ⟨_,rfl,tl_,_,rfl,.inl (SqL.of (s4 _ _ etl)),_,rfl,(by omega),(by omega),bE (λD i ys H'=>aq H4 H'/\H' D=some (.lst ys)/\ao ys (List.range i) (TbN (Fr H4 D) yX yV yW H' zs ds ts fN)) (λD hD=>⟨ah hD _,ae,ao.nil⟩) (λD i ys H' hD hi h=>?_) (λD ys H' hD h=>?_)⟩
  ·obtain ⟨sm,eD,hy⟩:=h
   rw [Int.toNat_natCast] at hi
   have et:=E3 (l:=ts) (i:=i) (by omega)
   generalize ts[i]=t at et
   have enm:=E3 (l:=zs) (i:=fN+i) (by omega)
   have epo:=E3 (l:=ds) (i:=fN+i) (by omega)
   refine ⟨_,rfl,_,rfl,r,i,zs,ds,ts,fN,t,_,_,(by rw [show (0:Int)+(i:Int)=(i:Int) by omega]),hPl.same (s4.trans sm),ok,et,enm,epo,λx H5 s5 hx=>?_⟩
   have eD5:=s5 _ _ eD
   refine bK.mk (by omega) eD5 (ay (by rw [hy.1,List.length_range];omega)) ⟨(sm.trans s5).upd hD,ae,?_⟩
   rw [List.range_succ]
   exact ao.mono (ao.snoc (ao.mono hy λ_ _ p=>p.same s5) (hx.wk λb h=>⟨sm.free h,λz=>by rw [z,eD] at h;cases h⟩)) λ_ _ p=>p.upd Fr.out eD5
  ·obtain ⟨sm,eD,hy⟩:=h
   rw [Int.toNat_natCast,htl] at hy
   intro x dx hx hdx hne
   have s8:aq H' (upd (upd H' dx (.own x)) x (.ins af dx [])):=(ah hdx _).upd hx
   have s48:=sm.trans s8
   have hmw:ao ys (List.range ts.length) (TbA yX yV yW H' zs ds ts fN):=ao.mono hy λ_ _ p=>p.tb
   have hfP:ao fv (List.range fN) (FcT (DmP yV yW H' ds) H' zs):=ao.mono hfv λ_ _ p=>let ⟨nm,po,d,h1,h2,h3,h4⟩:=p;⟨nm,d,h1,⟨po,h2,h4.same sm⟩,sm _ _ h3⟩
   refine ⟨x,dx,fa,D,fv,ys,zs,ds,ts,fN,List.range ts.length,DmP yV yW H' ds,rfl,ae,s48 _ _ efa,s8 _ _ eD,⟨ok,ao.mono hfv (λ_ _ p=>p.same s48),ao.mono hmw (λ_ _ p=>p.same s8),(λk hk=>List.mem_range.mp hk),List.nodup_range,List.length_range,bJ⟩,ao.mono hfP (λ_ _ p=>p.tups s8.tups),λH7 fs ta fb gv k1 k2 k3 k4 k5 k6 k7=>⟨rfl,?_⟩⟩
   have s9:aq H' H7:=λb u e=>k1 b u (bq e hx) (s8 _ _ e)
   exact ⟨(s4.trans sm).trans s9,x,ys,⟨⟨dx,fs,ta,fb,gv,k2,k3,k4,k5,k6,ao.mono k7 λ_ _ p=>p.mono λ_ _ ⟨po,h1,h2⟩=>⟨po,h1,h2.same s9⟩⟩,ok,ao.mono hmw (λ_ _ p=>p.same s9),(λk hk=>List.mem_range.mp hk),by rw [List.length_range];omega⟩,rfl⟩
 rintro σ4 H4 ⟨s34,bo,mw,hB,rfl⟩
 have pN:=s34 _ _ enl
 have zy:=s34 _ _ edl
 have Cp:=hPl.same s34
 have Cq:ao dv ds (PDA NT H4):=ao.mono hdv λ_ _ p=>p.same s34
 refine ⟨_,rfl,_,rfl,nl,_,rfl,.inl (SqL.of pN),_,_,rfl,⟨by omega,by omega,by omega,by omega⟩,dN (λi σ H'=>aq H4 H'/\∃ c7 c8 c9 c10 c11:Option V,σ=[some (.ref a),some (.ref r),some (.ref nl),some (.ref dl),some (.ref tl_),some (.int (fN:Int)),some (.ref bo),c7,c8,c9,c10,c11]) ⟨aq.refl _,_,_,_,_,_,rfl⟩ (λi σ H' hi hh=>?_) (λσ H' hh=>?_)⟩
 ·obtain ⟨sm,c7,c8,c9,c10,c11,rfl⟩:=hh
  have hi:i < ts.length:=by omega
  rw [show (fN:Int)+(i:Int)=((fN+i:Nat):Int) by omega]
  have enm:=E3 (l:=zs) (i:=fN+i) (by omega)
  generalize zs[fN+i]=nm at enm
  have hsn:=hsm nm (E5 enm)
  have htn:tnm zs fN i=nm:=cw enm
  have ixn:atI (zs.map V.str) ((fN+i:Nat):Int)=some (.str nm):=aN (dj enm)
  have wX:=Cp.same sm
  refine ⟨λσ' H''=>aq H' H''/\∃ (wa:Addr) (js:List Nat),H'' wa=some (.lst (vN js))/\js.Pairwise (· < ·)/\(∀ f,f ∈ js↔FN ts fN (fN+i) f)/\σ'=[some (.ref a),some (.ref r),some (.ref nl),some (.ref dl),some (.ref tl_),some (.int (fN:Int)),some (.ref bo),some (.int ((fN+i:Nat):Int)),some (.ref wa),c9,c10,c11],⟨_,rfl,_,rfl,r,fN+i,zs,ds,ts,fN,rfl,wX,ok,by omega,by omega,λl js H'' s nl' el pw mem=>⟨s,l,js,el,pw,mem,rfl⟩⟩,?_⟩
  rintro σ5 H5 ⟨s5,wa,js,ewa,pw,mem,rfl⟩
  obtain ⟨hnj,hnl⟩:=ze ok pw mem
  have hjl:js.length<=fN:=pJ pw λf hf=>((mem f).mp hf).lt
  have s45:=sm.trans s5
  refine ⟨λσ' H''=>aq H5 H''/\∃ (fo:Addr) (fl:List V),H5 fo=none/\H'' fo=some (.lst fl)/\ao fl ((zs.take fN).filter (bh ts zs fN i)) (BdZ H'' zs ds)/\σ'=[some (.ref a),some (.ref r),some (.ref nl),some (.ref dl),some (.ref tl_),some (.int (fN:Int)),some (.ref bo),some (.int ((fN+i:Nat):Int)),some (.ref wa),some (.ref fo),c10,c11],⟨_,rfl,_,rfl,_,rfl,nl,_,_,_,rfl,rfl,SqL.of (s45 _ _ pN),ixn,bo,nm,zs,ds,ts,fN,mw,_,i,rfl,hB.same s45,bJ,hsn,hsm,by omega,.inl ⟨hi,htn,λl lv H'' s nl' el hlv=>⟨s,l,lv,nl',el,hlv,rfl⟩⟩⟩,?_⟩
  rintro σ6 H6 ⟨s6,fo,fl,nfo,efo,hfl,rfl⟩
  have s46:=s45.trans s6
  have Cr:fl.length=js.length:=by rw [hfl.1,hnj]
  have Cs:∀ {HX:Hp} {xs ys:List V},ao xs ((zs.take fN).filter (bh ts zs fN i)) (BdZ HX zs ds)->ao ys js (BdF HX ds)->∀ (j:Nat) (x y:V),xs[j]?=some x->ys[j]?=some y->DEq K HX 60 x y true:=λh h' j x y e1 e2=>by
   obtain ⟨ra,z,rfl,ez,f,p,b1,b2,b3⟩:=ao.get h e1
   obtain ⟨rb,f',rfl,ef,p',b4,b5⟩:=ao.get h' e2
   obtain ⟨f'',ef',ezf⟩:=hnl j z ez
   rw [ef] at ef'
   cases ef'
   rw [cH ok.nd b1 ezf,b4] at b2
   cases b2
   exact qu b3 b5
  refine ⟨λσ' H''=>aq H6 H''/\σ'=[some (.ref a),some (.ref r),some (.ref nl),some (.ref dl),some (.ref tl_),some (.int (fN:Int)),some (.ref bo),some (.int ((fN+i:Nat):Int)),some (.ref wa),some (.ref fo),c10,c11],?_,?_⟩
  ·refine ⟨_,rfl,_,_,_,_,true,rfl,.ty _,.inl (.lst efo),(by first | rfl | with_unfolding_all rfl | decide +kernel),_,rfl,cz ?_⟩
   have zA:=s6 _ _ ewa
   refine ⟨_,rfl,_,rfl,wa,rfl,⟨_,SqL.of zA⟩,aX (xs:=vN js) (λD k ys H''=>aq H6 H''/\H'' D=some (.lst ys)/\ao ys (js.take k) (BdF H'' ds)) (λD hD=>⟨ah hD _,ae,ao.nil⟩) (λD k ys H'' hD _ h=>SqL.of (h.1 _ _ zA)) (λD k y ys H'' hD e h=>?_) (λD ys H'' hD h=>?_)⟩
   ·obtain ⟨sn,eD,hy⟩:=h
    obtain ⟨f,rfl,ef⟩:=ir e
    have hk:k < (vN js).length:=(E4.mp e).1
    have hff:=((mem f).mp (E5 ef)).lt
    have ep:=E3 (l:=ds) (i:=f) (by omega)
    obtain ⟨da,eda,wl,_,_,e1,e2⟩:=Cq.2 f _ ep
    generalize ds[f]=p at ep e1 e2
    have sA:=s46.trans sn
    refine ⟨_,rfl,_,rfl,dl,_,_,_,rfl,rfl,SqL.of (sA _ _ zy),aN eda,da,_,_,_,rfl,rfl,SqT.of (sA _ _ e1),rfl,_,rfl,_,rfl,dl,_,_,_,rfl,rfl,SqL.of (sA _ _ zy),aN eda,da,_,_,_,rfl,rfl,SqT.of (sA _ _ e1),rfl,bS,λtp htp=>?_⟩
    have u:=ah htp (.tup [.int p.lo,.int p.hi])
    have eT:upd H'' tp (.tup [.int p.lo,.int p.hi]) tp=some (.tup [.int p.lo,.int p.hi]):=ae
    generalize upd H'' tp (.tup [.int p.lo,.int p.hi])=HX at u eT ⊢
    have eD2:=u _ _ eD
    have hyl:ys.length<=7:=by have:=hy.1;rw [List.length_take] at this;omega
    refine bK.mk hk eD2 (ay (by omega)) ⟨(sn.trans u).upd hD,ae,?_⟩
    rw [take_snoc ef]
    exact ao.mono (ao.snoc (ao.mono hy λ_ _ p=>p.tups u.tups) ⟨p,ep,eT⟩) λ_ _ p=>p.tups (dU eD2)
   ·obtain ⟨sn,eD,hy⟩:=h
    rw [bG,List.take_length] at hy
    exact fS (SqL.of (sn _ _ efo)) (SqL.of eD) (by rw [Cr,hy.1]) (Cs (ao.mono hfl λ_ _ p=>p.tups sn.tups) hy) ⟨_,rfl,cz ⟨sn,rfl⟩⟩
  rintro σ7 H7 ⟨s7,rfl⟩
  have s57:=s6.trans s7
  have s47:=s45.trans s57
  refine ⟨λσ' H''=>aq H7 H''/\∃ (mk:Addr) (lv:List V),H7 mk=none/\H'' mk=some (.lst lv)/\ao lv ((zs.take fN).filter (bh ts zs fN i)) (MsA (λa=>H7 a=none) H'' zs ds ts (odr (akT ts fN) i []))/\σ'=[some (.ref a),some (.ref r),some (.ref nl),some (.ref dl),some (.ref tl_),some (.int (fN:Int)),some (.ref bo),some (.int ((fN+i:Nat):Int)),some (.ref wa),some (.ref fo),some (.ref mk),c11],⟨_,rfl,_,rfl,_,rfl,nl,_,_,_,rfl,rfl,SqL.of (s47 _ _ pN),ixn,bo,nm,zs,ds,ts,fN,mw,_,i,rfl,hB.same s47,bJ,hsn,hsm,hpl,by omega,.inl ⟨hi,htn,λl lv H'' s nl' el hlv=>⟨s,l,lv,nl',el,hlv,rfl⟩⟩⟩,?_⟩
  rintro σ8 H8 ⟨s8,mk,lv,nmk,emk,hlv,rfl⟩
  have s58:=s57.trans s8
  have Ct:lv.length=js.length:=by rw [hlv.1,hnj]
  have zB:∀ {HX:Hp} {N N' : Addr->Prop} {xs ys:List V},ao xs ((zs.take fN).filter (bh ts zs fN i)) (MsA N HX zs ds ts (odr (akT ts fN) i []))->ao ys js (MsF N' HX ds ts fN i)->∀ (j:Nat) (x y:V),xs[j]?=some x->ys[j]?=some y->DEq K HX 60 x y true:=λh h' j x y e1 e2=>by
   obtain ⟨ra,z,rfl,ez,_,cs,b1,b2,b3⟩:=ao.get h e1
   obtain ⟨rb,f,rfl,ef,_,cs',b4,b5,b6⟩:=ao.get h' e2
   obtain ⟨f'',ef',ezf⟩:=hnl j z ez
   rw [ef] at ef'
   cases ef'
   have hff:=((mem f).mp (E5 ef)).lt
   have ep:=E3 (l:=ds) (i:=f) (by omega)
   have:cs=cs':=oF b2 b5 λx=>by
    rw [b3 f _ ezf ep x,b6 _ ep x]
    constructor
    ·rintro ⟨k,hk,h⟩;exact ⟨k,(jC hak _ _).mp hk,h⟩
    ·rintro ⟨k,hk,h⟩;exact ⟨k,(jC hak _ _).mpr hk,h⟩
   subst this
   exact sT b1 b4
  refine ⟨λσ' H''=>aq H8 H''/\σ'=[some (.ref a),some (.ref r),some (.ref nl),some (.ref dl),some (.ref tl_),some (.int (fN:Int)),some (.ref bo),some (.int ((fN+i:Nat):Int)),some (.ref wa),some (.ref fo),some (.ref mk),c11],?_,?_⟩
  ·refine ⟨_,rfl,_,_,_,_,true,rfl,.ty _,.inl (.lst emk),(by first | rfl | with_unfolding_all rfl | decide +kernel),_,rfl,cz ?_⟩
   have tf:=s58 _ _ ewa
   refine ⟨_,rfl,_,rfl,wa,rfl,⟨_,SqL.of tf⟩,aX (xs:=vN js) (λD k ys H''=>aq H8 H''/\H'' D=some (.lst ys)/\ao ys (js.take k) (MsF (Fr H8 D) H'' ds ts fN i)) (λD hD=>⟨ah hD _,ae,ao.nil⟩) (λD k ys H'' hD _ h=>SqL.of (h.1 _ _ tf)) (λD k y ys H'' hD e h=>?_) (λD ys H'' hD h=>?_)⟩
   ·obtain ⟨sn,eD,hy⟩:=h
    obtain ⟨f,rfl,ef⟩:=ir e
    have hk:k < (vN js).length:=(E4.mp e).1
    have hff:=((mem f).mp (E5 ef)).lt
    have ep:=E3 (l:=ds) (i:=f) (by omega)
    generalize ds[f]=p at ep
    have hyl:ys.length<=7:=by have:=hy.1;rw [List.length_take] at this;omega
    refine ⟨_,rfl,_,rfl,_,rfl,r,fN+i,f,zs,ds,ts,fN,p,rfl,wX.same (s5.trans (s58.trans sn)),ok,by omega,by omega,ep,hpl p (E5 ep),h32,ht4,λl cs HX sX nlX elX pwX wY=>?_⟩
    have eD2:=sX _ _ eD
    refine bK.mk hk eD2 (ay (by omega)) ⟨(sn.trans sX).upd hD,ae,?_⟩
    rw [take_snoc ef]
    refine ao.mono (ao.snoc (ao.mono hy λ_ _ ⟨n,cs,e,r⟩=>⟨n,cs,sX _ _ e,r⟩) (show MsF (Fr H8 D) HX ds ts fN i l f from ⟨⟨sn.free nlX,λz=>by rw [z,eD] at nlX;cases nlX⟩,cs,elX,pwX,λp' ep' x=>?_⟩)) λ_ _ ⟨n,cs,e,r⟩=>⟨n,cs,(au n.2).trans e,r⟩
    rw [ep] at ep'
    cases ep'
    have:=wY x
    rw [show fN+i - fN=i by omega] at this
    exact this
   ·obtain ⟨sn,eD,hy⟩:=h
    rw [bG,List.take_length] at hy
    exact fS (SqL.of (sn _ _ emk)) (SqL.of eD) (by rw [Ct,hy.1]) (zB (ao.mono hlv λ_ _ ⟨n,cs,e,r⟩=>⟨n,cs,sn _ _ e,r⟩) hy) ⟨_,rfl,cz ⟨sn,rfl⟩⟩
  rintro σ9 H9 ⟨s9,rfl⟩
  have s79:=s8.trans s9
  have s69:=s7.trans s79
  have zC:=s69 _ _ efo
  have Cu:=s9 _ _ emk
  have nfm:mk ≠ fo:=λz=>by rw [z,s7 _ _ efo] at nmk;cases nmk
  have zD:∀ (j:Nat) (ra:Addr),lv[j]?=some (.ref ra)->H7 ra=none/\ra ≠ mk/\ra ≠ fo/\∃ xs:List V,H9 ra=some (.lst xs)/\xs.length<=1000:=λj ra e=>by
   obtain ⟨r',z,er,ez,n,cs,b1,b2,b3⟩:=ao.get hlv e
   cases er
   refine ⟨n,λz=>?_,λz=>?_,cs.map V.int,s9 _ _ b1,?_⟩
   ·rw [z,emk] at b1
    cases b1
    obtain ⟨c,hc,_⟩:=of_map e
    cases hc
   ·rw [z,s7 _ _ efo] at n
    cases n
   ·obtain ⟨f,hf,ezf⟩:=sQ (E5 ez)
    have ep:=E3 (l:=ds) (i:=f) (by omega)
    have hp3:=hpl _ (E5 ep)
    have:=cL (b2.imp λh=>Int.ne_of_lt h) (L:=Lp ds[f]) λx hx=>by
     obtain ⟨k,_,t,c,d1,d2,h⟩:=(b3 f _ ezf ep x).mp hx
     exact h.pool ok d1 d2 ep
    have:=kD hp3
    rw [List.length_map]
    omega
  refine ⟨λσ' H''=>aq H5 H''/\(∃ tp:Addr,H'' fo=some (.lst (fl ++ [.ref tp])))/\H'' mk=some (.lst lv)/\ao fl ((zs.take fN).filter (bh ts zs fN i)) (BdZ H'' zs ds)/\(∀ (j:Nat) (ra:Addr),lv[j]?=some (.ref ra)->∃ xs:List V,H'' ra=some (.lst xs)/\xs.length<=1000)/\σ'=[some (.ref a),some (.ref r),some (.ref nl),some (.ref dl),some (.ref tl_),some (.int (fN:Int)),some (.ref bo),some (.int ((fN+i:Nat):Int)),some (.ref wa),some (.ref fo),some (.ref mk),c11],?_,?_⟩
  ·refine ⟨_,rfl,.inl ⟨rfl,_,SqL.of zC⟩,bS,λtp htp=>?_⟩
   have u:=ah htp (.tup [.int 0,.int 0])
   have wZ:=u _ _ zC
   have zE:=u _ _ Cu
   generalize upd H9 tp (.tup [.int 0,.int 0])=HX at u wZ zE ⊢
   refine ⟨fo,_,_,rfl,rfl,wZ,ay (by omega),((s6.trans s69).trans u).upd nfo,⟨tp,ae⟩,(au nfm).trans zE,ao.mono hfl (λ_ _ p=>p.tups λb t h=>dU wZ _ _ ((s69.trans u).tups _ _ h)),λj ra e=>?_,rfl⟩
   obtain ⟨_,_,h2,xs,h3,h4⟩:=zD j ra e
   exact ⟨xs,(au h2).trans (u _ _ h3),h4⟩
  rintro σ10 H10 ⟨s10,⟨tp,zF⟩,vp,zG,xa,rfl⟩
  refine ⟨λσ' H''=>aq H5 H''/\H'' fo=some (.lst (fl ++ [.ref tp]))/\ao fl ((zs.take fN).filter (bh ts zs fN i)) (BdZ H'' zs ds)/\∃ c11:Option V,σ'=[some (.ref a),some (.ref r),some (.ref nl),some (.ref dl),some (.ref tl_),some (.int (fN:Int)),some (.ref bo),some (.int ((fN+i:Nat):Int)),some (.ref wa),some (.ref fo),some (.ref mk),c11],?_,?_⟩
  ·refine ⟨_,rfl,mk,rfl,⟨_,SqL.of vp⟩,bg (xs:=lv) (λk σ H''=>aq H5 H''/\H'' fo=some (.lst (fl ++ [.ref tp]))/\H'' mk=some (.lst lv)/\ao fl ((zs.take fN).filter (bh ts zs fN i)) (BdZ H'' zs ds)/\(∀ (j:Nat) (ra:Addr),lv[j]?=some (.ref ra)->∃ xs:List V,H'' ra=some (.lst xs)/\xs.length<=1000+k)/\∃ c11:Option V,σ=[some (.ref a),some (.ref r),some (.ref nl),some (.ref dl),some (.ref tl_),some (.int (fN:Int)),some (.ref bo),some (.int ((fN+i:Nat):Int)),some (.ref wa),some (.ref fo),some (.ref mk),c11]) ⟨s10,zF,vp,zG,xa,_,rfl⟩ (λk σ H'' _ h=>SqL.of h.2.2.1) (λk y σ H'' e h=>?_) (λσ H'' h=>⟨h.1,h.2.1,h.2.2.2.1,h.2.2.2.2.2⟩)⟩
   obtain ⟨sn,efn,emn,hfn,hrn,d11,rfl⟩:=h
   obtain ⟨ra,z,rfl,ez,_⟩:=ao.get hlv e
   obtain ⟨n7,nm1,nf1,_⟩:=zD k ra e
   obtain ⟨xs,exs,hxl⟩:=hrn k ra e
   have hk:k < lv.length:=(E4.mp e).1
   refine ⟨_,rfl,.inl ⟨rfl,_,SqL.of exs⟩,ra,_,_,rfl,rfl,exs,sO (by omega),sn.upd (s57.free n7),(au (Ne.symm nf1)).trans efn,(au (Ne.symm nm1)).trans emn,ao.mono hfn (λ_ _ p=>p.tups (dU exs)),λj rb ej=>?_,_,rfl⟩
   obtain ⟨ys,eys,hyl⟩:=hrn j rb ej
   by_cases hab:rb=ra
   ·subst hab
    exact ⟨_,ae,by rw [List.length_append];show _+1<=_;omega⟩
   ·exact ⟨ys,(au hab).trans eys,by omega⟩
  rintro σ11 H11 ⟨s11,zH,zI,d11,rfl⟩
  have xb:=s45.trans s11
  refine ⟨λσ' H''=>aq H11 H''/\σ'=[some (.ref a),some (.ref r),some (.ref nl),some (.ref dl),some (.ref tl_),some (.int (fN:Int)),some (.ref bo),some (.int ((fN+i:Nat):Int)),some (.ref wa),some (.ref fo),some (.ref mk),d11],?_,?_⟩
  ·refine ⟨_,rfl,_,rfl,_,rfl,nl,_,_,_,rfl,rfl,SqL.of (xb _ _ pN),ixn,bo,nm,zs,ds,ts,fN,mw,_,i,rfl,hB.same xb,bJ,hsn,hsm,hpl,by omega,.inl ⟨hi,htn,λl lv2 H12 s12 nl' el uV=>?_⟩⟩
   have tf:=(s11.trans s12) _ _ ewa
   have zJ:lv2.length=js.length:=by rw [uV.1,hnj]
   refine ⟨_,rfl,wa,rfl,⟨_,SqL.of tf⟩,aX (xs:=vN js) (λD k ys H''=>aq H12 H''/\H'' D=some (.lst ys)/\ao ys (js.take k) (MsF (Fr H12 D) H'' ds ts fN i)) (λD hD=>⟨ah hD _,ae,ao.nil⟩) (λD k ys H'' hD _ h=>SqL.of (h.1 _ _ tf)) (λD k y ys H'' hD e h=>?_) (λD ys H'' hD h=>?_)⟩
   ·obtain ⟨sn,eD,hy⟩:=h
    obtain ⟨f,rfl,ef⟩:=ir e
    have hk:k < (vN js).length:=(E4.mp e).1
    have hff:=((mem f).mp (E5 ef)).lt
    have ep:=E3 (l:=ds) (i:=f) (by omega)
    generalize ds[f]=p at ep
    have hyl:ys.length<=7:=by have:=hy.1;rw [List.length_take] at this;omega
    refine ⟨_,rfl,_,rfl,_,rfl,r,fN+i,f,zs,ds,ts,fN,p,rfl,wX.same (s5.trans ((s11.trans s12).trans sn)),ok,by omega,by omega,ep,hpl p (E5 ep),h32,ht4,λl cs HX sX nlX elX pwX wY=>?_⟩
    have eD2:=sX _ _ eD
    refine bK.mk hk eD2 (ay (by omega)) ⟨(sn.trans sX).upd hD,ae,?_⟩
    rw [take_snoc ef]
    refine ao.mono (ao.snoc (ao.mono hy λ_ _ ⟨n,cs,e,r⟩=>⟨n,cs,sX _ _ e,r⟩) (show MsF (Fr H12 D) HX ds ts fN i l f from ⟨⟨sn.free nlX,λz=>by rw [z,eD] at nlX;cases nlX⟩,cs,elX,pwX,λp' ep' x=>?_⟩)) λ_ _ ⟨n,cs,e,r⟩=>⟨n,cs,(au n.2).trans e,r⟩
    rw [ep] at ep'
    cases ep'
    have:=wY x
    rw [show fN+i - fN=i by omega] at this
    exact this
   ·obtain ⟨sn,eD,hy⟩:=h
    rw [bG,List.take_length] at hy
    exact fS (SqL.of (sn _ _ el)) (SqL.of eD) (by rw [zJ,hy.1]) (zB (ao.mono uV λ_ _ ⟨n,cs,e,r⟩=>⟨n,cs,sn _ _ e,r⟩) hy) ⟨_,rfl,cz ⟨s12.trans sn,rfl⟩⟩
  rintro σ12 H12 ⟨s12,rfl⟩
  have xc:=xb.trans s12
  refine ⟨_,rfl,_,rfl,_,rfl,nl,_,_,_,rfl,rfl,SqL.of (xc _ _ pN),ixn,bo,nm,zs,ds,ts,fN,mw,_,i,rfl,hB.same xc,bJ,hsn,hsm,by omega,.inl ⟨hi,htn,λl lv2 H13 s13 nl' el uV=>?_⟩⟩
  have zK:=(s12.trans s13) _ _ zH
  refine ⟨_,rfl,_,rfl,_,rfl,fo,_,rfl,SqL.of zK,λp hp=>?_⟩
  have u:=ah hp (.lst (ll (fl ++ [.ref tp]) none (some (-1))))
  have ep:upd H13 p (.lst (ll (fl ++ [.ref tp]) none (some (-1)))) p=some (.lst fl):=by rw [ae,sU]
  generalize upd H13 p (.lst (ll (fl ++ [.ref tp]) none (some (-1))))=H14 at u ep ⊢
  have h2:ao fl ((zs.take fN).filter (bh ts zs fN i)) (BdZ H14 zs ds):=ao.mono zI λ_ _ p=>p.tups ((s12.trans s13).trans u).tups
  have h1:ao lv2 ((zs.take fN).filter (bh ts zs fN i)) (BdZ H14 zs ds):=ao.mono uV λ_ _ p=>BdZ.tups (H:=H13) p u.tups
  refine fS (SqL.of (u _ _ el)) (SqL.of ep) (by rw [h1.1,h2.1]) (λj x y e1 e2=>?_) ⟨_,rfl,cz ⟨((xc.trans s13).trans u),_,_,_,_,_,rfl⟩⟩
  obtain ⟨ra,z,rfl,ez,f,p,b1,b2,b3⟩:=ao.get h1 e1
  obtain ⟨rb,z',rfl,ez',f',p',b4,b5,b6⟩:=ao.get h2 e2
  rw [ez] at ez'
  cases ez'
  rw [cH ok.nd b1 b4,b5] at b2
  cases b2
  exact qu b3 b6
 ·obtain ⟨sm,c7,c8,c9,c10,c11,rfl⟩:=hh
  have e0:=E3 (l:=zs) (i:=0) (by omega)
  generalize zs[0]=z0 at e0
  have h0:=hsm z0 (E5 e0)
  have n0:∀ k ∈ List.range ts.length,tnm zs fN k ≠ z0:=λk hk h=>by
   have hk:=List.mem_range.mp hk
   have e2:=E3 (l:=zs) (i:=fN+k) (by omega)
   rw [cw e2] at h
   rw [h] at e2
   have:=cH ok.nd e2 e0
   omega
  refine ⟨_,rfl,_,rfl,nl,_,_,_,rfl,rfl,SqL.of (sm _ _ pN),aN (dj e0),0,bo,z0,zs,ds,ts,fN,mw,_,rfl,hB.same sm,bJ,h0,hsm,hpl,n0,λH8 s8=>⟨true,rfl,fU ?_⟩⟩
  exact ⟨_,rfl,_,rfl,nl,_,_,_,rfl,rfl,SqL.of ((sm.trans s8) _ _ pN),aN (dj e0),1,bo,z0,zs,ds,ts,fN,mw,_,rfl,hB.same (sm.trans s8),bJ,h0,hsm,hpl,n0,λH9 _=>q H9⟩
end
theorem ls0 {P:List Value->Prop} (h:P []):∀ us:List Value,us.length=0->P us:=λus e=>by
 cases us
 ·exact h
 ·cases e
theorem lsS {P:List Value->Prop} {n:Nat} (h:∀ a us,us.length=n->P (a :: us)):∀ us:List Value,us.length=n+1->P us:=λus e=>by
 cases us
 ·cases e
 ·exact h _ _ (Nat.succ.inj e)
theorem ls1 {P:List Value->Prop} (h:∀ a,P [a]):∀ us:List Value,us.length=1->P us:=lsS λa=>ls0 (P:=λv=>P (a :: v)) (h a)
theorem ls2 {P:List Value->Prop} (h:∀ a b,P [a,b]):∀ us:List Value,us.length=2->P us:=lsS λa=>ls1 (P:=λv=>P (a :: v)) (h a)
theorem ls3 {P:List Value->Prop} (h:∀ a b c,P [a,b,c]):∀ us:List Value,us.length=3->P us:=lsS λa=>ls2 (P:=λv=>P (a :: v)) (h a)
theorem ls4 {P:List Value->Prop} (h:∀ a b c d,P [a,b,c,d]):∀ us:List Value,us.length=4->P us:=lsS λa=>ls3 (P:=λv=>P (a :: v)) (h a)
theorem ls5 {P:List Value->Prop} (h:∀ a b c d e,P [a,b,c,d,e]):∀ us:List Value,us.length=5->P us:=lsS λa=>ls4 (P:=λv=>P (a :: v)) (h a)
theorem ls6 {P:List Value->Prop} (h:∀ a b c d e f,P [a,b,c,d,e,f]):∀ us:List Value,us.length=6->P us:=lsS λa=>ls5 (P:=λv=>P (a :: v)) (h a)
theorem ls7 {P:List Value->Prop} (h:∀ a b c d e f g,P [a,b,c,d,e,f,g]):∀ us:List Value,us.length=7->P us:=lsS λa=>ls6 (P:=λv=>P (a :: v)) (h a)
theorem lb1 {fd:FuncData} {ps:List Str} (h:∀ a,bindArgs fd ⟨[a],[]⟩=pure (ps.zip [a])):∀ us:List Value,us.length=1->bindArgs fd ⟨us,[]⟩=pure (ps.zip us):=ls1 (P:=λus=>bindArgs fd ⟨us,[]⟩=pure (ps.zip us)) h
theorem lb2 {fd:FuncData} {ps:List Str} (h:∀ a b,bindArgs fd ⟨[a,b],[]⟩=pure (ps.zip [a,b])):∀ us:List Value,us.length=2->bindArgs fd ⟨us,[]⟩=pure (ps.zip us):=ls2 (P:=λus=>bindArgs fd ⟨us,[]⟩=pure (ps.zip us)) h
theorem lb3 {fd:FuncData} {ps:List Str} (h:∀ a b c,bindArgs fd ⟨[a,b,c],[]⟩=pure (ps.zip [a,b,c])):∀ us:List Value,us.length=3->bindArgs fd ⟨us,[]⟩=pure (ps.zip us):=ls3 (P:=λus=>bindArgs fd ⟨us,[]⟩=pure (ps.zip us)) h
theorem lb4 {fd:FuncData} {ps:List Str} (h:∀ a b c d,bindArgs fd ⟨[a,b,c,d],[]⟩=pure (ps.zip [a,b,c,d])):∀ us:List Value,us.length=4->bindArgs fd ⟨us,[]⟩=pure (ps.zip us):=ls4 (P:=λus=>bindArgs fd ⟨us,[]⟩=pure (ps.zip us)) h
theorem lb5 {fd:FuncData} {ps:List Str} (h:∀ a b c d e,bindArgs fd ⟨[a,b,c,d,e],[]⟩=pure (ps.zip [a,b,c,d,e])):∀ us:List Value,us.length=5->bindArgs fd ⟨us,[]⟩=pure (ps.zip us):=ls5 (P:=λus=>bindArgs fd ⟨us,[]⟩=pure (ps.zip us)) h
theorem lb7 {fd:FuncData} {ps:List Str} (h:∀ a b c d e f g,bindArgs fd ⟨[a,b,c,d,e,f,g],[]⟩=pure (ps.zip [a,b,c,d,e,f,g])):∀ us:List Value,us.length=7->bindArgs fd ⟨us,[]⟩=pure (ps.zip us):=ls7 (P:=λus=>bindArgs fd ⟨us,[]⟩=pure (ps.zip us)) h
abbrev GIn (K:PySem.W.Frag) (x:Str) (f:Addr):Prop:=PySem.W.nsIn K mainGlobals x=some (some (.ref f))
section
variable {CX:CXT} {P:Program} {w:World} {K:PySem.W.Frag} {mg:Str->Option Value} {base:Heap} {j k:Nat} {C f:Addr} {fd:FuncData} {x m:Str} {ps:List Str} {sp:Sp}
theorem _root_.L2.Callee.up (c:Callee P w K mg base j x ps sp) (h:j<=k:=by decide):Callee P w K mg base k x ps sp:=c.mono h
theorem _root_.L2.CalleeX.up (c:CalleeX P w K mg base j x ps sp) (h:j<=k:=by decide):CalleeX P w K mg base k x ps sp:=c.mono h
theorem _root_.L2.MCallee.up (c:MCallee CX P w K mg base j C m ps sp) (h:j<=k:=by decide):MCallee CX P w K mg base k C m ps sp:=c.mono h
theorem _root_.L2.MkCallee.up (c:MkCallee CX P w K mg base j x C ps sp) (h:j<=k:=by decide):MkCallee CX P w K mg base k x C ps sp:=c.mono h
theorem _root_.L2.BCallee.up (c:BCallee CX P w K mg base j x m ps sp) (h:j<=k:=by decide):BCallee CX P w K mg base k x m ps sp:=c.mono h
theorem mkC {h:Heap} {q:Str} {st:Stmt} (X:K.In h) (G:h.Ns mainGlobals mg) (F:Fun K m q st f fd) (a:GIn K x f) (O:aQ P w K mg base CX0 k f fd ps sp) (b:Binds K fd ps []):Callee P w K mg base k x ps sp:=⟨_,_,O,b,F.kp,PySem.W.mg_of X G a⟩
theorem mkX {h:Heap} {q:Str} {st:Stmt} (X:K.In h) (G:h.Ns mainGlobals mg) (F:Fun K m q st f fd) (a:GIn K x f) (O:aQ P w K mg base (CX1 P w) k f fd ps sp) (b:Binds K fd ps []):CalleeX P w K mg base k x ps sp:=⟨_,_,O,b,F.kp,PySem.W.mg_of X G a⟩
theorem mkM {q:Str} {st:Stmt} (F:Fun K m q st f fd) (a:PySem.W.findIn K (.ref C) m=some (some (.ref f))) (i:PySem.W.isFn K (.ref f)=true) (O:aQ P w K mg base CX k f fd ps sp) (b:Binds K fd ps []):MCallee CX P w K mg base k C m ps sp:=⟨_,_,⟨a,i,F.kp⟩,O,b⟩
end
theorem all_mk {l:W.OpenLaw} {w:World} {K:W.Frag} {h:Heap} {mg:Str->Option Value} {fa f0 f1 f2 f3 f4 f5 f6 f7 f8 f9 f10 f11 f12 f13 f14 f15 f16 f17 f18 f19 f20 f21 f22 f23 f24 f25 f26 f27 f28 f29 f30 f31 f32 f33 f34 f35 f36 f37 f38 f39 f40 f41 f42 f43 f44 f45 f46 f47 f48 f49 f50 f51 f52 f53 f54 f55 f56 f57 f58 f59 f60 f61 f62 f63:Addr} (X:K.In h) (G:h.Ns mainGlobals mg) (hfa:mg "law" = some (.ref fa))
  {fd0 fd1 fd2 fd3 fd4 fd5 fd6 fd7 fd8 fd9 Cv Cw zL Cy Cz CA CB CC CD CF CG CH CI CJ CK CM CN CO CP CQ CS CT CU CV CW CY CZ C0 C3 zM zN C4 C5 C6 C7 C8 C9 Dc Dd De Df Dg Dh Di Dj Dl Dm Dp Dq Dr Ds Dt Du zO:FuncData}
  {yA yE yN yO yP yQ yR yS yT yU yV yW yX af:Addr}
  (cF:W.nsIn K mainGlobals "TableError" = some (some (.ref yA)))
  (dR:W.nsIn K mainGlobals "NoTable" = some (some (.ref yE)))
  (fu:W.nsIn K mainGlobals "Way" = some (some (.ref yN)))
  (fL:W.nsIn K mainGlobals "First" = some (some (.ref yO)))
  (i3:W.nsIn K mainGlobals "Only" = some (some (.ref yP)))
  (i4:W.nsIn K mainGlobals "Like" = some (some (.ref yQ)))
  (lS:W.nsIn K mainGlobals "Low" = some (some (.ref yR)))
  (i5:W.nsIn K mainGlobals "High" = some (some (.ref yS)))
  (lT:W.nsIn K mainGlobals "Sum" = some (some (.ref yT)))
  (di:W.nsIn K mainGlobals "Domain" = some (some (.ref yU)))
  (dc:W.nsIn K mainGlobals "Numbers" = some (some (.ref yV)))
  (fM:W.nsIn K mainGlobals "Words" = some (some (.ref yW)))
  (fO:W.nsIn K mainGlobals "Table" = some (some (.ref yX)))
  (i6:W.nsIn K mainGlobals "Book" = some (some (.ref af)))
  (a0:GIn K "all_among" f0) (F0:Fun K "all_among" "all_among" Y21 f0 fd0)
  (a1:GIn K "is_word" f1) (F1:Fun K "is_word" "is_word" Y30 f1 fd1)
  (a2:GIn K "is_whole" f2) (F2:Fun K "is_whole" "is_whole" Y29 f2 fd2)
  (a3:GIn K "alike" f3) (F3:Fun K "alike" "alike" Y20 f3 fd3)
  (a4:GIn K "refuse_counts_books" f4) (F4:Fun K "refuse_counts" "refuse_counts" Y53 f4 fd4)
  (a5:GIn K "refuse_names_books" f5) (F5:Fun K "refuse_names" "refuse_names" Y56 f5 fd5)
  (a6:GIn K "refuse_domains" f6) (F6:Fun K "refuse_domains" "refuse_domains" Y55 f6 fd6)
  (a7:GIn K "refuse_rings" f7) (F7:Fun K "refuse_rings" "refuse_rings" Y58 f7 fd7)
  (a8:GIn K "named_among" f8) (F8:Fun K "named_among" "named_among" Y47 f8 fd8)
  (a9:GIn K "table_of" f9) (F9:Fun K "table_of" "table_of" Y61 f9 fd9)
  (a10:GIn K "asks" f10) (F10:Fun K "asks" "asks" Y22 f10 Cv)
  (a11:GIn K "order_of" f11) (F11:Fun K "order_of" "order_of" Y50 f11 Cw)
  (a12:GIn K "put_behind" f12) (F12:Fun K "put_behind" "put_behind" Y52 f12 zL)
  (a13:GIn K "tables_for" f13) (F13:Fun K "tables_for" "tables_for" Y62 f13 Cy)
  (a14:GIn K "needs" f14) (F14:Fun K "needs" "needs" Y49 f14 Cz)
  (a15:GIn K "edges" f15) (F15:Fun K "edges" "edges" Y26 f15 CA)
  (a16:GIn K "way_by" f16) (F16:Fun K "way_by" "way_by" Y63 f16 CB)
  (a17:GIn K "refuse_names_tables" f17) (F17:Fun K "refuse_names" "refuse_names" Y57 f17 CC)
  (a18:GIn K "refuse_counts_tables" f18) (F18:Fun K "refuse_counts" "refuse_counts" Y54 f18 CD)
  (a19:GIn K "refuse_way" f19) (F19:Fun K "refuse_way" "refuse_way" Y60 f19 CF)
  (a20:GIn K "refuse_row" f20) (F20:Fun K "refuse_row" "refuse_row" Y59 f20 CG)
  (a21:GIn K "own_row" f21) (F21:Fun K "own_row" "own_row" Y51 f21 CH)
  (a22:GIn K "gathered" f22) (F22:Fun K "gathered" "gathered" Y28 f22 CI)
  (a23:GIn K "column_marks" f23) (F23:Fun K "column_marks" "column_marks" Y25 f23 CJ)
  (a24:GIn K "book_bounds" f24) (F24:Fun K "book_bounds" "book_bounds" Y23 f24 CK)
  (a25:GIn K "needed_domains" f25) (F25:Fun K "needed_domains" "needed_domains" Y48 f25 CM)
  (a26:GIn K "book_marks" f26) (F26:Fun K "book_marks" "book_marks" Y24 f26 CN)
  (a27:GIn K "fact_marks" f27) (F27:Fun K "fact_marks" "fact_marks" Y27 f27 CO)
  (a28:GIn K "_law_at" f28) (F28:Fun K "_law_at" "_law_at" Y32 f28 CP)
  (a29:GIn K "_law_words" f29) (F29:Fun K "_law_words" "_law_words" Y46 f29 CQ)
  (a30:GIn K "_law_domain" f30) (F30:Fun K "_law_domain" "_law_domain" Y34 f30 CS)
  (a31:GIn K "_law_pool" f31) (F31:Fun K "_law_pool" "_law_pool" Y41 f31 CT)
  (a32:GIn K "_law_spans" f32) (F32:Fun K "_law_spans" "_law_spans" Y44 f32 CU)
  (a33:GIn K "_law_row" f33) (F33:Fun K "_law_row" "_law_row" Y43 f33 CV)
  (a34:GIn K "_law_numbers" f34) (F34:Fun K "_law_numbers" "_law_numbers" Y40 f34 CW)
  (a35:GIn K "_law_book" f35) (F35:Fun K "_law_book" "_law_book" Y33 f35 CY)
  (a36:GIn K "_law_made" f36) (F36:Fun K "_law_made" "_law_made" Y36 f36 CZ)
  (a37:GIn K "_law_table" f37) (F37:Fun K "_law_table" "_law_table" Y45 f37 C0)
  (a38:GIn K "_law_facts" f38) (F38:Fun K "_law_facts" "_law_facts" Y35 f38 C3)
  (a39:GIn K "_law_needs" f39) (F39:Fun K "_law_needs" "_law_needs" Y38 f39 zM)
  (a40:GIn K "_law_reached" f40) (F40:Fun K "_law_reached" "_law_reached" Y42 f40 zN)
  (a41:GIn K "_law_marks" f41) (F41:Fun K "_law_marks" "_law_marks" Y37 f41 C4)
  (a42:GIn K "_law_no_table" f42) (F42:Fun K "_law_no_table" "_law_no_table" Y39 f42 C5)
  (i43:W.findIn K (.ref af) "__init__" = some (some (.ref f43))) (xf:W.isFn K (.ref f43)=true) (xg:W.makesIn K af=true) (xh:W.keepIn K (.ref af)=true) (F43:Fun K "__init__" "Book.__init__" Y0 f43 C6)
  (i44:W.findIn K (.ref yV) "__init__" = some (some (.ref f44))) (xi:W.isFn K (.ref f44)=true) (xj:W.makesIn K yV=true) (xk:W.keepIn K (.ref yV)=true) (F44:Fun K "__init__" "Numbers.__init__" Y9 f44 C7)
  (tj:W.specialIn K (.ref yU) "__getattribute__" = some (some (.builtin "type.__getattribute__"))) (tm:W.readsIn K yU (.type "type")=true) (tq:W.findCls K (.ref yU) (.type "type") "__init__" = some (.val (.ref f45))) (F45:Fun K "__init__" "Domain.__init__" Y1 f45 C8)
  (i46:W.findIn K (.ref yW) "__init__" = some (some (.ref f46))) (xl:W.isFn K (.ref f46)=true) (xm:W.makesIn K yW=true) (xn:W.keepIn K (.ref yW)=true) (F46:Fun K "__init__" "Words.__init__" Y19 f46 C9)
  (tu:W.specialIn K (.ref yU) "__getattribute__" = some (some (.builtin "type.__getattribute__"))) (tw:W.readsIn K yU (.type "type")=true) (tx:W.findCls K (.ref yU) (.type "type") "__init__" = some (.val (.ref f47))) (F47:Fun K "__init__" "Domain.__init__" Y2 f47 Dc)
  (i48:W.findIn K (.ref yX) "__init__" = some (some (.ref f48))) (xo:W.isFn K (.ref f48)=true) (xp:W.makesIn K yX=true) (xq:W.keepIn K (.ref yX)=true) (F48:Fun K "__init__" "Table.__init__" Y12 f48 Dd)
  (i49:W.findIn K (.ref yO) "__init__" = some (some (.ref f49))) (xr:W.isFn K (.ref f49)=true) (xt:W.makesIn K yO=true) (xu:W.keepIn K (.ref yO)=true) (F49:Fun K "__init__" "First.__init__" Y5 f49 De)
  (tD:W.specialIn K (.ref yN) "__getattribute__" = some (some (.builtin "type.__getattribute__"))) (tE:W.readsIn K yN (.type "type")=true) (tF:W.findCls K (.ref yN) (.type "type") "__init__" = some (.val (.ref f50))) (F50:Fun K "__init__" "Way.__init__" Y13 f50 Df)
  (i51:W.findIn K (.ref yP) "__init__" = some (some (.ref f51))) (xv:W.isFn K (.ref f51)=true) (xw:W.makesIn K yP=true) (xx:W.keepIn K (.ref yP)=true) (F51:Fun K "__init__" "Only.__init__" Y10 f51 Dg)
  (tG:W.specialIn K (.ref yN) "__getattribute__" = some (some (.builtin "type.__getattribute__"))) (tH:W.readsIn K yN (.type "type")=true) (tI:W.findCls K (.ref yN) (.type "type") "__init__" = some (.val (.ref f52))) (F52:Fun K "__init__" "Way.__init__" Y17 f52 Dh)
  (i53:W.findIn K (.ref yQ) "__init__" = some (some (.ref f53))) (xy:W.isFn K (.ref f53)=true) (xA:W.makesIn K yQ=true) (xB:W.keepIn K (.ref yQ)=true) (F53:Fun K "__init__" "Like.__init__" Y7 f53 Di)
  (tJ:W.specialIn K (.ref yN) "__getattribute__" = some (some (.builtin "type.__getattribute__"))) (tK:W.readsIn K yN (.type "type")=true) (tL:W.findCls K (.ref yN) (.type "type") "__init__" = some (.val (.ref f54))) (F54:Fun K "__init__" "Way.__init__" Y15 f54 Dj)
  (i55:W.findIn K (.ref yR) "__init__" = some (some (.ref f55))) (xC:W.isFn K (.ref f55)=true) (xD:W.makesIn K yR=true) (xE:W.keepIn K (.ref yR)=true) (F55:Fun K "__init__" "Low.__init__" Y8 f55 Dl)
  (tM:W.specialIn K (.ref yN) "__getattribute__" = some (some (.builtin "type.__getattribute__"))) (tO:W.readsIn K yN (.type "type")=true) (tP:W.findCls K (.ref yN) (.type "type") "__init__" = some (.val (.ref f56))) (F56:Fun K "__init__" "Way.__init__" Y16 f56 Dm)
  (i57:W.findIn K (.ref yS) "__init__" = some (some (.ref f57))) (xF:W.isFn K (.ref f57)=true) (xG:W.makesIn K yS=true) (xH:W.keepIn K (.ref yS)=true) (F57:Fun K "__init__" "High.__init__" Y6 f57 Dp)
  (tQ:W.specialIn K (.ref yN) "__getattribute__" = some (some (.builtin "type.__getattribute__"))) (tR:W.readsIn K yN (.type "type")=true) (tS:W.findCls K (.ref yN) (.type "type") "__init__" = some (.val (.ref f58))) (F58:Fun K "__init__" "Way.__init__" Y14 f58 Dq)
  (i59:W.findIn K (.ref yT) "__init__" = some (some (.ref f59))) (xI:W.isFn K (.ref f59)=true) (xJ:W.makesIn K yT=true) (xK:W.keepIn K (.ref yT)=true) (F59:Fun K "__init__" "Sum.__init__" Y11 f59 Dr)
  (tT:W.specialIn K (.ref yN) "__getattribute__" = some (some (.builtin "type.__getattribute__"))) (tU:W.readsIn K yN (.type "type")=true) (tV:W.findCls K (.ref yN) (.type "type") "__init__" = some (.val (.ref f60))) (F60:Fun K "__init__" "Way.__init__" Y18 f60 Ds)
  (m61:W.findIn K (.ref yV) "has_code" = some (some (.ref f61))) (xM:W.isFn K (.ref f61)=true) (F61:Fun K "has_code" "Domain.has_code" Y3 f61 Dt)
  (m62:W.findIn K (.ref yW) "has_code" = some (some (.ref f62))) (xN:W.isFn K (.ref f62)=true) (F62:Fun K "has_code" "Domain.has_code" Y4 f62 Du)
  (a63:GIn K "law" f63) (F63:Fun K "law" "law" Y31 f63 zO)
  (z0:W.nsIn K mainGlobals "len" = some none)
  (z1:W.nsIn K mainGlobals "isinstance" = some none)
  (z2:W.nsIn K mainGlobals "int" = some none)
  (z3:W.nsIn K mainGlobals "bool" = some none)
  (z4:W.nsIn K mainGlobals "set" = some none)
  (z5:W.nsIn K mainGlobals "dict" = some none)
  (z6:W.nsIn K mainGlobals "zip" = some none)
  (z7:W.nsIn K mainGlobals "list" = some none)
  (z8:W.nsIn K mainGlobals "sorted" = some none)
  (z9:W.nsIn K mainGlobals "range" = some none)
  (z10:W.nsIn K mainGlobals "min" = some none)
  (z11:W.nsIn K mainGlobals "max" = some none)
  {w0:Value} (y0:W.nsIn K mainGlobals "MOST_SIGNS" = some (some w0)) (x0:RelV (V.int 12) w0)
  {w1:Value} (y1:W.nsIn K mainGlobals "SMALL_LETTERS" = some (some w1)) (x1:RelV (V.str "abcdefghijklmnopqrstuvwxyz") w1)
  {w2:Value} (y2:W.nsIn K mainGlobals "MOST_FACTS" = some (some w2)) (x2:RelV (V.int 20) w2)
  {w3:Value} (y3:W.nsIn K mainGlobals "MOST_TABLES" = some (some w3)) (x3:RelV (V.int 30) w3)
  {w4:Value} (y4:W.nsIn K mainGlobals "MOST_ROWS" = some (some w4)) (x4:RelV (V.int 200) w4)
  {w5:Value} (y5:W.nsIn K mainGlobals "MOST_COLUMNS" = some (some w5)) (x5:RelV (V.int 4) w5)
  {w6:Value} (y6:W.nsIn K mainGlobals "MOST_WORDS" = some (some w6)) (x6:RelV (V.int 40) w6)
  (x_NoTable:W.excIn K yE [.type "ValueError",.type "Exception",.type "BaseException",.type "object"] "ValueError.__new__" = true)
  (gK:W.findIn K (.ref yE) "__getattribute__" = some (some (.builtin "BaseException.__getattribute__")))
  (gL:W.findIn K (.ref yE) "__getattr__" = some none)
  (gM:W.findIn K (.ref yE) "__class__" = some (some (.builtin "object.__class__")))
  (gN:W.specialIn K (.builtin "object.__class__") "__get__" = some (some (.builtin "getset_descriptor.__get__")))
  (gO:W.takesIn K (.builtin "object.__class__")=some true)
  (gP:W.mroIn K yE (.type "object")=some true)
  (gQ:W.mroIn K yE (.type "BaseException")=some true)
  (gR:W.kitCls K (.ref yE) (.ref yE)=some true)
  (iy:W.plainGet K yO Str.empty=true) (iz:W.hasDictIn K yO=true) (iA:W.plainOver K yO=true) (iB:W.findIn K (.ref yO) "__setattr__" = some (some (.builtin "object.__setattr__")))
  (jD:W.plainGet K yP Str.empty=true) (jE:W.hasDictIn K yP=true) (jF:W.plainOver K yP=true) (jG:W.findIn K (.ref yP) "__setattr__" = some (some (.builtin "object.__setattr__")))
  (jH:W.plainGet K yQ Str.empty=true) (jI:W.hasDictIn K yQ=true) (jJ:W.plainOver K yQ=true) (jK:W.findIn K (.ref yQ) "__setattr__" = some (some (.builtin "object.__setattr__")))
  (mW:W.plainGet K yR Str.empty=true) (mX:W.hasDictIn K yR=true) (mY:W.plainOver K yR=true) (mZ:W.findIn K (.ref yR) "__setattr__" = some (some (.builtin "object.__setattr__")))
  (jL:W.plainGet K yS Str.empty=true) (jM:W.hasDictIn K yS=true) (jN:W.plainOver K yS=true) (jO:W.findIn K (.ref yS) "__setattr__" = some (some (.builtin "object.__setattr__")))
  (m4:W.plainGet K yT Str.empty=true) (m5:W.hasDictIn K yT=true) (m6:W.plainOver K yT=true) (m7:W.findIn K (.ref yT) "__setattr__" = some (some (.builtin "object.__setattr__")))
  (eK:W.plainGet K yV Str.empty=true) (eL:W.hasDictIn K yV=true) (eM:W.plainOver K yV=true) (eO:W.findIn K (.ref yV) "__setattr__" = some (some (.builtin "object.__setattr__")))
  (iC:W.plainGet K yW Str.empty=true) (iD:W.hasDictIn K yW=true) (iE:W.plainOver K yW=true) (iF:W.findIn K (.ref yW) "__setattr__" = some (some (.builtin "object.__setattr__")))
  (iG:W.plainGet K yX Str.empty=true) (iH:W.hasDictIn K yX=true) (iI:W.plainOver K yX=true) (iJ:W.findIn K (.ref yX) "__setattr__" = some (some (.builtin "object.__setattr__")))
  (jP:W.plainGet K af Str.empty=true) (jQ:W.hasDictIn K af=true) (jR:W.plainOver K af=true) (jS:W.findIn K (.ref af) "__setattr__" = some (some (.builtin "object.__setattr__")))
  (kI:W.findIn K (.ref yO) "__class__" = some (some (.builtin "object.__class__"))) (kJ:W.specialIn K (.builtin "object.__class__") "__get__" = some (some (.builtin "getset_descriptor.__get__"))) (kK:W.takesIn K (.builtin "object.__class__")=some true) (kL:W.mroIn K yO (.type "object")=some true)
  (m8:W.findIn K (.ref yP) "__class__" = some (some (.builtin "object.__class__"))) (m9:W.specialIn K (.builtin "object.__class__") "__get__" = some (some (.builtin "getset_descriptor.__get__"))) (nc:W.takesIn K (.builtin "object.__class__")=some true) (ng:W.mroIn K yP (.type "object")=some true)
  (nh:W.findIn K (.ref yQ) "__class__" = some (some (.builtin "object.__class__"))) (ni:W.specialIn K (.builtin "object.__class__") "__get__" = some (some (.builtin "getset_descriptor.__get__"))) (nj:W.takesIn K (.builtin "object.__class__")=some true) (nk:W.mroIn K yQ (.type "object")=some true)
  (pO:W.findIn K (.ref yR) "__class__" = some (some (.builtin "object.__class__"))) (pP:W.specialIn K (.builtin "object.__class__") "__get__" = some (some (.builtin "getset_descriptor.__get__"))) (pQ:W.takesIn K (.builtin "object.__class__")=some true) (pR:W.mroIn K yR (.type "object")=some true)
  (nq:W.findIn K (.ref yS) "__class__" = some (some (.builtin "object.__class__"))) (nr:W.specialIn K (.builtin "object.__class__") "__get__" = some (some (.builtin "getset_descriptor.__get__"))) (nt:W.takesIn K (.builtin "object.__class__")=some true) (nv:W.mroIn K yS (.type "object")=some true)
  (pS:W.findIn K (.ref yT) "__class__" = some (some (.builtin "object.__class__"))) (pT:W.specialIn K (.builtin "object.__class__") "__get__" = some (some (.builtin "getset_descriptor.__get__"))) (pU:W.takesIn K (.builtin "object.__class__")=some true) (pV:W.mroIn K yT (.type "object")=some true)
  (gU:W.findIn K (.ref yV) "__class__" = some (some (.builtin "object.__class__"))) (gW:W.specialIn K (.builtin "object.__class__") "__get__" = some (some (.builtin "getset_descriptor.__get__"))) (gX:W.takesIn K (.builtin "object.__class__")=some true) (gY:W.mroIn K yV (.type "object")=some true)
  (kM:W.findIn K (.ref yW) "__class__" = some (some (.builtin "object.__class__"))) (kN:W.specialIn K (.builtin "object.__class__") "__get__" = some (some (.builtin "getset_descriptor.__get__"))) (kO:W.takesIn K (.builtin "object.__class__")=some true) (kP:W.mroIn K yW (.type "object")=some true)
  (kQ:W.findIn K (.ref yX) "__class__" = some (some (.builtin "object.__class__"))) (kR:W.specialIn K (.builtin "object.__class__") "__get__" = some (some (.builtin "getset_descriptor.__get__"))) (kS:W.takesIn K (.builtin "object.__class__")=some true) (kT:W.mroIn K yX (.type "object")=some true)
  (nA:W.findIn K (.ref af) "__class__" = some (some (.builtin "object.__class__"))) (nB:W.specialIn K (.builtin "object.__class__") "__get__" = some (some (.builtin "getset_descriptor.__get__"))) (nC:W.takesIn K (.builtin "object.__class__")=some true) (nE:W.mroIn K af (.type "object")=some true)
  (na_First_called:W.findIn K (.ref yO) "called" = some none)
  (na_Only_called:W.findIn K (.ref yP) "called" = some none)
  (na_Like_called:W.findIn K (.ref yQ) "called" = some none)
  (na_Low_called:W.findIn K (.ref yR) "called" = some none)
  (na_High_called:W.findIn K (.ref yS) "called" = some none)
  (na_Sum_called:W.findIn K (.ref yT) "called" = some none)
  (na_Numbers_low:W.findIn K (.ref yV) "low" = some none)
  (na_Numbers_high:W.findIn K (.ref yV) "high" = some none)
  (cb:W.findIn K (.ref yV) "words" = some none)
  (na_Words_low:W.findIn K (.ref yW) "low" = some none)
  (na_Words_high:W.findIn K (.ref yW) "high" = some none)
  (na_Words_words:W.findIn K (.ref yW) "words" = some none)
  (na_Table_name:W.findIn K (.ref yX) "name" = some none)
  (na_Table_names:W.findIn K (.ref yX) "names" = some none)
  (na_Table_domains:W.findIn K (.ref yX) "domains" = some none)
  (na_Table_outcome:W.findIn K (.ref yX) "outcome" = some none)
  (na_Table_way:W.findIn K (.ref yX) "way" = some none)
  (na_Table_rows:W.findIn K (.ref yX) "rows" = some none)
  (na_Book_facts:W.findIn K (.ref af) "facts" = some none)
  (na_Book_tables:W.findIn K (.ref af) "tables" = some none)
  (f_nn:W.kitOne K (.ref yV) (.ref yV)=some true)
  (f_wn:W.kitOne K (.ref yW) (.ref yV)=some false)
  (f_ww:W.kitOne K (.ref yW) (.ref yW)=some true)
  (uG:W.kitOne K (.ref yX) (.ref yX)=some true)
  (f_nw:W.kitOne K (.ref yV) (.ref yW)=some false)
  (fP:W.exmOne K (.ref yE) (.ref yA)=some true)
  (e2_NoTable:W.exmOne K (.ref yE) (.ref yE)=some true)
  (fQ:W.kitOne K (.ref yE) (.ref yA)=some true)
  (fR:W.kitOne K (.ref yE) (.ref yE)=some true)
  : ∃ fd:FuncData,(∀ (s:Shared) (v:Value),BindsTo s fd ⟨[v],[]⟩ [("script",v)])/\∀ base:Heap,K.In base->base.Ns mainGlobals mg->aQ l.prog w K mg base CX0 22 fa fd ["script"] (J31 K):=by
 have e:=hfa.symm.trans (W.mg_of X G a63)
 cases e
 have bl:Bl K mg yA yE yN yO yP yQ yR yS yT yU yV yW yX af:=⟨W.mg_of X G cF,cF,W.mg_of X G dR,dR,W.mg_of X G fu,fu,W.mg_of X G fL,fL,W.mg_of X G i3,i3,W.mg_of X G i4,i4,W.mg_of X G lS,lS,W.mg_of X G i5,i5,W.mg_of X G lT,lT,W.mg_of X G di,di,W.mg_of X G dc,dc,W.mg_of X G fM,fM,W.mg_of X G fO,fO,W.mg_of X G i6,i6,gx.value x_NoTable,⟨gK,gL,gM,gN,gO,gP,gQ,gR⟩,⟨iy,iz,iA,iB⟩,⟨jD,jE,jF,jG⟩,⟨jH,jI,jJ,jK⟩,⟨mW,mX,mY,mZ⟩,⟨jL,jM,jN,jO⟩,⟨m4,m5,m6,m7⟩,⟨eK,eL,eM,eO⟩,⟨iC,iD,iE,iF⟩,⟨iG,iH,iI,iJ⟩,⟨jP,jQ,jR,jS⟩,⟨⟨iy,iz,iA,iB⟩,kI,kJ,kK,kL⟩,⟨⟨jD,jE,jF,jG⟩,m8,m9,nc,ng⟩,⟨⟨jH,jI,jJ,jK⟩,nh,ni,nj,nk⟩,⟨⟨mW,mX,mY,mZ⟩,pO,pP,pQ,pR⟩,⟨⟨jL,jM,jN,jO⟩,nq,nr,nt,nv⟩,⟨⟨m4,m5,m6,m7⟩,pS,pT,pU,pV⟩,⟨⟨eK,eL,eM,eO⟩,gU,gW,gX,gY⟩,⟨⟨iC,iD,iE,iF⟩,kM,kN,kO,kP⟩,⟨⟨iG,iH,iI,iJ⟩,kQ,kR,kS,kT⟩,⟨⟨jP,jQ,jR,jS⟩,nA,nB,nC,nE⟩,na_First_called,na_Only_called,na_Like_called,na_Low_called,na_High_called,na_Sum_called,na_Numbers_low,na_Numbers_high,cb,na_Words_low,na_Words_high,na_Words_words,na_Table_name,na_Table_names,na_Table_domains,na_Table_outcome,na_Table_way,na_Table_rows,na_Book_facts,na_Book_tables,f_nn,f_wn,f_ww,uG,f_nw,fP,e2_NoTable,fQ,fR,W.mg_none_of X G z0,W.mg_none_of X G z1,W.mg_none_of X G z2,W.mg_none_of X G z3,W.mg_none_of X G z4,W.mg_none_of X G z5,W.mg_none_of X G z6,W.mg_none_of X G z7,W.mg_none_of X G z8,W.mg_none_of X G z9,W.mg_none_of X G z10,W.mg_none_of X G z11,⟨_,W.mg_of X G y0,x0⟩,⟨_,W.mg_of X G y1,x1⟩,⟨_,W.mg_of X G y2,x2⟩,⟨_,W.mg_of X G y3,x3⟩,⟨_,W.mg_of X G y4,x4⟩,⟨_,W.mg_of X G y5,x5⟩,⟨_,W.mg_of X G y6,x6⟩⟩
 refine ⟨zO,λs v=>by obtain ⟨_,_,_,_,_,_,_,_,_,e,_,_⟩:=F63.ex;rw [e];exact .of_eq rfl,λbase _ _=>?_⟩
 have O0:=Ba (P:=l.prog) (w:=w) (base:=base) F0 bl
 have oJ:=mkC X G F0 a0 O0 (F0.binds λ_ _ _ _ _ _=>lb2 λ_ _=>rfl)
 have O2:=Bb (P:=l.prog) (w:=w) (base:=base) F2 bl
 have kU:=mkC X G F2 a2 O2 (F2.binds λ_ _ _ _ _ _=>lb1 λ_=>rfl)
 have O3:=Bc (P:=l.prog) (w:=w) (base:=base) F3 bl
 have uW:=mkC X G F3 a3 O3 (F3.binds λ_ _ _ _ _ _=>lb2 λ_ _=>rfl)
 have O4:=Be (P:=l.prog) (w:=w) (base:=base) F4 bl
 have eZ:=mkC X G F4 a4 O4 (F4.binds λ_ _ _ _ _ _=>lb2 λ_ _=>rfl)
 have O8:=Bf (P:=l.prog) (w:=w) (base:=base) F8 bl
 have gq:=mkC X G F8 a8 O8 (F8.binds λ_ _ _ _ _ _=>lb2 λ_ _=>rfl)
 have O9:=Bg (P:=l.prog) (w:=w) (base:=base) F9 bl
 have kW:=mkX X G F9 a9 O9 (F9.binds λ_ _ _ _ _ _=>lb2 λ_ _=>rfl)
 have O15:=Bh (P:=l.prog) (w:=w) (base:=base) F15 bl
 have uX:=mkC X G F15 a15 O15 (F15.binds λ_ _ _ _ _ _=>lb3 λ_ _ _=>rfl)
 have O18:=Bi (P:=l.prog) (w:=w) (base:=base) F18 bl
 have eP:=mkC X G F18 a18 O18 (F18.binds λ_ _ _ _ _ _=>lb2 λ_ _=>rfl)
 have O21:=Bj (P:=l.prog) (w:=w) (base:=base) F21 bl
 have rn:=mkC X G F21 a21 O21 (F21.binds λ_ _ _ _ _ _=>lb2 λ_ _=>rfl)
 have O22:=Bk (P:=l.prog) (w:=w) (base:=base) F22 bl
 have kX:=mkC X G F22 a22 O22 (F22.binds λ_ _ _ _ _ _=>lb1 λ_=>rfl)
 have O28:=Bm (P:=l.prog) (w:=w) (base:=base) F28 bl
 have tW:=mkC X G F28 a28 O28 (F28.binds λ_ _ _ _ _ _=>lb2 λ_ _=>rfl)
 have O29:=Bo (P:=l.prog) (w:=w) (base:=base) F29 bl
 have ji:=mkC X G F29 a29 O29 (F29.binds λ_ _ _ _ _ _=>lb2 λ_ _=>rfl)
 have O31:=Bp (P:=l.prog) (w:=w) (base:=base) F31 bl
 have pW:=mkC X G F31 a31 O31 (F31.binds λ_ _ _ _ _ _=>lb3 λ_ _ _=>rfl)
 have O32:=Bq (P:=l.prog) (w:=w) (base:=base) F32 bl
 have oK:=mkC X G F32 a32 O32 (F32.binds λ_ _ _ _ _ _=>lb4 λ_ _ _ _=>rfl)
 have O34:=Br (P:=l.prog) (w:=w) (base:=base) F34 bl
 have ly:=mkC X G F34 a34 O34 (F34.binds λ_ _ _ _ _ _=>lb2 λ_ _=>rfl)
 have O45:=O_1 (P:=l.prog) (w:=w) (base:=base) F45 bl
 have du:BCallee CX0 l.prog w K mg base 1 "Domain" "__init__" ["self", "low", "high"] (J1 K yV):=⟨_,_,_,⟨tj,tm,tq,F45.kp⟩,O45,(F45.binds λ_ _ _ _ _ _=>lb3 λ_ _ _=>rfl),W.mg_of X G di⟩
 have O47:=O_2 (P:=l.prog) (w:=w) (base:=base) F47 bl
 have d6:BCallee CX0 l.prog w K mg base 1 "Domain" "__init__" ["self", "low", "high"] (J2 K yW):=⟨_,_,_,⟨tu,tw,tx,F47.kp⟩,O47,(F47.binds λ_ _ _ _ _ _=>lb3 λ_ _ _=>rfl),W.mg_of X G di⟩
 have O50:=Bs (P:=l.prog) (w:=w) (base:=base) F50 bl
 have fA:BCallee CX0 l.prog w K mg base 1 "Way" "__init__" ["self", "called"] (J13 K yO):=⟨_,_,_,⟨tD,tE,tF,F50.kp⟩,O50,(F50.binds λ_ _ _ _ _ _=>lb2 λ_ _=>rfl),W.mg_of X G fu⟩
 have O52:=Bt (P:=l.prog) (w:=w) (base:=base) F52 bl
 have gc:BCallee CX0 l.prog w K mg base 1 "Way" "__init__" ["self", "called"] (J17 K yP):=⟨_,_,_,⟨tG,tH,tI,F52.kp⟩,O52,(F52.binds λ_ _ _ _ _ _=>lb2 λ_ _=>rfl),W.mg_of X G fu⟩
 have O54:=Bu (P:=l.prog) (w:=w) (base:=base) F54 bl
 have gf:BCallee CX0 l.prog w K mg base 1 "Way" "__init__" ["self", "called"] (J15 K yQ):=⟨_,_,_,⟨tJ,tK,tL,F54.kp⟩,O54,(F54.binds λ_ _ _ _ _ _=>lb2 λ_ _=>rfl),W.mg_of X G fu⟩
 have O56:=Bv (P:=l.prog) (w:=w) (base:=base) F56 bl
 have gZ:BCallee CX0 l.prog w K mg base 1 "Way" "__init__" ["self", "called"] (J16 K yR):=⟨_,_,_,⟨tM,tO,tP,F56.kp⟩,O56,(F56.binds λ_ _ _ _ _ _=>lb2 λ_ _=>rfl),W.mg_of X G fu⟩
 have O58:=Bw (P:=l.prog) (w:=w) (base:=base) F58 bl
 have gg:BCallee CX0 l.prog w K mg base 1 "Way" "__init__" ["self", "called"] (J14 K yS):=⟨_,_,_,⟨tQ,tR,tS,F58.kp⟩,O58,(F58.binds λ_ _ _ _ _ _=>lb2 λ_ _=>rfl),W.mg_of X G fu⟩
 have O60:=Bx (P:=l.prog) (w:=w) (base:=base) F60 bl
 have hU:BCallee CX0 l.prog w K mg base 1 "Way" "__init__" ["self", "called"] (J18 K yT):=⟨_,_,_,⟨tT,tU,tV,F60.kp⟩,O60,(F60.binds λ_ _ _ _ _ _=>lb2 λ_ _=>rfl),W.mg_of X G fu⟩
 have O1:=By (P:=l.prog) (w:=w) (base:=base) F1 bl oJ.up
 have jc:=mkC X G F1 a1 O1 (F1.binds λ_ _ _ _ _ _=>lb1 λ_=>rfl)
 have O6:=Bz (P:=l.prog) (w:=w) (base:=base) F6 bl uW.up
 have jd:=mkC X G F6 a6 O6 (F6.binds λ_ _ _ _ _ _=>lb2 λ_ _=>rfl)
 have O7:=BB (P:=l.prog) (w:=w) (base:=base) F7 bl gq.up
 have kY:=mkC X G F7 a7 O7 (F7.binds λ_ _ _ _ _ _=>lb1 λ_=>rfl)
 have O10:=BC (P:=l.prog) (w:=w) (base:=base) F10 bl gq.up kW.up
 have xO:=mkX X G F10 a10 O10 (F10.binds λ_ _ _ _ _ _=>lb2 λ_ _=>rfl)
 have O23:=BD (P:=l.prog) (w:=w) (base:=base) F23 bl kX.up uX.up
 have kZ:=mkC X G F23 a23 O23 (F23.binds λ_ _ _ _ _ _=>lb2 λ_ _=>rfl)
 have O30:=BG (P:=l.prog) (w:=w) (base:=base) F30 bl ji.up
 have nF:=mkC X G F30 a30 O30 (F30.binds λ_ _ _ _ _ _=>lb1 λ_=>rfl)
 have O33:=BH (P:=l.prog) (w:=w) (base:=base) F33 bl oK.up
 have rq:=mkC X G F33 a33 O33 (F33.binds λ_ _ _ _ _ _=>lb5 λ_ _ _ _ _=>rfl)
 have O44:=O_9 (P:=l.prog) (w:=w) (base:=base) F44 bl du.up
 have dn:MkCallee CX0 l.prog w K mg base 2 "Numbers" yV ["self", "low", "high"] (J9 K yV):=⟨_,_,⟨xj,i44,xi,xk⟩,O44,(F44.binds λ_ _ _ _ _ _=>lb3 λ_ _ _=>rfl),W.mg_of X G dc⟩
 have O49:=O_5 (P:=l.prog) (w:=w) (base:=base) F49 bl fA.up
 have eQ:MkCallee CX0 l.prog w K mg base 2 "First" yO ["self"] (J5 K yO):=⟨_,_,⟨xt,i49,xr,xu⟩,O49,(F49.binds λ_ _ _ _ _ _=>lb1 λ_=>rfl),W.mg_of X G fL⟩
 have O51:=BI (P:=l.prog) (w:=w) (base:=base) F51 bl gc.up
 have fB:MkCallee CX0 l.prog w K mg base 2 "Only" yP ["self"] (J10 K yP):=⟨_,_,⟨xw,i51,xv,xx⟩,O51,(F51.binds λ_ _ _ _ _ _=>lb1 λ_=>rfl),W.mg_of X G i3⟩
 have O53:=O_7 (P:=l.prog) (w:=w) (base:=base) F53 bl gf.up
 have fC:MkCallee CX0 l.prog w K mg base 2 "Like" yQ ["self"] (J7 K yQ):=⟨_,_,⟨xA,i53,xy,xB⟩,O53,(F53.binds λ_ _ _ _ _ _=>lb1 λ_=>rfl),W.mg_of X G i4⟩
 have O55:=O_8 (P:=l.prog) (w:=w) (base:=base) F55 bl gZ.up
 have hV:MkCallee CX0 l.prog w K mg base 2 "Low" yR ["self"] (J8 K yR):=⟨_,_,⟨xD,i55,xC,xE⟩,O55,(F55.binds λ_ _ _ _ _ _=>lb1 λ_=>rfl),W.mg_of X G lS⟩
 have O57:=O_6 (P:=l.prog) (w:=w) (base:=base) F57 bl gg.up
 have fD:MkCallee CX0 l.prog w K mg base 2 "High" yS ["self"] (J6 K yS):=⟨_,_,⟨xG,i57,xF,xH⟩,O57,(F57.binds λ_ _ _ _ _ _=>lb1 λ_=>rfl),W.mg_of X G i5⟩
 have O59:=BJ (P:=l.prog) (w:=w) (base:=base) F59 bl hU.up
 have hX:MkCallee CX0 l.prog w K mg base 2 "Sum" yT ["self"] (J11 K yT):=⟨_,_,⟨xJ,i59,xI,xK⟩,O59,(F59.binds λ_ _ _ _ _ _=>lb1 λ_=>rfl),W.mg_of X G lT⟩
 have O61:=O_3 (P:=l.prog) (w:=w) (base:=base) F61 bl kU.up
 have dw:=mkM F61 m61 xM O61 (F61.binds λ_ _ _ _ _ _=>lb2 λ_ _=>rfl)
 have O62:=O_4 (P:=l.prog) (w:=w) (base:=base) F62 bl kU.up
 have d7:=mkM F62 m62 xN O62 (F62.binds λ_ _ _ _ _ _=>lb2 λ_ _=>rfl)
 have O5:=BK (P:=l.prog) (w:=w) (base:=base) F5 bl jc.up
 have fE:=mkC X G F5 a5 O5 (F5.binds λ_ _ _ _ _ _=>lb2 λ_ _=>rfl)
 have O17:=BM (P:=l.prog) (w:=w) (base:=base) F17 bl jc.up
 have fe:=mkC X G F17 a17 O17 (F17.binds λ_ _ _ _ _ _=>lb1 λ_=>rfl)
 have O20:=BN (P:=l.prog) (w:=w) (base:=base) F20 bl dw.up d7.up
 have nG:=mkC X G F20 a20 O20 (F20.binds λ_ _ _ _ _ _=>lb4 λ_ _ _ _=>rfl)
 have O27:=BO (P:=l.prog) (w:=w) (base:=base) F27 bl kX.up kZ.up
 have nH:=mkC X G F27 a27 O27 (F27.binds λ_ _ _ _ _ _=>lb2 λ_ _=>rfl)
 have O35:=BR (P:=l.prog) (w:=w) (base:=base) F35 bl ly.up nF.up pW.up tW.up ji.up rq.up
 have pX:=mkC X G F35 a35 O35 (F35.binds λ_ _ _ _ _ _=>lb1 λ_=>rfl)
 have O46:=BV (P:=l.prog) (w:=w) (base:=base) F46 bl d6.up jc.up
 have eR:MkCallee CX0 l.prog w K mg base 3 "Words" yW ["self", "words"] (J19 K yW):=⟨_,_,⟨xm,i46,xl,xn⟩,O46,(F46.binds λ_ _ _ _ _ _=>lb2 λ_ _=>rfl),W.mg_of X G fM⟩
 have O16:=BX (P:=l.prog) (w:=w) (base:=base) F16 bl eQ.up fB.up fC.up hV.up fD.up hX.up
 have tX:=mkC X G F16 a16 O16 (F16.binds λ_ _ _ _ _ _=>lb1 λ_=>rfl)
 have O43:=O_0 (P:=l.prog) (w:=w) (base:=base) F43 bl eZ.up fE.up jd.up kY.up
 have fF:MkCallee CX0 l.prog w K mg base 4 "Book" af ["self", "facts", "tables"] (J0 K yV yW yX af):=⟨_,_,⟨xg,i43,xf,xh⟩,O43,(F43.binds λ_ _ _ _ _ _=>lb3 λ_ _ _=>rfl),W.mg_of X G i6⟩
 have O19:=BY (P:=l.prog) (w:=w) (base:=base) F19 bl tX.up
 have nI:=mkC X G F19 a19 O19 (F19.binds λ_ _ _ _ _ _=>lb2 λ_ _=>rfl)
 have O36:=BZ (P:=l.prog) (w:=w) (base:=base) F36 bl dn.up eR.up
 have lg:=mkC X G F36 a36 O36 (F36.binds λ_ _ _ _ _ _=>lb1 λ_=>rfl)
 have O38:=B1 (P:=l.prog) (w:=w) (base:=base) F38 bl lg.up
 have oM:=mkC X G F38 a38 O38 (F38.binds λ_ _ _ _ _ _=>lb1 λ_=>rfl)
 have O48:=B2 (P:=l.prog) (w:=w) (base:=base) F48 bl fe.up eP.up nI.up nG.up rn.up
 have eS:MkCallee CX0 l.prog w K mg base 6 "Table" yX ["self", "name", "names", "domains", "outcome", "way", "rows"] (J12 K yV yW yX):=⟨_,_,⟨xp,i48,xo,xq⟩,O48,(F48.binds λ_ _ _ _ _ _=>lb7 λ_ _ _ _ _ _ _=>rfl),W.mg_of X G fO⟩
 have O37:=B3 (P:=l.prog) (w:=w) (base:=base) F37 bl eS.up lg.up
 have oN:=mkC X G F37 a37 O37 (F37.binds λ_ _ _ _ _ _=>lb2 λ_ _=>rfl)
 have R39:∀ n:Nat,aQ l.prog w K mg base CX0 (0+n) f39 zM ["plan", "k"] (J38 K yA yE yN yO yP yQ yR yS yT yU yV yW yX af n):=λn=>by
  induction n with
  | zero=>exact aQ.no λvs H Q E h=>mM h
  | succ n ih=>exact B7 (k:=0+n) (P:=l.prog) (w:=w) (base:=base) F39 bl ⟨_,_,ih,(F39.binds λ_ _ _ _ _ _=>lb2 λ_ _=>rfl),F39.kp,W.mg_of X G a39⟩
 have O39:=R39 8
 have oO:=mkC X G F39 a39 O39 (F39.binds λ_ _ _ _ _ _=>lb2 λ_ _=>rfl)
 have R40:∀ n:Nat,aQ l.prog w K mg base CX0 (0+n) f40 zN ["plan", "k"] (J42 K yA yE yN yO yP yQ yR yS yT yU yV yW yX af n):=λn=>by
  induction n with
  | zero=>exact aQ.no λvs H Q E h=>kE h
  | succ n ih=>exact B8 (k:=0+n) (P:=l.prog) (w:=w) (base:=base) F40 bl ⟨_,_,ih,(F40.binds λ_ _ _ _ _ _=>lb2 λ_ _=>rfl),F40.kp,W.mg_of X G a40⟩
 have O40:=R40 8
 have lz:=mkC X G F40 a40 O40 (F40.binds λ_ _ _ _ _ _=>lb2 λ_ _=>rfl)
 have O41:=B9 (P:=l.prog) (w:=w) (base:=base) F41 bl lz.up
 have oP:=mkC X G F41 a41 O41 (F41.binds λ_ _ _ _ _ _=>lb3 λ_ _ _=>rfl)
 have R12:∀ n:Nat,aQ l.prog w K mg base (CX1 l.prog w) (2+n) f12 zL ["book", "name", "order"] (J52 K yA yE yN yO yP yQ yR yS yT yU yV yW yX af n):=λn=>by
  induction n with
  | zero=>exact aQ.no λvs H Q E h=>lr h
  | succ n ih=>exact Ce (k:=2+n) (P:=l.prog) (w:=w) (base:=base) F12 bl (xO.mono (by omega)) ⟨_,_,ih,(F12.binds λ_ _ _ _ _ _=>lb3 λ_ _ _=>rfl),F12.kp,W.mg_of X G a12⟩
 have O12:=R12 13
 have nJ:=mkX X G F12 a12 O12 (F12.binds λ_ _ _ _ _ _=>lb3 λ_ _ _=>rfl)
 have O11:=Cf (P:=l.prog) (w:=w) (base:=base) F11 bl nJ.up
 have pY:=mkX X G F11 a11 O11 (F11.binds λ_ _ _ _ _ _=>lb2 λ_ _=>rfl)
 have O13:=Cg (P:=l.prog) (w:=w) (base:=base) F13 bl kW.up pY.up
 have iK:=mkX X G F13 a13 O13 (F13.binds λ_ _ _ _ _ _=>lb2 λ_ _=>rfl)
 have O14:=Ci (P:=l.prog) (w:=w) (base:=base) F14 bl iK.up
 have qv:=mkX X G F14 a14 O14 (F14.binds λ_ _ _ _ _ _=>lb2 λ_ _=>rfl)
 have O25:=Cj (P:=l.prog) (w:=w) (base:=base) F25 bl qv.up
 have je:=mkX X G F25 a25 O25 (F25.binds λ_ _ _ _ _ _=>lb2 λ_ _=>rfl)
 have O26:=Ck (P:=l.prog) (w:=w) (base:=base) F26 bl iK.up nH.up qv.up
 have iL:=mkX X G F26 a26 O26 (F26.binds λ_ _ _ _ _ _=>lb2 λ_ _=>rfl)
 have O24:=Cm (P:=l.prog) (w:=w) (base:=base) F24 bl je.up
 have gs:=mkX X G F24 a24 O24 (F24.binds λ_ _ _ _ _ _=>lb2 λ_ _=>rfl)
 have O42:=Cn (P:=l.prog) (w:=w) (base:=base) F42 bl gs.up iL.up
 have lh:=mkC X G F42 a42 O42 (F42.binds λ_ _ _ _ _ _=>lb3 λ_ _ _=>rfl)
 exact Co F63 bl pX.up fF.up oM.up oO.up gs.up iL.up lh.up oN.up oP.up
theorem walk {l:W.OpenLaw} {q:Program} {loose:List Str} {XP:(Str->Option Value)->Heap->Prop} {YP:World->Heap->Prop} {d:DefRec} {K:Params->W.Frag} (hn:l.most=some 63) (hdf:d.params.defaults=[])
  (hY:∀ (w:World) (h:Heap),YP w h->(K w.params).In h)
  (F:∀ (w:World) (mg:Str->Option Value) (fa:Addr) (h:Heap),(K w.params).In h->h.Ns mainGlobals mg->mg d.name=some (.ref fa) ->
   ∃ fd:FuncData,(∀ (s:Shared) (u:Value),BindsTo s fd ⟨[u],[]⟩ [("script",u)])/\∀ base:Heap,(K w.params).In base->base.Ns mainGlobals mg->aQ l.prog w (K w.params) mg base CX0 22 fa fd ["script"] (J31 (K w.params))) :
  W.WalkO q loose XP YP l.row.toRowW d [] (λf vs=>PySem.call f vs) :=
 L2.walk_of (n:=63) (k:=22) (x := "script") (CX:=λ_=>CX0) (sp:=λw=>J31 (K w.params)) hn (by decide) hdf ⟨rfl,by decide,by decide⟩ hY F (λ_ _ a ns hl _ hS=>⟨a,ns,rfl,hS,hl,λ_=>rfl⟩) λ_ _ _ _ _ z=>z
end My
namespace PySem.W.Fast
theorem tw16171445819236847310:True:=⟨⟩
theorem tw17244377717026848396:True:=⟨⟩
theorem tw13182592150357287092:True:=⟨⟩
theorem tw13250090524346433517:True:=⟨⟩
theorem tw13692921610054422127:True:=⟨⟩
theorem tw1032629652433540251:True:=⟨⟩
theorem tw305611678286749286:True:=⟨⟩
theorem tw3793767115296691868:True:=⟨⟩
theorem tw2600812726111631799:True:=⟨⟩
theorem tw7626391919925222097:True:=⟨⟩
theorem tw7265517513746363525:True:=⟨⟩
theorem tw8331631162353618575:True:=⟨⟩
theorem tw6577305444281427569:True:=⟨⟩
theorem tw12814434643637741187:True:=⟨⟩
theorem tw7970994614347786315:True:=⟨⟩
theorem tw1143657406515199948:True:=⟨⟩
theorem tw17749639819113011296:True:=⟨⟩
theorem tw12762606255327431303:True:=⟨⟩
theorem tw16054190412592869521:True:=⟨⟩
theorem tw15214448275277794076:True:=⟨⟩
theorem tw3709912660425612432:True:=⟨⟩
theorem tw16018880530039084095:True:=⟨⟩
theorem tw872120635044854722:True:=⟨⟩
theorem tw17466217583168386626:True:=⟨⟩
theorem tw15395128808841637883:True:=⟨⟩
theorem tw15270401808573533100:True:=⟨⟩
theorem tw3434570421478078003:True:=⟨⟩
theorem tw10586032566823914870:True:=⟨⟩
theorem tw14553332191347274256:True:=⟨⟩
theorem tw6803186138506239907:True:=⟨⟩
theorem tw3142760945829290542:True:=⟨⟩
theorem tw9689912290996575276:True:=⟨⟩
theorem tw4473991136920888806:True:=⟨⟩
theorem tw13693860384854634520:True:=⟨⟩
theorem tw18091158336613849241:True:=⟨⟩
theorem tw15268946840715169823:True:=⟨⟩
theorem tw5476107448490794245:True:=⟨⟩
theorem tw15306975416268865332:True:=⟨⟩
theorem tw4093980719875239727:True:=⟨⟩
theorem tw8857726913732318370:True:=⟨⟩
theorem tw8189422736253171442:True:=⟨⟩
theorem tw17531103558112881439:True:=⟨⟩
theorem tw15731554007269023470:True:=⟨⟩
theorem tw15569204426990099855:True:=⟨⟩
theorem tw11507142289090675138:True:=⟨⟩
theorem tw13993469491082576068:True:=⟨⟩
theorem tw14530504309380500523:True:=⟨⟩
theorem tw3797132750838609172:True:=⟨⟩
theorem tw13269308847673162998:True:=⟨⟩
theorem tw6369337056013497424:True:=⟨⟩
theorem tw7943923417419127928:True:=⟨⟩
theorem tw17804009488450602743:True:=⟨⟩
theorem tw8580409475602981254:True:=⟨⟩
theorem tw2685075523639836054:True:=⟨⟩
theorem tw1527974104969168345:True:=⟨⟩
theorem tw10619691543002450481:True:=⟨⟩
theorem tw15032468371237549543:True:=⟨⟩
theorem tw15130690429137018848:True:=⟨⟩
theorem tw16475053897602956303:True:=⟨⟩
theorem tw10016734211404386885:True:=⟨⟩
theorem tw13390013276494166039:True:=⟨⟩
theorem tw13960317510243014572:True:=⟨⟩
theorem tw17710368490746623355:True:=⟨⟩
theorem tw6161696705115989014:True:=⟨⟩
theorem tw14637588683193602317:True:=⟨⟩
theorem tw11473040819567412363:True:=⟨⟩
theorem tw1319052451095513179:True:=⟨⟩
theorem tw15978171853201531617:True:=⟨⟩
theorem tw9985227091920148977:True:=⟨⟩
theorem tw13182078959022049856:True:=⟨⟩
theorem tw10367792945370815040:True:=⟨⟩
theorem tw14332415603416571788:True:=⟨⟩
theorem tw14205765675046751355:True:=⟨⟩
theorem tw9055397277419626334:True:=⟨⟩
theorem tw2813262563023716060:True:=⟨⟩
theorem tw5759428829320705144:True:=⟨⟩
theorem tw7791137025064093470:True:=⟨⟩
theorem tw7798705017875027206:True:=⟨⟩
theorem tw10791536443016279224:True:=⟨⟩
theorem tw756320881429056770:True:=⟨⟩
theorem tw8396308012993771945:True:=⟨⟩
theorem tw4681065705222864423:True:=⟨⟩
theorem tw8546489690795907173:True:=⟨⟩
theorem tw10505385217399367864:True:=⟨⟩
theorem tw17576436169298666802:True:=⟨⟩
theorem tw17712425388477870976:True:=⟨⟩
theorem tw2995425819149058452:True:=⟨⟩
theorem tw5365192407543732551:True:=⟨⟩
theorem tw953960442512510688:True:=⟨⟩
theorem tw4927776737515186780:True:=⟨⟩
theorem tw15939593475200514111:True:=⟨⟩
theorem tw13817206571077914792:True:=⟨⟩
theorem tw4387811982482671733:True:=⟨⟩
theorem tw13527017323599142889:True:=⟨⟩
theorem tw7940638526327501140:True:=⟨⟩
theorem tw16298339523791682754:True:=⟨⟩
theorem tw6412771267059044151:True:=⟨⟩
theorem tw16127697775999418749:True:=⟨⟩
theorem tw17154406590134493034:True:=⟨⟩
theorem tw2979841332088691513:True:=⟨⟩
theorem tw14371287364807376246:True:=⟨⟩
theorem tw13308777530061597894:True:=⟨⟩
theorem tw3950289914178607935:True:=⟨⟩
theorem tw12462679610947421374:True:=⟨⟩
theorem tw9492160868704525422:True:=⟨⟩
theorem tw3403564878151240457:True:=⟨⟩
theorem tw7529091576183185123:True:=⟨⟩
theorem tw9777928147686867718:True:=⟨⟩
theorem tw13491313505047720815:True:=⟨⟩
theorem tw6304655730369925505:True:=⟨⟩
theorem tw6774365041783205262:True:=⟨⟩
theorem tw3054411211012750788:True:=⟨⟩
theorem tw508139506214162562:True:=⟨⟩
theorem tw12423337596389762812:True:=⟨⟩
theorem tw16761400112398583865:True:=⟨⟩
theorem tw8886677200038143221:True:=⟨⟩
theorem tw15438663720699110494:True:=⟨⟩
theorem tw10927629084471493560:True:=⟨⟩
theorem tw12424737051919373944:True:=⟨⟩
theorem tw3149228017983152670:True:=⟨⟩
theorem tw16579251401322616095:True:=⟨⟩
theorem tw16631551911717589379:True:=⟨⟩
theorem tw15978154834719508461:True:=⟨⟩
theorem tw1085184887380155456:True:=⟨⟩
theorem tw11055451726837129894:True:=⟨⟩
theorem tw3551044574851889790:True:=⟨⟩
theorem tw16270052462400585435:True:=⟨⟩
theorem tw5762397755086484343:True:=⟨⟩
theorem tw17823887417377162421:True:=⟨⟩
theorem tw10966262691088147597:True:=⟨⟩
theorem tw10579654940104171678:True:=⟨⟩
theorem tw12929952216573950892:True:=⟨⟩
theorem tw8350195388552412907:True:=⟨⟩
theorem tw15723424264724537268:True:=⟨⟩
theorem tw1178236885615491742:True:=⟨⟩
theorem tw1501897668060586663:True:=⟨⟩
theorem tw4896705616851376692:True:=⟨⟩
theorem tw15790371507542790791:True:=⟨⟩
theorem tw5998393504728881185:True:=⟨⟩
theorem tw14067427438347029737:True:=⟨⟩
theorem tw17128101995897806111:True:=⟨⟩
theorem tw3647568527559012979:True:=⟨⟩
theorem tw9034958304295900148:True:=⟨⟩
theorem tw4672631269063621535:True:=⟨⟩
theorem tw2697543512207252269:True:=⟨⟩
theorem tw9049236683431006698:True:=⟨⟩
theorem tw15746344010681666488:True:=⟨⟩
theorem tw6434323031028246692:True:=⟨⟩
theorem tw3289083365311089275:True:=⟨⟩
theorem tw7880439804110912400:True:=⟨⟩
theorem tw1955077865695766969:True:=⟨⟩
theorem tw3156943338700039684:True:=⟨⟩
theorem tw14665931811019998923:True:=⟨⟩
theorem tw16115583166231947626:True:=⟨⟩
theorem tw10420402241140573839:True:=⟨⟩
theorem tw2782462001692878959:True:=⟨⟩
theorem tw4449629789162382595:True:=⟨⟩
theorem tw10678468892544922530:True:=⟨⟩
theorem tw5793868833465076899:True:=⟨⟩
theorem tw16801442616255341269:True:=⟨⟩
theorem tw12257823819797854206:True:=⟨⟩
theorem tw14932829118857287175:True:=⟨⟩
theorem tw15778266201266227854:True:=⟨⟩
theorem tw12056088212640607491:True:=⟨⟩
theorem tw2737227118357370399:True:=⟨⟩
theorem tw9348259961939852174:True:=⟨⟩
theorem tw10254815718956742136:True:=⟨⟩
theorem tw9304278320922978165:True:=⟨⟩
theorem tw12542810781517873750:True:=⟨⟩
theorem tw18424898376476920660:True:=⟨⟩
theorem tw2267478803630530263:True:=⟨⟩
theorem tw8117721754511112360:True:=⟨⟩
theorem tw4655936360827068937:True:=⟨⟩
theorem tw6017877053576749517:True:=⟨⟩
theorem tw12222058783359792197:True:=⟨⟩
theorem tw13390513328394856298:True:=⟨⟩
theorem tw10216051620254749530:True:=⟨⟩
theorem tw6648756293782268584:True:=⟨⟩
theorem tw8850747413848621773:True:=⟨⟩
theorem tw12323160790555446264:True:=⟨⟩
theorem tw6325167910759642815:True:=⟨⟩
theorem tw6530764726027681823:True:=⟨⟩
theorem tw8967992484379600102:True:=⟨⟩
theorem tw54293358447065267:True:=⟨⟩
theorem tw3149978122884744496:True:=⟨⟩
theorem tw15049914485510984402:True:=⟨⟩
theorem tw15490810627032129701:True:=⟨⟩
theorem tw4488498319821740465:True:=⟨⟩
theorem tw1201609378971706998:True:=⟨⟩
theorem tw6824368667716944983:True:=⟨⟩
theorem tw8478401414636280496:True:=⟨⟩
theorem tw12996072225655087526:True:=⟨⟩
theorem tw10621907364060802615:True:=⟨⟩
theorem tw10777250689814187498:True:=⟨⟩
theorem tw17183770550414016899:True:=⟨⟩
theorem tw2717123326046806927:True:=⟨⟩
theorem tw1398474009671691609:True:=⟨⟩
theorem tw16610691872882881512:True:=⟨⟩
theorem tw6332553617773720306:True:=⟨⟩
theorem tw138297226251207285:True:=⟨⟩
theorem tw18323578691340554214:True:=⟨⟩
theorem tw3387962744203198841:True:=⟨⟩
theorem tw11616317091785735333:True:=⟨⟩
theorem tw4894682892715048213:True:=⟨⟩
theorem tw10399736102862849924:True:=⟨⟩
theorem tw15851866860005008959:True:=⟨⟩
theorem tw14431746712719081866:True:=⟨⟩
theorem tw1744911408016552433:True:=⟨⟩
theorem tw4094809314747773653:True:=⟨⟩
theorem tw2709820502663974647:True:=⟨⟩
theorem tw2591667946719867991:True:=⟨⟩
theorem tw11608874312217790401:True:=⟨⟩
theorem tw16889194165816880138:True:=⟨⟩
theorem tw13789935296589829333:True:=⟨⟩
theorem tw1537783152318473511:True:=⟨⟩
theorem tw8515078191081567815:True:=⟨⟩
theorem tw3320428631719184746:True:=⟨⟩
theorem tw17175722622011729265:True:=⟨⟩
theorem tw17090451828492839711:True:=⟨⟩
theorem tw16287184361526583038:True:=⟨⟩
theorem tw16317159438678992385:True:=⟨⟩
theorem tw13320011627649168237:True:=⟨⟩
theorem tw3628374563234615519:True:=⟨⟩
theorem tw8747055538488696835:True:=⟨⟩
theorem tw11369042215770613945:True:=⟨⟩
theorem tw13522595021755007885:True:=⟨⟩
theorem tw13738467253301991171:True:=⟨⟩
theorem tw11813164883065496979:True:=⟨⟩
theorem tw5108648593941749580:True:=⟨⟩
theorem tw16355462471415169619:True:=⟨⟩
theorem tw5030703072333618872:True:=⟨⟩
theorem tw3392464280628339683:True:=⟨⟩
theorem tw8674495537121669729:True:=⟨⟩
theorem tw12854962638761497964:True:=⟨⟩
theorem tw18222023977247827323:True:=⟨⟩
theorem tw5285390792526324748:True:=⟨⟩
theorem tw3337636502006232783:True:=⟨⟩
theorem tw3710881288638788933:True:=⟨⟩
theorem tw18392159444400829543:True:=⟨⟩
theorem tw7680561530816324320:True:=⟨⟩
theorem tw16735800397986257342:True:=⟨⟩
theorem tw10010211191743645843:True:=⟨⟩
theorem tw12473966542692015572:True:=⟨⟩
theorem tw11294406842652270465:True:=⟨⟩
theorem tw13890765211898220957:True:=⟨⟩
theorem tw14995291488978738048:True:=⟨⟩
theorem tw16115477735382222295:True:=⟨⟩
theorem tw17103912740107188554:True:=⟨⟩
theorem tw8525129190640432854:True:=⟨⟩
theorem tw2050012810438318866:True:=⟨⟩
theorem tw8312825187534886274:True:=⟨⟩
theorem tw16579814321095961626:True:=⟨⟩
theorem tw2277184879885755498:True:=⟨⟩
theorem tw1873161570386487929:True:=⟨⟩
theorem tw2847836542562399462:True:=⟨⟩
theorem tw14045213294898020869:True:=⟨⟩
theorem tw5626732433665965011:True:=⟨⟩
theorem tw13295850604420049476:True:=⟨⟩
theorem tw18392757055212684675:True:=⟨⟩
theorem tw12134692561592017299:True:=⟨⟩
theorem tw6723071197315844306:True:=⟨⟩
theorem tw2919566366708371682:True:=⟨⟩
theorem tw8326223071095324916:True:=⟨⟩
theorem tw10556029260577226017:True:=⟨⟩
theorem tw12706023342651065216:True:=⟨⟩
theorem tw5340975132306307114:True:=⟨⟩
theorem tw5464043404642365903:True:=⟨⟩
theorem tw9954493840647341855:True:=⟨⟩
theorem tw5083699337335464958:True:=⟨⟩
theorem tw11097504370315179279:True:=⟨⟩
theorem tw16798995071054994282:True:=⟨⟩
theorem tw13589465916651017901:True:=⟨⟩
theorem tw8531233282541061231:True:=⟨⟩
theorem tw2949051149582137600:True:=⟨⟩
theorem tw7452868073261874085:True:=⟨⟩
theorem tw1825039383293668417:True:=⟨⟩
theorem tw6410200393261444154:True:=⟨⟩
theorem tw7521661625563297498:True:=⟨⟩
theorem tw11708179955137192341:True:=⟨⟩
theorem tw18352014153997673714:True:=⟨⟩
theorem tw8744491001235789680:True:=⟨⟩
theorem tw11016341276963632296:True:=⟨⟩
theorem tw12029935688808072317:True:=⟨⟩
theorem tw17751319896657516256:True:=⟨⟩
theorem tw12426614812186082464:True:=⟨⟩
theorem tw6950085366729046601:True:=⟨⟩
theorem tw2320094907618883654:True:=⟨⟩
theorem tw17597402025538786621:True:=⟨⟩
theorem tw10397445153160168277:True:=⟨⟩
theorem tw8507429427611275111:True:=⟨⟩
theorem tw6606969817481032755:True:=⟨⟩
theorem tw17636444661822214274:True:=⟨⟩
theorem tw2988037163464750512:True:=⟨⟩
theorem tw11533327354794720536:True:=⟨⟩
theorem tw17600549044647560815:True:=⟨⟩
theorem tw5603411711221923251:True:=⟨⟩
theorem tw3646781793022436104:True:=⟨⟩
theorem tw9708244135502528660:True:=⟨⟩
theorem tw771984267078693859:True:=⟨⟩
theorem tw13656267895149857758:True:=⟨⟩
theorem tw9796338911224537342:True:=⟨⟩
theorem tw13329920204702342083:True:=⟨⟩
theorem tw17526854691870545658:True:=⟨⟩
theorem tw16669575432745157928:True:=⟨⟩
theorem tw11649641368409898537:True:=⟨⟩
theorem tw4501039168374528582:True:=⟨⟩
theorem tw17689673996443648846:True:=⟨⟩
theorem tw10982838560348204271:True:=⟨⟩
theorem tw8621528716247359096:True:=⟨⟩
theorem tw5110410318925090359:True:=⟨⟩
theorem tw5485819600338159094:True:=⟨⟩
theorem tw4208232189814554256:True:=⟨⟩
theorem tw3124920416454802664:True:=⟨⟩
theorem tw1437760997661355274:True:=⟨⟩
theorem tw10175232666136383365:True:=⟨⟩
theorem tw16113833033674436531:True:=⟨⟩
theorem tw6206964473472475238:True:=⟨⟩
theorem tw8865479493580319010:True:=⟨⟩
theorem tw7147105368229643102:True:=⟨⟩
theorem tw10648762511024209962:True:=⟨⟩
theorem tw12175738611674445172:True:=⟨⟩
theorem tw5923212644222909686:True:=⟨⟩
theorem tw7520506203662138563:True:=⟨⟩
theorem tw8364665729727438383:True:=⟨⟩
theorem tw5935243163501137233:True:=⟨⟩
theorem tw17748667548121122845:True:=⟨⟩
theorem tw12389492816386419043:True:=⟨⟩
theorem tw4738167931406735646:True:=⟨⟩
theorem tw3270802731032398769:True:=⟨⟩
theorem tw7775081284041729132:True:=⟨⟩
theorem tw2565146518149822525:True:=⟨⟩
theorem tw10158771382208534919:True:=⟨⟩
theorem tw17641366329291352997:True:=⟨⟩
theorem tw2141319727124885840:True:=⟨⟩
theorem tw9331259046244879934:True:=⟨⟩
theorem tw10917868942493235662:True:=⟨⟩
theorem tw9620591431795690593:True:=⟨⟩
theorem tw17215336495325950854:True:=⟨⟩
theorem tw1261566388493241104:True:=⟨⟩
theorem tw11528932935064365059:True:=⟨⟩
theorem tw2612526279238034453:True:=⟨⟩
theorem tw8846327523216367082:True:=⟨⟩
theorem tw9323518509563071808:True:=⟨⟩
theorem tw2928288311978146675:True:=⟨⟩
theorem tw14142997870398285278:True:=⟨⟩
theorem tw12907683511155538933:True:=⟨⟩
theorem tw1116725155327254259:True:=⟨⟩
theorem tw10332182247217883969:True:=⟨⟩
theorem tw1706555931517050121:True:=⟨⟩
theorem tw4625451549919343279:True:=⟨⟩
theorem tw4889102202024532642:True:=⟨⟩
theorem tw15021467104894082771:True:=⟨⟩
theorem tw13685821236576248631:True:=⟨⟩
theorem tw453163412831408271:True:=⟨⟩
theorem tw2431915604741038636:True:=⟨⟩
theorem tw1270258113170319663:True:=⟨⟩
theorem tw1421226625430379739:True:=⟨⟩
theorem tw17795369900428022388:True:=⟨⟩
theorem tw539624292086999277:True:=⟨⟩
theorem tw14918551015191267979:True:=⟨⟩
theorem tw5153342640039779164:True:=⟨⟩
theorem tw9775992126661121360:True:=⟨⟩
theorem tw10773729916326492859:True:=⟨⟩
theorem tw255151467740274798:True:=⟨⟩
theorem tw6881018551482872561:True:=⟨⟩
theorem tw5853005616521768709:True:=⟨⟩
theorem tw13399715054537621168:True:=⟨⟩
theorem tw2125611569970440314:True:=⟨⟩
theorem tw13209229748838790790:True:=⟨⟩
theorem tw15863101479453480061:True:=⟨⟩
theorem tw14573086057630683431:True:=⟨⟩
theorem tw9811223489875974146:True:=⟨⟩
theorem tw6631315984575744645:True:=⟨⟩
theorem tw10908077836508604518:True:=⟨⟩
theorem tw13876655471733274901:True:=⟨⟩
theorem tw16771651713372899408:True:=⟨⟩
theorem tw18389811182824672162:True:=⟨⟩
theorem tw14699135675620378778:True:=⟨⟩
theorem tw17280329414874930387:True:=⟨⟩
theorem tw13336866174613274236:True:=⟨⟩
theorem tw5218995261876044914:True:=⟨⟩
theorem tw9124874939683128935:True:=⟨⟩
theorem tw3682047763998166103:True:=⟨⟩
theorem tw16080775982115624207:True:=⟨⟩
theorem tw11667285532404900173:True:=⟨⟩
theorem tw7901521872435981287:True:=⟨⟩
theorem tw11581329448883587457:True:=⟨⟩
theorem tw8459408200629970785:True:=⟨⟩
theorem tw10025583023413548523:True:=⟨⟩
theorem tw6495568649892895036:True:=⟨⟩
theorem tw15572489140631446439:True:=⟨⟩
theorem tw11684245642148944236:True:=⟨⟩
theorem tw2110235696920796135:True:=⟨⟩
theorem tw11383496435867478400:True:=⟨⟩
theorem tw15351998463825458196:True:=⟨⟩
theorem tw12455086445758942352:True:=⟨⟩
theorem tw4149365111201905104:True:=⟨⟩
theorem tw13975633996250867606:True:=⟨⟩
theorem tw6055312358530610412:True:=⟨⟩
theorem tw5051708764644091880:True:=⟨⟩
theorem tw35416529787822352:True:=⟨⟩
theorem tw16140694641622863958:True:=⟨⟩
theorem tw12757328894440565583:True:=⟨⟩
theorem tw14262526056955719197:True:=⟨⟩
theorem tw4853556292843083813:True:=⟨⟩
theorem tw10171975649339242913:True:=⟨⟩
theorem tw3981122311279281861:True:=⟨⟩
theorem tw17801269208280692160:True:=⟨⟩
theorem tw14154280152274984562:True:=⟨⟩
theorem tw14890370812912581182:True:=⟨⟩
theorem tw14260259994850675438:True:=⟨⟩
theorem tw7608406114626703890:True:=⟨⟩
theorem tw10157125078929832200:True:=⟨⟩
theorem tw8217798649934576954:True:=⟨⟩
theorem tw13279480480094222328:True:=⟨⟩
theorem tw18327043555779144576:True:=⟨⟩
theorem tw9823761698944977691:True:=⟨⟩
theorem tw14039257613788113936:True:=⟨⟩
theorem tw6660457346889877649:True:=⟨⟩
theorem tw10283634829619938594:True:=⟨⟩
theorem tw7789259466659680572:True:=⟨⟩
theorem tw3000883652451773827:True:=⟨⟩
theorem tw5740920517756967552:True:=⟨⟩
theorem tw6093264076344668282:True:=⟨⟩
theorem tw10508424631605796140:True:=⟨⟩
theorem tw13595974862920442225:True:=⟨⟩
theorem tw13011223955327322037:True:=⟨⟩
theorem tw2888686781698612183:True:=⟨⟩
theorem tw15802488408796941964:True:=⟨⟩
theorem tw8176751513393375974:True:=⟨⟩
theorem tw15664861347342281006:True:=⟨⟩
theorem tw6125682700947013079:True:=⟨⟩
theorem tw16102921442650409554:True:=⟨⟩
theorem tw3539389383530326353:True:=⟨⟩
theorem tw3424199742932125390:True:=⟨⟩
theorem tw4275125004514474029:True:=⟨⟩
theorem tw523062811279884477:True:=⟨⟩
theorem tw8313154442947118616:True:=⟨⟩
theorem tw5248285310703131825:True:=⟨⟩
theorem tw1923232587095923850:True:=⟨⟩
theorem tw5691657852989641026:True:=⟨⟩
theorem tw6037593080156398877:True:=⟨⟩
theorem tw4389087994278622090:True:=⟨⟩
theorem tw17027127699204130713:True:=⟨⟩
theorem tw9427541159484229482:True:=⟨⟩
theorem tw15940057138978766896:True:=⟨⟩
theorem tw1521816965166821323:True:=⟨⟩
theorem tw9601380659757055455:True:=⟨⟩
theorem tw5363387274236432659:True:=⟨⟩
theorem tw15770476780677221214:True:=⟨⟩
theorem tw13468433311253830548:True:=⟨⟩
theorem tw13735573821509101997:True:=⟨⟩
theorem tw4194528588800025559:True:=⟨⟩
theorem tw11048526473551484438:True:=⟨⟩
theorem tw569096736640154784:True:=⟨⟩
theorem tw4023264753896398745:True:=⟨⟩
theorem tw5567335834873834509:True:=⟨⟩
theorem tw15498043864402036107:True:=⟨⟩
theorem tw9680551923588032768:True:=⟨⟩
theorem tw6717061991564494326:True:=⟨⟩
theorem tw7506981613049820745:True:=⟨⟩
theorem tw10016947326192525184:True:=⟨⟩
theorem tw568346238600088295:True:=⟨⟩
theorem tw17072105539830435230:True:=⟨⟩
theorem tw17554114243553256144:True:=⟨⟩
theorem tw11601641488406116356:True:=⟨⟩
theorem tw9060808447048513233:True:=⟨⟩
theorem tw8965389738123697963:True:=⟨⟩
theorem tw5341557883528981845:True:=⟨⟩
theorem tw4453824456596793943:True:=⟨⟩
theorem tw15012251806327367329:True:=⟨⟩
theorem tw17091034194838354903:True:=⟨⟩
theorem tw5885506983333801283:True:=⟨⟩
theorem tw12491591204982027377:True:=⟨⟩
theorem tw296901863155104152:True:=⟨⟩
theorem tw11679469838217856185:True:=⟨⟩
theorem tw13931923292664666833:True:=⟨⟩
theorem tw6966013899220979719:True:=⟨⟩
theorem tw667909101364897341:True:=⟨⟩
theorem tw10782468559136269740:True:=⟨⟩
theorem tw3477744051311955102:True:=⟨⟩
theorem tw7027041499268133445:True:=⟨⟩
theorem tw16718283957340550733:True:=⟨⟩
theorem tw11084399630840471662:True:=⟨⟩
theorem tw10404822170629751341:True:=⟨⟩
theorem tw1832564691625712212:True:=⟨⟩
theorem tw17605728418103254948:True:=⟨⟩
theorem tw2251978407095476012:True:=⟨⟩
theorem tw6101726225271209650:True:=⟨⟩
theorem tw16233000378116447824:True:=⟨⟩
theorem tw6068770261242910183:True:=⟨⟩
theorem tw15318917339141309145:True:=⟨⟩
theorem tw1395749454819950995:True:=⟨⟩
theorem tw17583784849317484297:True:=⟨⟩
theorem tw4054411404237383467:True:=⟨⟩
theorem tw15881537408011791486:True:=⟨⟩
theorem tw15733981569473501388:True:=⟨⟩
theorem tw11953711608092633055:True:=⟨⟩
theorem tw11199861762499010422:True:=⟨⟩
theorem tw16429260182649824890:True:=⟨⟩
theorem tw14970191253861900845:True:=⟨⟩
theorem tw10348247091076289640:True:=⟨⟩
theorem tw13152136440690635655:True:=⟨⟩
theorem tw6535871997194261084:True:=⟨⟩
theorem tw4010638458938533064:True:=⟨⟩
theorem tw14150428266448650244:True:=⟨⟩
theorem tw8184816566623480153:True:=⟨⟩
theorem tw12177473376914482023:True:=⟨⟩
theorem tw9628803718544619915:True:=⟨⟩
theorem tw5025212417024759785:True:=⟨⟩
theorem tw6143360628968439921:True:=⟨⟩
theorem tw2969688715810174951:True:=⟨⟩
theorem tw2555056904495333202:True:=⟨⟩
theorem tw14056060026887747729:True:=⟨⟩
theorem tw18431338283193793657:True:=⟨⟩
theorem tw11602485795536470878:True:=⟨⟩
theorem tw11481990045994108004:True:=⟨⟩
theorem tw7287928357297154440:True:=⟨⟩
theorem tw14461863852559013889:True:=⟨⟩
theorem tw17211683105097892256:True:=⟨⟩
theorem tw16980260511438761294:True:=⟨⟩
theorem tw13775312173526693108:True:=⟨⟩
theorem tw7914676847978675257:True:=⟨⟩
theorem tw16299218680379746264:True:=⟨⟩
theorem tw8847424214531208918:True:=⟨⟩
theorem tw604550907042189915:True:=⟨⟩
theorem tw5889692801658076003:True:=⟨⟩
theorem tw8829837735947800697:True:=⟨⟩
theorem tw14844986197742232983:True:=⟨⟩
theorem tw15775824464467653522:True:=⟨⟩
theorem tw6882137222893386874:True:=⟨⟩
theorem tw10410106962032314847:True:=⟨⟩
theorem tw1277519698230387728:True:=⟨⟩
theorem tw10919732433295886240:True:=⟨⟩
theorem tw11962927188469625240:True:=⟨⟩
theorem tw12913981397476500857:True:=⟨⟩
theorem tw16744807854439850297:True:=⟨⟩
theorem tw6891842291773815518:True:=⟨⟩
theorem tw17578919542171799046:True:=⟨⟩
theorem tw7453232795824647763:True:=⟨⟩
theorem tw14719582056603128269:True:=⟨⟩
theorem tw16730126567394348830:True:=⟨⟩
theorem tw12595198979784821589:True:=⟨⟩
theorem tw15688507884132208719:True:=⟨⟩
theorem tw13119082681750595580:True:=⟨⟩
theorem tw616600687470010337:True:=⟨⟩
theorem tw14519313242349675340:True:=⟨⟩
theorem tw14270016086381861631:True:=⟨⟩
theorem tw6586771954052651902:True:=⟨⟩
theorem tw12265710319934753427:True:=⟨⟩
theorem tw1935151561440613476:True:=⟨⟩
theorem tw18112493368667023675:True:=⟨⟩
theorem tw4001477067336082269:True:=⟨⟩
theorem tw13279679440893544798:True:=⟨⟩
theorem tw3257819816871035079:True:=⟨⟩
theorem tw1779890330219918090:True:=⟨⟩
theorem tw7268815385895234297:True:=⟨⟩
theorem tw13316025003780949630:True:=⟨⟩
theorem tw6332979032515805242:True:=⟨⟩
theorem tw10942767182035235764:True:=⟨⟩
theorem tw5843670931657039754:True:=⟨⟩
theorem tw10706844700310545206:True:=⟨⟩
theorem tw1357466420284979916:True:=⟨⟩
theorem tw6128779608232881961:True:=⟨⟩
theorem tw18065308051727501439:True:=⟨⟩
theorem tw10694200752026163496:True:=⟨⟩
theorem tw11132091115053229063:True:=⟨⟩
theorem tw2907206441563246393:True:=⟨⟩
theorem tw9245572845458912013:True:=⟨⟩
theorem tw15160362562343697683:True:=⟨⟩
theorem tw7983799217573544513:True:=⟨⟩
theorem tw14918020930960713954:True:=⟨⟩
theorem tw5215115232308525710:True:=⟨⟩
theorem tw4816724686735207968:True:=⟨⟩
theorem tw1105971343040664766:True:=⟨⟩
theorem tw8260238713833097659:True:=⟨⟩
theorem tw11360562700984023802:True:=⟨⟩
theorem tw17778535601122575349:True:=⟨⟩
theorem tw10319595503973605756:True:=⟨⟩
theorem tw403487353397352820:True:=⟨⟩
theorem tw3496225115829756575:True:=⟨⟩
theorem tw4001932964281957157:True:=⟨⟩
theorem tw4981895488918251574:True:=⟨⟩
theorem tw8614449193643361237:True:=⟨⟩
theorem tw17850159731788886385:True:=⟨⟩
theorem tw13249745103681054920:True:=⟨⟩
theorem tw17979050098178772706:True:=⟨⟩
theorem tw1645556998170792411:True:=⟨⟩
theorem tw10112607270742679621:True:=⟨⟩
theorem tw14938220116463661795:True:=⟨⟩
theorem tw5680496778276127320:True:=⟨⟩
theorem tw3729043196204651088:True:=⟨⟩
theorem tw1708477980174739595:True:=⟨⟩
theorem tw4244591738226706870:True:=⟨⟩
theorem tw5990153877058340006:True:=⟨⟩
theorem tw26796502494214342:True:=⟨⟩
theorem tw1585520576004023771:True:=⟨⟩
theorem tw2692626242691728933:True:=⟨⟩
theorem tw11846801875350009819:True:=⟨⟩
theorem tw6669865803494876184:True:=⟨⟩
theorem tw8730243800151689625:True:=⟨⟩
theorem tw17604051786531917043:True:=⟨⟩
theorem tw11635595352749046:True:=⟨⟩
theorem tw927977236602804538:True:=⟨⟩
theorem tw6403587214430755277:True:=⟨⟩
theorem tw7580504674466261090:True:=⟨⟩
theorem tw872805799178966983:True:=⟨⟩
theorem tw4115482133571917795:True:=⟨⟩
theorem tw2687045376251807070:True:=⟨⟩
theorem tw10034361594852348307:True:=⟨⟩
theorem tw6801651879070040655:True:=⟨⟩
theorem tw7664148837385394956:True:=⟨⟩
theorem tw2035318091080120495:True:=⟨⟩
theorem tw3953589683188469603:True:=⟨⟩
theorem tw1833143267130867976:True:=⟨⟩
theorem tw16131161461910520350:True:=⟨⟩
theorem tw2953698718191338078:True:=⟨⟩
theorem tw9918615328213693306:True:=⟨⟩
theorem tw17649924001279439180:True:=⟨⟩
theorem tw2126587757200798556:True:=⟨⟩
theorem tw12484279426801290766:True:=⟨⟩
theorem tw13642234864093401455:True:=⟨⟩
theorem tw6332076424398063164:True:=⟨⟩
theorem tw15918016278028475306:True:=⟨⟩
theorem tw9958557328911973055:True:=⟨⟩
theorem tw5447972976622255198:True:=⟨⟩
theorem tw15946710965803167756:True:=⟨⟩
theorem tw15505833745631862105:True:=⟨⟩
theorem tw2173200992351006669:True:=⟨⟩
theorem tw16421263678621461802:True:=⟨⟩
theorem tw2995109717537264424:True:=⟨⟩
theorem tw8998816056703082647:True:=⟨⟩
theorem tw14443240860408821493:True:=⟨⟩
theorem tw9165205800048016291:True:=⟨⟩
theorem tw4928211252937255314:True:=⟨⟩
theorem tw16334814318787362902:True:=⟨⟩
theorem tw762187550613891426:True:=⟨⟩
theorem tw8003306927064146635:True:=⟨⟩
theorem tw5467628470273412305:True:=⟨⟩
theorem tw1208432900557371884:True:=⟨⟩
theorem tw3652126062405075721:True:=⟨⟩
theorem tw7665827416830596990:True:=⟨⟩
theorem tw1763549670919331450:True:=⟨⟩
theorem tw6824274032043321889:True:=⟨⟩
theorem tw16413858650885012956:True:=⟨⟩
theorem tw9740429708559915877:True:=⟨⟩
theorem tw2591280315785482047:True:=⟨⟩
theorem tw9538035716070925239:True:=⟨⟩
theorem tw18105110816655449121:True:=⟨⟩
theorem tw12802507923347487577:True:=⟨⟩
theorem tw2138219414300778991:True:=⟨⟩
theorem tw7265271612972333576:True:=⟨⟩
theorem tw2928103176684624258:True:=⟨⟩
theorem tw2776646815530011083:True:=⟨⟩
theorem tw16951847007044185902:True:=⟨⟩
theorem tw1358628438080777269:True:=⟨⟩
theorem tw4117119722021666264:True:=⟨⟩
theorem tw16728182135449993857:True:=⟨⟩
theorem tw4767928531937964130:True:=⟨⟩
theorem tw14962943310178878462:True:=⟨⟩
theorem tw4270630473264703370:True:=⟨⟩
theorem tw9291155412439370645:True:=⟨⟩
theorem tw9723005259551371435:True:=⟨⟩
theorem tw916187304441284383:True:=⟨⟩
theorem tw1870876933798308898:True:=⟨⟩
theorem tw13248743401272822454:True:=⟨⟩
theorem tw17286744735496699262:True:=⟨⟩
theorem tw10992238669605321384:True:=⟨⟩
theorem tw2222657353919330427:True:=⟨⟩
theorem tw601095153174163219:True:=⟨⟩
theorem tw12284875066801275636:True:=⟨⟩
theorem tw8020299972965821690:True:=⟨⟩
theorem tw13401893754770282262:True:=⟨⟩
theorem tw2064463115343297224:True:=⟨⟩
theorem tw11412899550942548625:True:=⟨⟩
theorem tw5700744998199822206:True:=⟨⟩
theorem tw18038511480647754492:True:=⟨⟩
theorem tw7106316553071930691:True:=⟨⟩
theorem tw14170353954744213230:True:=⟨⟩
theorem tw9028489461025263379:True:=⟨⟩
theorem tw15810349169206332676:True:=⟨⟩
theorem tw1413132044058004255:True:=⟨⟩
theorem tw15216160303174433982:True:=⟨⟩
theorem tw6471445111241597337:True:=⟨⟩
theorem tw6439622321199386609:True:=⟨⟩
theorem tw9089777131569460891:True:=⟨⟩
theorem tw2146322486262697852:True:=⟨⟩
theorem tw17348170964606231603:True:=⟨⟩
theorem tw9832263955493503800:True:=⟨⟩
theorem tw10131038233748526688:True:=⟨⟩
theorem tw16488525336235391424:True:=⟨⟩
theorem tw2855676796465079469:True:=⟨⟩
theorem tw10181913419243412215:True:=⟨⟩
theorem tw1928218515005523804:True:=⟨⟩
theorem tw4857499497756645610:True:=⟨⟩
theorem tw1843109103401501619:True:=⟨⟩
theorem tw8945554043022802792:True:=⟨⟩
theorem tw14615540696428084609:True:=⟨⟩
theorem tw12098856284717879150:True:=⟨⟩
theorem tw9139722635818397579:True:=⟨⟩
theorem tw17430170483586496680:True:=⟨⟩
theorem tw3051729675554045649:True:=⟨⟩
theorem tw7397807287148577449:True:=⟨⟩
theorem tw17494469369010347296:True:=⟨⟩
theorem tw15765507582567678378:True:=⟨⟩
theorem tw3083589370981302782:True:=⟨⟩
theorem tw7490848689805504715:True:=⟨⟩
theorem tw6599138852556629597:True:=⟨⟩
theorem tw3066388558450780640:True:=⟨⟩
theorem tw6559385451783485428:True:=⟨⟩
theorem tw1017121268127106087:True:=⟨⟩
theorem tw1229732521766971519:True:=⟨⟩
theorem tw1123845478708314225:True:=⟨⟩
theorem tw17135030072188048254:True:=⟨⟩
theorem tw11451999833886120728:True:=⟨⟩
theorem tw15723082671533704394:True:=⟨⟩
theorem tw2016248665248457419:True:=⟨⟩
theorem tw1700960726241478774:True:=⟨⟩
theorem tw16952948112194075902:True:=⟨⟩
theorem tw621876031310651116:True:=⟨⟩
theorem tw15474823765150713889:True:=⟨⟩
theorem tw17020372719339250703:True:=⟨⟩
theorem tw10870079795230518584:True:=⟨⟩
theorem tw200369914051815515:True:=⟨⟩
theorem tw11052574269863317346:True:=⟨⟩
theorem tw8861878148667465510:True:=⟨⟩
theorem tw17631193255897468946:True:=⟨⟩
theorem tw17595581866922424170:True:=⟨⟩
theorem tw10330805669195147229:True:=⟨⟩
theorem tw16519018588601932416:True:=⟨⟩
theorem tw15070111323325478908:True:=⟨⟩
theorem tw13475816320180481512:True:=⟨⟩
theorem tw4362254797089645219:True:=⟨⟩
theorem tw1192986322891919423:True:=⟨⟩
theorem tw4894553167544232494:True:=⟨⟩
theorem tw10610837240973962351:True:=⟨⟩
theorem tw2990251351968129165:True:=⟨⟩
theorem tw10526400262399973168:True:=⟨⟩
theorem tw7873205712987231756:True:=⟨⟩
theorem tw6629583714557803773:True:=⟨⟩
theorem tw7267122073753034711:True:=⟨⟩
theorem tw3470331851373740542:True:=⟨⟩
theorem tw5056763508101712173:True:=⟨⟩
theorem tw10216782533838782318:True:=⟨⟩
theorem tw14422628188091260332:True:=⟨⟩
theorem tw14562229710795810169:True:=⟨⟩
theorem tw3872724781335415760:True:=⟨⟩
theorem tw429664139995554486:True:=⟨⟩
theorem tw5732570238725162331:True:=⟨⟩
theorem tw216480525271547683:True:=⟨⟩
theorem tw7601339238180902722:True:=⟨⟩
theorem tw703760487546334172:True:=⟨⟩
theorem tw10820622996715054496:True:=⟨⟩
theorem tw7692850353457200403:True:=⟨⟩
theorem tw12257322729352603226:True:=⟨⟩
theorem tw4136755780535929445:True:=⟨⟩
theorem tw9403661650971468766:True:=⟨⟩
theorem tw4882654964693598443:True:=⟨⟩
theorem tw16218841472469537273:True:=⟨⟩
theorem tw2504311026690926592:True:=⟨⟩
theorem tw6012776930715093797:True:=⟨⟩
theorem tw10755817578023726718:True:=⟨⟩
theorem tw15220560920187349305:True:=⟨⟩
theorem tw12958552197559922534:True:=⟨⟩
theorem tw15187740144680044620:True:=⟨⟩
theorem tw12255659718232251124:True:=⟨⟩
theorem tw3350022707324798323:True:=⟨⟩
theorem tw12435708740153283229:True:=⟨⟩
theorem tw1481359598862935679:True:=⟨⟩
theorem tw6691704696450021839:True:=⟨⟩
theorem tw9096660660963275505:True:=⟨⟩
theorem tw12667851279682218593:True:=⟨⟩
theorem tw6606959944755144648:True:=⟨⟩
theorem tw2379314120496124453:True:=⟨⟩
theorem tw6431791625443798925:True:=⟨⟩
theorem tw15763725200384133467:True:=⟨⟩
theorem tw10062006957681316191:True:=⟨⟩
theorem tw4965952557610276261:True:=⟨⟩
theorem tw13763427397741837778:True:=⟨⟩
theorem tw2749562452098028161:True:=⟨⟩
theorem tw3238842201704050525:True:=⟨⟩
theorem tw9779967137101621833:True:=⟨⟩
theorem tw13228946102588851774:True:=⟨⟩
theorem tw817712372537250707:True:=⟨⟩
theorem tw17259779300908421164:True:=⟨⟩
theorem tw8868351812274690338:True:=⟨⟩
theorem tw11292579155695359321:True:=⟨⟩
theorem tw1588932834197685076:True:=⟨⟩
theorem tw1807819006532716024:True:=⟨⟩
theorem tw1685941073129623809:True:=⟨⟩
theorem tw17995505970395254739:True:=⟨⟩
theorem tw15103031202032839896:True:=⟨⟩
theorem tw13777215008059508682:True:=⟨⟩
theorem tw17502237832621203062:True:=⟨⟩
theorem tw16643507680031917482:True:=⟨⟩
theorem tw9715850700378105453:True:=⟨⟩
theorem tw17619323600174544961:True:=⟨⟩
theorem tw5078248894453913493:True:=⟨⟩
theorem tw3195778723165366956:True:=⟨⟩
theorem tw7733903210040466395:True:=⟨⟩
theorem tw14164470091703352718:True:=⟨⟩
theorem tw724692895213952185:True:=⟨⟩
theorem tw15146209392438722531:True:=⟨⟩
theorem tw15634263428973224932:True:=⟨⟩
theorem tw10946994129096126239:True:=⟨⟩
theorem tw12301587916262322608:True:=⟨⟩
theorem tw4522206575409236302:True:=⟨⟩
theorem tw1418531573980022526:True:=⟨⟩
theorem tw6451917793620695282:True:=⟨⟩
theorem tw240981479558314654:True:=⟨⟩
theorem tw18406830159648709182:True:=⟨⟩
theorem tw15217917069922133081:True:=⟨⟩
theorem tw3968475951410793075:True:=⟨⟩
theorem tw6927598446403344348:True:=⟨⟩
theorem tw9937333568027978100:True:=⟨⟩
theorem tw4701574834200802726:True:=⟨⟩
theorem tw10849397092690016724:True:=⟨⟩
theorem tw15570143649505122289:True:=⟨⟩
theorem tw8510326458985763865:True:=⟨⟩
theorem tw3386615948876278611:True:=⟨⟩
theorem tw10319305623416768555:True:=⟨⟩
theorem tw9330516450041355379:True:=⟨⟩
theorem tw4837461912877094380:True:=⟨⟩
theorem tw764977692322305852:True:=⟨⟩
theorem tw1174798261099904997:True:=⟨⟩
theorem tw16850434105521696481:True:=⟨⟩
theorem tw397762081106534284:True:=⟨⟩
theorem tw9680595289046843795:True:=⟨⟩
theorem tw17947962631975672877:True:=⟨⟩
theorem tw13015742007042809907:True:=⟨⟩
theorem tw12655228321088755665:True:=⟨⟩
theorem tw540081040317278709:True:=⟨⟩
theorem tw17244085444506351413:True:=⟨⟩
theorem tw4885512683123905384:True:=⟨⟩
theorem tw13389430540840240935:True:=⟨⟩
theorem tw18329802578468670277:True:=⟨⟩
theorem tw12875058546227261141:True:=⟨⟩
theorem tw5100811525693207101:True:=⟨⟩
theorem tw16865300839126966076:True:=⟨⟩
theorem tw8649254785462094558:True:=⟨⟩
theorem tw3666019469027102474:True:=⟨⟩
theorem tw5906102444243894441:True:=⟨⟩
theorem tw9081019373418298834:True:=⟨⟩
theorem tw14517587593605538972:True:=⟨⟩
theorem tw12102963136665059542:True:=⟨⟩
theorem tw4849246089125417156:True:=⟨⟩
theorem tw17077203248151056675:True:=⟨⟩
theorem tw830674817300628575:True:=⟨⟩
theorem tw8341219640400046222:True:=⟨⟩
theorem tw12954465926256174271:True:=⟨⟩
theorem tw13881528422334135169:True:=⟨⟩
theorem tw13095672457602574186:True:=⟨⟩
theorem tw15242632593322251450:True:=⟨⟩
theorem tw4448691805236681487:True:=⟨⟩
theorem tw112653651473366610:True:=⟨⟩
theorem tw13821251771182471394:True:=⟨⟩
theorem tw8369722175205172900:True:=⟨⟩
theorem tw2925024894548540983:True:=⟨⟩
theorem tw5443402106700875632:True:=⟨⟩
theorem tw1912901774696652502:True:=⟨⟩
theorem tw2309573165319017378:True:=⟨⟩
theorem tw12078419942716769331:True:=⟨⟩
theorem tw7837041529686556806:True:=⟨⟩
theorem tw1903002615613852086:True:=⟨⟩
theorem tw9069442518606203941:True:=⟨⟩
theorem tw12647290985110221729:True:=⟨⟩
theorem tw10008016248275565258:True:=⟨⟩
theorem tw1791261051551676414:True:=⟨⟩
theorem tw1741135648873691584:True:=⟨⟩
theorem tw6899549188212714492:True:=⟨⟩
theorem tw3250103225018061620:True:=⟨⟩
theorem tw8878927060910242355:True:=⟨⟩
theorem tw1932315309140025238:True:=⟨⟩
theorem tw7744608097548427466:True:=⟨⟩
theorem tw12954478736379447256:True:=⟨⟩
theorem tw18265471920459350032:True:=⟨⟩
theorem tw2250160393196436612:True:=⟨⟩
theorem tw13519506216703159803:True:=⟨⟩
theorem tw16255747502520409073:True:=⟨⟩
theorem tw18270454973382586680:True:=⟨⟩
theorem tw16002831687537477687:True:=⟨⟩
theorem tw11535294906417414999:True:=⟨⟩
theorem tw2882397310716451440:True:=⟨⟩
theorem tw17229958025621157181:True:=⟨⟩
theorem tw18028937613808852223:True:=⟨⟩
theorem tw9213679926009495337:True:=⟨⟩
theorem tw9097402196084384499:True:=⟨⟩
theorem tw5484281956404472583:True:=⟨⟩
theorem tw14550793362002751811:True:=⟨⟩
theorem tw1508090375362189764:True:=⟨⟩
theorem tw14675458906577783700:True:=⟨⟩
theorem tw9136655818073734968:True:=⟨⟩
theorem tw4913251399742902341:True:=⟨⟩
theorem tw1321283909126593779:True:=⟨⟩
theorem tw3259473608998567562:True:=⟨⟩
theorem tw6889581766507424594:True:=⟨⟩
theorem tw17774039881711624485:True:=⟨⟩
theorem tw11750470956748476052:True:=⟨⟩
theorem tw4299926224296024686:True:=⟨⟩
theorem tw2863634535249266573:True:=⟨⟩
theorem tw18328704401548000500:True:=⟨⟩
theorem tw2255452032280283918:True:=⟨⟩
theorem tw10746440391685673615:True:=⟨⟩
theorem tw17591871809489800966:True:=⟨⟩
theorem tw17536526533958140225:True:=⟨⟩
theorem tw11622488577981347299:True:=⟨⟩
theorem tw11341583435320902105:True:=⟨⟩
theorem tw14675457125998035312:True:=⟨⟩
theorem tw14415903187399728320:True:=⟨⟩
theorem tw1413090983130758415:True:=⟨⟩
theorem tw16775864765963565338:True:=⟨⟩
theorem tw4417676362043612397:True:=⟨⟩
theorem tw2546299949252472958:True:=⟨⟩
theorem tw8467895368196233810:True:=⟨⟩
theorem tw7616730952364586103:True:=⟨⟩
theorem tw17160108838381795593:True:=⟨⟩
theorem tw18421035423667423208:True:=⟨⟩
theorem tw17069625747364221614:True:=⟨⟩
theorem tw9748921027443938100:True:=⟨⟩
theorem tw10961244120619864185:True:=⟨⟩
theorem tw8365231717489152068:True:=⟨⟩
theorem tw15807311457075677059:True:=⟨⟩
theorem tw7124188181712746184:True:=⟨⟩
theorem tw17902730418383911741:True:=⟨⟩
theorem tw16174748058136759416:True:=⟨⟩
theorem tw4216918132907402081:True:=⟨⟩
theorem tw8199334710414704070:True:=⟨⟩
theorem tw14652461160296869637:True:=⟨⟩
theorem tw4938172340110104195:True:=⟨⟩
theorem tw10846156484613601224:True:=⟨⟩
theorem tw3302257975764061568:True:=⟨⟩
theorem tw8192098363404014798:True:=⟨⟩
theorem tw14647755821486201503:True:=⟨⟩
theorem tw13272222338390869822:True:=⟨⟩
theorem tw11547325478278315777:True:=⟨⟩
theorem tw73369055324477027:True:=⟨⟩
theorem tw4482534936822970551:True:=⟨⟩
theorem tw16872451446110144009:True:=⟨⟩
theorem tw8533634599858112065:True:=⟨⟩
theorem tw125677411511634129:True:=⟨⟩
theorem tw5789008419220705572:True:=⟨⟩
theorem tw8549667627926145627:True:=⟨⟩
theorem tw436469293438456451:True:=⟨⟩
theorem tw1825938576514146916:True:=⟨⟩
theorem tw4559355071639086862:True:=⟨⟩
end PySem.W.Fast
open PySem PySem.W PyProof.Rows
set_option maxRecDepth 100000 in
set_option maxHeartbeats 0 in
theorem PySem.Challenge.cw_rowjudge_k84_marks_of_facts_holds : PySem.Challenge.rw_rowjudge_k84_marks_of_facts.Holds := by
 w_on;o_law;k_head;(case hw=>w_witness2)
 k_fill
 refine My.walk (l:=PySem.Challenge.rw_rowjudge_k84_marks_of_facts) rfl rfl (λw h Y=>PySem.W.kIn_of Y) ?F
 case F =>
  intro w mg fa h KX G hmg
  refine' My.all_mk KX G hmg ?cF ?dR ?fu ?fL ?i3 ?i4 ?lS ?i5 ?lT ?di ?dc ?fM ?fO ?i6 ?a0 ?F0 ?a1 ?F1 ?a2 ?F2 ?a3 ?F3 ?a4 ?F4 ?a5 ?F5 ?a6 ?F6 ?a7 ?F7 ?a8 ?F8 ?a9 ?F9 ?a10 ?F10 ?a11 ?F11 ?a12 ?F12 ?a13 ?F13 ?a14 ?F14 ?a15 ?F15 ?a16 ?F16 ?a17 ?F17 ?a18 ?F18 ?a19 ?F19 ?a20 ?F20 ?a21 ?F21 ?a22 ?F22 ?a23 ?F23 ?a24 ?F24 ?a25 ?F25 ?a26 ?F26 ?a27 ?F27 ?a28 ?F28 ?a29 ?F29 ?a30 ?F30 ?a31 ?F31 ?a32 ?F32 ?a33 ?F33 ?a34 ?F34 ?a35 ?F35 ?a36 ?F36 ?a37 ?F37 ?a38 ?F38 ?a39 ?F39 ?a40 ?F40 ?a41 ?F41 ?a42 ?F42 ?i43 ?xf ?xg ?xh ?F43 ?i44 ?xi ?xj ?xk ?F44 ?tj ?tm ?tq ?F45 ?i46 ?xl ?xm ?xn ?F46 ?tu ?tw ?tx ?F47 ?i48 ?xo ?xp ?xq ?F48 ?i49 ?xr ?xt ?xu ?F49 ?tD ?tE ?tF ?F50 ?i51 ?xv ?xw ?xx ?F51 ?tG ?tH ?tI ?F52 ?i53 ?xy ?xA ?xB ?F53 ?tJ ?tK ?tL ?F54 ?i55 ?xC ?xD ?xE ?F55 ?tM ?tO ?tP ?F56 ?i57 ?xF ?xG ?xH ?F57 ?tQ ?tR ?tS ?F58 ?i59 ?xI ?xJ ?xK ?F59 ?tT ?tU ?tV ?F60 ?m61 ?xM ?F61 ?m62 ?xN ?F62 ?a63 ?F63 ?z0 ?z1 ?z2 ?z3 ?z4 ?z5 ?z6 ?z7 ?z8 ?z9 ?z10 ?z11 ?y0 ?x0 ?y1 ?x1 ?y2 ?x2 ?y3 ?x3 ?y4 ?x4 ?y5 ?x5 ?y6 ?x6 ?x_NoTable ?gK ?gL ?gM ?gN ?gO ?gP ?gQ ?gR ?iy ?iz ?iA ?iB ?jD ?jE ?jF ?jG ?jH ?jI ?jJ ?jK ?mW ?mX ?mY ?mZ ?jL ?jM ?jN ?jO ?m4 ?m5 ?m6 ?m7 ?eK ?eL ?eM ?eO ?iC ?iD ?iE ?iF ?iG ?iH ?iI ?iJ ?jP ?jQ ?jR ?jS ?kI ?kJ ?kK ?kL ?m8 ?m9 ?nc ?ng ?nh ?ni ?nj ?nk ?pO ?pP ?pQ ?pR ?nq ?nr ?nt ?nv ?pS ?pT ?pU ?pV ?gU ?gW ?gX ?gY ?kM ?kN ?kO ?kP ?kQ ?kR ?kS ?kT ?nA ?nB ?nC ?nE ?na_First_called ?na_Only_called ?na_Like_called ?na_Low_called ?na_High_called ?na_Sum_called ?na_Numbers_low ?na_Numbers_high ?cb ?na_Words_low ?na_Words_high ?na_Words_words ?na_Table_name ?na_Table_names ?na_Table_domains ?na_Table_outcome ?na_Table_way ?na_Table_rows ?na_Book_facts ?na_Book_tables ?f_nn ?f_wn ?f_ww ?uG ?f_nw ?fP ?e2_NoTable ?fQ ?fR
  (case cF | dR | fu | fL | i3 | i4 | lS | i5 | lT | di | dc | fM | fO | i6=>k_is)
  (case a0 | a1 | a2 | a3 | a4 | a5 | a6 | a7 | a8 | a9 | a10 | a11 | a12 | a13 | a14 | a15 | a16 | a17 | a18 | a19 | a20 | a21 | a22 | a23 | a24 | a25 | a26 | a27 | a28 | a29 | a30 | a31 | a32 | a33 | a34 | a35 | a36 | a37 | a38 | a39 | a40 | a41 | a42 | a63=>delta My.GIn;k_is)
  (case i43 | i44 | tq | i46 | tx | i48 | i49 | tF | i51 | tI | i53 | tL | i55 | tP | i57 | tS | i59 | tV | m61 | m62=>k_is)
  (case F0 | F1 | F2 | F3 | F4 | F5 | F6 | F7 | F8 | F9 | F10 | F11 | F12 | F13 | F14 | F15 | F16 | F17 | F18 | F19 | F20 | F21 | F22 | F23 | F24 | F25 | F26 | F27 | F28 | F29 | F30 | F31 | F32 | F33 | F34 | F35 | F36 | F37 | F38 | F39 | F40 | F41 | F42 | F43 | F44 | F45 | F46 | F47 | F48 | F49 | F50 | F51 | F52 | F53 | F54 | F55 | F56 | F57 | F58 | F59 | F60 | F61 | F62 | F63=>refine' L2.fun_mk ?l ?c ?k;(case l=>k_is);(case c=>k_is);(case k=>k_is))
  (case xf | xg | xh | xi | xj | xk | tj | tm | xl | xm | xn | tu | tw | xo | xp | xq | xr | xt | xu | tD | tE | xv | xw | xx | tG | tH | xy | xA | xB | tJ | tK | xC | xD | xE | tM | tO | xF | xG | xH | tQ | tR | xI | xJ | xK | tT | tU | xM | xN=>k_is)
  (case z0 | z1 | z2 | z3 | z4 | z5 | z6 | z7 | z8 | z9 | z10 | z11 | y0=>k_is)
  (case x0=>exact ⟨_,rfl⟩)
  (case y1=>k_is)
  (case x1=>exact ⟨_,rfl⟩)
  (case y2=>k_is)
  (case x2=>exact ⟨_,rfl⟩)
  (case y3=>k_is)
  (case x3=>exact ⟨_,rfl⟩)
  (case y4=>k_is)
  (case x4=>exact ⟨_,rfl⟩)
  (case y5=>k_is)
  (case x5=>exact ⟨_,rfl⟩)
  (case y6=>k_is)
  (case x6=>exact ⟨_,rfl⟩)
  (case iy | iz | iA | iB | jD | jE | jF | jG | jH | jI | jJ | jK | mW | mX | mY | mZ | jL | jM | jN | jO | m4 | m5 | m6 | m7 | eK | eL | eM | eO | iC | iD | iE | iF | iG | iH | iI | iJ | jP | jQ | jR | jS | kI | kJ | kK | kL | m8 | m9 | nc | ng | nh | ni | nj | nk | pO | pP | pQ | pR | nq | nr | nt | nv | pS | pT | pU | pV | gU | gW | gX | gY | kM | kN | kO | kP | kQ | kR | kS | kT | nA | nB | nC | nE | na_First_called | na_Only_called | na_Like_called | na_Low_called | na_High_called | na_Sum_called | na_Numbers_low | na_Numbers_high | cb | na_Words_low | na_Words_high | na_Words_words | na_Table_name | na_Table_names | na_Table_domains | na_Table_outcome | na_Table_way | na_Table_rows | na_Book_facts | na_Book_tables=>first | k_is | rfl | with_unfolding_all rfl)
  (case x_NoTable=>first | rfl | with_unfolding_all rfl)
  (case gK | gL | gM | gN | gO | gP | gQ | gR | f_nn | f_wn | f_ww | uG | f_nw | fP | e2_NoTable | fQ | fR=>first | k_is | rfl | with_unfolding_all rfl)
